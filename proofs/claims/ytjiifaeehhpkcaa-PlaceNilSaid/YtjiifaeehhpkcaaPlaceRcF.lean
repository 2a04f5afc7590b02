/- Layer 15: the document's answer, whether an object can be mapped. -/
import Derived.Test.YtjiifaeehhpkcaaPlaceRef
import Derived.Deep.RegionHeld3
namespace Go.Proofs.Ytjiifaeehhpkcaa
open Go.RowKit
set_option linter.unusedVariables false
set_option linter.unusedSimpArgs false

def hitF (p q : PT) : Bool := decide (0 < p.memsz ∧ 0 < q.memsz ∧ p.vaddr / 4096 ≤ (q.vaddr + q.memsz - 1) / 4096)
theorem hit_end (p q : PT) : hitF p q = true ↔ 0 < p.memsz ∧ 0 < q.memsz ∧ p.vaddr < endF q := by
  unfold hitF endF downF
  rw [decide_eq_true_eq]
  constructor
  · rintro ⟨h1, h2, h3⟩; exact ⟨h1, h2, by omega⟩
  · rintro ⟨h1, h2, h3⟩; exact ⟨h1, h2, by omega⟩
theorem any_snoc (h : PT → Bool) (l : List PT) (k : Nat) (hk : k < l.length) : (l.take (k + 1)).any h = ((l.take k).any h || h l[k]) := by
  rw [List.take_succ_eq_append_getElem hk, List.any_append]
  simp
theorem any_paged (l : List PT) : l.any hasPages = !(pagedF l).isEmpty := by
  unfold pagedF
  induction l with
  | nil => rfl
  | cons p r ih =>
    rw [List.any_cons, List.filter_cons]
    cases hasPages p with
    | true => rfl
    | false => rw [Bool.false_or, ih]; rfl
/-- what stands ahead of a segment -/
structure Ahead (l : List PT) (i e : Nat) : Prop where
  low : ∀ p ∈ l.take i, p.low
  most : ∀ p ∈ l.take i, 0 < p.memsz → endF p ≤ e
  one : e = 0 ∨ ∃ p ∈ l.take i, 0 < p.memsz ∧ endF p = e
  lt : e < 18446744073709551616
theorem ahead_zero (l : List PT) : Ahead l 0 0 := ⟨fun p hp => by simp at hp, fun p hp => by simp at hp, .inl rfl, by decide⟩
theorem ahead_step {l : List PT} {i e n : Nat} (h : Ahead l i e) (hi : i < l.length) (hs : segF n e l[i] = 0) : Ahead l (i + 1) (nextE e l[i]) := by
  have hlow := (segF_zero hs).2.2.2.1
  have hab := (segF_zero hs).2.2.2.2.2
  have hmem : ∀ p, p ∈ l.take (i + 1) ↔ p ∈ l.take i ∨ p = l[i] := fun p => by
    rw [List.take_succ_eq_append_getElem hi, List.mem_append, List.mem_singleton]
  refine ⟨fun p hp => ?_, fun p hp hm => ?_, ?_, ?_⟩
  · rcases (hmem p).1 hp with hp | rfl
    · exact h.low p hp
    · exact hlow
  · unfold nextE
    rcases (hmem p).1 hp with hp | rfl
    · have h1 := h.most p hp hm
      split
      · rename_i h2
        have := hab h2
        have := end_above h2
        omega
      · exact h1
    · rw [if_pos hm]
      exact Nat.le_refl _
  · unfold nextE
    split
    · rename_i h2
      exact .inr ⟨l[i], (hmem _).2 (.inr rfl), h2, rfl⟩
    · rcases h.one with h1 | ⟨p, hp, h1⟩
      · exact .inl h1
      · exact .inr ⟨p, (hmem p).2 (.inl hp), h1⟩
  · unfold nextE
    split
    · exact endF_lt hlow
    · exact h.lt
/-- a segment whose bytes and place are fine is amiss just where it lies over one ahead of it -/
theorem seg_hit {l : List PT} {i e n : Nat} {p : PT} (h : Ahead l i e) (h1 : ¬ p.memsz < p.filesz) (h2 : ¬ (n < p.off ∨ n - p.off < p.filesz)) (h3 : ¬ (140737488355328 ≤ p.vaddr ∨ 140737488355328 - p.vaddr < p.memsz)) (h4 : ¬ p.vaddr % 4096 ≠ p.off % 4096) :
    segF n e p = if (l.take i).any (hitF p) then 3 else 0 := by
  unfold segF
  rw [if_neg h1, if_neg h2, if_neg h3, if_neg h4]
  by_cases hh : 0 < p.memsz ∧ p.vaddr < e
  · rw [if_pos hh, if_pos ?_]
    rcases h.one with h5 | ⟨q, hq, h5, h6⟩
    · omega
    · exact List.any_eq_true.2 ⟨q, hq, (hit_end p q).2 ⟨hh.1, h5, by rw [h6]; exact hh.2⟩⟩
  · rw [if_neg hh, if_neg ?_]
    intro ha
    obtain ⟨q, hq, h5⟩ := List.any_eq_true.1 ha
    obtain ⟨h6, h7, h8⟩ := (hit_end p q).1 h5
    have := h.most q hq h7
    exact hh ⟨h6, by omega⟩
theorem kind_snoc (K : Nat) (l : List PT) (k : Nat) (hk : k < l.length) : (kindF K (l.take (k + 1))).length = (kindF K (l.take k)).length + (if l[k].ty = K then 1 else 0) := by
  unfold kindF
  rw [filter_snoc (fun p => p.ty == K) l k hk, List.length_append]
  by_cases h : l[k].ty = K
  · rw [if_pos (by simpa using h), if_pos h]; rfl
  · rw [if_neg (by simpa using h), if_neg h]; rfl
theorem kind_le (K : Nat) (l : List PT) (k : Nat) : (kindF K (l.take k)).length ≤ k := Nat.le_trans (List.length_filter_le _ _) (by rw [List.length_take]; omega)

end Go.Proofs.Ytjiifaeehhpkcaa
