/- Layer 2: a memory's bytes; a page that is written; all bytes of a stretch are there. -/
import Derived.Test.YtmnjkaimpejohaaGreatDoorVmPut
namespace Go.Proofs.YtmnjkaimpejohaaGreatDoor
open Go.RowKit
set_option linter.unusedVariables false
set_option linter.unusedSimpArgs false

/-- the byte at an address; 0 where there is none -/
def byteAt (V : Nat → Option Pg) (x : Nat) : Nat := match V (x / 4096) with
  | some p => p.bytes.getD (x % 4096) 0
  | none => 0
def updV (V : Nat → Option Pg) (k : Nat) (p : Option Pg) : Nat → Option Pg := fun j => if j = k then p else V j
theorem updV_same (V : Nat → Option Pg) (k : Nat) (p : Option Pg) : updV V k p k = p := if_pos rfl
theorem updV_other {V : Nat → Option Pg} {k j : Nat} {p : Option Pg} (h : ¬ j = k) : updV V k p j = V j := if_neg h
/-- the permissions of one memory are those of another one -/
def SamePerm (V V' : Nat → Option Pg) : Prop := ∀ k, (V' k).map Pg.perm = (V k).map Pg.perm
theorem SamePerm.refl (V : Nat → Option Pg) : SamePerm V V := fun _ => rfl
theorem SamePerm.trans {V V' V'' : Nat → Option Pg} (h : SamePerm V V') (h' : SamePerm V' V'') : SamePerm V V'' := fun k => (h' k).trans (h k)
theorem SamePerm.get {V V' : Nat → Option Pg} (h : SamePerm V V') {k : Nat} {p : Pg} (hv : V k = some p) : ∃ p', V' k = some p' ∧ p'.perm = p.perm := by
  have := h k
  rw [hv] at this
  cases h' : V' k with
  | none => rw [h'] at this; cases this
  | some p' => rw [h'] at this; exact ⟨p', rfl, Option.some.inj this⟩
theorem SamePerm.upd {V : Nat → Option Pg} {k : Nat} {p p' : Pg} (hv : V k = some p) (hp : p'.perm = p.perm) : SamePerm V (updV V k (some p')) := fun j => by
  by_cases e : j = k
  · subst e; rw [updV_same, hv]; exact congrArg some hp
  · rw [updV_other e]

/-- a page of a memory is written -/
theorem VmAt.set_page {w : World} {mb : Nat} {S : Nat → Prop} {q c : Nat} {V : Nat → Option Pg} {g : Nat} {F : Nat → Option Nat} (h : VmAt w mb S q c V g F) {k b : Nat} {p p' : Pg} (hf : F k = some b) (hb : w.heap[b]? = some (.cells p.cells.toArray 76)) (ho : p'.Ok) :
    VmAt (w.setRow b p'.cells.toArray) mb S q c (updV V k (some p')) g F := by
  have hbm : mb ≠ b := by
    intro e
    have := h.box
    rw [e, hb] at this
    simp at this
  have hbg : g ≠ b := by
    intro e
    obtain ⟨D, ⟨es, cl, h1, -⟩, -⟩ := h.map
    rw [e, hb] at h1
    cases h1
  have hk : V k ≠ none := by
    intro e
    obtain ⟨-, p0, h1, -⟩ := h.page k b hf
    rw [e] at h1
    cases h1
  refine ⟨(setRow_other _ _ _ _ hbm).trans h.box, h.map.of_block (setRow_other _ _ _ _ hbg), ?_, ?_, h.inj, h.own, ?_, h.quota, h.count⟩
  · intro j bj hj
    obtain ⟨h0, p1, h1, h2, h3⟩ := h.page j bj hj
    refine ⟨h0, ?_⟩
    by_cases e : j = k
    · subst e
      obtain rfl : bj = b := by rw [hf] at hj; exact (Option.some.inj hj).symm
      exact ⟨p', updV_same _ _ _, ho, setRow_heap _ _ _ _ _ (0, 0) hb⟩
    · have hne : bj ≠ b := fun e2 => e (h.inj j k b (e2 ▸ hj) hf)
      exact ⟨p1, (updV_other e).trans h1, h2, (setRow_other _ _ _ _ hne).trans h3⟩
  · intro j hj
    have e : ¬ j = k := fun e => by rw [e, hf] at hj; cases hj
    rw [updV_other e]
    exact h.out j hj
  · intro j hj
    by_cases e : j = k
    · subst e
      exact h.low j hk
    · rw [updV_other e] at hj
      exact h.low j hj

/-- all bytes may be got at: each one's page is there -/
theorem barF_none {V : Nat → Option Pg} {perm : Nat} : ∀ {f a n : Nat}, n < f → barF V perm f a n = none → ∀ i, i < n → ∃ p, V ((a + i) / 4096) = some p ∧ p.perm &&& perm = perm
  | 0, a, n, hf, _, i, hi => by omega
  | f + 1, a, n, hf, h, i, hi => by
    unfold barF at h
    rw [if_neg (by omega)] at h
    cases hv : V (a / 4096) with
    | none => rw [hv] at h; cases h
    | some p =>
      rw [hv] at h
      simp only at h
      by_cases hok : p.perm &&& perm = perm
      · rw [if_pos hok] at h
        by_cases his : i < stepF a n
        · have : (a + i) / 4096 = a / 4096 := by unfold stepF at his; omega
          rw [this]
          exact ⟨p, hv, hok⟩
        · have hs0 : 0 < stepF a n := by unfold stepF; omega
          have hs1 : stepF a n ≤ n := by unfold stepF; omega
          have := barF_none (f := f) (by omega) h (i - stepF a n) (by omega)
          rwa [show a + stepF a n + (i - stepF a n) = a + i by omega] at this
      · rw [if_neg hok] at h
        cases h
theorem barredF_none {V : Nat → Option Pg} {perm a n : Nat} (h : barredF V perm a n = none) {i : Nat} (hi : i < n) : ∃ p, V ((a + i) / 4096) = some p ∧ p.perm &&& perm = perm := barF_none (Nat.lt_succ_self n) h i hi
/-- and back -/
theorem barF_all {V : Nat → Option Pg} {perm : Nat} : ∀ {f a n : Nat}, (∀ i, i < n → ∃ p, V ((a + i) / 4096) = some p ∧ p.perm &&& perm = perm) → barF V perm f a n = none
  | 0, a, n, _ => rfl
  | f + 1, a, n, h => by
    unfold barF
    by_cases hn : n = 0
    · rw [if_pos hn]
    · rw [if_neg hn]
      obtain ⟨p, hv, hok⟩ := h 0 (by omega)
      rw [Nat.add_zero] at hv
      rw [hv]
      show (if p.perm &&& perm = perm then barF V perm f (a + stepF a n) (n - stepF a n) else some a) = none
      rw [if_pos hok]
      refine barF_all (fun i hi => ?_)
      have := h (stepF a n + i) (by omega)
      rwa [← Nat.add_assoc] at this

/-- what is written piece by piece -/
theorem byteAt_put {V V' : Nat → Option Pg} {a d K : Nat} {bs : List Nat} {p : Pg} (hV : ∀ x, byteAt V' x = if a ≤ x ∧ x < a + d then bs.getD (x - a) 0 else byteAt V x) (hv : V' ((a + d) / 4096) = some p) (hp : p.bytes.length = 4096) (hK : K = min (bs.length - d) (4096 - (a + d) % 4096)) :
    ∀ x, byteAt (updV V' ((a + d) / 4096) (some ⟨putB p.bytes ((a + d) % 4096) ((bs.drop d).take K), p.perm⟩)) x = if a ≤ x ∧ x < a + (d + K) then bs.getD (x - a) 0 else byteAt V x := by
  intro x
  have hl : ((bs.drop d).take K).length = K := by rw [List.length_take, List.length_drop]; omega
  unfold byteAt
  by_cases e : x / 4096 = (a + d) / 4096
  · rw [e, updV_same]
    show (putB p.bytes ((a + d) % 4096) ((bs.drop d).take K)).getD (x % 4096) 0 = _
    rw [putB_get _ _ _ (by rw [hl, hp]; omega), hl]
    have h1 := hV x
    unfold byteAt at h1
    rw [e, hv] at h1
    by_cases h2 : (a + d) % 4096 ≤ x % 4096 ∧ x % 4096 < (a + d) % 4096 + K
    · rw [if_pos h2, if_pos (by omega)]
      have h3 : x % 4096 - (a + d) % 4096 = x - a - d := by omega
      have h4 : x - a - d < K := by omega
      rw [h3]
      simp only [List.getD, List.getElem?_take, List.getElem?_drop, if_pos h4]
      rw [show d + (x - a - d) = x - a by omega]
    · rw [if_neg h2]
      refine Eq.trans (b := _) h1 ?_
      by_cases h5 : a ≤ x ∧ x < a + d
      · rw [if_pos h5, if_pos (by omega)]
      · rw [if_neg h5, if_neg (by omega)]
  · rw [updV_other e]
    have h1 := hV x
    unfold byteAt at h1
    rw [h1]
    by_cases h5 : a ≤ x ∧ x < a + d
    · rw [if_pos h5, if_pos (by omega)]
    · rw [if_neg h5, if_neg (by omega)]
end Go.Proofs.YtmnjkaimpejohaaGreatDoor
