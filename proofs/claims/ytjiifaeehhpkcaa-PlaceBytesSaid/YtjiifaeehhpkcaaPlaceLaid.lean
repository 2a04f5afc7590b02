/- Layer 15 as mathematics: what stands in a memory behind a mapping. -/
import Derived.Test.YtjiifaeehhpkcaaPlaceFill
import Derived.Test.YtjiifaeehhpkcaaVmMapG
namespace Go.Proofs.Ytjiifaeehhpkcaa
open Go.RowKit
set_option linter.unusedVariables false
set_option linter.unusedSimpArgs false

def permS (bg : Nat) (f : Nat → Nat) (p : PT) : Nat → Nat := fun j => if (downF p.vaddr - bg) / 4096 ≤ j ∧ j < (downF p.vaddr - bg) / 4096 + (endF p - downF p.vaddr) / 4096 then p.flags % 8 else f j
def permL (bg : Nat) (l : List PT) : Nat → Nat := l.foldl (permS bg) (fun _ => 0)
def byteS (bs : List Nat) (bg : Nat) (f : Nat → Nat) (p : PT) : Nat → Nat := fun y => if p.vaddr - bg ≤ y ∧ y < p.vaddr - bg + p.filesz then bs.getD (p.off + (y - (p.vaddr - bg))) 0 else f y
def byteL (bs : List Nat) (bg : Nat) (l : List PT) : Nat → Nat := l.foldl (byteS bs bg) (fun _ => 0)
theorem permL_snoc (bg : Nat) (l : List PT) (p : PT) : permL bg (l ++ [p]) = permS bg (permL bg l) p := by unfold permL; rw [List.foldl_append]; rfl
theorem byteL_snoc (bs : List Nat) (bg : Nat) (l : List PT) (p : PT) : byteL bs bg (l ++ [p]) = byteS bs bg (byteL bs bg l) p := by unfold byteL; rw [List.foldl_append]; rfl
/-- n pages from an address on hold these segments -/
structure Laid (V : Nat → Option Pg) (at_ n : Nat) (bs : List Nat) (bg : Nat) (l : List PT) : Prop where
  perm : ∀ j, j < n → (V (at_ / 4096 + j)).map Pg.perm = some (permL bg l j)
  off : ∀ k, ¬ (at_ / 4096 ≤ k ∧ k < at_ / 4096 + n) → V k = none
  byte : ∀ y, y < n * 4096 → byteAt V (at_ + y) = byteL bs bg l y
theorem Laid.page {V : Nat → Option Pg} {at_ n : Nat} {bs : List Nat} {bg : Nat} {l : List PT} (h : Laid V at_ n bs bg l) {k : Nat} (h1 : at_ / 4096 ≤ k) (h2 : k < at_ / 4096 + n) : ∃ p, V k = some p := by
  have := h.perm (k - at_ / 4096) (by omega)
  rw [show at_ / 4096 + (k - at_ / 4096) = k by omega] at this
  cases hv : V k with
  | none => rw [hv] at this; cases this
  | some p => exact ⟨p, rfl⟩
theorem getD_replicate (n i : Nat) : (List.replicate n 0).getD i 0 = 0 := by
  rw [List.getD_eq_getElem?_getD, List.getElem?_replicate]
  split <;> rfl
theorem laid_new (at_ n : Nat) (bs : List Nat) (bg : Nat) (ha : at_ % 4096 = 0) : Laid (mapV (fun _ => none) (at_ / 4096) n 0) at_ n bs bg [] where
  perm := fun j hj => by rw [mapV_at (by omega) (by omega)]; rfl
  off := fun k hk => by rw [mapV_off hk]
  byte := fun y hy => by
    unfold byteAt
    rw [mapV_at (by omega) (by omega)]
    show (List.replicate 4096 0).getD _ 0 = 0
    exact getD_replicate _ _
theorem laid_step {V V' : Nat → Option Pg} {at_ n : Nat} {bs : List Nat} {bg : Nat} {l : List PT} {p : PT} {a1 m a2 : Nat} (h : Laid V at_ n bs bg l) (hf : Filled V V' a1 m (p.flags % 8) a2 p.filesz ((bs.drop p.off).take p.filesz))
    (ha1 : a1 = at_ + (downF p.vaddr - bg)) (ha2 : a2 = at_ + (p.vaddr - bg)) (hm : m = (endF p - downF p.vaddr) / 4096) (hal : at_ % 4096 = 0) (hbg : bg % 4096 = 0) (h1 : bg ≤ downF p.vaddr) (h2 : endF p ≤ bg + n * 4096) (h3 : downF p.vaddr ≤ endF p) : Laid V' at_ n bs bg (l ++ [p]) where
  perm := fun j hj => by
    have hd : downF p.vaddr % 4096 = 0 := by unfold downF; omega
    rw [hf.perm, permL_snoc]
    unfold permS
    by_cases hc : (downF p.vaddr - bg) / 4096 ≤ j ∧ j < (downF p.vaddr - bg) / 4096 + (endF p - downF p.vaddr) / 4096
    · rw [if_pos hc, if_pos (by omega)]
    · rw [if_neg hc, if_neg (by omega)]
      exact h.perm j hj
  off := fun k hk => by
    have hd : downF p.vaddr % 4096 = 0 := by unfold downF; omega
    have he : endF p % 4096 = 0 := by unfold endF downF; omega
    have h4 := hf.perm k
    rw [if_neg (by omega), h.off k hk] at h4
    cases hv : V' k with
    | none => rfl
    | some p => rw [hv] at h4; cases h4
  byte := fun y hy => by
    have hd : downF p.vaddr ≤ p.vaddr := by unfold downF; omega
    rw [hf.byte, byteL_snoc]
    unfold byteS
    by_cases hc : p.vaddr - bg ≤ y ∧ y < p.vaddr - bg + p.filesz
    · rw [if_pos hc, if_pos (by omega), List.getD_eq_getElem?_getD, List.getD_eq_getElem?_getD, List.getElem?_take, if_pos (by omega), List.getElem?_drop]
      congr 2
      omega
    · rw [if_neg hc, if_neg (by omega)]
      exact h.byte y hy
theorem fill_nums {at_ bg base sn va d e : Nat} (h1 : at_ % 4096 = 0) (h2 : 4096 ≤ at_) (h3 : at_ / 4096 + sn ≤ 34359738368) (h5 : bg % 4096 = 0) (h7 : base < 18446744073709551616) (h8 : (base + bg) % 18446744073709551616 = at_) (h9 : d ≤ va) (h10 : d % 4096 = 0) (h11 : bg ≤ d) (h12 : va < 140737488355328) (h13 : e % 4096 = 0) (h14 : e ≤ bg + sn * 4096) (h15 : va < e) (h16 : at_ < 140737488355328) :
    (base + d) % 18446744073709551616 = at_ + (d - bg) ∧ (base + va) % 18446744073709551616 = at_ + (va - bg) ∧ (at_ + (d - bg)) % 4096 = 0 ∧ 4096 ≤ at_ + (d - bg) ∧ (at_ + (d - bg)) / 4096 + (e - d) / 4096 ≤ 34359738368 ∧ ∀ k, (at_ + (d - bg)) / 4096 ≤ k → k < (at_ + (d - bg)) / 4096 + (e - d) / 4096 → at_ / 4096 ≤ k ∧ k < at_ / 4096 + sn := by
  obtain ⟨A, rfl⟩ : ∃ A, at_ = 4096 * A := ⟨at_ / 4096, by omega⟩
  obtain ⟨B, rfl⟩ : ∃ B, bg = 4096 * B := ⟨bg / 4096, by omega⟩
  obtain ⟨D, rfl⟩ : ∃ D, d = 4096 * D := ⟨d / 4096, by omega⟩
  obtain ⟨E, rfl⟩ : ∃ E, e = 4096 * E := ⟨e / 4096, by omega⟩
  have q1 : (4096 * A + (4096 * D - 4096 * B)) / 4096 = A + (D - B) := by omega
  have q2 : (4096 * E - 4096 * D) / 4096 = E - D := by omega
  have q3 : 4096 * A / 4096 = A := by omega
  rw [q3] at h3
  have q4 : E ≤ B + sn := by omega
  have q5 : B ≤ D := by omega
  have q6 : D < E := by omega
  rw [q1, q2, q3]
  have q7 : base + 4096 * B = 4096 * A ∨ base + 4096 * B = 4096 * A + 18446744073709551616 := by omega
  refine ⟨?_, ?_, by omega, by omega, by omega, fun k k1 k2 => by omega⟩
  · rcases q7 with q | q <;> omega
  · rcases q7 with q | q <;> omega

theorem apart_bounds {l : List PT} (h : l.Pairwise (fun p q => endF p ≤ q.vaddr)) (hm : ∀ p ∈ l, 0 < p.memsz) (p : PT) (hp : p ∈ l) : beginF l ≤ downF p.vaddr ∧ endF p ≤ endF (lastP l) := by
  obtain ⟨i, hi, rfl⟩ := List.getElem_of_mem hp
  have hne : l ≠ [] := fun e => by subst e; simp at hi
  have hh : headP l = l[0]'(by omega) := by unfold headP; simp [List.getD, List.getElem?_eq_getElem (show 0 < l.length by omega)]
  have hl : lastP l = l[l.length - 1]'(by omega) := by unfold lastP; simp [List.getD, List.getElem?_eq_getElem (show l.length - 1 < l.length by omega)]
  have hpw := List.pairwise_iff_getElem.1 h
  refine ⟨?_, ?_⟩
  · unfold beginF
    rw [hh]
    by_cases h0 : i = 0
    · subst h0; exact Nat.le_refl _
    · have := hpw 0 i (by omega) hi (by omega)
      have h1 := hm l[0] (List.getElem_mem _)
      have h2 := end_above h1
      unfold downF
      omega
  · rw [hl]
    by_cases h0 : i = l.length - 1
    · subst h0; exact Nat.le_refl _
    · have := hpw i (l.length - 1) hi (by omega) (by omega)
      have h1 := hm (l[l.length - 1]'(by omega)) (List.getElem_mem _)
      have h2 := end_above h1
      omega
end Go.Proofs.Ytjiifaeehhpkcaa
