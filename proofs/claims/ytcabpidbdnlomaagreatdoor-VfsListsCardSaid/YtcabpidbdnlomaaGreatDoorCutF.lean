/- Layer 14: a text is cut at some bytes; how a range over a text goes by runes. Nothing of the program is named. -/
import Derived.Test.YtcabpidbdnlomaaGreatDoorKit1
import Derived.Lib.OthersKept
namespace Go.Proofs.YtcabpidbdnlomaaGreatDoor
open Go.RowKit
set_option linter.unusedVariables false
set_option linter.unusedSimpArgs false

def cutGo (p : Nat → Bool) : List UInt8 → List UInt8 → List (List UInt8)
  | cur, [] => [cur]
  | cur, c :: r => if p c.toNat then cur :: cutGo p [] r else cutGo p (cur ++ [c]) r
def cutF (p : Nat → Bool) (l : List UInt8) : List (List UInt8) := cutGo p [] l
theorem cutGo_skip {p : Nat → Bool} : ∀ (x cur r : List UInt8), (∀ c ∈ x, p c.toNat = false) → cutGo p cur (x ++ r) = cutGo p (cur ++ x) r
  | [], cur, r, h => by rw [List.nil_append, List.append_nil]
  | c :: x, cur, r, h => by
    rw [List.cons_append, cutGo, if_neg (by rw [h c (by simp)]; simp), cutGo_skip x _ r (fun d hd => h d (by simp [hd])), List.append_assoc]
    rfl
theorem cutGo_len (p : Nat → Bool) : ∀ (r cur : List UInt8), (cutGo p cur r).length ≤ r.length + 1
  | [], cur => Nat.le_refl _
  | c :: r, cur => by
    rw [cutGo]
    split
    · have := cutGo_len p r []
      simp only [List.length_cons]; omega
    · have := cutGo_len p r (cur ++ [c])
      simp only [List.length_cons]; omega
theorem cutGo_pos (p : Nat → Bool) : ∀ (r cur : List UInt8), 0 < (cutGo p cur r).length
  | [], cur => Nat.zero_lt_one
  | c :: r, cur => by
    rw [cutGo]
    split
    · exact Nat.succ_pos _
    · exact cutGo_pos p r _

/-- what a step of a range over a text reads -/
theorem get_bang (s : ByteArray) (i : Nat) (h : i < s.size) : s.get! i = s[i] := by
  show s.data[i]! = _
  simp [getElem!_pos, h]
  rfl
theorem decode_step (s : ByteArray) (pos : Nat) (h : pos < s.size) :
    (s[pos].toNat < 128 ∧ Utf8.decode s pos = (s[pos].toNat, 1)) ∨
    (128 ≤ s[pos].toNat ∧ 128 ≤ (Utf8.decode s pos).1 ∧ (Utf8.decode s pos).1 < 2147483648 ∧ 1 ≤ (Utf8.decode s pos).2 ∧ pos + (Utf8.decode s pos).2 ≤ s.size ∧ ∀ j, (hj : j < (Utf8.decode s pos).2) → 128 ≤ ((s.get! (pos + j)).toNat)) := by
  have e0 : s.get! (pos + 0) = s[pos] := get_bang s pos h
  by_cases h1 : s[pos].toNat < 128
  · exact .inl ⟨h1, decode_ascii s pos h h1⟩
  · right
    have hc : ∀ k, (decide (pos + k < s.size) && ((s.get! (pos + k)).toNat / 64 == 2)) = true → pos + k < s.size ∧ 128 ≤ (s.get! (pos + k)).toNat := by
      intro k hk
      rw [Bool.and_eq_true, decide_eq_true_eq, beq_iff_eq] at hk
      exact ⟨hk.1, by omega⟩
    have h0 : 128 ≤ (s.get! (pos + 0)).toNat := by rw [e0]; omega
    have hb : s[pos].toNat < 256 := UInt8.toNat_lt _
    have one : ∀ j, j < 1 → 128 ≤ (s.get! (pos + j)).toNat := fun j hj => by obtain rfl : j = 0 := by omega
                                                                             exact h0
    refine ⟨by omega, ?_⟩
    have hbyte : ∀ k, (s.get! (pos + k)).toNat < 256 := fun k => UInt8.toNat_lt _
    unfold Utf8.decode
    simp only
    rw [if_neg (by rw [e0]; exact h1)]
    split
    · rename_i h2
      rw [Bool.and_eq_true] at h2
      have c1 := hc 1 h2.2
      split
      · rename_i h3
        refine ⟨h3, ?_, by omega, by omega, fun j hj => ?_⟩
        · have := hbyte 0; have := hbyte 1; simp only; omega
        · rcases (show j = 0 ∨ j = 1 by omega) with rfl | rfl
          · exact h0
          · exact c1.2
      · exact ⟨by decide, by decide, Nat.le_refl _, by simp only; omega, one⟩
    · split
      · rename_i h2
        rw [Bool.and_eq_true, Bool.and_eq_true] at h2
        have c1 := hc 1 h2.1.2
        have c2 := hc 2 h2.2
        split
        · rename_i h3
          rw [Bool.and_eq_true, decide_eq_true_eq] at h3
          refine ⟨by have := h3.1; simp only; omega, ?_, by simp only; omega, by simp only; omega, fun j hj => ?_⟩
          · have := hbyte 0; have := hbyte 1; have := hbyte 2; simp only; omega
          · simp only at hj
            rcases (show j = 0 ∨ j = 1 ∨ j = 2 by omega) with rfl | rfl | rfl
            · exact h0
            · exact c1.2
            · exact c2.2
        · exact ⟨by decide, by decide, Nat.le_refl _, by simp only; omega, one⟩
      · split
        · rename_i h2
          rw [Bool.and_eq_true, Bool.and_eq_true, Bool.and_eq_true] at h2
          have c1 := hc 1 h2.1.1.2
          have c2 := hc 2 h2.1.2
          have c3 := hc 3 h2.2
          split
          · rename_i h3
            rw [Bool.and_eq_true, decide_eq_true_eq] at h3
            refine ⟨by have := h3.1; simp only; omega, ?_, by simp only; omega, by simp only; omega, fun j hj => ?_⟩
            · have := hbyte 0; have := hbyte 1; have := hbyte 2; have := hbyte 3; simp only; omega
            · simp only at hj
              rcases (show j = 0 ∨ j = 1 ∨ j = 2 ∨ j = 3 by omega) with rfl | rfl | rfl | rfl
              · exact h0
              · exact c1.2
              · exact c2.2
              · exact c3.2
          · exact ⟨by decide, by decide, Nat.le_refl _, by simp only; omega, one⟩
        · exact ⟨by decide, by decide, Nat.le_refl _, by simp only; omega, one⟩
end Go.Proofs.YtcabpidbdnlomaaGreatDoor
