/- Layer 14: a text is cut at some bytes; how a range over a text goes by runes. Nothing of the program is named. -/
import Derived.Test.YtppeapafnnanbaaDoorKit1
import Derived.Lib.OthersKept
import Derived.Test.YtppeapafnnanbaaDoorBuild
import Derived.Lib.Bytes2
namespace Go.Proofs.YtppeapafnnanbaaDoor
open Go.RowKit
set_option linter.unusedVariables false
set_option linter.unusedSimpArgs false

def cutGo (p : Nat → Bool) : List UInt8 → List UInt8 → List (List UInt8)
  | cur, [] => [cur]
  | cur, c :: r => if p c.toNat then cur :: cutGo p [] r else cutGo p (cur ++ [c]) r
def cutF (p : Nat → Bool) (l : List UInt8) : List (List UInt8) := cutGo p [] l
theorem cutGo_skip {p : Nat → Bool} : ∀ (x cur r : List UInt8), (∀ c ∈ x, p c.toNat = false) → cutGo p cur (x ++ r) = cutGo p (cur ++ x) r
  | [], cur, r, h => by rw [List.nil_append, List.append_nil]
  | c :: x, cur, r, h => by
    rw [List.cons_append, cutGo, if_neg (by rw [h c (by simp)]; simp), cutGo_skip x _ r (fun d hd => h d (by simp [hd])), List.append_assoc]
    rfl
theorem cutGo_len (p : Nat → Bool) : ∀ (r cur : List UInt8), (cutGo p cur r).length ≤ r.length + 1
  | [], cur => Nat.le_refl _
  | c :: r, cur => by
    rw [cutGo]
    split
    · have := cutGo_len p r []
      simp only [List.length_cons]; omega
    · have := cutGo_len p r (cur ++ [c])
      simp only [List.length_cons]; omega
theorem cutGo_pos (p : Nat → Bool) : ∀ (r cur : List UInt8), 0 < (cutGo p cur r).length
  | [], cur => Nat.zero_lt_one
  | c :: r, cur => by
    rw [cutGo]
    split
    · exact Nat.succ_pos _
    · exact cutGo_pos p r _

/-- what a step of a range over a text reads -/
theorem get_bang (s : ByteArray) (i : Nat) (h : i < s.size) : s.get! i = s[i] := by
  show s.data[i]! = _
  simp [getElem!_pos, h]
  rfl
theorem decode_step (s : ByteArray) (pos : Nat) (h : pos < s.size) :
    (s[pos].toNat < 128 ∧ Utf8.decode s pos = (s[pos].toNat, 1)) ∨
    (128 ≤ s[pos].toNat ∧ 128 ≤ (Utf8.decode s pos).1 ∧ (Utf8.decode s pos).1 < 2147483648 ∧ 1 ≤ (Utf8.decode s pos).2 ∧ pos + (Utf8.decode s pos).2 ≤ s.size ∧ ∀ j, (hj : j < (Utf8.decode s pos).2) → 128 ≤ ((s.get! (pos + j)).toNat)) := by
  have e0 : s.get! (pos + 0) = s[pos] := get_bang s pos h
  by_cases h1 : s[pos].toNat < 128
  · exact .inl ⟨h1, decode_ascii s pos h h1⟩
  · right
    have hc : ∀ k, (decide (pos + k < s.size) && ((s.get! (pos + k)).toNat / 64 == 2)) = true → pos + k < s.size ∧ 128 ≤ (s.get! (pos + k)).toNat := by
      intro k hk
      rw [Bool.and_eq_true, decide_eq_true_eq, beq_iff_eq] at hk
      exact ⟨hk.1, by omega⟩
    have h0 : 128 ≤ (s.get! (pos + 0)).toNat := by rw [e0]; omega
    have hb : s[pos].toNat < 256 := UInt8.toNat_lt _
    have one : ∀ j, j < 1 → 128 ≤ (s.get! (pos + j)).toNat := fun j hj => by obtain rfl : j = 0 := by omega
                                                                             exact h0
    refine ⟨by omega, ?_⟩
    have hbyte : ∀ k, (s.get! (pos + k)).toNat < 256 := fun k => UInt8.toNat_lt _
    unfold Utf8.decode
    simp only
    rw [if_neg (by rw [e0]; exact h1)]
    split
    · rename_i h2
      rw [Bool.and_eq_true] at h2
      have c1 := hc 1 h2.2
      split
      · rename_i h3
        refine ⟨h3, ?_, by omega, by omega, fun j hj => ?_⟩
        · have := hbyte 0; have := hbyte 1; simp only; omega
        · rcases (show j = 0 ∨ j = 1 by omega) with rfl | rfl
          · exact h0
          · exact c1.2
      · exact ⟨by decide, by decide, Nat.le_refl _, by simp only; omega, one⟩
    · split
      · rename_i h2
        rw [Bool.and_eq_true, Bool.and_eq_true] at h2
        have c1 := hc 1 h2.1.2
        have c2 := hc 2 h2.2
        split
        · rename_i h3
          rw [Bool.and_eq_true, decide_eq_true_eq] at h3
          refine ⟨by have := h3.1; simp only; omega, ?_, by simp only; omega, by simp only; omega, fun j hj => ?_⟩
          · have := hbyte 0; have := hbyte 1; have := hbyte 2; simp only; omega
          · simp only at hj
            rcases (show j = 0 ∨ j = 1 ∨ j = 2 by omega) with rfl | rfl | rfl
            · exact h0
            · exact c1.2
            · exact c2.2
        · exact ⟨by decide, by decide, Nat.le_refl _, by simp only; omega, one⟩
      · split
        · rename_i h2
          rw [Bool.and_eq_true, Bool.and_eq_true, Bool.and_eq_true] at h2
          have c1 := hc 1 h2.1.1.2
          have c2 := hc 2 h2.1.2
          have c3 := hc 3 h2.2
          split
          · rename_i h3
            rw [Bool.and_eq_true, decide_eq_true_eq] at h3
            refine ⟨by have := h3.1; simp only; omega, ?_, by simp only; omega, by simp only; omega, fun j hj => ?_⟩
            · have := hbyte 0; have := hbyte 1; have := hbyte 2; have := hbyte 3; simp only; omega
            · simp only at hj
              rcases (show j = 0 ∨ j = 1 ∨ j = 2 ∨ j = 3 by omega) with rfl | rfl | rfl | rfl
              · exact h0
              · exact c1.2
              · exact c2.2
              · exact c3.2
          · exact ⟨by decide, by decide, Nat.le_refl _, by simp only; omega, one⟩
        · exact ⟨by decide, by decide, Nat.le_refl _, by simp only; omega, one⟩
end Go.Proofs.YtppeapafnnanbaaDoor
/- Layer 14: a text's tokens, as lists of bytes. Nothing of the program is named. -/
namespace Go.Proofs.YtppeapafnnanbaaDoor
set_option linter.unusedVariables false
set_option linter.unusedSimpArgs false

def nameF : Nat → List UInt8
  | 1 => [79, 82, 73, 71, 73, 78]
  | 2 => [76, 73, 66]
  | 3 => [80, 76, 65, 84, 70, 79, 82, 77]
  | _ => []
def bracedF (k : Nat) : List UInt8 := [36, 123] ++ nameF k ++ [125]
def isW (c : UInt8) : Bool := c == 95 || (decide (48 ≤ c) && decide (c ≤ 57)) || (decide (65 ≤ c) && decide (c ≤ 90)) || (decide (97 ≤ c) && decide (c ≤ 122))
/-- with braces; without -/
def hitB (k : Nat) (l : List UInt8) : Bool := Lib.hasPrefix l (bracedF k)
def endsF : List UInt8 → Bool
  | [] => true
  | c :: _ => !isW c
def hitP (k : Nat) (l : List UInt8) : Bool := Lib.hasPrefix (l.drop 1) (nameF k) && endsF ((l.drop 1).drop (nameF k).length)
/-- which token, and its size -/
def tokGo (l : List UInt8) : Nat → Nat → Nat × Nat
  | 0, _ => (0, 1)
  | f + 1, k => if hitB k l then (k, (bracedF k).length) else if hitP k l then (k, 1 + (nameF k).length) else tokGo l f (k + 1)
def tokF (l : List UInt8) : Nat × Nat := if l.head? = some 36 then tokGo l 3 1 else (0, 1)
theorem tokGo_size (l : List UInt8) : ∀ f k, 1 ≤ (tokGo l f k).2 ∧ ((tokGo l f k).2 ≤ l.length ∨ (tokGo l f k).2 = 1)
  | 0, k => ⟨Nat.le_refl _, .inr rfl⟩
  | f + 1, k => by
    rw [tokGo]
    split
    · rename_i h
      have := Lib.hasPrefix_le h
      refine ⟨by simp [bracedF], .inl this⟩
    · split
      · rename_i h
        unfold hitP at h
        rw [Bool.and_eq_true] at h
        have := Lib.hasPrefix_le h.1
        rw [List.length_drop] at this
        refine ⟨by simp, ?_⟩
        rcases Nat.lt_or_ge 0 l.length with h0 | h0
        · left; simp only; omega
        · right; simp only; omega
      · exact tokGo_size l f (k + 1)
theorem tokF_size {l : List UInt8} (h : l ≠ []) : 1 ≤ (tokF l).2 ∧ (tokF l).2 ≤ l.length := by
  have h0 : 0 < l.length := List.length_pos_iff.2 h
  unfold tokF
  split
  · have := tokGo_size l 3 1
    omega
  · exact ⟨Nat.le_refl _, h0⟩
theorem tokGo_which (l : List UInt8) : ∀ f k, (tokGo l f k).1 = 0 ∨ (k ≤ (tokGo l f k).1 ∧ (tokGo l f k).1 < k + f)
  | 0, k => .inl rfl
  | f + 1, k => by
    rw [tokGo]
    split
    · right; simp only; omega
    · split
      · right; simp only; omega
      · rcases tokGo_which l f (k + 1) with h | h
        · exact .inl h
        · right; omega
theorem tokF_which (l : List UInt8) : (tokF l).1 < 4 := by
  unfold tokF
  split
  · rcases tokGo_which l 3 1 with h | h <;> omega
  · decide
theorem tokF_plain {c : UInt8} {l : List UInt8} (h : c ≠ 36) : tokF (c :: l) = (0, 1) := by
  unfold tokF
  rw [if_neg (by simpa using h)]

def libF : List UInt8 := [108, 105, 98, 54, 52]
def platF : List UInt8 := [120, 56, 54, 95, 54, 52]
/-- what a token becomes -/
def textF (dir : List UInt8) (l : List UInt8) : Nat → List UInt8
  | 0 => l.take 1
  | 1 => dir
  | 2 => libF
  | _ => platF
def expGo (dir : List UInt8) : Nat → List UInt8 → List UInt8 → Bool → List UInt8 × Bool
  | 0, _, out, told => (out, told)
  | f + 1, l, out, told => if l = [] then (out, told) else expGo dir f (l.drop (tokF l).2) (out ++ textF dir l (tokF l).1) (told || (tokF l).1 == 1)
theorem expGo_nil (dir : List UInt8) (f : Nat) (out : List UInt8) (told : Bool) : expGo dir f [] out told = (out, told) := by
  cases f <;> simp [expGo]
theorem expGo_step {dir : List UInt8} {f : Nat} {l out : List UInt8} {told : Bool} (h : l ≠ []) : expGo dir (f + 1) l out told = expGo dir f (l.drop (tokF l).2) (out ++ textF dir l (tokF l).1) (told || (tokF l).1 == 1) := by
  rw [expGo, if_neg h]
/-- more rounds than there are bytes change nothing -/
theorem expGo_fuel (dir : List UInt8) : ∀ (f g : Nat) (l out : List UInt8) (told : Bool), l.length ≤ f → l.length ≤ g → expGo dir f l out told = expGo dir g l out told
  | 0, g, l, out, told, hf, hg => by
    have : l = [] := List.length_eq_zero_iff.1 (by omega)
    subst this
    rw [expGo_nil, expGo_nil]
  | f + 1, 0, l, out, told, hf, hg => by
    have : l = [] := List.length_eq_zero_iff.1 (by omega)
    subst this
    rw [expGo_nil, expGo_nil]
  | f + 1, g + 1, l, out, told, hf, hg => by
    by_cases h : l = []
    · subst h; rw [expGo_nil, expGo_nil]
    · have h1 := tokF_size h
      rw [expGo_step h, expGo_step h]
      exact expGo_fuel dir f g _ _ _ (by rw [List.length_drop]; omega) (by rw [List.length_drop]; omega)
/-- the directory of a path -/
def lastF (s : ByteArray) : Int := Lib.lastIndexByte s 47
def dirF (s : ByteArray) : List UInt8 := if lastF s < 0 then [] else s.data.toList.take (Nat.max (lastF s).toNat 1)
def expF (s : ByteArray) (origin : ByteArray) : List UInt8 × Bool := expGo (dirF origin) s.size s.data.toList [] false

/-- what has no dollar stays -/
theorem expGo_plain (dir r : List UInt8) : ∀ (s : List UInt8) (f : Nat) (out : List UInt8) (told : Bool), (∀ c ∈ s, c ≠ 36) → s.length + r.length ≤ f → expGo dir f (s ++ r) out told = expGo dir f r (out ++ s) told
  | [], f, out, told, h, hf => by rw [List.nil_append, List.append_nil]
  | c :: s, f, out, told, h, hf => by
    simp only [List.length_cons] at hf
    obtain ⟨g, rfl⟩ : ∃ g, f = g + 1 := ⟨f - 1, by omega⟩
    rw [List.cons_append, expGo_step (by simp), tokF_plain (h c (by simp))]
    have e1 : (c :: (s ++ r)).drop (0, 1).2 = s ++ r := rfl
    have e2 : textF dir (c :: (s ++ r)) (0, 1).1 = [c] := rfl
    have e3 : (told || ((0, 1) : Nat × Nat).1 == 1) = told := by cases told <;> rfl
    rw [e1, e2, e3, expGo_plain dir r s g _ _ (fun d hd => h d (by simp [hd])) (by omega), List.append_assoc]
    exact expGo_fuel dir g (g + 1) _ _ _ (by omega) (by omega)
end Go.Proofs.YtppeapafnnanbaaDoor
