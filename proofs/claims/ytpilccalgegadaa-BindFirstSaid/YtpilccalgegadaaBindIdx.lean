/- Layer 17: In's search through what Look tells, of whatever object and want. -/
import Derived.Test.YtpilccalgegadaaBindFits
import Derived.Test.YtpilccalgegadaaHashRead
namespace Go.Proofs.Ytpilccalgegadaa
open Go.RowKit
set_option linter.unusedVariables false
set_option linter.unusedSimpArgs false

/-- the place of the first one that fits -/
def idxP (f : Nat → Bool) : Nat → List Nat → Option Nat
  | _, [] => none
  | i, k :: l => if f k = true then some i else idxP f (i + 1) l
theorem idxP_cons (f : Nat → Bool) (i k : Nat) (l : List Nat) : idxP f i (k :: l) = if f k = true then some i else idxP f (i + 1) l := rfl
theorem idxP_find (f : Nat → Bool) (l : List Nat) (i : Nat) : (idxP f i l = none ∧ l.find? f = none) ∨ ∃ j, ∃ h : j < l.length, idxP f i l = some (i + j) ∧ l.find? f = some l[j] := by
  induction l generalizing i with
  | nil => exact .inl ⟨rfl, rfl⟩
  | cons k l ih =>
    rw [idxP_cons]
    by_cases h : f k = true
    · exact .inr ⟨0, by simp, by rw [if_pos h]; rfl, by rw [List.find?_cons_of_pos h]; rfl⟩
    · rw [if_neg h, List.find?_cons_of_neg h]
      rcases ih (i + 1) with ⟨h1, h2⟩ | ⟨j, hj, h1, h2⟩
      · exact .inl ⟨h1, h2⟩
      · exact .inr ⟨j + 1, by simp; omega, by rw [h1]; congr 1; omega, by rw [h2]; rfl⟩
def idxV : Option Nat → Int
  | none => -1
  | some i => i

set_option maxRecDepth 100000 in
set_option maxHeartbeats 8000000 in
theorem indexFits_any (f : Nat → Bool) (o : Nat) (la : Option Addr) (n lc : Nat) (T : List Nat) (hT : T.length = n) (hn : n ≤ 140737488355328) (w : World) (hl : Row .i64 w la (toI T))
    (HF : ∀ k ∈ T, ∀ wx, Below w.heap.size w wx → Calls Try.prog 11 #[.int .i64 (k : Int), .pointer (some ⟨o, 0, none⟩), .pointer (some ⟨o + 1, 0, none⟩)] wx fun e w' => e = .returned (.bool (f k)) ∧ Below wx.heap.size wx w') :
    Calls Try.prog 14 #[.slice la n lc, .func (.func 11) #[] #[.pointer (some ⟨o, 0, none⟩), .pointer (some ⟨o + 1, 0, none⟩)]] w fun e w' => e = .returned (.int .i64 (idxV (idxP f 0 T))) ∧ Below w.heap.size w w' := by
  have H := Lib.hid HF
  have HL := Lib.hid hl
  have HT := Lib.hid hT
  obtain ⟨R, hR⟩ : ∃ R, idxP f 0 T = R := ⟨_, rfl⟩
  have HR0 : Hid (idxP f 0 (T.drop 0) = R) := Lib.hid hR
  rw [hR]
  clear HF hl hT hR
  go_enter Try.func14, Try.ntmps14
  go_wp2_with fail
  go_loopg [8] n (fun g i wr => ∃ k : Nat, k + g = n ∧ i = .int .i64 (k : Int) ∧ Hid (idxP f k (T.drop k) = R) ∧ Hid (Below w.heap.size w wr))
  case atStart => exact ⟨0, by omega, rfl, HR0, Lib.hid (Below.refl _ _)⟩
  case round =>
    clear HR0
    obtain ⟨k, hk, rfl, HR, HB⟩ := hrel
    cases gk with
    | zero =>
      have hke : k = n := by omega
      have HF : Hid (R = none) := Lib.hid (by rw [← HR.out, List.drop_of_length_le (by rw [HT.out, hke]; exact Nat.le_refl _)]; rfl)
      clear hk
      subst hke
      go_wp2_with fail
      go_ret
      exact ⟨by rw [HF.out]; rfl, HB.out⟩
    | succ g =>
      have hkn : k < n := by omega
      have hkl : k < T.length := by rw [HT.out]; exact hkn
      have HD : Hid (T.drop k = T[k] :: T.drop (k + 1)) := Lib.hid (drop_cons hkl)
      have HC := Lib.hid (H.out T[k] (List.getElem_mem hkl) wr HB.out)
      obtain ⟨b, of, rfl, hc⟩ := (HL.out.below HB.out) k (by rw [toI_length]; exact hkl)
      rw [toI_getD, List.getD_eq_getElem?_getD, List.getElem?_eq_getElem hkl, Option.getD_some] at hc
      generalize T[k] = v at *
      rw [HD.out, idxP_cons] at HR
      have hcc : wr.cell? ⟨b, of + k, none⟩ = some (.int .i64 (v : Int)) := hc
      clear hc hkl
      go_wp2_with fail
      refine HC.out.mono ?_
      rintro e w2 ⟨rfl, hb2⟩
      have B2 := Lib.hid (bstep HB.out hb2)
      clear hb2 hcc HC
      cases hf : f v with
      | true =>
        have HF : Hid (R = some k) := Lib.hid (by rw [← HR.out, if_pos hf])
        clear HR hf
        go_wp2_with fail
        go_ret
        exact ⟨by rw [HF.out]; rfl, B2.out⟩
      | false =>
        have HR2 : Hid (idxP f (k + 1) (T.drop (k + 1)) = R) := Lib.hid (by
          have := HR.out
          rw [if_neg (by rw [hf]; decide)] at this
          exact this)
        clear HR hf
        go_wp2_with fail
        go_roundg g
        case measure => omega
        case rel => exact ⟨k + 1, by omega, by go_num, HR2, B2⟩
end Go.Proofs.Ytpilccalgegadaa
