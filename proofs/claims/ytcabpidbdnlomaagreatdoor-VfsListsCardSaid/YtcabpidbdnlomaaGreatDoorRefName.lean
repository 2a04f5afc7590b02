/- Layer 3, the document's answer: has a text 1 to 4096 bytes, none of them 0; is it a path; is it a name; its parts; is it clean. -/
import Derived.Test.YtcabpidbdnlomaaGreatDoorVfsNewF
import Derived.Test.YtcabpidbdnlomaaGreatDoorCutF
import Derived.Test.YtcabpidbdnlomaaGreatDoorVfsCutM
namespace Go.Proofs.YtcabpidbdnlomaaGreatDoor
open Go.RowKit
set_option linter.unusedVariables false
set_option linter.unusedSimpArgs false

theorem none_zero (s : ByteArray) : (Lib.indexByte s.data.toList 0 < 0) ↔ ∀ i, (h : i < s.size) → s[i] ≠ 0 := by
  have hge := Lib.indexByte_ge s.data.toList 0
  constructor
  · intro h i hi h0
    have e : Lib.indexByte s.data.toList 0 = -1 := by omega
    have := Lib.indexByte_none e i
    apply this
    rw [List.getElem?_eq_getElem (by simpa using hi)]
    exact congrArg some h0
  · intro h
    by_cases e : Lib.indexByte s.data.toList 0 = -1
    · omega
    · exfalso
      obtain ⟨o, ho⟩ : ∃ o : Nat, Lib.indexByte s.data.toList 0 = o := ⟨(Lib.indexByte s.data.toList 0).toNat, by omega⟩
      have h1 := (Lib.indexByte_some ho).1
      have hlt : o < s.data.toList.length := (List.getElem?_eq_some_iff.1 h1).1
      have h2 := (List.getElem?_eq_some_iff.1 h1).2
      exact h o (by simpa using hlt) h2
theorem within_zero {s : ByteArray} {i : Nat} (h : i < s.size) (h0 : s[i] = 0) (m : Nat) : withinF s m = false := by
  unfold withinF
  have : ¬ Lib.indexByte s.data.toList 0 < 0 := fun hh => (none_zero s).1 hh i h h0
  simp [this]
theorem within_all {s : ByteArray} {m : Nat} (h1 : 1 ≤ s.size) (h2 : s.size ≤ m) (h : ∀ i, (h : i < s.size) → s[i] ≠ 0) : withinF s m = true := by
  unfold withinF
  simp [h1, h2, (none_zero s).2 h]
theorem toNat_zero {b : UInt8} : ((b.toNat : Int) == 0) = decide (b = 0) := by
  rw [Bool.eq_iff_iff, beq_iff_eq, decide_eq_true_eq]
  constructor
  · intro h; exact UInt8.toNat_inj.1 (by show b.toNat = 0; omega)
  · intro h; subst h; rfl

set_option maxRecDepth 100000 in
set_option maxHeartbeats 4000000 in
theorem plain_any (s : ByteArray) (w : World) (hs : s.size ≤ 140737488355328) :
    Calls Tryz.prog 47 #[.string s] w fun e w' => e = .returned (.bool (withinF s 4096)) ∧ w = w' := by
  by_cases h0 : s = ⟨#[]⟩
  · have hF : withinF s 4096 = false := by subst h0; rfl
    rw [hF]
    subst h0
    clear hF hs
    go_enter Tryz.func47, Tryz.ntmps47
    go_wp2_with fail
    go_ret
    exact ⟨rfl, rfl⟩
  have hne : (s.toList == []) = false := by
    have := text_ne h0
    rwa [show (⟨#[]⟩ : ByteArray).toList = [] by rw [ByteArray.toList_eq]] at this
  have h1 : 1 ≤ s.size := by
    rcases Nat.eq_zero_or_pos s.size with h | h
    · exfalso
      apply h0
      apply ByteArray.ext
      exact Array.eq_empty_of_size_eq_zero h
    · exact h
  by_cases hbig : 4096 < s.size
  · have hF : withinF s 4096 = false := by unfold withinF; simp [show ¬ s.size ≤ 4096 by omega]
    have t1 : decide ((4096 : Int) < (s.size : Int)) = true := decide_eq_true (by omega)
    rw [hF]
    clear hF hs h0 h1 hbig
    go_enter Tryz.func47, Tryz.ntmps47
    go_wp2_with fail
    go_ret
    exact ⟨rfl, rfl⟩
  have t1 : decide ((4096 : Int) < (s.size : Int)) = false := decide_eq_false (by omega)
  obtain ⟨R, hR⟩ : ∃ R, withinF s 4096 = R := ⟨_, rfl⟩
  have HZ : Hid (∀ i, (h : i < s.size) → s[i] = 0 → R = false) := Lib.hid (fun i h h0 => by rw [← hR]; exact within_zero h h0 _)
  have HT : Hid ((∀ i, (h : i < s.size) → s[i] ≠ 0) → R = true) := Lib.hid (fun h => by rw [← hR]; exact within_all h1 (by omega) h)
  have HN : Hid (s.size ≤ 4096) := Lib.hid (by omega)
  rw [hR]
  clear hR h0 h1 hbig hs
  go_enter Tryz.func47, Tryz.ntmps47
  go_wp2_with fail
  go_loopg [3] s.size (fun g iv wr => ∃ k : Nat, k + g = s.size ∧ iv = .int .i64 (k : Int) ∧ Hid (∀ j, (h : j < s.size) → j < k → s[j] ≠ 0) ∧ w = wr)
  case atStart => exact ⟨0, by omega, rfl, Lib.hid (fun j _ h => by omega), rfl⟩
  case round =>
    obtain ⟨k, hk, rfl, HJ, rfl⟩ := hrel
    clear hne t1
    cases gk with
    | zero =>
      have hR : Hid (R = true) := Lib.hid (HT.out (fun i h => HJ.out i h (by omega)))
      have t2 : ¬ k < s.size := by omega
      clear hk
      go_wp2_with fail
      go_ret
      rw [hR.out]
      exact ⟨rfl, rfl⟩
    | succ g =>
      have hlt : k < s.size := by omega
      have i0 : (0 : Int) ≤ (k : Int) := by omega
      have i1 : (k : Int) < (s.size : Int) := by omega
      have t2 : decide ((k : Int) < (s.size : Int)) = true := decide_eq_true i1
      by_cases hz : s[k] = 0
      · have hR : Hid (R = false) := Lib.hid (HZ.out k hlt hz)
        have hb : (((s[k]'hlt).toNat : Int) == 0) = true := by rw [toNat_zero]; exact decide_eq_true hz
        clear hz hk
        go_wp2_with fail
        go_ret
        rw [hR.out]
        exact ⟨rfl, rfl⟩
      · have hb : (((s[k]'hlt).toNat : Int) == 0) = false := by rw [toNat_zero]; exact decide_eq_false hz
        have HJ2 : Hid (∀ j, (h : j < s.size) → j < k + 1 → s[j] ≠ 0) := Lib.hid (fun j h hj => by
          by_cases hjk : j < k
          · exact HJ.out j h hjk
          · obtain rfl : j = k := by omega
            exact hz)
        have HK := Lib.hid hk
        clear hz hk
        go_wp2_with fail
        go_roundg g
        case measure => have := HK.out; omega
        case rel => exact ⟨k + 1, by have := HK.out; omega, by have := HN.out; rw [IntWalk.wrap64_in _ ⟨by omega, by omega⟩]; rfl, HJ2, rfl⟩

/-- is a text a path? -/
def isPathR (s : ByteArray) : Bool := withinF s 4096 && decide (s.get! 0 = 47)
set_option maxRecDepth 100000 in
set_option maxHeartbeats 4000000 in
theorem isPath_any (s : ByteArray) (w : World) (hs : s.size ≤ 140737488355328) :
    Calls Tryz.prog 36 #[.string s] w fun e w' => e = .returned (.bool (isPathR s)) ∧ w = w' := by
  have HP := Lib.hid (plain_any s w hs)
  cases hwt : withinF s 4096 with
  | false =>
    have hF : isPathR s = false := by unfold isPathR; rw [hwt]; rfl
    rw [hF]
    rw [hwt] at HP
    clear hF hwt hs
    go_enter Tryz.func36, Tryz.ntmps36
    go_wp2_with fail
    refine HP.out.mono ?_
    rintro e w' ⟨rfl, rfl⟩
    go_wp2_with fail
    go_ret
    exact ⟨rfl, rfl⟩
  | true =>
    have hsz := within_size hwt
    have hx := first_bang s (by omega)
    have h0 : (0 : Int) < (s.size : Int) := by omega
    have hF : isPathR s = decide (s.get! 0 = 47) := by unfold isPathR; rw [hwt]; rfl
    have hb : (((s[0]'(by omega)).toNat : Int) == 47) = isPathR s := by
      rw [hF, hx, Bool.eq_iff_iff, beq_iff_eq, decide_eq_true_eq]
      constructor
      · intro h; exact UInt8.toNat_inj.1 (by show _ = 47; omega)
      · intro h; rw [h]; rfl
    generalize isPathR s = R at *
    rw [hwt] at HP
    clear hF hwt hx
    go_enter Tryz.func36, Tryz.ntmps36
    go_wp2_with fail
    refine HP.out.mono ?_
    rintro e w' ⟨rfl, rfl⟩
    go_wp2_with fail
    go_ret
    exact ⟨rfl, rfl⟩
end Go.Proofs.YtcabpidbdnlomaaGreatDoor
/- Layer 3, the document's answer: is a text a name; its parts; is it clean; the directory of a path. -/
namespace Go.Proofs.YtcabpidbdnlomaaGreatDoor
open Go.RowKit
set_option linter.unusedVariables false
set_option linter.unusedSimpArgs false

theorem toNat_slash {b : UInt8} : ((b.toNat : Int) == 47) = decide (b = 47) := by
  rw [Bool.eq_iff_iff, beq_iff_eq, decide_eq_true_eq]
  constructor
  · intro h; exact UInt8.toNat_inj.1 (by show b.toNat = 47; omega)
  · intro h; subst h; rfl
theorem empty_list : (⟨#[]⟩ : ByteArray).toList = [] := by rw [ByteArray.toList_eq]
theorem dot_list : (⟨#[46]⟩ : ByteArray).toList = [46] := by rw [ByteArray.toList_eq]
theorem dots_list : (⟨#[46, 46]⟩ : ByteArray).toList = [46, 46] := by rw [ByteArray.toList_eq]
theorem slash_list : (⟨#[47]⟩ : ByteArray).toList = [47] := by rw [ByteArray.toList_eq]
/-- is a text a name? -/
def nameR (s : ByteArray) : Bool := vnameF s && decide (∀ i, (h : i < s.size) → s[i] ≠ 47)
theorem vnameF_size {s : ByteArray} (h : vnameF s = true) : 1 ≤ s.size ∧ s.size ≤ 255 := by
  unfold vnameF at h
  simp only [Bool.and_eq_true] at h
  exact within_size h.1

set_option maxRecDepth 100000 in
set_option maxHeartbeats 4000000 in
theorem rname_any (s : ByteArray) (w : World) (hs : s.size ≤ 140737488355328) :
    Calls Tryz.prog 65 #[.string s] w fun e w' => e = .returned (.bool (nameR s)) ∧ w = w' := by
  by_cases h0 : s = ⟨#[]⟩
  · have hF : nameR s = false := by subst h0; rfl
    rw [hF]
    subst h0
    clear hF hs
    go_enter Tryz.func65, Tryz.ntmps65
    go_wp2_with fail
    go_ret
    exact ⟨rfl, rfl⟩
  have hne : (s.toList == []) = false := by
    have := text_ne h0
    rwa [empty_list] at this
  have h1 : 1 ≤ s.size := by
    rcases Nat.eq_zero_or_pos s.size with h | h
    · exfalso
      apply h0
      apply ByteArray.ext
      exact Array.eq_empty_of_size_eq_zero h
    · exact h
  by_cases hbig : 255 < s.size
  · have hF : nameR s = false := by unfold nameR vnameF withinF; simp [show ¬ s.size ≤ 255 by omega]
    have t1 : decide ((255 : Int) < (s.size : Int)) = true := decide_eq_true (by omega)
    rw [hF]
    clear hF hs h0 h1 hbig
    go_enter Tryz.func65, Tryz.ntmps65
    go_wp2_with fail
    go_ret
    exact ⟨rfl, rfl⟩
  have t1 : decide ((255 : Int) < (s.size : Int)) = false := decide_eq_false (by omega)
  by_cases hd1 : s = ⟨#[46]⟩
  · have hF : nameR s = false := by unfold nameR vnameF; simp [hd1]
    rw [hF]
    subst hd1
    clear hF hs h0 h1 hbig hne t1
    go_enter Tryz.func65, Tryz.ntmps65
    go_wp2_with fail
    go_ret
    exact ⟨rfl, rfl⟩
  have hn1 : (s.toList == [46]) = false := by
    have := text_ne hd1
    rwa [dot_list] at this
  by_cases hd2 : s = ⟨#[46, 46]⟩
  · have hF : nameR s = false := by unfold nameR vnameF; simp [hd2]
    rw [hF]
    subst hd2
    clear hF hs h0 h1 hbig hne t1 hn1 hd1
    go_enter Tryz.func65, Tryz.ntmps65
    go_wp2_with fail
    go_ret
    exact ⟨rfl, rfl⟩
  have hn2 : (s.toList == [46, 46]) = false := by
    have := text_ne hd2
    rwa [dots_list] at this
  obtain ⟨R, hR⟩ : ∃ R, nameR s = R := ⟨_, rfl⟩
  have HZ : Hid (∀ i, (h : i < s.size) → s[i] = 0 → R = false) := Lib.hid (fun i h hz => by rw [← hR]; unfold nameR vnameF; rw [within_zero h hz]; rfl)
  have HL : Hid (∀ i, (h : i < s.size) → s[i] = 47 → R = false) := Lib.hid (fun i h hz => by
    rw [← hR]
    unfold nameR
    have : ¬ ∀ i, (h : i < s.size) → s[i] ≠ 47 := fun hh => hh i h hz
    simp [this])
  have HT : Hid ((∀ i, (h : i < s.size) → s[i] ≠ 0 ∧ s[i] ≠ 47) → R = true) := Lib.hid (fun h => by
    rw [← hR]
    unfold nameR vnameF
    rw [within_all h1 (by omega) (fun i hi => (h i hi).1), decide_eq_false hd1, decide_eq_false hd2, decide_eq_true (fun i hi => (h i hi).2)]
    rfl)
  have HN : Hid (s.size ≤ 255) := Lib.hid (by omega)
  rw [hR]
  clear hR h0 h1 hbig hs hd1 hd2
  go_enter Tryz.func65, Tryz.ntmps65
  go_wp2_with fail
  go_loopg [3] s.size (fun g iv wr => ∃ k : Nat, k + g = s.size ∧ iv = .int .i64 (k : Int) ∧ Hid (∀ j, (h : j < s.size) → j < k → s[j] ≠ 0 ∧ s[j] ≠ 47) ∧ w = wr)
  case atStart => exact ⟨0, by omega, rfl, Lib.hid (fun j _ h => by omega), rfl⟩
  case round =>
    obtain ⟨k, hk, rfl, HJ, rfl⟩ := hrel
    clear hne t1 hn1 hn2
    cases gk with
    | zero =>
      have hR : Hid (R = true) := Lib.hid (HT.out (fun i h => HJ.out i h (by omega)))
      have t2 : ¬ k < s.size := by omega
      clear hk
      go_wp2_with fail
      go_ret
      rw [hR.out]
      exact ⟨rfl, rfl⟩
    | succ g =>
      have hlt : k < s.size := by omega
      have i0 : (0 : Int) ≤ (k : Int) := by omega
      have i1 : (k : Int) < (s.size : Int) := by omega
      have t2 : decide ((k : Int) < (s.size : Int)) = true := decide_eq_true i1
      by_cases hz : s[k] = 0
      · have hR : Hid (R = false) := Lib.hid (HZ.out k hlt hz)
        have hb : (((s[k]'hlt).toNat : Int) == 0) = true := by rw [toNat_zero]; exact decide_eq_true hz
        clear hz hk
        go_wp2_with fail
        go_ret
        rw [hR.out]
        exact ⟨rfl, rfl⟩
      · have hb : (((s[k]'hlt).toNat : Int) == 0) = false := by rw [toNat_zero]; exact decide_eq_false hz
        by_cases hz7 : s[k] = 47
        · have hR : Hid (R = false) := Lib.hid (HL.out k hlt hz7)
          have hb7 : (((s[k]'hlt).toNat : Int) == 47) = true := by rw [toNat_slash]; exact decide_eq_true hz7
          clear hz hz7 hk
          go_wp2_with fail
          go_ret
          rw [hR.out]
          exact ⟨rfl, rfl⟩
        · have hb7 : (((s[k]'hlt).toNat : Int) == 47) = false := by rw [toNat_slash]; exact decide_eq_false hz7
          have HJ2 : Hid (∀ j, (h : j < s.size) → j < k + 1 → s[j] ≠ 0 ∧ s[j] ≠ 47) := Lib.hid (fun j h hj => by
            by_cases hjk : j < k
            · exact HJ.out j h hjk
            · obtain rfl : j = k := by omega
              exact ⟨hz, hz7⟩)
          have HK := Lib.hid hk
          clear hz hz7 hk
          go_wp2_with fail
          go_roundg g
          case measure => have := HK.out; omega
          case rel => exact ⟨k + 1, by have := HK.out; omega, by have := HN.out; rw [IntWalk.wrap64_in _ ⟨by omega, by omega⟩]; rfl, HJ2, rfl⟩

/-- the directory in which a path lies -/
def upGo (s : ByteArray) : Nat → ByteArray
  | 0 => slash
  | k + 1 => if s.get! (k + 1) = 47 then s.extract 0 (k + 1) else upGo s k
def upR (s : ByteArray) : ByteArray := upGo s (s.size - 1)
theorem upGo_size (s : ByteArray) : ∀ k, (upGo s k).size ≤ s.size + 1
  | 0 => by unfold upGo; rw [slash_one]; omega
  | k + 1 => by
    unfold upGo
    split
    · rw [ByteArray.size_extract]; omega
    · exact upGo_size s k

set_option maxRecDepth 100000 in
set_option maxHeartbeats 4000000 in
theorem up_any (s : ByteArray) (w : World) (h1 : 1 ≤ s.size) (hs : s.size ≤ 140737488351232) :
    Calls Tryz.prog 21 #[.string s] w fun e w' => e = .returned (.string (upR s)) ∧ w = w' := by
  obtain ⟨R, hR⟩ : ∃ R, upR s = R := ⟨_, rfl⟩
  obtain ⟨n, hn⟩ : ∃ n, s.size - 1 = n := ⟨_, rfl⟩
  have HR : Hid (upGo s n = R) := Lib.hid (by rw [← hR, ← hn]; rfl)
  have HN : Hid (n < s.size ∧ n ≤ 140737488351232) := Lib.hid (by omega)
  have e1 : (s.size : Int) - 1 = (n : Int) := by omega
  rw [hR]
  clear hR hn hs h1
  go_enter Tryz.func21, Tryz.ntmps21
  go_wp2_with fail
  go_loopg [3] n (fun g iv wr => iv = .int .i64 (g : Int) ∧ Hid (upGo s g = R) ∧ Hid (g ≤ n) ∧ w = wr)
  case atStart => exact ⟨by have := HN.out; rw [show ((n : Nat) : Int) = (s.size : Int) - 1 from e1.symm, IntWalk.wrap64_in _ ⟨by omega, by omega⟩], HR, Lib.hid (Nat.le_refl _), rfl⟩
  case round =>
    obtain ⟨rfl, HG, HL, rfl⟩ := hrel
    clear HR
    cases gk with
    | zero =>
      go_wp2_with fail
      go_ret
      rw [← HG.out]
      exact ⟨rfl, rfl⟩
    | succ g =>
      have hlt : g + 1 < s.size := by have := HL.out; have := HN.out; omega
      have i0 : (0 : Int) ≤ ((g : Int) + 1) := by omega
      have i1 : ((g : Int) + 1) < (s.size : Int) := by omega
      have ip : (0 : Int) < ((g : Int) + 1) := by omega
      have hx : s.get! (g + 1) = s[g + 1] := get_bang s (g + 1) hlt
      by_cases hz7 : s[g + 1] = 47
      · have hR : Hid (R = s.extract 0 (g + 1)) := Lib.hid (by rw [← HG.out]; unfold upGo; rw [if_pos (by rw [hx]; exact hz7)])
        have hb7 : (((s[g + 1]'hlt).toNat : Int) == 47) = true := by rw [toNat_slash]; exact decide_eq_true hz7
        clear hz7 hx
        go_wp2_with fail
        go_ret
        rw [hR.out]
        exact ⟨rfl, rfl⟩
      · have HG2 : Hid (upGo s g = R) := Lib.hid (by rw [← HG.out]; conv => rhs; unfold upGo; rw [if_neg (by rw [hx]; exact hz7)])
        have hb7 : (((s[g + 1]'hlt).toNat : Int) == 47) = false := by rw [toNat_slash]; exact decide_eq_false hz7
        clear hz7 hx
        go_wp2_with fail
        go_roundg g
        case measure => omega
        case rel => exact ⟨by have := HN.out; have := HL.out; rw [IntWalk.wrap64_in _ ⟨by omega, by omega⟩], HG2, Lib.hid (by have := HL.out; omega), rfl⟩
end Go.Proofs.YtcabpidbdnlomaaGreatDoor
/- Layer 3, the document's answer: a text's parts; is a path clean. -/
namespace Go.Proofs.YtcabpidbdnlomaaGreatDoor
open Go.RowKit
set_option linter.unusedVariables false
set_option linter.unusedSimpArgs false

/-- where the cutting stands -/
def PartSt (s : ByteArray) (R acc : List (List UInt8)) (k fr : Nat) : Prop :=
  (k ≤ s.size → acc ++ cutGo slashP ((s.data.toList.drop fr).take (k - fr)) (s.data.toList.drop k) = R) ∧ (s.size < k → acc = R) ∧ fr ≤ k
theorem PartSt.last {s : ByteArray} {R acc : List (List UInt8)} {fr : Nat} (h : PartSt s R acc s.size fr) : PartSt s R (acc ++ [(s.data.toList.drop fr).take (s.size - fr)]) (s.size + 1) (s.size + 1) := by
  refine ⟨fun hh => by omega, fun _ => ?_, Nat.le_refl _⟩
  rw [← h.1 (Nat.le_refl _), List.drop_of_length_le (i := s.size) (by simp), cutGo]
theorem PartSt.cut {s : ByteArray} {R acc : List (List UInt8)} {k fr : Nat} (h : PartSt s R acc k fr) (hk : k < s.size) (h7 : s[k] = 47) : PartSt s R (acc ++ [(s.data.toList.drop fr).take (k - fr)]) (k + 1) (k + 1) := by
  refine ⟨fun hh => ?_, fun h1 => by omega, Nat.le_refl _⟩
  have e : s.data.toList.drop k = s[k] :: s.data.toList.drop (k + 1) := by
    rw [List.drop_eq_getElem_cons (by simpa using hk)]
    rfl
  rw [← h.1 (by omega), e, cutGo, if_pos (by rw [slashP_nat]; exact decide_eq_true h7), Nat.sub_self, List.take_zero, List.append_assoc]
  rfl
theorem PartSt.skip {s : ByteArray} {R acc : List (List UInt8)} {k fr : Nat} (h : PartSt s R acc k fr) (hk : k < s.size) (h7 : ¬ s[k] = 47) : PartSt s R acc (k + 1) fr := by
  refine ⟨fun hh => ?_, fun h1 => by omega, Nat.le_succ_of_le h.2.2⟩
  have e : s.data.toList.drop k = s[k] :: s.data.toList.drop (k + 1) := by
    rw [List.drop_eq_getElem_cons (by simpa using hk)]
    rfl
  have e2 : (s.data.toList.drop fr).take (k + 1 - fr) = (s.data.toList.drop fr).take (k - fr) ++ [s[k]] := by
    have h2 := h.2.2
    rw [show k + 1 - fr = (k - fr) + 1 by omega, List.take_succ_eq_append_getElem (by simp; omega)]
    congr 2
    simp only [List.getElem_drop]
    congr 1
    omega
  rw [← h.1 (by omega), e, cutGo, if_neg (by rw [slashP_nat, decide_eq_false h7]; simp), e2]

set_option maxRecDepth 100000 in
set_option maxHeartbeats 4000000 in
theorem parts_any (s : ByteArray) (w : World) (hs : s.size ≤ 1048576) :
    Calls Tryz.prog 22 #[.string s] w fun e w' => ∃ ad c, e = .returned (.slice ad (partsR s).length c) ∧ OwnT w' w.heap.size 9 (.slice ad (partsR s).length c) (partsR s) ∧ Below w.heap.size w w' := by
  have hlen := partsR_len s
  obtain ⟨R, hR⟩ : ∃ R, cutF slashP s.data.toList = R := ⟨_, rfl⟩
  have hPR : partsR s = R.map mkP := by unfold partsR; rw [hR]
  rw [hPR] at hlen ⊢
  rw [List.length_map] at hlen
  have HRL := Lib.hid hlen
  have HS := Lib.hid hs
  have H0 : Hid (PartSt s R [] 0 0) := Lib.hid ⟨fun _ => by rw [← hR]; rfl, fun h => by omega, Nat.le_refl _⟩
  clear hR hPR hlen hs
  go_enter Tryz.func22, Tryz.ntmps22
  go_wp2_with fail
  go_loopg [3, 4, 5] (s.size + 1) (fun g ov fv iv wr => ∃ (k fr n c : Nat) (acc : List (List UInt8)) (ad : Option Addr), k + g = s.size + 1 ∧ iv = .int .i64 (k : Int) ∧ fv = .int .i64 (fr : Int) ∧ ov = .slice ad n c ∧ Hid (n = (acc.map mkP).length) ∧ Hid (PartSt s R acc k fr) ∧ Hid (OwnT wr w.heap.size 9 (.slice ad n c) (acc.map mkP)) ∧ Hid (Below w.heap.size w wr))
  case atStart => exact ⟨0, 0, 0, 0, [], none, by omega, rfl, rfl, rfl, Lib.hid rfl, H0, Lib.hid (OwnT.nil _ _ _), Lib.hid (Below.refl _ _)⟩
  case round =>
    obtain ⟨k, fr, n, c, acc, ad, hk, rfl, rfl, rfl, HN, HP, HO, HB⟩ := hrel
    clear H0
    cases gk with
    | zero =>
      have t2 : ¬ k ≤ s.size := by omega
      have HE : Hid (acc = R) := Lib.hid (HP.out.2.1 (by omega))
      clear hk
      go_wp2_with fail
      go_ret
      have he := HE.out
      subst he
      have hn := HN.out
      subst hn
      exact ⟨ad, c, rfl, HO.out, HB.out⟩
    | succ g =>
      have hle : k ≤ s.size := by omega
      have HK := Lib.hid hk
      have HACC : Hid (acc.length + 1 ≤ s.size + 1 ∧ n = acc.length) := Lib.hid ⟨by
        have h1 := HP.out.1 hle
        have h2 := cutGo_pos slashP (s.data.toList.drop k) ((s.data.toList.drop fr).take (k - fr))
        have h3 := HRL.out
        rw [← h1, List.length_append] at h3
        omega, by rw [HN.out, List.length_map]⟩
      have K1 : Hid (n + 1 ≤ maxLen) := Lib.hid (by have := HACC.out; have := HS.out; unfold maxLen; omega)
      have K2 : Hid ((n + 1) * 16 ≤ 140737488355328) := Lib.hid (by have := HACC.out; have := HS.out; omega)
      have hwk : ∀ j : Nat, j ≤ 1048577 → wrap64 ((j : Int) + 1) = ((j + 1 : Nat) : Int) := fun j hj => by rw [IntWalk.wrap64_in _ ⟨by omega, by omega⟩]; omega
      have HWK : Hid (wrap64 ((k : Int) + 1) = ((k + 1 : Nat) : Int)) := Lib.hid (hwk k (by have := HS.out; omega))
      have hfk : fr ≤ k := HP.out.2.2
      have q0 : (0 : Int) ≤ (fr : Int) := by omega
      have q1 : (fr : Int) ≤ (k : Int) := by omega
      have q2 : (k : Int) ≤ (s.size : Int) := by omega
      have q3 : (0 : Int) ≤ (k : Int) := by omega
      have TR := Lib.hid (text_row wr (s.extract fr k) 9)
      have OA := Lib.hid (HO.out.allocT (.cells #[.string (s.extract fr k)] 9))
      have BA := Lib.hid (HB.out.alloc HB.out.size (.cells #[.string (s.extract fr k)] 9))
      have BAS : Hid (w.heap.size ≤ (wr.alloc (.cells #[.string (s.extract fr k)] 9)).heap.size) := Lib.hid BA.out.size
      clear hwk hk
      have HE1 : Hid (acc.map mkP ++ [s.extract fr k] = (acc ++ [(s.data.toList.drop fr).take (k - fr)]).map mkP) := Lib.hid (by
        rw [List.map_append, extract_part]
        rfl)
      by_cases hend : k = s.size
      · have tend : ((k : Int) == (s.size : Int)) = true := beq_iff_eq.2 (by omega)
        have HP2 : Hid (PartSt s R (acc ++ [(s.data.toList.drop fr).take (k - fr)]) (k + 1) (k + 1)) := Lib.hid (by
          have h := HP.out
          rw [hend] at h ⊢
          exact h.last)
        clear hend hle hfk
        go_wp2_with (at_builtin; go_loud (refine wpList_texts rfl (.tmp 22) (.tmp 27) texts_t text_info rfl w.heap.size w (.slice ad n c) (acc.map mkP) n (some ⟨wr.heap.size, 0, none⟩) 1 1 [s.extract fr k] rfl (by rfl) HN.out.symm rfl TR.out (fun h => by cases h) OA.out K1.out K2.out BA.out BAS.out ?_); intro v5 w5 hown5 hbe5; have O5 := Lib.hid hown5; have B5 := Lib.hid hbe5; clear hown5 hbe5)
        obtain ⟨ad5, c5, rfl⟩ := O5.out.form
        have o5 := O5.out
        rw [HE1.out] at o5
        have e2 : (acc.map mkP ++ [s.extract fr k]).length = ((acc ++ [(s.data.toList.drop fr).take (k - fr)]).map mkP).length := by rw [HE1.out]
        have O6 := Lib.hid o5
        rw [e2]
        clear o5 e2
        go_roundg g
        case measure => have := HK.out; omega
        case rel => exact ⟨k + 1, k + 1, _, c5, acc ++ [(s.data.toList.drop fr).take (k - fr)], ad5, by have := HK.out; omega, by rw [HWK.out], by rw [HWK.out], rfl, Lib.hid rfl, HP2, O6, B5⟩
      · have hlt : k < s.size := by omega
        have tend : ((k : Int) == (s.size : Int)) = false := beq_eq_false_iff_ne.2 (by omega)
        have q4 : (k : Int) < (s.size : Int) := by omega
        by_cases h7 : s[k] = 47
        · have hb7 : (((s[k]'hlt).toNat : Int) == 47) = true := by rw [toNat_slash]; exact decide_eq_true h7
          have HP2 : Hid (PartSt s R (acc ++ [(s.data.toList.drop fr).take (k - fr)]) (k + 1) (k + 1)) := Lib.hid (HP.out.cut hlt h7)
          clear hend hle hfk h7
          go_wp2_with (at_builtin; go_loud (refine wpList_texts rfl (.tmp 22) (.tmp 27) texts_t text_info rfl w.heap.size w (.slice ad n c) (acc.map mkP) n (some ⟨wr.heap.size, 0, none⟩) 1 1 [s.extract fr k] rfl (by rfl) HN.out.symm rfl TR.out (fun h => by cases h) OA.out K1.out K2.out BA.out BAS.out ?_); intro v5 w5 hown5 hbe5; have O5 := Lib.hid hown5; have B5 := Lib.hid hbe5; clear hown5 hbe5)
          obtain ⟨ad5, c5, rfl⟩ := O5.out.form
          have o5 := O5.out
          rw [HE1.out] at o5
          have e2 : (acc.map mkP ++ [s.extract fr k]).length = ((acc ++ [(s.data.toList.drop fr).take (k - fr)]).map mkP).length := by rw [HE1.out]
          have O6 := Lib.hid o5
          rw [e2]
          clear o5 e2
          go_roundg g
          case measure => have := HK.out; omega
          case rel => exact ⟨k + 1, k + 1, _, c5, acc ++ [(s.data.toList.drop fr).take (k - fr)], ad5, by have := HK.out; omega, by rw [HWK.out], by rw [HWK.out], rfl, Lib.hid rfl, HP2, O6, B5⟩
        · have hb7 : (((s[k]'hlt).toNat : Int) == 47) = false := by rw [toNat_slash]; exact decide_eq_false h7
          have HP2 : Hid (PartSt s R acc (k + 1) fr) := Lib.hid (HP.out.skip hlt h7)
          clear hend hle hfk h7
          go_wp2_with fail
          go_roundg g
          case measure => have := HK.out; omega
          case rel => exact ⟨k + 1, fr, n, c, acc, ad, by have := HK.out; omega, by rw [HWK.out], rfl, rfl, HN, HP2, HO, HB⟩
end Go.Proofs.YtcabpidbdnlomaaGreatDoor
