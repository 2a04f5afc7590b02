/- Layer 3, the document's answer: has a text 1 to 4096 bytes, none of them 0; is it a path; is it a name; its parts; is it clean. -/
import Derived.Test.YtppeapafnnanbaaDoorVfsNewF
import Derived.Test.YtppeapafnnanbaaDoorSearchF
import Derived.Test.YtppeapafnnanbaaDoorVfsNew
namespace Go.Proofs.YtppeapafnnanbaaDoor
open Go.RowKit
set_option linter.unusedVariables false
set_option linter.unusedSimpArgs false

theorem none_zero (s : ByteArray) : (Lib.indexByte s.data.toList 0 < 0) ↔ ∀ i, (h : i < s.size) → s[i] ≠ 0 := by
  have hge := Lib.indexByte_ge s.data.toList 0
  constructor
  · intro h i hi h0
    have e : Lib.indexByte s.data.toList 0 = -1 := by omega
    have := Lib.indexByte_none e i
    apply this
    rw [List.getElem?_eq_getElem (by simpa using hi)]
    exact congrArg some h0
  · intro h
    by_cases e : Lib.indexByte s.data.toList 0 = -1
    · omega
    · exfalso
      obtain ⟨o, ho⟩ : ∃ o : Nat, Lib.indexByte s.data.toList 0 = o := ⟨(Lib.indexByte s.data.toList 0).toNat, by omega⟩
      have h1 := (Lib.indexByte_some ho).1
      have hlt : o < s.data.toList.length := (List.getElem?_eq_some_iff.1 h1).1
      have h2 := (List.getElem?_eq_some_iff.1 h1).2
      exact h o (by simpa using hlt) h2
theorem within_zero {s : ByteArray} {i : Nat} (h : i < s.size) (h0 : s[i] = 0) (m : Nat) : withinF s m = false := by
  unfold withinF
  have : ¬ Lib.indexByte s.data.toList 0 < 0 := fun hh => (none_zero s).1 hh i h h0
  simp [this]
theorem within_all {s : ByteArray} {m : Nat} (h1 : 1 ≤ s.size) (h2 : s.size ≤ m) (h : ∀ i, (h : i < s.size) → s[i] ≠ 0) : withinF s m = true := by
  unfold withinF
  simp [h1, h2, (none_zero s).2 h]
theorem toNat_zero {b : UInt8} : ((b.toNat : Int) == 0) = decide (b = 0) := by
  rw [Bool.eq_iff_iff, beq_iff_eq, decide_eq_true_eq]
  constructor
  · intro h; exact UInt8.toNat_inj.1 (by show b.toNat = 0; omega)
  · intro h; subst h; rfl

set_option maxRecDepth 100000 in
set_option maxHeartbeats 4000000 in
theorem plain_any (s : ByteArray) (w : World) (hs : s.size ≤ 140737488355328) :
    Calls Tryd.prog 54 #[.string s] w fun e w' => e = .returned (.bool (withinF s 4096)) ∧ w = w' := by
  by_cases h0 : s = ⟨#[]⟩
  · have hF : withinF s 4096 = false := by subst h0; rfl
    rw [hF]
    subst h0
    clear hF hs
    go_enter Tryd.func54, Tryd.ntmps54
    go_wp2_with fail
    go_ret
    exact ⟨rfl, rfl⟩
  have hne : (s.toList == []) = false := by
    have := text_ne h0
    rwa [show (⟨#[]⟩ : ByteArray).toList = [] by rw [ByteArray.toList_eq]] at this
  have h1 : 1 ≤ s.size := by
    rcases Nat.eq_zero_or_pos s.size with h | h
    · exfalso
      apply h0
      apply ByteArray.ext
      exact Array.eq_empty_of_size_eq_zero h
    · exact h
  by_cases hbig : 4096 < s.size
  · have hF : withinF s 4096 = false := by unfold withinF; simp [show ¬ s.size ≤ 4096 by omega]
    have t1 : decide ((4096 : Int) < (s.size : Int)) = true := decide_eq_true (by omega)
    rw [hF]
    clear hF hs h0 h1 hbig
    go_enter Tryd.func54, Tryd.ntmps54
    go_wp2_with fail
    go_ret
    exact ⟨rfl, rfl⟩
  have t1 : decide ((4096 : Int) < (s.size : Int)) = false := decide_eq_false (by omega)
  obtain ⟨R, hR⟩ : ∃ R, withinF s 4096 = R := ⟨_, rfl⟩
  have HZ : Hid (∀ i, (h : i < s.size) → s[i] = 0 → R = false) := Lib.hid (fun i h h0 => by rw [← hR]; exact within_zero h h0 _)
  have HT : Hid ((∀ i, (h : i < s.size) → s[i] ≠ 0) → R = true) := Lib.hid (fun h => by rw [← hR]; exact within_all h1 (by omega) h)
  have HN : Hid (s.size ≤ 4096) := Lib.hid (by omega)
  rw [hR]
  clear hR h0 h1 hbig hs
  go_enter Tryd.func54, Tryd.ntmps54
  go_wp2_with fail
  go_loopg [3] s.size (fun g iv wr => ∃ k : Nat, k + g = s.size ∧ iv = .int .i64 (k : Int) ∧ Hid (∀ j, (h : j < s.size) → j < k → s[j] ≠ 0) ∧ w = wr)
  case atStart => exact ⟨0, by omega, rfl, Lib.hid (fun j _ h => by omega), rfl⟩
  case round =>
    obtain ⟨k, hk, rfl, HJ, rfl⟩ := hrel
    clear hne t1
    cases gk with
    | zero =>
      have hR : Hid (R = true) := Lib.hid (HT.out (fun i h => HJ.out i h (by omega)))
      have t2 : ¬ k < s.size := by omega
      clear hk
      go_wp2_with fail
      go_ret
      rw [hR.out]
      exact ⟨rfl, rfl⟩
    | succ g =>
      have hlt : k < s.size := by omega
      have i0 : (0 : Int) ≤ (k : Int) := by omega
      have i1 : (k : Int) < (s.size : Int) := by omega
      have t2 : decide ((k : Int) < (s.size : Int)) = true := decide_eq_true i1
      by_cases hz : s[k] = 0
      · have hR : Hid (R = false) := Lib.hid (HZ.out k hlt hz)
        have hb : (((s[k]'hlt).toNat : Int) == 0) = true := by rw [toNat_zero]; exact decide_eq_true hz
        clear hz hk
        go_wp2_with fail
        go_ret
        rw [hR.out]
        exact ⟨rfl, rfl⟩
      · have hb : (((s[k]'hlt).toNat : Int) == 0) = false := by rw [toNat_zero]; exact decide_eq_false hz
        have HJ2 : Hid (∀ j, (h : j < s.size) → j < k + 1 → s[j] ≠ 0) := Lib.hid (fun j h hj => by
          by_cases hjk : j < k
          · exact HJ.out j h hjk
          · obtain rfl : j = k := by omega
            exact hz)
        have HK := Lib.hid hk
        clear hz hk
        go_wp2_with fail
        go_roundg g
        case measure => have := HK.out; omega
        case rel => exact ⟨k + 1, by have := HK.out; omega, by have := HN.out; rw [IntWalk.wrap64_in _ ⟨by omega, by omega⟩]; rfl, HJ2, rfl⟩

/-- is a text a path? -/
def isPathR (s : ByteArray) : Bool := withinF s 4096 && decide (s.get! 0 = 47)
set_option maxRecDepth 100000 in
set_option maxHeartbeats 4000000 in
theorem isPath_any (s : ByteArray) (w : World) (hs : s.size ≤ 140737488355328) :
    Calls Tryd.prog 70 #[.string s] w fun e w' => e = .returned (.bool (isPathR s)) ∧ w = w' := by
  have HP := Lib.hid (plain_any s w hs)
  cases hwt : withinF s 4096 with
  | false =>
    have hF : isPathR s = false := by unfold isPathR; rw [hwt]; rfl
    rw [hF]
    rw [hwt] at HP
    clear hF hwt hs
    go_enter Tryd.func70, Tryd.ntmps70
    go_wp2_with fail
    refine HP.out.mono ?_
    rintro e w' ⟨rfl, rfl⟩
    go_wp2_with fail
    go_ret
    exact ⟨rfl, rfl⟩
  | true =>
    have hsz := within_size hwt
    have hx := first_bang s (by omega)
    have h0 : (0 : Int) < (s.size : Int) := by omega
    have hF : isPathR s = decide (s.get! 0 = 47) := by unfold isPathR; rw [hwt]; rfl
    have hb : (((s[0]'(by omega)).toNat : Int) == 47) = isPathR s := by
      rw [hF, hx, Bool.eq_iff_iff, beq_iff_eq, decide_eq_true_eq]
      constructor
      · intro h; exact UInt8.toNat_inj.1 (by show _ = 47; omega)
      · intro h; rw [h]; rfl
    generalize isPathR s = R at *
    rw [hwt] at HP
    clear hF hwt hx
    go_enter Tryd.func70, Tryd.ntmps70
    go_wp2_with fail
    refine HP.out.mono ?_
    rintro e w' ⟨rfl, rfl⟩
    go_wp2_with fail
    go_ret
    exact ⟨rfl, rfl⟩
end Go.Proofs.YtppeapafnnanbaaDoor
/- Layer 3, the document's answer: is a text a name; its parts; is it clean; the directory of a path. -/
namespace Go.Proofs.YtppeapafnnanbaaDoor
open Go.RowKit
set_option linter.unusedVariables false
set_option linter.unusedSimpArgs false

theorem toNat_slash {b : UInt8} : ((b.toNat : Int) == 47) = decide (b = 47) := by
  rw [Bool.eq_iff_iff, beq_iff_eq, decide_eq_true_eq]
  constructor
  · intro h; exact UInt8.toNat_inj.1 (by show b.toNat = 47; omega)
  · intro h; subst h; rfl
theorem empty_list : (⟨#[]⟩ : ByteArray).toList = [] := by rw [ByteArray.toList_eq]
theorem dot_list : (⟨#[46]⟩ : ByteArray).toList = [46] := by rw [ByteArray.toList_eq]
theorem dots_list : (⟨#[46, 46]⟩ : ByteArray).toList = [46, 46] := by rw [ByteArray.toList_eq]
theorem slash_list : (⟨#[47]⟩ : ByteArray).toList = [47] := by rw [ByteArray.toList_eq]
/-- is a text a name? -/
def nameR (s : ByteArray) : Bool := vnameF s && decide (∀ i, (h : i < s.size) → s[i] ≠ 47)
theorem vnameF_size {s : ByteArray} (h : vnameF s = true) : 1 ≤ s.size ∧ s.size ≤ 255 := by
  unfold vnameF at h
  simp only [Bool.and_eq_true] at h
  exact within_size h.1

set_option maxRecDepth 100000 in
set_option maxHeartbeats 4000000 in
theorem rname_any (s : ByteArray) (w : World) (hs : s.size ≤ 140737488355328) :
    Calls Tryd.prog 72 #[.string s] w fun e w' => e = .returned (.bool (nameR s)) ∧ w = w' := by
  by_cases h0 : s = ⟨#[]⟩
  · have hF : nameR s = false := by subst h0; rfl
    rw [hF]
    subst h0
    clear hF hs
    go_enter Tryd.func72, Tryd.ntmps72
    go_wp2_with fail
    go_ret
    exact ⟨rfl, rfl⟩
  have hne : (s.toList == []) = false := by
    have := text_ne h0
    rwa [empty_list] at this
  have h1 : 1 ≤ s.size := by
    rcases Nat.eq_zero_or_pos s.size with h | h
    · exfalso
      apply h0
      apply ByteArray.ext
      exact Array.eq_empty_of_size_eq_zero h
    · exact h
  by_cases hbig : 255 < s.size
  · have hF : nameR s = false := by unfold nameR vnameF withinF; simp [show ¬ s.size ≤ 255 by omega]
    have t1 : decide ((255 : Int) < (s.size : Int)) = true := decide_eq_true (by omega)
    rw [hF]
    clear hF hs h0 h1 hbig
    go_enter Tryd.func72, Tryd.ntmps72
    go_wp2_with fail
    go_ret
    exact ⟨rfl, rfl⟩
  have t1 : decide ((255 : Int) < (s.size : Int)) = false := decide_eq_false (by omega)
  by_cases hd1 : s = ⟨#[46]⟩
  · have hF : nameR s = false := by unfold nameR vnameF; simp [hd1]
    rw [hF]
    subst hd1
    clear hF hs h0 h1 hbig hne t1
    go_enter Tryd.func72, Tryd.ntmps72
    go_wp2_with fail
    go_ret
    exact ⟨rfl, rfl⟩
  have hn1 : (s.toList == [46]) = false := by
    have := text_ne hd1
    rwa [dot_list] at this
  by_cases hd2 : s = ⟨#[46, 46]⟩
  · have hF : nameR s = false := by unfold nameR vnameF; simp [hd2]
    rw [hF]
    subst hd2
    clear hF hs h0 h1 hbig hne t1 hn1 hd1
    go_enter Tryd.func72, Tryd.ntmps72
    go_wp2_with fail
    go_ret
    exact ⟨rfl, rfl⟩
  have hn2 : (s.toList == [46, 46]) = false := by
    have := text_ne hd2
    rwa [dots_list] at this
  obtain ⟨R, hR⟩ : ∃ R, nameR s = R := ⟨_, rfl⟩
  have HZ : Hid (∀ i, (h : i < s.size) → s[i] = 0 → R = false) := Lib.hid (fun i h hz => by rw [← hR]; unfold nameR vnameF; rw [within_zero h hz]; rfl)
  have HL : Hid (∀ i, (h : i < s.size) → s[i] = 47 → R = false) := Lib.hid (fun i h hz => by
    rw [← hR]
    unfold nameR
    have : ¬ ∀ i, (h : i < s.size) → s[i] ≠ 47 := fun hh => hh i h hz
    simp [this])
  have HT : Hid ((∀ i, (h : i < s.size) → s[i] ≠ 0 ∧ s[i] ≠ 47) → R = true) := Lib.hid (fun h => by
    rw [← hR]
    unfold nameR vnameF
    rw [within_all h1 (by omega) (fun i hi => (h i hi).1), decide_eq_false hd1, decide_eq_false hd2, decide_eq_true (fun i hi => (h i hi).2)]
    rfl)
  have HN : Hid (s.size ≤ 255) := Lib.hid (by omega)
  rw [hR]
  clear hR h0 h1 hbig hs hd1 hd2
  go_enter Tryd.func72, Tryd.ntmps72
  go_wp2_with fail
  go_loopg [3] s.size (fun g iv wr => ∃ k : Nat, k + g = s.size ∧ iv = .int .i64 (k : Int) ∧ Hid (∀ j, (h : j < s.size) → j < k → s[j] ≠ 0 ∧ s[j] ≠ 47) ∧ w = wr)
  case atStart => exact ⟨0, by omega, rfl, Lib.hid (fun j _ h => by omega), rfl⟩
  case round =>
    obtain ⟨k, hk, rfl, HJ, rfl⟩ := hrel
    clear hne t1 hn1 hn2
    cases gk with
    | zero =>
      have hR : Hid (R = true) := Lib.hid (HT.out (fun i h => HJ.out i h (by omega)))
      have t2 : ¬ k < s.size := by omega
      clear hk
      go_wp2_with fail
      go_ret
      rw [hR.out]
      exact ⟨rfl, rfl⟩
    | succ g =>
      have hlt : k < s.size := by omega
      have i0 : (0 : Int) ≤ (k : Int) := by omega
      have i1 : (k : Int) < (s.size : Int) := by omega
      have t2 : decide ((k : Int) < (s.size : Int)) = true := decide_eq_true i1
      by_cases hz : s[k] = 0
      · have hR : Hid (R = false) := Lib.hid (HZ.out k hlt hz)
        have hb : (((s[k]'hlt).toNat : Int) == 0) = true := by rw [toNat_zero]; exact decide_eq_true hz
        clear hz hk
        go_wp2_with fail
        go_ret
        rw [hR.out]
        exact ⟨rfl, rfl⟩
      · have hb : (((s[k]'hlt).toNat : Int) == 0) = false := by rw [toNat_zero]; exact decide_eq_false hz
        by_cases hz7 : s[k] = 47
        · have hR : Hid (R = false) := Lib.hid (HL.out k hlt hz7)
          have hb7 : (((s[k]'hlt).toNat : Int) == 47) = true := by rw [toNat_slash]; exact decide_eq_true hz7
          clear hz hz7 hk
          go_wp2_with fail
          go_ret
          rw [hR.out]
          exact ⟨rfl, rfl⟩
        · have hb7 : (((s[k]'hlt).toNat : Int) == 47) = false := by rw [toNat_slash]; exact decide_eq_false hz7
          have HJ2 : Hid (∀ j, (h : j < s.size) → j < k + 1 → s[j] ≠ 0 ∧ s[j] ≠ 47) := Lib.hid (fun j h hj => by
            by_cases hjk : j < k
            · exact HJ.out j h hjk
            · obtain rfl : j = k := by omega
              exact ⟨hz, hz7⟩)
          have HK := Lib.hid hk
          clear hz hz7 hk
          go_wp2_with fail
          go_roundg g
          case measure => have := HK.out; omega
          case rel => exact ⟨k + 1, by have := HK.out; omega, by have := HN.out; rw [IntWalk.wrap64_in _ ⟨by omega, by omega⟩]; rfl, HJ2, rfl⟩

/-- the directory in which a path lies -/
def upGo (s : ByteArray) : Nat → ByteArray
  | 0 => slash
  | k + 1 => if s.get! (k + 1) = 47 then s.extract 0 (k + 1) else upGo s k
def upR (s : ByteArray) : ByteArray := upGo s (s.size - 1)
theorem upGo_size (s : ByteArray) : ∀ k, (upGo s k).size ≤ s.size + 1
  | 0 => by unfold upGo; rw [slash_one]; omega
  | k + 1 => by
    unfold upGo
    split
    · rw [ByteArray.size_extract]; omega
    · exact upGo_size s k

set_option maxRecDepth 100000 in
set_option maxHeartbeats 4000000 in
theorem up_any (s : ByteArray) (w : World) (h1 : 1 ≤ s.size) (hs : s.size ≤ 140737488351232) :
    Calls Tryd.prog 57 #[.string s] w fun e w' => e = .returned (.string (upR s)) ∧ w = w' := by
  obtain ⟨R, hR⟩ : ∃ R, upR s = R := ⟨_, rfl⟩
  obtain ⟨n, hn⟩ : ∃ n, s.size - 1 = n := ⟨_, rfl⟩
  have HR : Hid (upGo s n = R) := Lib.hid (by rw [← hR, ← hn]; rfl)
  have HN : Hid (n < s.size ∧ n ≤ 140737488351232) := Lib.hid (by omega)
  have e1 : (s.size : Int) - 1 = (n : Int) := by omega
  rw [hR]
  clear hR hn hs h1
  go_enter Tryd.func57, Tryd.ntmps57
  go_wp2_with fail
  go_loopg [3] n (fun g iv wr => iv = .int .i64 (g : Int) ∧ Hid (upGo s g = R) ∧ Hid (g ≤ n) ∧ w = wr)
  case atStart => exact ⟨by have := HN.out; rw [show ((n : Nat) : Int) = (s.size : Int) - 1 from e1.symm, IntWalk.wrap64_in _ ⟨by omega, by omega⟩], HR, Lib.hid (Nat.le_refl _), rfl⟩
  case round =>
    obtain ⟨rfl, HG, HL, rfl⟩ := hrel
    clear HR
    cases gk with
    | zero =>
      go_wp2_with fail
      go_ret
      rw [← HG.out]
      exact ⟨rfl, rfl⟩
    | succ g =>
      have hlt : g + 1 < s.size := by have := HL.out; have := HN.out; omega
      have i0 : (0 : Int) ≤ ((g : Int) + 1) := by omega
      have i1 : ((g : Int) + 1) < (s.size : Int) := by omega
      have ip : (0 : Int) < ((g : Int) + 1) := by omega
      have hx : s.get! (g + 1) = s[g + 1] := get_bang s (g + 1) hlt
      by_cases hz7 : s[g + 1] = 47
      · have hR : Hid (R = s.extract 0 (g + 1)) := Lib.hid (by rw [← HG.out]; unfold upGo; rw [if_pos (by rw [hx]; exact hz7)])
        have hb7 : (((s[g + 1]'hlt).toNat : Int) == 47) = true := by rw [toNat_slash]; exact decide_eq_true hz7
        clear hz7 hx
        go_wp2_with fail
        go_ret
        rw [hR.out]
        exact ⟨rfl, rfl⟩
      · have HG2 : Hid (upGo s g = R) := Lib.hid (by rw [← HG.out]; conv => rhs; unfold upGo; rw [if_neg (by rw [hx]; exact hz7)])
        have hb7 : (((s[g + 1]'hlt).toNat : Int) == 47) = false := by rw [toNat_slash]; exact decide_eq_false hz7
        clear hz7 hx
        go_wp2_with fail
        go_roundg g
        case measure => omega
        case rel => exact ⟨by have := HN.out; have := HL.out; rw [IntWalk.wrap64_in _ ⟨by omega, by omega⟩], HG2, Lib.hid (by have := HL.out; omega), rfl⟩
end Go.Proofs.YtppeapafnnanbaaDoor
/- Layer 3 as mathematics: a text's parts, as lists of bytes; they are the parts at which slashes cut. -/
namespace Go.Proofs.YtppeapafnnanbaaDoor
open Go.RowKit
set_option linter.unusedVariables false
set_option linter.unusedSimpArgs false

def slashP (n : Nat) : Bool := n == 47
def mkP (l : List UInt8) : ByteArray := ⟨l.toArray⟩
theorem extract_part (s : ByteArray) (a b : Nat) : s.extract a b = mkP ((s.data.toList.drop a).take (b - a)) := by
  apply ByteArray.ext
  apply Array.ext'
  simp [ByteArray.data_extract, mkP]
/-- a text's parts -/
def partsR (s : ByteArray) : List ByteArray := (cutF slashP s.data.toList).map mkP
theorem partsR_len (s : ByteArray) : (partsR s).length ≤ s.size + 1 := by
  unfold partsR cutF
  have := cutGo_len slashP s.data.toList []
  rw [List.length_map]
  simpa using this
theorem slashP_nat (b : UInt8) : slashP b.toNat = decide (b = 47) := by
  unfold slashP
  rw [Bool.eq_iff_iff, beq_iff_eq, decide_eq_true_eq]
  constructor
  · intro h; exact UInt8.toNat_inj.1 h
  · intro h; subst h; rfl

theorem cut_none {l cur : List UInt8} (h : ∀ c ∈ l, c ≠ 47) : cutGo slashP cur l = [cur ++ l] := by
  have := cutGo_skip (p := slashP) l cur [] (fun c hc => by rw [slashP_nat]; exact decide_eq_false (h c hc))
  rw [List.append_nil] at this
  rw [this, cutGo]
theorem cut_at {l cur r : List UInt8} (h : ∀ c ∈ l, c ≠ 47) : cutGo slashP cur (l ++ 47 :: r) = (cur ++ l) :: cutGo slashP [] r := by
  rw [cutGo_skip (p := slashP) l cur _ (fun c hc => by rw [slashP_nat]; exact decide_eq_false (h c hc)), cutGo, if_pos (by decide)]
theorem cut_snoc {n : List UInt8} (hn : ∀ c ∈ n, c ≠ 47) : ∀ (a cur : List UInt8), cutGo slashP cur (a ++ 47 :: n) = cutGo slashP cur a ++ [n]
  | [], cur => by
    have h1 : cutGo slashP cur ([] ++ 47 :: n) = (cur ++ []) :: cutGo slashP [] n := cut_at (fun c hc => by cases hc)
    rw [h1, cut_none hn, List.append_nil, List.nil_append]
    rfl
  | c :: a, cur => by
    rw [List.cons_append, cutGo, cutGo]
    split
    · rw [cut_snoc hn a []]; rfl
    · exact cut_snoc hn a _
theorem indexB_slash' (s : ByteArray) : Lib.indexB s slash = Lib.indexByte s.data.toList 47 := Lib.index_one _ _
theorem slashF_cut : ∀ (k : Nat) (s : ByteArray), s.size ≤ k → slashF s = partsR s
  | k, s, hk => by
    have hge := Lib.indexByte_ge s.data.toList 47
    by_cases h : Lib.indexByte s.data.toList 47 = -1
    · have h1 : slashF s = [s] := by
        unfold slashF
        exact Lib.splitB_miss _ _ _ _ (by rw [indexB_slash']; exact h)
      have h2 : ∀ c ∈ s.data.toList, c ≠ 47 := fun c hc e => by
        obtain ⟨i, hi, hh⟩ := List.getElem_of_mem hc
        exact Lib.indexByte_none h i (by rw [List.getElem?_eq_getElem hi, hh, e])
      rw [h1]
      unfold partsR cutF
      rw [cut_none h2, List.nil_append]
      rfl
    · obtain ⟨i, hi⟩ : ∃ i : Nat, Lib.indexByte s.data.toList 47 = i := ⟨(Lib.indexByte s.data.toList 47).toNat, by omega⟩
      obtain ⟨e1, e2⟩ := Lib.indexByte_some hi
      have hlt : i < s.data.toList.length := (List.getElem?_eq_some_iff.1 e1).1
      have hls : s.data.toList.length = s.size := by simp
      have hix : Lib.indexB s slash = (i : Int) := by rw [indexB_slash']; exact hi
      have hsplit : s.data.toList = s.data.toList.take i ++ 47 :: s.data.toList.drop (i + 1) := by
        have h47 : s.data.toList[i] = 47 := (List.getElem?_eq_some_iff.1 e1).2
        conv => lhs; rw [← List.take_append_drop i s.data.toList, List.drop_eq_getElem_cons hlt, h47]
      have hno : ∀ c ∈ s.data.toList.take i, c ≠ 47 := fun c hc e => by
        obtain ⟨j, hj, hh⟩ := List.getElem_of_mem hc
        rw [List.length_take] at hj
        rw [List.getElem_take] at hh
        exact e2 j (by omega) (by rw [List.getElem?_eq_getElem (by omega), hh, e])
      match k, hk with
      | 0, hk => omega
      | k + 1, hk =>
        have hrest : (s.extract (i + 1) s.size).size ≤ k := by rw [ByteArray.size_extract]; omega
        have ih := slashF_cut k _ hrest
        have e3 : slashF s = s.extract 0 i :: slashF (s.extract (i + 1) s.size) := by
          unfold slashF
          rw [Lib.countB_hit s slash i (by decide) hix, Nat.add_comm 1, Lib.splitB_hit _ _ _ _ i hix]
          rfl
        have hx0 : s.extract 0 i = mkP (s.data.toList.take i) := by
          rw [extract_part]
          simp
        have hx1 : (s.extract (i + 1) s.size).data.toList = s.data.toList.drop (i + 1) := by
          rw [extract_part]
          show ((s.data.toList.drop (i + 1)).take (s.size - (i + 1))).toArray.toList = _
          rw [List.toList_toArray]
          exact List.take_of_length_le (by rw [List.length_drop, hls]; exact Nat.le_refl _)
        rw [e3, ih, hx0]
        unfold partsR cutF
        rw [hx1]
        conv => rhs; rw [hsplit, cut_at hno, List.nil_append, List.map_cons]
end Go.Proofs.YtppeapafnnanbaaDoor
/- Layer 3, the document's answer: a text's parts; is a path clean. -/
namespace Go.Proofs.YtppeapafnnanbaaDoor
open Go.RowKit
set_option linter.unusedVariables false
set_option linter.unusedSimpArgs false

/-- where the cutting stands -/
def PartSt (s : ByteArray) (R acc : List (List UInt8)) (k fr : Nat) : Prop :=
  (k ≤ s.size → acc ++ cutGo slashP ((s.data.toList.drop fr).take (k - fr)) (s.data.toList.drop k) = R) ∧ (s.size < k → acc = R) ∧ fr ≤ k
theorem PartSt.last {s : ByteArray} {R acc : List (List UInt8)} {fr : Nat} (h : PartSt s R acc s.size fr) : PartSt s R (acc ++ [(s.data.toList.drop fr).take (s.size - fr)]) (s.size + 1) (s.size + 1) := by
  refine ⟨fun hh => by omega, fun _ => ?_, Nat.le_refl _⟩
  rw [← h.1 (Nat.le_refl _), List.drop_of_length_le (i := s.size) (by simp), cutGo]
theorem PartSt.cut {s : ByteArray} {R acc : List (List UInt8)} {k fr : Nat} (h : PartSt s R acc k fr) (hk : k < s.size) (h7 : s[k] = 47) : PartSt s R (acc ++ [(s.data.toList.drop fr).take (k - fr)]) (k + 1) (k + 1) := by
  refine ⟨fun hh => ?_, fun h1 => by omega, Nat.le_refl _⟩
  have e : s.data.toList.drop k = s[k] :: s.data.toList.drop (k + 1) := by
    rw [List.drop_eq_getElem_cons (by simpa using hk)]
    rfl
  rw [← h.1 (by omega), e, cutGo, if_pos (by rw [slashP_nat]; exact decide_eq_true h7), Nat.sub_self, List.take_zero, List.append_assoc]
  rfl
theorem PartSt.skip {s : ByteArray} {R acc : List (List UInt8)} {k fr : Nat} (h : PartSt s R acc k fr) (hk : k < s.size) (h7 : ¬ s[k] = 47) : PartSt s R acc (k + 1) fr := by
  refine ⟨fun hh => ?_, fun h1 => by omega, Nat.le_succ_of_le h.2.2⟩
  have e : s.data.toList.drop k = s[k] :: s.data.toList.drop (k + 1) := by
    rw [List.drop_eq_getElem_cons (by simpa using hk)]
    rfl
  have e2 : (s.data.toList.drop fr).take (k + 1 - fr) = (s.data.toList.drop fr).take (k - fr) ++ [s[k]] := by
    have h2 := h.2.2
    rw [show k + 1 - fr = (k - fr) + 1 by omega, List.take_succ_eq_append_getElem (by simp; omega)]
    congr 2
    simp only [List.getElem_drop]
    congr 1
    omega
  rw [← h.1 (by omega), e, cutGo, if_neg (by rw [slashP_nat, decide_eq_false h7]; simp), e2]

set_option maxRecDepth 100000 in
set_option maxHeartbeats 4000000 in
theorem parts_any (s : ByteArray) (w : World) (hs : s.size ≤ 1048576) :
    Calls Tryd.prog 71 #[.string s] w fun e w' => ∃ ad c, e = .returned (.slice ad (partsR s).length c) ∧ OwnT w' w.heap.size 9 (.slice ad (partsR s).length c) (partsR s) ∧ Below w.heap.size w w' := by
  have hlen := partsR_len s
  obtain ⟨R, hR⟩ : ∃ R, cutF slashP s.data.toList = R := ⟨_, rfl⟩
  have hPR : partsR s = R.map mkP := by unfold partsR; rw [hR]
  rw [hPR] at hlen ⊢
  rw [List.length_map] at hlen
  have HRL := Lib.hid hlen
  have HS := Lib.hid hs
  have H0 : Hid (PartSt s R [] 0 0) := Lib.hid ⟨fun _ => by rw [← hR]; rfl, fun h => by omega, Nat.le_refl _⟩
  clear hR hPR hlen hs
  go_enter Tryd.func71, Tryd.ntmps71
  go_wp2_with fail
  go_loopg [3, 4, 5] (s.size + 1) (fun g ov fv iv wr => ∃ (k fr n c : Nat) (acc : List (List UInt8)) (ad : Option Addr), k + g = s.size + 1 ∧ iv = .int .i64 (k : Int) ∧ fv = .int .i64 (fr : Int) ∧ ov = .slice ad n c ∧ Hid (n = (acc.map mkP).length) ∧ Hid (PartSt s R acc k fr) ∧ Hid (OwnT wr w.heap.size 9 (.slice ad n c) (acc.map mkP)) ∧ Hid (Below w.heap.size w wr))
  case atStart => exact ⟨0, 0, 0, 0, [], none, by omega, rfl, rfl, rfl, Lib.hid rfl, H0, Lib.hid (OwnT.nil _ _ _), Lib.hid (Below.refl _ _)⟩
  case round =>
    obtain ⟨k, fr, n, c, acc, ad, hk, rfl, rfl, rfl, HN, HP, HO, HB⟩ := hrel
    clear H0
    cases gk with
    | zero =>
      have t2 : ¬ k ≤ s.size := by omega
      have HE : Hid (acc = R) := Lib.hid (HP.out.2.1 (by omega))
      clear hk
      go_wp2_with fail
      go_ret
      have he := HE.out
      subst he
      have hn := HN.out
      subst hn
      exact ⟨ad, c, rfl, HO.out, HB.out⟩
    | succ g =>
      have hle : k ≤ s.size := by omega
      have HK := Lib.hid hk
      have HACC : Hid (acc.length + 1 ≤ s.size + 1 ∧ n = acc.length) := Lib.hid ⟨by
        have h1 := HP.out.1 hle
        have h2 := cutGo_pos slashP (s.data.toList.drop k) ((s.data.toList.drop fr).take (k - fr))
        have h3 := HRL.out
        rw [← h1, List.length_append] at h3
        omega, by rw [HN.out, List.length_map]⟩
      have K1 : Hid (n + 1 ≤ maxLen) := Lib.hid (by have := HACC.out; have := HS.out; unfold maxLen; omega)
      have K2 : Hid ((n + 1) * 16 ≤ 140737488355328) := Lib.hid (by have := HACC.out; have := HS.out; omega)
      have hwk : ∀ j : Nat, j ≤ 1048577 → wrap64 ((j : Int) + 1) = ((j + 1 : Nat) : Int) := fun j hj => by rw [IntWalk.wrap64_in _ ⟨by omega, by omega⟩]; omega
      have HWK : Hid (wrap64 ((k : Int) + 1) = ((k + 1 : Nat) : Int)) := Lib.hid (hwk k (by have := HS.out; omega))
      have hfk : fr ≤ k := HP.out.2.2
      have q0 : (0 : Int) ≤ (fr : Int) := by omega
      have q1 : (fr : Int) ≤ (k : Int) := by omega
      have q2 : (k : Int) ≤ (s.size : Int) := by omega
      have q3 : (0 : Int) ≤ (k : Int) := by omega
      have TR := Lib.hid (text_row wr (s.extract fr k) 9)
      have OA := Lib.hid (HO.out.allocT (.cells #[.string (s.extract fr k)] 9))
      have BA := Lib.hid (HB.out.alloc HB.out.size (.cells #[.string (s.extract fr k)] 9))
      have BAS : Hid (w.heap.size ≤ (wr.alloc (.cells #[.string (s.extract fr k)] 9)).heap.size) := Lib.hid BA.out.size
      clear hwk hk
      have HE1 : Hid (acc.map mkP ++ [s.extract fr k] = (acc ++ [(s.data.toList.drop fr).take (k - fr)]).map mkP) := Lib.hid (by
        rw [List.map_append, extract_part]
        rfl)
      by_cases hend : k = s.size
      · have tend : ((k : Int) == (s.size : Int)) = true := beq_iff_eq.2 (by omega)
        have HP2 : Hid (PartSt s R (acc ++ [(s.data.toList.drop fr).take (k - fr)]) (k + 1) (k + 1)) := Lib.hid (by
          have h := HP.out
          rw [hend] at h ⊢
          exact h.last)
        clear hend hle hfk
        go_wp2_with (at_builtin; go_loud (refine wpList_texts rfl (.tmp 22) (.tmp 27) texts_t text_info rfl w.heap.size w (.slice ad n c) (acc.map mkP) n (some ⟨wr.heap.size, 0, none⟩) 1 1 [s.extract fr k] rfl (by rfl) HN.out.symm rfl TR.out (fun h => by cases h) OA.out K1.out K2.out BA.out BAS.out ?_); intro v5 w5 hown5 hbe5; have O5 := Lib.hid hown5; have B5 := Lib.hid hbe5; clear hown5 hbe5)
        obtain ⟨ad5, c5, rfl⟩ := O5.out.form
        have o5 := O5.out
        rw [HE1.out] at o5
        have e2 : (acc.map mkP ++ [s.extract fr k]).length = ((acc ++ [(s.data.toList.drop fr).take (k - fr)]).map mkP).length := by rw [HE1.out]
        have O6 := Lib.hid o5
        rw [e2]
        clear o5 e2
        go_roundg g
        case measure => have := HK.out; omega
        case rel => exact ⟨k + 1, k + 1, _, c5, acc ++ [(s.data.toList.drop fr).take (k - fr)], ad5, by have := HK.out; omega, by rw [HWK.out], by rw [HWK.out], rfl, Lib.hid rfl, HP2, O6, B5⟩
      · have hlt : k < s.size := by omega
        have tend : ((k : Int) == (s.size : Int)) = false := beq_eq_false_iff_ne.2 (by omega)
        have q4 : (k : Int) < (s.size : Int) := by omega
        by_cases h7 : s[k] = 47
        · have hb7 : (((s[k]'hlt).toNat : Int) == 47) = true := by rw [toNat_slash]; exact decide_eq_true h7
          have HP2 : Hid (PartSt s R (acc ++ [(s.data.toList.drop fr).take (k - fr)]) (k + 1) (k + 1)) := Lib.hid (HP.out.cut hlt h7)
          clear hend hle hfk h7
          go_wp2_with (at_builtin; go_loud (refine wpList_texts rfl (.tmp 22) (.tmp 27) texts_t text_info rfl w.heap.size w (.slice ad n c) (acc.map mkP) n (some ⟨wr.heap.size, 0, none⟩) 1 1 [s.extract fr k] rfl (by rfl) HN.out.symm rfl TR.out (fun h => by cases h) OA.out K1.out K2.out BA.out BAS.out ?_); intro v5 w5 hown5 hbe5; have O5 := Lib.hid hown5; have B5 := Lib.hid hbe5; clear hown5 hbe5)
          obtain ⟨ad5, c5, rfl⟩ := O5.out.form
          have o5 := O5.out
          rw [HE1.out] at o5
          have e2 : (acc.map mkP ++ [s.extract fr k]).length = ((acc ++ [(s.data.toList.drop fr).take (k - fr)]).map mkP).length := by rw [HE1.out]
          have O6 := Lib.hid o5
          rw [e2]
          clear o5 e2
          go_roundg g
          case measure => have := HK.out; omega
          case rel => exact ⟨k + 1, k + 1, _, c5, acc ++ [(s.data.toList.drop fr).take (k - fr)], ad5, by have := HK.out; omega, by rw [HWK.out], by rw [HWK.out], rfl, Lib.hid rfl, HP2, O6, B5⟩
        · have hb7 : (((s[k]'hlt).toNat : Int) == 47) = false := by rw [toNat_slash]; exact decide_eq_false h7
          have HP2 : Hid (PartSt s R acc (k + 1) fr) := Lib.hid (HP.out.skip hlt h7)
          clear hend hle hfk h7
          go_wp2_with fail
          go_roundg g
          case measure => have := HK.out; omega
          case rel => exact ⟨k + 1, fr, n, c, acc, ad, by have := HK.out; omega, by rw [HWK.out], rfl, rfl, HN, HP2, HO, HB⟩
end Go.Proofs.YtppeapafnnanbaaDoor
/- Layer 3, the document's answer: is a path clean; where a path's node stands; is it a directory; which file's node it is. -/
namespace Go.Proofs.YtppeapafnnanbaaDoor
open Go.RowKit
set_option linter.unusedVariables false
set_option linter.unusedSimpArgs false

theorem partGo_mem (p : Nat → Bool) : ∀ (r cur x : List UInt8), x ∈ cutGo p cur r → x.length ≤ cur.length + r.length
  | [], cur, x, h => by
    have : x = cur := by simpa [cutGo] using h
    subst this
    exact Nat.le_add_right _ _
  | c :: r, cur, x, h => by
    rw [cutGo] at h
    split at h
    · rcases List.mem_cons.1 h with h1 | h1
      · subst h1; exact Nat.le_add_right _ _
      · have := partGo_mem p r [] x h1
        simp only [List.length_nil, List.length_cons] at *
        omega
    · have := partGo_mem p r (cur ++ [c]) x h
      simp only [List.length_append, List.length_cons, List.length_nil] at *
      omega
theorem partsR_mem {s x : ByteArray} (h : x ∈ partsR s) : x.size ≤ s.size := by
  unfold partsR cutF at h
  obtain ⟨l, hl, rfl⟩ := List.mem_map.1 h
  have := partGo_mem slashP _ _ l hl
  have e : (mkP l).size = l.length := by show l.toArray.size = _; simp
  rw [e]
  simpa using this
/-- is a path clean? -/
def cleanR (s : ByteArray) : Bool := isPathR s && ((partsR s).drop 1).all nameR
theorem cleanR_size {s : ByteArray} (h : cleanR s = true) : 1 ≤ s.size ∧ s.size ≤ 4096 := by
  unfold cleanR isPathR at h
  simp only [Bool.and_eq_true] at h
  exact within_size h.1.1

set_option maxRecDepth 100000 in
set_option maxHeartbeats 4000000 in
theorem rclean_any (s : ByteArray) (w : World) (hs : s.size ≤ 140737488355328) :
    Calls Tryd.prog 53 #[.string s] w fun e w' => e = .returned (.bool (cleanR s)) ∧ Below w.heap.size w w' := by
  have HI := Lib.hid (isPath_any s w hs)
  cases hp : isPathR s with
  | false =>
    have hF : cleanR s = false := by unfold cleanR; rw [hp]; rfl
    rw [hF]
    rw [hp] at HI
    clear hF hp hs
    go_enter Tryd.func53, Tryd.ntmps53
    go_wp2_with fail
    refine HI.out.mono ?_
    rintro e w' ⟨rfl, rfl⟩
    go_wp2_with fail
    go_ret
    exact ⟨rfl, Below.refl _ _⟩
  | true =>
    have hsz : s.size ≤ 4096 := by
      unfold isPathR at hp
      simp only [Bool.and_eq_true] at hp
      exact (within_size hp.1).2
    obtain ⟨R, hR⟩ : ∃ R, cleanR s = R := ⟨_, rfl⟩
    have HR0 : Hid (((partsR s).drop 1).all nameR = R) := Lib.hid (by rw [← hR]; unfold cleanR; rw [hp]; rfl)
    have HPA := Lib.hid (parts_any s w (by omega))
    have HPM : Hid (∀ x ∈ partsR s, x.size ≤ 4096) := Lib.hid (fun x hx => Nat.le_trans (partsR_mem hx) hsz)
    have HLN : Hid ((partsR s).length ≤ 4097 ∧ 1 ≤ (partsR s).length) := Lib.hid ⟨by have := partsR_len s; omega, by unfold partsR cutF; rw [List.length_map]; exact cutGo_pos _ _ _⟩
    rw [hR]
    rw [hp] at HI
    generalize partsR s = L at *
    obtain ⟨n, hn⟩ : ∃ n, L.length = n := ⟨_, rfl⟩
    have HN := Lib.hid hn
    rw [hn] at HPA HLN
    clear hR hp hsz hs hn
    go_enter Tryd.func53, Tryd.ntmps53
    go_wp2_with fail
    refine HI.out.mono ?_
    rintro e w' ⟨rfl, rfl⟩
    go_wp2_with fail
    refine HPA.out.mono ?_
    rintro e w2 ⟨ad, c, rfl, ho, hb⟩
    have HB := Lib.hid hb
    have HTR := Lib.hid ho.row.1
    clear hb ho HI HPA
    go_wp2_with fail
    go_loopg [5] (n - 1) (fun g iv wr => ∃ k : Nat, k + g = n ∧ 1 ≤ k ∧ iv = .int .i64 (k : Int) ∧ Hid ((L.drop k).all nameR = R) ∧ w2 = wr)
    case atStart => exact ⟨1, by have := HLN.out; omega, Nat.le_refl _, rfl, HR0, rfl⟩
    case round =>
      obtain ⟨k, hk, hk1, rfl, HG, rfl⟩ := hrel
      clear HR0
      cases gk with
      | zero =>
        have hkn : k = n := by omega
        subst hkn
        have hR : Hid (R = true) := Lib.hid (by rw [← HG.out, List.drop_of_length_le (by rw [HN.out]; exact Nat.le_refl _)]; rfl)
        clear hk
        go_wp2_with fail
        go_ret
        rw [hR.out]
        exact ⟨rfl, HB.out⟩
      | succ g =>
        have hlt : k < n := by omega
        have hkL : k < L.length := by rw [HN.out]; exact hlt
        obtain ⟨b1, o1, rfl, hbl, p0⟩ := HTR.out k hkL
        have HD : Hid ((L.drop k).all nameR = (nameR L[k] && (L.drop (k + 1)).all nameR)) := Lib.hid (by rw [List.drop_eq_getElem_cons hkL, List.all_cons])
        have hg : L.getD k .empty = L[k] := by simp [List.getD, hkL]
        rw [hg] at p0
        have HRN := Lib.hid (rname_any L[k] w2 (by have := HPM.out L[k] (List.getElem_mem hkL); omega))
        have HK := Lib.hid hk
        generalize L[k] = x at *
        clear hg hkL hk
        go_wp2_with fail
        refine HRN.out.mono ?_
        rintro e w' ⟨rfl, rfl⟩
        cases hx : nameR x with
        | false =>
          have hR : Hid (R = false) := Lib.hid (by rw [← HG.out, HD.out, hx]; rfl)
          clear hx
          go_wp2_with fail
          go_ret
          rw [hR.out]
          exact ⟨rfl, HB.out⟩
        | true =>
          have hR : Hid ((L.drop (k + 1)).all nameR = R) := Lib.hid (by rw [← HG.out, HD.out, hx]; rfl)
          clear hx
          go_wp2_with fail
          go_roundg g
          case measure => have := HK.out; omega
          case rel => exact ⟨k + 1, by have := HK.out; omega, by omega, by have := HLN.out; rw [IntWalk.wrap64_in _ ⟨by omega, by omega⟩]; rfl, hR, rfl⟩

/-- the document's tree in memory -/
structure RefAt (w : World) (tb : Nat) (a : Option Addr) (c : Nat) (L : List Nd) : Prop where
  box : w.heap[tb]? = some (.cells #[.slice a L.length c] 87)
  row : NdRow w a L
  many : L.length ≤ 1024
theorem RefAt.below {w w' : World} {tb c : Nat} {a : Option Addr} {L : List Nd} (h : RefAt w tb a c L) (hb : Below w.heap.size w w') : RefAt w' tb a c L :=
  ⟨(hb.block _ (lt_of_block h.box)).trans h.box, h.row.below hb, h.many⟩
/-- where a path's node stands -/
def idxR (L : List Nd) (p : ByteArray) : Nat := L.findIdx (fun n => decide (n.path = p))
def findR (L : List Nd) (p : ByteArray) : Int := if idxR L p < L.length then (idxR L p : Int) else -1
theorem idxR_at {L : List Nd} {p : ByteArray} {k : Nat} (hk : k < L.length) (h : L[k].path = p) (hj : ∀ j, (h : j < L.length) → j < k → L[j].path ≠ p) : idxR L p = k := by
  unfold idxR
  rw [List.findIdx_eq hk]
  exact ⟨decide_eq_true h, fun j hjk => decide_eq_false (hj j (by omega) hjk)⟩
theorem idxR_none {L : List Nd} {p : ByteArray} (hj : ∀ j, (h : j < L.length) → L[j].path ≠ p) : ¬ idxR L p < L.length := by
  unfold idxR
  intro h
  have := List.findIdx_getElem (w := h)
  exact hj _ h (by simpa using this)

set_option maxRecDepth 100000 in
set_option maxHeartbeats 4000000 in
theorem rfind_any (tb c : Nat) (a : Option Addr) (L : List Nd) (p : ByteArray) (w : World) (h : RefAt w tb a c L) :
    Calls Tryd.prog 55 #[.pointer (some ⟨tb, 0, none⟩), .string p] w fun e w' => e = .returned (.int .i64 (findR L p)) ∧ Below w.heap.size w w' := by
  obtain ⟨R, hR⟩ : ∃ R, findR L p = R := ⟨_, rfl⟩
  obtain ⟨n, hn⟩ : ∃ n, L.length = n := ⟨_, rfl⟩
  have HN := Lib.hid hn
  have HAT : Hid (∀ k, (hk : k < L.length) → L[k].path = p → (∀ j, (h : j < L.length) → j < k → L[j].path ≠ p) → R = (k : Int)) := Lib.hid (fun k hk h1 h2 => by rw [← hR]; unfold findR; rw [idxR_at hk h1 h2, if_pos hk])
  have HNO : Hid ((∀ j, (h : j < L.length) → L[j].path ≠ p) → R = -1) := Lib.hid (fun h => by rw [← hR]; unfold findR; rw [if_neg (idxR_none h)])
  have HT : Hid (∀ wx, Below w.heap.size w wx → wx.cell? ⟨tb, 0, none⟩ = some (.slice a n c)) := Lib.hid (fun wx hb => by
    have := cell_of_row _ _ 0 _ _ _ (h.below hb).box
    rw [hn] at this
    simpa using this)
  have HRW : Hid (∀ wx, Below w.heap.size w wx → NdRow wx a L) := Lib.hid (fun wx hb => h.row.below hb)
  have HM : Hid (n ≤ 1024) := Lib.hid (by have := h.many; omega)
  rw [hR]
  clear hR hn h
  go_enter Tryd.func55, Tryd.ntmps55
  go_wp2_with fail
  go_loopg [5] n (fun g iv wr => ∃ k : Nat, k + g = n ∧ iv = .int .i64 (k : Int) ∧ Hid (∀ j, (h : j < L.length) → j < k → L[j].path ≠ p) ∧ Hid (Below w.heap.size w wr))
  case atStart => exact ⟨0, by omega, rfl, Lib.hid (fun j _ h => by omega), Lib.hid (Below.refl _ _)⟩
  case round =>
    obtain ⟨k, hk, rfl, HJ, HB⟩ := hrel
    have ht := HT.out wr HB.out
    cases gk with
    | zero =>
      have hkn : k = n := by omega
      have hE : Hid (R = -1) := Lib.hid (HNO.out (fun j h => HJ.out j h (by have := HN.out; omega)))
      subst hkn
      clear hk
      go_wp2_with fail
      go_ret
      rw [hE.out]
      exact ⟨rfl, HB.out⟩
    | succ g =>
      have hlt : k < n := by omega
      have hkL : k < L.length := by rw [HN.out]; exact hlt
      obtain ⟨b, o, rfl, hbl, hcs⟩ := HRW.out wr HB.out k hkL
      obtain ⟨q, hq⟩ : ∃ q, (L[k]'hkL).path = q := ⟨_, rfl⟩
      have c0 : wr.cell? ⟨b, o + k * 5, none⟩ = some (.string q) := by rw [← hq]; exact hcs 0 (by omega)
      have HK := Lib.hid hk
      have HQ := Lib.hid hq
      by_cases hx : q = p
      · have hE : Hid (R = (k : Int)) := Lib.hid (HAT.out k hkL (hq.trans hx) HJ.out)
        clear hq
        subst hx
        clear hcs hk hkL HQ
        go_wp2_with fail
        go_ret
        rw [hE.out]
        exact ⟨rfl, HB.out⟩
      · have HJ2 : Hid (∀ j, (h : j < L.length) → j < k + 1 → L[j].path ≠ p) := Lib.hid (fun j h hj => by
          by_cases hjk : j < k
          · exact HJ.out j h hjk
          · obtain rfl : j = k := by omega
            rw [HQ.out]
            exact hx)
        have hne := text_ne hx
        clear hcs hx hk hkL hq HQ
        go_wp2_with fail
        go_roundg g
        case measure => have := HK.out; omega
        case rel => exact ⟨k + 1, by have := HK.out; omega, by have := HM.out; rw [IntWalk.wrap64_in _ ⟨by omega, by omega⟩]; rfl, HJ2, HB⟩
end Go.Proofs.YtppeapafnnanbaaDoor
/- Layer 3, the document's answer: is a path a directory's; which file's node a node is. -/
namespace Go.Proofs.YtppeapafnnanbaaDoor
open Go.RowKit
set_option linter.unusedVariables false
set_option linter.unusedSimpArgs false

theorem findR_lt {L : List Nd} {p : ByteArray} (h : 0 ≤ findR L p) : idxR L p < L.length ∧ findR L p = (idxR L p : Int) := by
  unfold findR at *
  split
  · rename_i hh; exact ⟨hh, rfl⟩
  · rename_i hh; rw [if_neg hh] at h; omega
theorem findR_ge (L : List Nd) (p : ByteArray) : -1 ≤ findR L p ∧ findR L p ≤ L.length := by
  unfold findR
  split <;> omega
/-- is a clean path, or the root, a directory's? Is it there? -/
def dirR (L : List Nd) (p : ByteArray) : Bool × Bool :=
  if p = slash then (true, true) else if h : idxR L p < L.length then (decide (L[idxR L p].kind = 1), true) else (false, false)

set_option maxRecDepth 100000 in
set_option maxHeartbeats 4000000 in
theorem rdir_any (tb c : Nat) (a : Option Addr) (L : List Nd) (p : ByteArray) (w : World) (h : RefAt w tb a c L) :
    Calls Tryd.prog 56 #[.pointer (some ⟨tb, 0, none⟩), .string p] w fun e w' => e = .returned (.tuple #[.bool (dirR L p).1, .bool (dirR L p).2]) ∧ Below w.heap.size w w' := by
  by_cases hs : p = slash
  · have hR : dirR L p = (true, true) := by unfold dirR; rw [if_pos hs]
    rw [hR]
    subst hs
    unfold slash
    clear hR h
    go_enter Tryd.func56, Tryd.ntmps56
    go_wp2_with fail
    go_ret2
    exact ⟨rfl, Below.refl _ _⟩
  have hne : (p.toList == [47]) = false := by
    have := text_ne hs
    rwa [show slash.toList = [47] from slash_list] at this
  have HF := Lib.hid (rfind_any tb c a L p w h)
  by_cases hi : idxR L p < L.length
  · have hR : dirR L p = (decide (L[idxR L p].kind = 1), true) := by unfold dirR; rw [if_neg hs, dif_pos hi]
    have hfi : findR L p = (idxR L p : Int) := by unfold findR; rw [if_pos hi]
    rw [hfi] at HF
    rw [hR]
    have HR := Lib.hid h.row
    have HM := Lib.hid h.many
    have HBX := Lib.hid h.box
    obtain ⟨n, hn⟩ : ∃ n, L.length = n := ⟨_, rfl⟩
    rw [hn] at HM HBX
    obtain ⟨k, hk⟩ : ∃ k, idxR L p = k := ⟨_, rfl⟩
    have hkL : k < L.length := by rw [← hk]; exact hi
    obtain ⟨q, hq⟩ : ∃ q, (L[k]'hkL).kind = q := ⟨_, rfl⟩
    have hqq : L[idxR L p].kind = q := by subst hk; exact hq
    rw [hqq]
    rw [hk] at HF
    obtain ⟨R, hRR⟩ : ∃ R, decide (q = 1) = R := ⟨_, rfl⟩
    rw [hRR]
    have hd : (q == 1) = R := by rw [← hRR, Bool.eq_iff_iff, beq_iff_eq, decide_eq_true_eq]
    have HD := Lib.hid hd
    clear hRR hd
    have hlt : k < n := by omega
    have HKL := Lib.hid hkL
    have HQ := Lib.hid hq
    clear hR hfi hs h hi hk hqq hq hn
    go_enter Tryd.func56, Tryd.ntmps56
    go_wp2_with fail
    refine HF.out.mono ?_
    rintro e w2 ⟨rfl, hb2⟩
    have B2 := Lib.hid hb2
    obtain ⟨b, o, rfl, hbl, hcs⟩ := (HR.out.below hb2) k HKL.out
    have c1 : w2.cell? ⟨b, o + k * 5 + 1, none⟩ = some (.int .i64 q) := by rw [← HQ.out]; exact hcs 1 (by omega)
    have t0 : w2.cell? ⟨tb, 0, none⟩ = some (.slice (some ⟨b, o, none⟩) n c) := by
      have := cell_of_row _ _ 0 _ _ _ ((hb2.block _ (lt_of_block HBX.out)).trans HBX.out)
      simpa using this
    clear hb2 hcs
    have hd := HD.out
    have tk : decide ((k : Int) < 0) = false := decide_eq_false (by omega)
    go_wp2_with fail
    go_ret2
    exact ⟨rfl, B2.out⟩
  · have hR : dirR L p = (false, false) := by unfold dirR; rw [if_neg hs, dif_neg hi]
    have hfi : findR L p = -1 := by unfold findR; rw [if_neg hi]
    rw [hfi] at HF
    rw [hR]
    clear hR hfi hs h hi
    go_enter Tryd.func56, Tryd.ntmps56
    go_wp2_with fail
    refine HF.out.mono ?_
    rintro e w2 ⟨rfl, hb2⟩
    have B2 := Lib.hid hb2
    clear hb2
    go_wp2_with fail
    go_ret2
    exact ⟨rfl, B2.out⟩

/-- which file's node a node is; -1: none -/
def fileR (L : List Nd) : Nat → Nat → Int
  | 0, _ => -1
  | f + 1, i => if h : i < L.length then (if L[i].kind = 3 then fileR L f (idxR L L[i].tgt) else if L[i].kind = 0 then (i : Int) else -1) else -1
/-- each further name stands behind what it names -/
def HardOk (L : List Nd) : Prop := ∀ i, (h : i < L.length) → L[i].kind = 3 → idxR L L[i].tgt < i
theorem fileR_fuel {L : List Nd} (hL : HardOk L) : ∀ (f g i : Nat), i < f → i < g → fileR L f i = fileR L g i
  | 0, g, i, hf, hg => by omega
  | f + 1, 0, i, hf, hg => by omega
  | f + 1, g + 1, i, hf, hg => by
    unfold fileR
    split
    · rename_i h
      split
      · rename_i h3
        have := hL i h h3
        exact fileR_fuel hL f g _ (by omega) (by omega)
      · rfl
    · rfl

set_option maxRecDepth 100000 in
set_option maxHeartbeats 4000000 in
theorem rfile_any (tb c : Nat) (a : Option Addr) (L : List Nd) (i : Nat) (w : World) (h : RefAt w tb a c L) (hH : HardOk L) (hi : i < L.length) :
    Calls Tryd.prog 58 #[.pointer (some ⟨tb, 0, none⟩), .int .i64 (i : Int)] w fun e w' => e = .returned (.int .i64 (fileR L (i + 1) i)) ∧ Below w.heap.size w w' := by
  obtain ⟨R, hR⟩ : ∃ R, fileR L (i + 1) i = R := ⟨_, rfl⟩
  obtain ⟨n, hn⟩ : ∃ n, L.length = n := ⟨_, rfl⟩
  have HN := Lib.hid hn
  have HHO := Lib.hid hH
  have HT : Hid (∀ wx, Below w.heap.size w wx → wx.cell? ⟨tb, 0, none⟩ = some (.slice a n c)) := Lib.hid (fun wx hb => by
    have := cell_of_row _ _ 0 _ _ _ (h.below hb).box
    rw [hn] at this
    simpa using this)
  have HRW : Hid (∀ wx, Below w.heap.size w wx → RefAt wx tb a c L) := Lib.hid (fun wx hb => h.below hb)
  have HM : Hid (n ≤ 1024) := Lib.hid (by have := h.many; omega)
  have HI0 : Hid (fileR L (i + 1) i = R ∧ i < L.length) := Lib.hid ⟨hR, hi⟩
  rw [hR]
  clear hR hn h hH hi
  go_enter Tryd.func58, Tryd.ntmps58
  go_wp2_with fail
  go_loopg [1] (i + 1) (fun g iv wr => ∃ k : Nat, k + 1 ≤ g ∧ iv = .int .i64 (k : Int) ∧ Hid (fileR L (k + 1) k = R ∧ k < L.length) ∧ Hid (Below w.heap.size w wr))
  case atStart => exact ⟨i, Nat.le_refl _, rfl, HI0, Lib.hid (Below.refl _ _)⟩
  case round =>
    obtain ⟨k, hk, rfl, HK, HB⟩ := hrel
    have ht := HT.out wr HB.out
    obtain ⟨g, rfl⟩ : ∃ g, gk = g + 1 := ⟨gk - 1, by omega⟩
    have hkL : k < L.length := HK.out.2
    have hlt : k < n := by rw [← HN.out]; exact hkL
    obtain ⟨nd, hnd⟩ : ∃ nd, (L[k]'hkL) = nd := ⟨_, rfl⟩
    obtain ⟨b, o, rfl, hbl, hcs⟩ := (HRW.out wr HB.out).row k hkL
    rw [hnd] at hcs
    have c1 : wr.cell? ⟨b, o + k * 5 + 1, none⟩ = some (.int .i64 nd.kind) := hcs 1 (by omega)
    have c3 : wr.cell? ⟨b, o + k * 5 + 3, none⟩ = some (.string nd.tgt) := hcs 3 (by omega)
    have HKK := Lib.hid hk
    have hst : R = if nd.kind = 3 then fileR L k (idxR L nd.tgt) else if nd.kind = 0 then (k : Int) else -1 := by
      rw [← HK.out.1, fileR, dif_pos hkL, hnd]
    by_cases h3 : nd.kind = 3
    · have hid : idxR L nd.tgt < k := by
        have := HHO.out k hkL (by rw [hnd]; exact h3)
        rw [hnd] at this
        exact this
      have hfi : findR L nd.tgt = (idxR L nd.tgt : Int) := by unfold findR; rw [if_pos (by omega)]
      have HF := Lib.hid (rfind_any tb c (some ⟨b, o, none⟩) L nd.tgt wr (HRW.out wr HB.out))
      rw [hfi] at HF
      rw [if_pos h3] at hst
      have HNX : Hid (fileR L (idxR L nd.tgt + 1) (idxR L nd.tgt) = R ∧ idxR L nd.tgt < L.length) := Lib.hid ⟨by rw [hst]; exact fileR_fuel HHO.out _ _ _ (by omega) hid, by omega⟩
      have HID := Lib.hid hid
      rw [h3] at c1
      generalize idxR L nd.tgt = j at *
      generalize nd.tgt = q at *
      clear hst hfi hid h3 hcs hnd hk hkL
      go_wp2_with fail
      refine HF.out.mono ?_
      rintro e w2 ⟨rfl, hb2⟩
      have B2 := Lib.hid (bstep HB.out hb2)
      clear hb2
      go_wp2_with fail
      go_roundg g
      case measure => omega
      case rel => exact ⟨j, by have := HID.out; have := HKK.out; omega, rfl, HNX, B2⟩
    · rw [if_neg h3] at hst
      have t3 : (nd.kind == 3) = false := beq_eq_false_iff_ne.2 h3
      by_cases h0 : nd.kind = 0
      · rw [if_pos h0] at hst
        have HE := Lib.hid hst
        rw [h0] at c1
        clear hst h3 hcs hnd hk hkL t3 h0 c3
        go_wp2_with fail
        go_ret
        rw [HE.out]
        exact ⟨rfl, HB.out⟩
      · rw [if_neg h0] at hst
        have HE := Lib.hid hst
        have t0 : (nd.kind == 0) = false := beq_eq_false_iff_ne.2 h0
        generalize nd.kind = q at *
        clear hst h3 hcs hnd hk hkL h0 c3
        go_wp2_with fail
        go_ret
        rw [HE.out]
        exact ⟨rfl, HB.out⟩
end Go.Proofs.YtppeapafnnanbaaDoor
