/- Layer 6: the strings and symbols of a file: what they are, as lists; a string, the program's answer and the document's. -/
import Derived.Test.YtnaejlfjlennhaaGreatDoorAdd64
import Derived.Test.YtnaejlfjlennhaaGreatDoorDynSlice
import Derived.Test.YtnaejlfjlennhaaGreatDoorDyn
import Derived.Test.YtnaejlfjlennhaaGreatDoorBase
import Derived.Laws.BitsAllLaws
import Derived.Test.YtnaejlfjlennhaaGreatDoorBox
import Derived.Laws.AppendOwnNone
import Derived.OwnWalk
import Derived.Maps.OwnSet
import Derived.Deep.RegionHeld3
import Derived.Deep.QuietTactic
import Derived.BigQuiet
namespace Go.Proofs.YtnaejlfjlennhaaGreatDoor
open Go.RowKit
set_option linter.unusedVariables false
set_option linter.unusedSimpArgs false

/-- the text at a place; an error's number behind -/
def textF (s : List Nat) (off : Nat) : ByteArray × Nat :=
  if off < s.length then
    (if Lib.indexByte (Lib.bytesOf ((toI s).drop off)) 0 < 0 then (⟨#[]⟩, 4)
    else if 255 < Lib.indexByte (Lib.bytesOf ((toI s).drop off)) 0 then (⟨#[]⟩, 2)
    else (⟨(Lib.bytesOf (cutOf (toI s) off (Lib.indexByte (Lib.bytesOf ((toI s).drop off)) 0).toNat)).toArray⟩, 0))
  else (⟨#[]⟩, 4)
theorem textF_code (s : List Nat) (off : Nat) : (textF s off).2 = 0 ∨ textF s off = (⟨#[]⟩, 4) ∨ textF s off = (⟨#[]⟩, 2) := by
  unfold textF
  split
  · split
    · right; left; rfl
    · split
      · right; right; rfl
      · left; rfl
  · right; left; rfl
theorem toI_bytes {s : List Nat} (h : ∀ b ∈ s, b < 256) : Bytes (toI s) := by
  intro x hx
  obtain ⟨y, hy, rfl⟩ := List.mem_map.1 hx
  have := h y hy
  omega
theorem indexByte_cases (l : List UInt8) : Lib.indexByte l 0 = -1 ∨ ∃ k : Nat, Lib.indexByte l 0 = (k : Int) := by
  by_cases h : Lib.indexByte l 0 < 0
  · left
    have := Lib.indexByte_ge l 0
    omega
  · right
    exact ⟨(Lib.indexByte l 0).toNat, by omega⟩

theorem symText_any (a : Option Addr) (cap : Nat) (s : List Nat) (off : Nat) (w : World) (h : BRow w a s) (hl : s.length ≤ 140737488351232) (hc : s.length ≤ cap) (ho : off < 18446744073709551616) :
    Calls Tryz.prog 58 #[.slice a s.length cap, .int .u64 off] w fun e w' => e = .returned (.tuple #[.string (textF s off).1, errV ((textF s off).2 : Int)]) ∧ w = w' := by
  have hb := toI_bytes h.2
  have hlen := toI_length s
  unfold textF
  by_cases h1 : off < s.length
  · rw [if_pos h1]
    rcases indexByte_cases (Lib.bytesOf ((toI s).drop off)) with hk | ⟨k, hk⟩
    · rw [hk, if_pos (by omega)]
      have := symText_open a cap (toI s) off w h.1 hb (by omega) (by omega) ho (by omega) hk
      rw [hlen] at this
      exact this
    · rw [hk, if_neg (by omega)]
      by_cases h3 : 255 < k
      · rw [if_pos (by omega)]
        have := symText_long a cap (toI s) off w h.1 hb (by omega) (by omega) ho (by omega) k hk h3
        rw [hlen] at this
        exact this
      · rw [if_neg (by omega)]
        have := symText_yes a cap (toI s) off w h.1 hb (by omega) (by omega) ho (by omega) k hk (by omega)
        rw [hlen] at this
        exact this
  · rw [if_neg h1]
    exact symText_range a cap s.length off w hl ho h1




























/-- is a symbol's type one that may be? -/
def typedB (k : Nat) : Bool := k == 0 || k == 1 || k == 2 || k == 3 || k == 4 || k == 6 || k == 10

theorem typed_any (k : Nat) (w : World) (h : k < 16) : Calls Tryz.prog 89 #[.int .i64 (k : Int)] w fun e w' => e = .returned (.bool (typedB k)) ∧ w = w' := by
  have hk : k = 0 ∨ k = 1 ∨ k = 2 ∨ k = 3 ∨ k = 4 ∨ k = 5 ∨ k = 6 ∨ k = 7 ∨ k = 8 ∨ k = 9 ∨ k = 10 ∨ k = 11 ∨ k = 12 ∨ k = 13 ∨ k = 14 ∨ k = 15 := by omega
  clear h
  rcases hk with rfl | rfl | rfl | rfl | rfl | rfl | rfl | rfl | rfl | rfl | rfl | rfl | rfl | rfl | rfl | rfl
  all_goals
    go_enter Tryz.func89, Tryz.ntmps89
    go_wp2
    go_ret
    exact ⟨rfl, rfl⟩


/-- a symbol without a name, and without anything else -/
def symZero : List Value := [.string .empty, .int .i64 0, .int .i64 0, .int .i64 0, .int .i64 0, .int .u64 0, .int .u64 0]
/-- what 24 bytes tell of a symbol whose name is known -/
def symCells (nm : ByteArray) (bs : List Nat) : List Value :=
  [.string nm, .int .i64 ((bs.getD 4 0 / 16 : Nat) : Int), .int .i64 ((bs.getD 4 0 % 16 : Nat) : Int), .int .i64 ((bs.getD 5 0 % 4 : Nat) : Int),
    .int .i64 ((numOf ((bs.drop 6).take 2) : Nat) : Int), .int .u64 ((numOf ((bs.drop 8).take 8) : Nat) : Int), .int .u64 ((numOf ((bs.drop 16).take 8) : Nat) : Int)]
/-- is what they tell one that may be? -/
def symOk (bs : List Nat) : Bool := decide (bs.getD 4 0 / 16 ≤ 2) && typedB (bs.getD 4 0 % 16)
/-- the symbol that 24 bytes tell; an error's number behind -/
def symF (s bs : List Nat) : List Value × Nat :=
  if (textF s (numOf (bs.take 4))).2 = 0 then (if symOk bs then (symCells (textF s (numOf (bs.take 4))).1 bs, 0) else (symZero, 3)) else (symZero, (textF s (numOf (bs.take 4))).2)
end Go.Proofs.YtnaejlfjlennhaaGreatDoor
/- Layer 6: the table of strings of a file: the program's answer. -/
namespace Go.Proofs.YtnaejlfjlennhaaGreatDoor
open Go.RowKit
set_option linter.unusedVariables false
set_option linter.unusedSimpArgs false

/-- the table of strings; an error's number behind -/
def strF (bs : List Nat) (ps : List PT) (at_ size : Nat) : List Nat × Nat :=
  if 1048576 < size then ([], 2) else if (sliceF bs ps at_ size).2 ≠ 0 then ([], (sliceF bs ps at_ size).2)
  else if size = 0 ∨ (sliceF bs ps at_ size).1.getD 0 0 ≠ 0 ∨ (sliceF bs ps at_ size).1.getD (size - 1) 0 ≠ 0 then ([], 3) else ((sliceF bs ps at_ size).1, 0)
theorem strF_len {bs : List Nat} {ps : List PT} {at_ size : Nat} (h : (strF bs ps at_ size).2 = 0) : (strF bs ps at_ size).1.length = size ∧ strF bs ps at_ size = ((sliceF bs ps at_ size).1, 0) ∧ (sliceF bs ps at_ size).2 = 0 := by
  unfold strF at h ⊢
  split at h
  · simp at h
  · split at h
    · rename_i h2; exact absurd h h2
    · split at h
      · simp at h
      · rename_i h1 h2 h3
        rw [if_neg h1, if_neg h2, if_neg h3]
        have h2' : (sliceF bs ps at_ size).2 = 0 := by simpa using h2
        refine ⟨?_, rfl, h2'⟩
        unfold sliceF at h2' ⊢
        split
        · rename_i h4
          simp; omega
        · rename_i h4
          rw [if_neg h4] at h2'
          simp at h2'
theorem strF_code (bs : List Nat) (ps : List PT) (at_ size : Nat) : (strF bs ps at_ size).2 = 0 ∨ strF bs ps at_ size = ([], 2) ∨ strF bs ps at_ size = ([], 3) ∨ strF bs ps at_ size = ([], 4) := by
  unfold strF
  split
  · right; left; rfl
  · split
    · unfold sliceF at *
      split
      · rename_i h1 h2 h3; rw [if_pos h3] at h2; exact absurd rfl h2
      · right; right; right; rfl
    · split
      · right; right; left; rfl
      · left; rfl
theorem sliceF_alt (bs : List Nat) (ps : List PT) (at_ size : Nat) : (∃ s, sliceF bs ps at_ size = (s, 0) ∧ s.length = size ∧ ∀ b ∈ s, b ∈ bs) ∨ sliceF bs ps at_ size = ([], 4) := by
  unfold sliceF
  split
  · left
    rename_i h
    exact ⟨_, rfl, by simp; omega, fun b hb => List.mem_of_mem_drop (List.mem_of_mem_take hb)⟩
  · right; rfl

set_option maxRecDepth 100000 in
set_option maxHeartbeats 4000000 in
theorem strings_any (a : Option Addr) (cap : Nat) (bs : List Nat) (ty en : Int) (p : Option Addr) (pc : Nat) (ps : List PT) (d : DT) (w : World) (hb : BRow w a bs) (hbl : bs.length ≤ 140737488351232) (hbc : bs.length ≤ cap) (hbn : a = none → bs.length = 0 ∧ cap = 0)
    (h : PRow w p ps) (hl : ps.length ≤ 140737488351232) (ha : d.strtab < 18446744073709551616) (hs : d.strsz < 18446744073709551616) :
    Calls Tryz.prog 54 #[.slice a bs.length cap, headV ty en p ps.length pc, .agg d.cells] w fun e w' => ∃ ad c, e = .returned (.tuple #[.slice ad (strF bs ps d.strtab d.strsz).1.length c, errV ((strF bs ps d.strtab d.strsz).2 : Int)]) ∧
      OwnI w' w.heap.size 5 .u8 (.slice ad (strF bs ps d.strtab d.strsz).1.length c) (toI (strF bs ps d.strtab d.strsz).1) ∧ Below w.heap.size w w' := by
  have HSL := Lib.hid (fun (w1 : World) (hb1 : Below w.heap.size w w1) => slice_any a cap bs ty en p pc ps d.strtab d.strsz w1 (hb.below hb1) hbl hbc hbn (h.below hb1) hl ha hs)
  have HBB := Lib.hid hb.2
  clear h hb hbn
  have B1 : Hid (Below w.heap.size w ((w.alloc (.cells #[.int .i64 ty, .int .u64 en, .slice p ps.length pc] 27)).alloc (.cells d.cells 30))) := Lib.hid (((Below.refl _ _).alloc (Nat.le_refl _) _).alloc (by simp) _)
  unfold DT.cells at *
  generalize d.strsz = size at *
  generalize d.strtab = at_ at *
  by_cases h1 : 1048576 < size
  · have hF : strF bs ps at_ size = ([], 2) := by rw [strF, if_pos h1]
    rw [hF]
    clear hF
    unfold headV
    go_enter Tryz.func54, Tryz.ntmps54
    go_wp2
    go_ret2
    exact ⟨none, 0, rfl, OwnI.nil _ _ _ _, B1.out⟩
  · rcases sliceF_alt bs ps at_ size with ⟨s, hS, hsl, hsm⟩ | hS
    · have hF : strF bs ps at_ size = if size = 0 ∨ s.getD 0 0 ≠ 0 ∨ s.getD (size - 1) 0 ≠ 0 then ([], 3) else (s, 0) := by rw [strF, if_neg h1, hS, if_neg (by simp)]
      rw [hF]
      rw [hS] at HSL
      have HSB := Lib.hid (fun b hb => HBB.out b (hsm b hb))
      clear hF hS hsm HBB
      have HL := Lib.hid hsl
      simp only at HSL
      rw [hsl] at HSL
      clear hsl
      by_cases hz : size = 0
      · rw [if_pos (.inl hz)]
        subst hz
        unfold headV at *
        go_enter Tryz.func54, Tryz.ntmps54
        go_wp2_with fail
        refine (HSL.out _ B1.out).mono ?_
        rintro e w2 ⟨ad, c, rfl, ho, hb2⟩
        have HB := Lib.hid (bstep B1.out hb2)
        clear ho hb2 HSL B1
        simp only [errV]
        go_wp2
        go_ret2
        exact ⟨none, 0, rfl, OwnI.nil _ _ _ _, HB.out⟩
      · have mem0 : ∀ (w2 : World) (ad : Option Addr) (c : Nat), OwnI w2 w.heap.size 5 .u8 (.slice ad size c) (toI s) → ∃ b o, ad = some ⟨b, o, none⟩ ∧ w2.cell? ⟨b, o, none⟩ = some (.int .u8 ((s.getD 0 0 : Nat) : Int)) ∧ w2.cell? ⟨b, o + (size - 1), none⟩ = some (.int .u8 ((s.getD (size - 1) 0 : Nat) : Int)) := by
          intro w2 ad c ho
          have hr : BRow w2 ad s := ⟨ho.at.2.1, HSB.out⟩
          have hl2 := HL.out
          obtain ⟨b, o, e, -, hc0, -⟩ := hr.at (i := 0) (by omega)
          obtain ⟨b', o', e', -, hc1, -⟩ := hr.at (i := size - 1) (by omega)
          rw [e] at e'
          simp only [Option.some.injEq, Addr.mk.injEq, and_true] at e'
          obtain ⟨rfl, rfl⟩ := e'
          exact ⟨b, o, e, by simpa using hc0, hc1⟩
        have HM := Lib.hid mem0
        clear mem0
        have hzz : ((size : Int) == 0) = false := by rw [beq_eq_false_iff_ne]; omega
        have hx1l : (((size : Int) - 1).toNat) = size - 1 := by omega
        by_cases hx0 : s.getD 0 0 = 0
        · by_cases hx1 : s.getD (size - 1) 0 = 0
          · rw [if_neg (by simp only [hx0, hx1, hz]; simp)]
            rw [hx0, hx1] at HM
            clear hx0 hx1
            unfold headV at *
            go_enter Tryz.func54, Tryz.ntmps54
            go_wp2_with fail
            refine (HSL.out _ B1.out).mono ?_
            rintro e w2 ⟨ad, c, rfl, ho, hb2⟩
            have HB := Lib.hid (bstep B1.out hb2)
            have HO := Lib.hid (ho.mono B1.out.size)
            obtain ⟨b0, o0, rfl, hc0, hc1⟩ := HM.out _ _ _ HO.out
            clear ho hb2 HSL B1
            simp only [errV]
            go_wp2
            go_ret2
            simp only [HL.out]
            exact ⟨_, c, rfl, HO.out, HB.out⟩
          · rw [if_pos (.inr (.inr hx1))]
            rw [hx0] at HM
            have hb1 : (((s.getD (size - 1) 0 : Nat) : Int) != 0) = true := by rw [bne_iff_ne]; omega
            clear hx0 hx1
            generalize s.getD (size - 1) 0 = x1 at *
            unfold headV at *
            go_enter Tryz.func54, Tryz.ntmps54
            go_wp2_with fail
            refine (HSL.out _ B1.out).mono ?_
            rintro e w2 ⟨ad, c, rfl, ho, hb2⟩
            have HB := Lib.hid (bstep B1.out hb2)
            have HO := Lib.hid (ho.mono B1.out.size)
            obtain ⟨b0, o0, rfl, hc0, hc1⟩ := HM.out _ _ _ HO.out
            clear ho hb2 HSL B1
            simp only [errV]
            go_wp2
            go_ret2
            exact ⟨none, 0, rfl, OwnI.nil _ _ _ _, HB.out⟩
        · rw [if_pos (.inr (.inl hx0))]
          have hb1 : (((s.getD 0 0 : Nat) : Int) != 0) = true := by rw [bne_iff_ne]; omega
          clear hx0
          generalize s.getD 0 0 = x0 at *
          unfold headV at *
          go_enter Tryz.func54, Tryz.ntmps54
          go_wp2_with fail
          refine (HSL.out _ B1.out).mono ?_
          rintro e w2 ⟨ad, c, rfl, ho, hb2⟩
          have HB := Lib.hid (bstep B1.out hb2)
          have HO := Lib.hid (ho.mono B1.out.size)
          obtain ⟨b0, o0, rfl, hc0, hc1⟩ := HM.out _ _ _ HO.out
          clear ho hb2 HSL B1
          simp only [errV]
          go_wp2
          go_ret2
          exact ⟨none, 0, rfl, OwnI.nil _ _ _ _, HB.out⟩
    · have hF : strF bs ps at_ size = ([], 4) := by rw [strF, if_neg h1, hS, if_pos (by simp)]
      rw [hF]
      rw [hS] at HSL
      clear hF hS
      unfold headV at *
      go_enter Tryz.func54, Tryz.ntmps54
      go_wp2_with fail
      refine (HSL.out _ B1.out).mono ?_
      rintro e w2 ⟨ad, c, rfl, ho, hb2⟩
      have HB := Lib.hid (bstep B1.out hb2)
      clear ho hb2 HSL B1
      simp only [errV]
      go_wp2
      go_ret2
      exact ⟨none, 0, rfl, OwnI.nil _ _ _ _, HB.out⟩
end Go.Proofs.YtnaejlfjlennhaaGreatDoor
/- Layer 7: the hash of the first kind of a name, the program's answer (as in XHashNum, without the rest). -/
namespace Go.Proofs.YtnaejlfjlennhaaGreatDoor
open Go.RowKit
set_option linter.unusedVariables false
set_option linter.unusedSimpArgs false

theorem take_bytesV (s : ByteArray) (k : Nat) (h : k < s.size) : s.data.toList.take (k + 1) = s.data.toList.take k ++ [s[k]] := by
  rw [List.take_succ_eq_append_getElem (by simpa using h)]
  rfl

def sysStepV (h b : Nat) : Nat := ((h * 16 + b) % 4294967296 ^^^ ((h * 16 + b) % 4294967296 / 268435456 * 16)) % 268435456
def sysOfV (l : List UInt8) : Nat := l.foldl (fun h b => sysStepV h b.toNat) 0
theorem sysOf_snocV (l : List UInt8) (b : UInt8) : sysOfV (l ++ [b]) = sysStepV (sysOfV l) b.toNat := by simp [sysOfV]
theorem bit_hiV (a j : Nat) : (a / 268435456 * 268435456).testBit j = (decide (28 ≤ j) && a.testBit j) := by
  have e : a / 268435456 * 268435456 = (a >>> 28) <<< 28 := by rw [Nat.shiftLeft_eq, Nat.shiftRight_eq_div_pow]
  rw [e, Nat.testBit_shiftLeft, Nat.testBit_shiftRight]
  by_cases h : 28 ≤ j
  · simp [h]
  · simp [h]
theorem bit_topV {a j n : Nat} (h : a < 2 ^ n) (hj : n ≤ j) : a.testBit j = false :=
  Nat.testBit_lt_two_pow (Nat.lt_of_lt_of_le h (Nat.pow_le_pow_right (by omega) hj))
theorem hi_maskV (a : Nat) (h : a < 4294967296) : a &&& 4026531840 = a / 268435456 * 268435456 := by
  apply Nat.eq_of_testBit_eq
  intro j
  rw [bit_hiV, Nat.testBit_and, show (4026531840 : Nat) = 15 <<< 28 from rfl, Nat.testBit_shiftLeft]
  by_cases h1 : 28 ≤ j
  · by_cases h2 : j < 32
    · have : j = 28 ∨ j = 29 ∨ j = 30 ∨ j = 31 := by omega
      rcases this with rfl | rfl | rfl | rfl <;> simp [show Nat.testBit 15 0 = true from rfl, show Nat.testBit 15 1 = true from rfl, show Nat.testBit 15 2 = true from rfl, show Nat.testBit 15 3 = true from rfl]
    · rw [bit_topV (n := 32) (by omega) (by omega : 32 ≤ j)]
      simp
  · simp [h1]
theorem clear_hiV (a y : Nat) (h : a < 4294967296) (hy : y < 268435456) : (a ^^^ y) &&& (4294967295 - a / 268435456 * 268435456) = (a ^^^ y) % 268435456 := by
  apply Nat.eq_of_testBit_eq
  intro j
  have hg : a / 268435456 * 268435456 < 2 ^ 32 := by omega
  have e : 4294967295 - a / 268435456 * 268435456 = 2 ^ 32 - (a / 268435456 * 268435456 + 1) := by omega
  rw [Nat.testBit_and, e, Nat.testBit_two_pow_sub_succ hg, bit_hiV, show (268435456 : Nat) = 2 ^ 28 from rfl, Nat.testBit_mod_two_pow, Nat.testBit_xor]
  by_cases h1 : 28 ≤ j
  · rw [bit_topV (a := y) (n := 28) (by omega) h1]
    have : ¬ j < 28 := by omega
    cases a.testBit j <;> simp [h1, this]
  · have h2 : j < 28 := by omega
    have h3 : j < 32 := by omega
    simp [h1, h2, h3]

theorem sys_goV (t c : Nat) (ht : t < 268435456) (hc : c < 256) :
    bits .andNot .u32 (bits .xor .u32 (((t : Int) * 16 + (c : Int)) % 4294967296) (bits .and .u32 (((t : Int) * 16 + (c : Int)) % 4294967296) 4026531840 / 16777216)) (bits .and .u32 (((t : Int) * 16 + (c : Int)) % 4294967296) 4026531840) = ((sysStepV t c : Nat) : Int) := by
  have ha : (t * 16 + c) % 4294967296 < 4294967296 := by omega
  have e : ((t : Int) * 16 + (c : Int)) % 4294967296 = (((t * 16 + c) % 4294967296 : Nat) : Int) := by omega
  unfold sysStepV
  rw [e]
  generalize (t * 16 + c) % 4294967296 = a at *
  have e1 : bits .and .u32 (a : Int) 4026531840 = ((a / 268435456 * 268435456 : Nat) : Int) := by
    rw [show (4026531840 : Int) = ((4026531840 : Nat) : Int) from rfl, u32_and_nat a _ ha (by omega), hi_maskV a ha]
  have e2 : ((a / 268435456 * 268435456 : Nat) : Int) / 16777216 = ((a / 268435456 * 16 : Nat) : Int) := by omega
  rw [e1, e2, u32_xor_nat a _ ha (by omega), u32_andNot_nat _ _ (Nat.xor_lt_two_pow (n := 32) (by omega) (by omega)) (by omega), clear_hiV a _ ha (by omega)]

theorem sysStep_ltV (h b : Nat) : sysStepV h b < 268435456 := Nat.mod_lt _ (by decide)

set_option maxHeartbeats 1000000 in
theorem sysvV_any (s : ByteArray) (w : World) (hs : s.size ≤ 9223372036854775807) :
    Calls Tryz.prog 110 #[.string s] w fun e w' => e = .returned (.int .u32 (sysOfV s.data.toList)) ∧ w = w' := by
  go_enter Tryz.func110, Tryz.ntmps110
  go_wp2
  go_loop [3, 5, 8] (fun v g i => ∃ (k t : Nat), k ≤ s.size ∧ i = .int .i64 k ∧ v = .int .u32 t ∧ Hid (t = sysOfV (s.data.toList.take k)) ∧ t < 268435456) (fun _ _ i => s.size - (intOf i).toNat)
  case atStart => exact ⟨0, 0, Nat.zero_le _, rfl, rfl, Lib.hid rfl, by omega⟩
  case round =>
    obtain ⟨k, t, hk, rfl, rfl, ht, ht1⟩ := hrel
    by_cases hlt : k < s.size
    · have HS := Lib.hid (show sysOfV (s.data.toList.take (k + 1)) = sysStepV t s[k].toNat from by rw [take_bytesV s k hlt, sysOf_snocV, ht.out])
      have hb : s[k].toNat < 256 := s[k].toNat_lt
      go_wp2
      go_round
      case rel => exact ⟨k + 1, sysStepV t s[k].toNat, by omega, by go_num, vint (sys_goV t s[k].toNat ht1 hb), Lib.hid HS.out.symm, sysStep_ltV _ _⟩
      case measure => simp [intOf]; omega
    · have hk' : k = s.size := by omega
      have HK := Lib.hid hk'; clear hk'
      go_wp2
      go_ret
      exact ⟨ret1 (vint (by rw [ht.out, HK.out, List.take_of_length_le (by simp)])), rfl⟩

end Go.Proofs.YtnaejlfjlennhaaGreatDoor
/- Slices of texts: as they come in, and such as a call makes itself. -/
namespace Go.Proofs.YtnaejlfjlennhaaGreatDoor
open Go.RowKit
set_option linter.unusedVariables false
set_option linter.unusedSimpArgs false

/-- a slice of texts that can be read -/
def TRow (w : World) (a : Option Addr) (T : List ByteArray) : Prop := ∀ i, i < T.length → ∃ b off, a = some ⟨b, off, none⟩ ∧ b < w.heap.size ∧ w.cell? ⟨b, off + i, none⟩ = some (.string (T.getD i .empty))
theorem TRow.below {w w' : World} {a : Option Addr} {T : List ByteArray} (h : TRow w a T) (hb : Below w.heap.size w w') : TRow w' a T := by
  intro i hi
  obtain ⟨b, off, e, hlt, hc⟩ := h i hi
  exact ⟨b, off, e, Nat.lt_of_lt_of_le hlt hb.size, by rw [hb.cell (p := ⟨b, off + i, none⟩) hlt]; exact hc⟩

/-- a slice of texts that a call made -/
def OwnT (w : World) (B : Nat) (e : TypeId) (v : Value) (T : List ByteArray) : Prop := w.ownsRow B e 1 v T.length (T.map Value.string)
theorem OwnT.lit (w : World) (B : Nat) (e : TypeId) (T : List ByteArray) (cs : Array Value) (hcs : cs = (T.map Value.string).toArray) (hb : B ≤ w.heap.size) (h63 : T.length ≤ maxLen) : OwnT (w.alloc (.cells cs e)) B e (.slice (some ⟨w.heap.size, 0, none⟩) T.length T.length) T := by
  subst hcs
  refine ⟨by simp, .inr ⟨w.heap.size, T.length, (T.map Value.string).toArray, rfl, hb, ?_, Nat.le_refl _, h63, by simp, by rw [Nat.mul_one]; exact List.take_of_length_le (by simp)⟩⟩
  show (w.heap.push _)[w.heap.size]? = _
  simp
theorem OwnT.row {w : World} {B n cap : Nat} {e : TypeId} {ad : Option Addr} {T : List ByteArray} (h : OwnT w B e (.slice ad n cap) T) : TRow w ad T ∧ n = T.length ∧ n ≤ cap := by
  obtain ⟨h1, h2⟩ := h
  rcases h2 with ⟨hv, h0⟩ | ⟨g, cp, cur, hv, hB, hg, hc, hm, hs, hx⟩
  · simp only [Value.slice.injEq] at hv
    obtain ⟨rfl, rfl, rfl⟩ := hv
    exact ⟨fun i hi => by omega, h0.symm, Nat.le_refl _⟩
  · simp only [Value.slice.injEq] at hv
    obtain ⟨rfl, rfl, rfl⟩ := hv
    refine ⟨fun i hi => ⟨g, 0, rfl, lt_of_block hg, ?_⟩, rfl, hc⟩
    have hown : w.ownsRow B e 1 (.slice (some ⟨g, 0, none⟩) T.length cap) T.length (T.map Value.string) := ⟨h1, .inr ⟨g, cap, cur, rfl, hB, hg, hc, hm, hs, hx⟩⟩
    rw [Nat.zero_add, hown.cellAt i (by omega)]
    simp [hi]
theorem texts_one (T : List ByteArray) : ∀ u ∈ T.map Value.string, u.oneCell' = true := by
  intro u hu
  obtain ⟨t, -, rfl⟩ := List.mem_map.1 hu
  rfl

section
variable {P : Program} {w : World} {ops : Array Oper} {rest : List Oper} {o : Oper} {a : Act} {Q : Exit → Act → World → Prop}
/-- out = append(out, l...), texts -/
theorem wpList_texts (hgd : o.guard = none) (s x : Operand) {t e : TypeId} (ht : P.underlying t = some (.slice e)) (hinfo : (P.info? e).map (fun i => (i.zero, i.size, i.bytes)) = some (some (.string .empty), 1, 16))
    (ho : o.op = .call { callee := .builtin .append, args := #[s, x], argTypes := #[t, t] })
    (B : Nat) (w0 : World) (v : Value) (T : List ByteArray) (n : Nat) (ad : Option Addr) (cap len : Nat) (ys : List ByteArray) (hs : a.eval s = v) (hx : a.eval x = .slice ad len cap) (hn0 : T.length = n) (hl : ys.length = len) (hrow : TRow w ad ys) (hn : ad = none → ys.length = 0 ∧ cap = 0)
    (hown : OwnT w B e v T) (h63 : n + len ≤ maxLen) (hlen : (n + len) * 16 ≤ 140737488355328) (bel : Below B w0 w) (hb : B ≤ w.heap.size)
    (h : ∀ v' w', OwnT w' B e v' (T ++ ys) → Below B w0 w' → wpList P ops Q rest (a.put o.dst v') w') : wpList P ops Q (o :: rest) a w := by
  subst hl hn0
  obtain ⟨i, hi, hz0, hz1, hz2⟩ := info_parts hinfo
  cases ad with
  | none =>
    obtain ⟨h0, rfl⟩ := hn rfl
    obtain rfl : ys = [] := List.length_eq_zero_iff.1 h0
    refine wpList_append_own_none hgd s x t ho B e i 1 ht hi v T.length (T.map Value.string) hs hown hx ?_
    rw [List.append_nil] at h
    exact h _ _ hown bel
  | some ad =>
    refine wpList_append_own _ hgd s x t ho B e i (.string .empty) 1 16 ht hi hz0 hz1 hz2 rfl (by decide) v T.length (T.map Value.string) hs hown ad ys.length cap (ys.map Value.string) hx (by simp) ?_
      (texts_one ys) h63 hlen hb ?_
    · intro j u hj
      have hl : j < ys.length := by
        have := (List.getElem?_eq_some_iff.1 hj).1
        simpa using this
      obtain ⟨b', o', e', -, hc⟩ := hrow j hl
      simp only [Option.some.injEq] at e'
      subst e'
      rw [WideShapes.add_plain, hc]
      rw [List.getElem?_map, List.getElem?_eq_getElem hl] at hj
      simp only [Option.map_some, Option.some.injEq] at hj
      rw [← hj]
      simp [List.getD, hl]
    · intro v' w1 hown1 hgr _
      refine h v' w1 ?_ (bel.grown hgr hb ?_)
      · unfold OwnT
        rw [List.length_append, List.map_append]
        exact hown1
      · intro j hj
        exact (World.ownsRow.lt hown j hj).1
end
theorem texts_t : Tryz.prog.underlying 31 = some (.slice 9) := Tryz.underlying31
theorem text_info : (Tryz.prog.info? 9).map (fun i => (i.zero, i.size, i.bytes)) = some (some (.string .empty), 1, 16) := by kernel_rfl

theorem OwnT.allocT {w : World} {B : Nat} {e : TypeId} {v : Value} {T : List ByteArray} (h : OwnT w B e v T) (o : Obj) : OwnT (w.alloc o) B e v T := World.ownsRow.alloc h o
theorem text_row (w : World) (t : ByteArray) (T : TypeId) : TRow (w.alloc (.cells #[.string t] T)) (some ⟨w.heap.size, 0, none⟩) [t] := by
  intro i hi
  have hi0 : i = 0 := by simpa using hi
  subst hi0
  exact ⟨w.heap.size, 0, rfl, by simp, by rw [World.cell?_alloc_new]; rfl⟩
theorem OwnT.form {w : World} {B : Nat} {e : TypeId} {v : Value} {T : List ByteArray} (h : OwnT w B e v T) : ∃ ad c, v = .slice ad T.length c := by
  rcases h.2 with ⟨rfl, h0⟩ | ⟨g, c, cur, rfl, -⟩
  · exact ⟨none, 0, by rw [h0]⟩
  · exact ⟨_, c, rfl⟩
theorem text_ne {x y : ByteArray} (h : ¬ x = y) : (x.toList == y.toList) = false := by
  rw [beq_eq_false_iff_ne, ByteArray.toList_eq, ByteArray.toList_eq]
  intro e
  exact h (ByteArray.ext (Array.ext' e))
theorem OwnT.below {w w' : World} {B : Nat} {e : TypeId} {v : Value} {T : List ByteArray} (h : OwnT w B e v T) (hb : Below w.heap.size w w') : OwnT w' B e v T := by
  obtain ⟨h1, h2⟩ := h
  refine ⟨h1, ?_⟩
  rcases h2 with h2 | ⟨g, cap, cur, hv, hB, hg, r⟩
  · exact .inl h2
  · exact .inr ⟨g, cap, cur, hv, hB, by rw [hb.block g (lt_of_block hg)]; exact hg, r⟩
theorem OwnT.mono {w : World} {B B' : Nat} {e : TypeId} {v : Value} {T : List ByteArray} (h : OwnT w B e v T) (hB : B' ≤ B) : OwnT w B' e v T := by
  obtain ⟨h1, h2⟩ := h
  refine ⟨h1, ?_⟩
  rcases h2 with h2 | ⟨g, cap, cur, hv, hg, r⟩
  · exact .inl h2
  · exact .inr ⟨g, cap, cur, hv, Nat.le_trans hB hg, r⟩
theorem OwnT.nil (w : World) (B : Nat) (e : TypeId) : OwnT w B e (.slice none 0 0) [] := World.ownsRow_nil _ _ _ _
end Go.Proofs.YtnaejlfjlennhaaGreatDoor
/- Layer 8: what the tables of versions of a file tell, as lists (plain functions). -/
namespace Go.Proofs.YtnaejlfjlennhaaGreatDoor
open Go.RowKit
set_option linter.unusedVariables false
set_option linter.unusedSimpArgs false

/-- the bytes a step above an address, where that is, an error's number -/
def itemF (bs : List Nat) (ps : List PT) (fr step size : Nat) : List Nat × Nat × Nat :=
  if 18446744073709551616 ≤ fr + step then ([], 0, 4) else ((sliceF bs ps (fr + step) size).1, fr + step, (sliceF bs ps (fr + step) size).2)
theorem itemF_beyond {bs : List Nat} {ps : List PT} {fr step size : Nat} (h : 18446744073709551616 ≤ fr + step) : itemF bs ps fr step size = ([], 0, 4) := by rw [itemF, if_pos h]
theorem itemF_in {bs : List Nat} {ps : List PT} {fr step size : Nat} (h : fr + step < 18446744073709551616) : itemF bs ps fr step size = ((sliceF bs ps (fr + step) size).1, fr + step, (sliceF bs ps (fr + step) size).2) := by rw [itemF, if_neg (by omega)]

/-- a chain of n things: what its steps leave, an error's number -/
def chainV {σ : Type} (f : σ → List Nat → Nat → σ × Nat) (bs : List Nat) (ps : List PT) (size : Nat) : Nat → Nat → Nat → σ → σ × Nat
  | 0, _, _, s => (s, 0)
  | n + 1, fr, step, s =>
    if (itemF bs ps fr step size).2.2 ≠ 0 then (s, (itemF bs ps fr step size).2.2)
    else if (f s (itemF bs ps fr step size).1 (itemF bs ps fr step size).2.1).2 ≠ 0 then f s (itemF bs ps fr step size).1 (itemF bs ps fr step size).2.1
    else if numOf ((itemF bs ps fr step size).1.drop (size - 4)) = 0 ∧ 0 < n then ((f s (itemF bs ps fr step size).1 (itemF bs ps fr step size).2.1).1, 3)
    else chainV f bs ps size n (itemF bs ps fr step size).2.1 (numOf ((itemF bs ps fr step size).1.drop (size - 4))) (f s (itemF bs ps fr step size).1 (itemF bs ps fr step size).2.1).1

section
variable {σ : Type} {f : σ → List Nat → Nat → σ × Nat} {bs : List Nat} {ps : List PT} {size n fr step : Nat} {s s' : σ} {b : List Nat} {at_ c : Nat}
theorem chainV_zero : chainV f bs ps size 0 fr step s = (s, 0) := rfl
theorem chainV_item (h : itemF bs ps fr step size = (b, at_, c)) (hc : c ≠ 0) : chainV f bs ps size (n + 1) fr step s = (s, c) := by
  rw [chainV, h, if_pos (by simpa using hc)]
theorem chainV_read (h : itemF bs ps fr step size = (b, at_, 0)) (hf : f s b at_ = (s', c)) (hc : c ≠ 0) : chainV f bs ps size (n + 1) fr step s = (s', c) := by
  rw [chainV, h, if_neg (by simp)]
  simp only
  rw [hf, if_pos (by simpa using hc)]
theorem chainV_form (h : itemF bs ps fr step size = (b, at_, 0)) (hf : f s b at_ = (s', 0)) (hz : numOf (b.drop (size - 4)) = 0) (hn : 0 < n) : chainV f bs ps size (n + 1) fr step s = (s', 3) := by
  rw [chainV, h, if_neg (by simp)]
  simp only
  rw [hf, if_neg (by simp), if_pos ⟨hz, hn⟩]
theorem chainV_on (h : itemF bs ps fr step size = (b, at_, 0)) (hf : f s b at_ = (s', 0)) (hz : ¬ (numOf (b.drop (size - 4)) = 0 ∧ 0 < n)) : chainV f bs ps size (n + 1) fr step s = chainV f bs ps size n at_ (numOf (b.drop (size - 4))) s' := by
  rw [chainV, h, if_neg (by simp)]
  simp only
  rw [hf, if_neg (by simp), if_neg hz]
end

/-- a name of a definition -/
def nameStep (ss : List Nat) (l : List ByteArray) (b : List Nat) (_ : Nat) : List ByteArray × Nat :=
  (l ++ [(textF ss (numOf (b.take 4))).1], (textF ss (numOf (b.take 4))).2)

/-- a definition -/
structure DefD where
  idx : Nat
  base : Bool
  name : ByteArray
  parents : List ByteArray
def DefD.zero : DefD := ⟨0, false, .empty, []⟩
/-- a definition: what was told by now, the definition, an error's number -/
def defF (bs : List Nat) (ps : List PT) (ss : List Nat) (told : List Nat) (b : List Nat) (at_ : Nat) : List Nat × DefD × Nat :=
  if numOf (b.take 2) ≠ 1 ∨ numOf ((b.drop 4).take 2) % 32768 = 0 ∨ numOf ((b.drop 6).take 2) = 0 then (told, .zero, 3)
  else if numOf ((b.drop 4).take 2) % 32768 ∈ told then (told, .zero, 5)
  else if 64 < numOf ((b.drop 6).take 2) then (told ++ [numOf ((b.drop 4).take 2) % 32768], .zero, 2)
  else if (chainV (nameStep ss) bs ps 8 (numOf ((b.drop 6).take 2)) at_ (numOf ((b.drop 12).take 4)) []).2 ≠ 0 then
    (told ++ [numOf ((b.drop 4).take 2) % 32768], .zero, (chainV (nameStep ss) bs ps 8 (numOf ((b.drop 6).take 2)) at_ (numOf ((b.drop 12).take 4)) []).2)
  else if sysOfV ((chainV (nameStep ss) bs ps 8 (numOf ((b.drop 6).take 2)) at_ (numOf ((b.drop 12).take 4)) []).1.getD 0 .empty).data.toList ≠ numOf ((b.drop 8).take 4) then
    (told ++ [numOf ((b.drop 4).take 2) % 32768], .zero, 3)
  else (told ++ [numOf ((b.drop 4).take 2) % 32768], ⟨numOf ((b.drop 4).take 2) % 32768, decide (numOf ((b.drop 2).take 2) % 2 = 1), (chainV (nameStep ss) bs ps 8 (numOf ((b.drop 6).take 2)) at_ (numOf ((b.drop 12).take 4)) []).1.getD 0 .empty, (chainV (nameStep ss) bs ps 8 (numOf ((b.drop 6).take 2)) at_ (numOf ((b.drop 12).take 4)) []).1.drop 1⟩, 0)
def defStep (bs : List Nat) (ps : List PT) (ss : List Nat) (s : List Nat × List DefD) (b : List Nat) (at_ : Nat) : (List Nat × List DefD) × Nat :=
  (((defF bs ps ss s.1 b at_).1, s.2 ++ [(defF bs ps ss s.1 b at_).2.1]), (defF bs ps ss s.1 b at_).2.2)
/-- the definitions -/
def defsF (bs : List Nat) (ps : List PT) (ss : List Nat) (told : List Nat) (verdef verdefnum : Nat) : (List Nat × List DefD) × Nat :=
  if verdef = 0 then ((told, []), 0) else if 64 < verdefnum then ((told, []), 2) else chainV (defStep bs ps ss) bs ps 20 verdefnum verdef 0 (told, [])

/-- a version that is needed -/
structure AuxD where
  idx : Nat
  weak : Bool
  name : ByteArray
def AuxD.zero : AuxD := ⟨0, false, .empty⟩
def auxF (ss : List Nat) (told : List Nat) (b : List Nat) : List Nat × AuxD × Nat :=
  if (textF ss (numOf ((b.drop 8).take 4))).2 ≠ 0 then (told, .zero, (textF ss (numOf ((b.drop 8).take 4))).2)
  else if sysOfV (textF ss (numOf ((b.drop 8).take 4))).1.data.toList ≠ numOf (b.take 4) ∨ numOf ((b.drop 6).take 2) % 32768 < 2 then (told, .zero, 3)
  else if numOf ((b.drop 6).take 2) % 32768 ∈ told then (told, .zero, 5)
  else (told ++ [numOf ((b.drop 6).take 2) % 32768], ⟨numOf ((b.drop 6).take 2) % 32768, decide (numOf ((b.drop 4).take 2) / 2 % 2 = 1), (textF ss (numOf ((b.drop 8).take 4))).1⟩, 0)
def auxStep (ss : List Nat) (s : List Nat × List AuxD) (b : List Nat) (_ : Nat) : (List Nat × List AuxD) × Nat :=
  (((auxF ss s.1 b).1, s.2 ++ [(auxF ss s.1 b).2.1]), (auxF ss s.1 b).2.2)
/-- what is needed of one object -/
structure NeedD where
  file : ByteArray
  aux : List AuxD
def NeedD.zero : NeedD := ⟨.empty, []⟩
def needF (bs : List Nat) (ps : List PT) (ss : List Nat) (told : List Nat) (b : List Nat) (at_ : Nat) : List Nat × NeedD × Nat :=
  if numOf (b.take 2) ≠ 1 ∨ numOf ((b.drop 2).take 2) = 0 then (told, .zero, 3)
  else if 64 < numOf ((b.drop 2).take 2) then (told, .zero, 2)
  else if (textF ss (numOf ((b.drop 4).take 4))).2 ≠ 0 then (told, .zero, (textF ss (numOf ((b.drop 4).take 4))).2)
  else ((chainV (auxStep ss) bs ps 16 (numOf ((b.drop 2).take 2)) at_ (numOf ((b.drop 8).take 4)) (told, [])).1.1, ⟨(textF ss (numOf ((b.drop 4).take 4))).1, (chainV (auxStep ss) bs ps 16 (numOf ((b.drop 2).take 2)) at_ (numOf ((b.drop 8).take 4)) (told, [])).1.2⟩, (chainV (auxStep ss) bs ps 16 (numOf ((b.drop 2).take 2)) at_ (numOf ((b.drop 8).take 4)) (told, [])).2)
def needStep (bs : List Nat) (ps : List PT) (ss : List Nat) (s : List Nat × List NeedD) (b : List Nat) (at_ : Nat) : (List Nat × List NeedD) × Nat :=
  (((needF bs ps ss s.1 b at_).1, s.2 ++ [(needF bs ps ss s.1 b at_).2.1]), (needF bs ps ss s.1 b at_).2.2)
def needsF (bs : List Nat) (ps : List PT) (ss : List Nat) (told : List Nat) (verneed verneednum : Nat) : (List Nat × List NeedD) × Nat :=
  if verneed = 0 then ((told, []), 0) else if 64 < verneednum then ((told, []), 2) else chainV (needStep bs ps ss) bs ps 16 verneednum verneed 0 (told, [])
/-- the symbols' words, from the first n on -/
def wordAt (words : List Nat) (i : Nat) : Nat := numOf ((words.drop (2 * i)).take 2)
def wordOk (told : List Nat) (v : Nat) : Bool := decide (v % 32768 ≤ 1 ∨ v % 32768 ∈ told)
def ofF (told : List Nat) (words : List Nat) : List Nat × Nat :=
  if (List.range (words.length / 2)).all (fun i => wordOk told (wordAt words i)) then ((List.range (words.length / 2)).map (wordAt words), 0) else ([], 3)

/-- what is told: no number twice, each of 15 bits, none 0 -/
def ToldOk (l : List Nat) : Prop := l.Nodup ∧ ∀ x ∈ l, 1 ≤ x ∧ x < 32768
theorem ToldOk.nil : ToldOk [] := ⟨List.nodup_nil, fun x hx => by cases hx⟩
theorem ToldOk.snoc {l : List Nat} {x : Nat} (h : ToldOk l) (hx : x ∉ l) (h1 : 1 ≤ x) (h2 : x < 32768) : ToldOk (l ++ [x]) := by
  refine ⟨?_, ?_⟩
  · rw [List.nodup_append]
    refine ⟨h.1, by simp, ?_⟩
    intro a ha b hb e
    simp only [List.mem_singleton] at hb
    subst hb e
    exact hx ha
  · intro y hy
    rcases List.mem_append.1 hy with hy | hy
    · exact h.2 y hy
    · simp only [List.mem_singleton] at hy
      subst hy
      exact ⟨h1, h2⟩
theorem nodup_len : ∀ (n : Nat) (l : List Nat), l.Nodup → (∀ x ∈ l, x < n) → l.length ≤ n
  | 0, l, _, h => by
    cases l with
    | nil => simp
    | cons a l => exact absurd (h a (by simp)) (by omega)
  | n + 1, l, hd, h => by
    have h1 := nodup_len n (l.erase n) (hd.sublist List.erase_sublist) (fun x hx => by
      have h2 := h x (List.mem_of_mem_erase hx)
      have h3 : x ≠ n := fun e => by subst e; exact absurd hx (List.Nodup.not_mem_erase hd)
      omega)
    have h4 := List.length_erase (a := n) (l := l)
    split at h4 <;> omega
theorem ToldOk.len {l : List Nat} (h : ToldOk l) : l.length ≤ 32768 := nodup_len _ _ h.1 (fun x hx => (h.2 x hx).2)
end Go.Proofs.YtnaejlfjlennhaaGreatDoor
/- Layer 8: the reader of versions in memory: what it reads from, and the map of what was told. -/
namespace Go.Proofs.YtnaejlfjlennhaaGreatDoor
open Go.RowKit Go.Maps
set_option linter.unusedVariables false
set_option linter.unusedSimpArgs false

theorem lawInt : Keyed Tryz.prog 3 := int_keyed Tryz.underlying3
theorem zeroUnit (w : World) : (zeroValue 213).run Tryz.prog w = .ok (.agg #[]) w := by kernel_rfl
def keyL (x : Nat) : Lit := .int .i64 (x : Int)
def setN (told : List Nat) : DataW Unit := setOf (.agg []) (told.map keyL)
theorem keyL_key (x : Nat) : WideAt.IsKeyLit (keyL x) := trivial
theorem keyL_of {x : Nat} (h : x < 9223372036854775808) : keyOf Tryz.prog 3 (.int .i64 (x : Int)) = some (keyL x) := keyOf_int_mk Tryz.underlying3 (WalkArith.wf_i64 (by omega))
theorem setN_snoc (told : List Nat) (x : Nat) : setN (told ++ [x]) = (setN told).put (keyL x) (.agg []) := by
  unfold setN
  rw [List.map_append, List.map_cons, List.map_nil, setOf_snoc]
theorem has_setN (told : List Nat) (x : Nat) : Maps.has (setN told) (keyL x) = decide (x ∈ told) := by
  unfold setN
  rw [has_setOf _ _ _ (fun y hy => by
    obtain ⟨z, -, rfl⟩ := List.mem_map.1 hy
    exact keyL_key z)]
  rw [Bool.eq_iff_iff, List.any_eq_true, decide_eq_true_eq]
  constructor
  · rintro ⟨y, hy, hs⟩
    obtain ⟨z, hz, rfl⟩ := List.mem_map.1 hy
    have : z = x := by
      simp [keyL, Lit.sameKey] at hs
      omega
    subst this
    exact hz
  · intro h
    exact ⟨keyL x, List.mem_map.2 ⟨x, h, rfl⟩, by simp [keyL, Lit.sameKey]⟩

/-- the map of what was told -/
def MapN (w : World) (B : Nat) (told : List Nat) : Prop := w.ownsMap Tryz.prog 3 (unitElem (H := Unit)) B told.length (setN told) ∧ ToldOk told

/-- where the reader is, and what it reads from -/
structure RD where
  R : Nat
  B : Nat
  a : Option Addr
  cap : Nat
  bs : List Nat
  ty : Int
  en : Int
  p : Option Addr
  pc : Nat
  ps : List PT
  sa : Option Addr
  sc : Nat
  ss : List Nat
def RD.cells (r : RD) : Array Value := #[.slice r.a r.bs.length r.cap, .int .i64 r.ty, .int .u64 r.en, .slice r.p r.ps.length r.pc, .slice r.sa r.ss.length r.sc, .map (some r.B)]
structure RD.fit (r : RD) : Prop where
  hbl : r.bs.length ≤ 140737488351232
  hbc : r.bs.length ≤ r.cap
  hbn : r.a = none → r.bs.length = 0 ∧ r.cap = 0
  hl : r.ps.length ≤ 140737488351232
  ssl : r.ss.length ≤ 1048576
  ssc : r.ss.length ≤ r.sc
structure RD.ok (r : RD) (w : World) : Prop where
  box : w.heap[r.R]? = some (.cells r.cells 150)
  hb : BRow w r.a r.bs
  h : PRow w r.p r.ps
  hs : BRow w r.sa r.ss
  fit : r.fit
  isMap : ∃ es c, w.heap[r.B]? = some (.map es c)

theorem cell_no_map {w : World} {b : Nat} {es : Array MapEntry} {c : Nat} (h : w.heap[b]? = some (.map es c)) (o : Nat) {v : Value} : w.cell? ⟨b, o, none⟩ = some v → False := by
  intro h2
  simp [World.cell?, h] at h2

/-- all but the map stays -/
def Kp (B : Nat) (w w' : World) : Prop := w.grownBy w' (some B)
theorem Kp.refl (B : Nat) (w : World) : Kp B w w := World.grownBy.refl _ _
theorem Kp.below {B : Nat} {w w' : World} (h : Below w.heap.size w w') : Kp B w w' := ⟨h.os, h.tape, h.output, h.size, fun i hi _ => h.block i hi⟩
theorem Kp.trans {B : Nat} {a b c : World} (h : Kp B a b) (k : Kp B b c) : Kp B a c := World.grownBy.trans h k
theorem Kp.alloc {B : Nat} {a w : World} (h : Kp B a w) (o : Obj) : Kp B a (w.alloc o) := h.trans (Kp.below ((Below.refl _ _).alloc (Nat.le_refl _) _))
theorem Kp.drew {B : Nat} {a w : World} (h : Kp B a w) : Kp B a w.drew := ⟨h.os, h.tape, h.output, h.size, h.block⟩
theorem Kp.set {B : Nat} {a w : World} (h : Kp B a w) {q : Addr} (hq : a.heap.size ≤ q.block) (u : Value) : Kp B a (w.setCell q u) :=
  ⟨h.os, h.tape, h.output, by have := h.size; simpa [World.setCell] using this, fun i hi hne => (Below.heap_setCell _ _ _ _ (by omega)).trans (h.block i hi hne)⟩
theorem Kp.grown {B : Nat} {a w w' : World} (h : Kp B a w) {row : Option Nat} (hg : w.grownBy w' row) (hr : ∀ k, row = some k → a.heap.size ≤ k) : Kp B a w' :=
  ⟨hg.os.trans h.os, hg.tape.trans h.tape, hg.output.trans h.output, Nat.le_trans h.size hg.size, fun i hi hne => (hg.block i (Nat.lt_of_lt_of_le hi h.size) (fun e => by have := hr i e.symm; omega)).trans (h.block i hi hne)⟩

theorem RD.ok.kept {r : RD} {w w' : World} (h : r.ok w) (k : Kp r.B w w') (hm : ∃ es c, w'.heap[r.B]? = some (.map es c)) : r.ok w' := by
  obtain ⟨es, c, hB⟩ := h.isMap
  have far : ∀ b o v, w.cell? ⟨b, o, none⟩ = some v → w'.cell? ⟨b, o, none⟩ = some v := fun b o v hv =>
    k.cell hv (fun e => by
      simp only [Option.some.injEq] at e
      subst e
      exact cell_no_map hB o hv)
  have brow : ∀ (a : Option Addr) (xs : List Nat), BRow w a xs → BRow w' a xs := fun a xs hr => ⟨fun i hi => by
    obtain ⟨b, o, e, hc⟩ := hr.1 i hi
    exact ⟨b, o, e, far b _ _ hc⟩, hr.2⟩
  have hne : some r.R ≠ some r.B := fun e => by
    simp only [Option.some.injEq] at e
    have h1 := h.box
    rw [e, hB] at h1
    cases h1
  refine ⟨(k.block r.R (lt_of_block h.box) hne).trans h.box, brow _ _ h.hb, ?_, brow _ _ h.hs, h.fit, hm⟩
  intro i hi
  obtain ⟨hw, b, o, e, hlt, hc⟩ := h.h i hi
  refine ⟨hw, b, o, e, Nat.lt_of_lt_of_le hlt k.size, fun j hj => ?_⟩
  rw [← hc j hj]
  have hcs : r.ps[i].cells[j]? ≠ none := by
    rcases (show j = 0 ∨ j = 1 ∨ j = 2 ∨ j = 3 ∨ j = 4 ∨ j = 5 ∨ j = 6 by omega) with rfl | rfl | rfl | rfl | rfl | rfl | rfl <;> simp [PT.cells]
  obtain ⟨v, hv⟩ := Option.ne_none_iff_exists'.1 hcs
  have hcv := hc j hj
  rw [hv] at hcv
  rw [far _ _ _ hcv, hcv]
theorem MapN.isMap {w : World} {B : Nat} {told : List Nat} (h : MapN w B told) : ∃ es c, w.heap[B]? = some (.map es c) := by
  obtain ⟨es, c, hb, -⟩ := h.1
  exact ⟨es, c, hb⟩
theorem MapN.lt {w : World} {B : Nat} {told : List Nat} (h : MapN w B told) : B < w.heap.size := by
  obtain ⟨es, c, hb⟩ := h.isMap
  exact lt_of_block hb
theorem MapN.kept {w w' : World} {B : Nat} {told : List Nat} {row : Option Nat} (h : MapN w B told) (hg : w.grownBy w' row) (hne : some B ≠ row) : MapN w' B told := ⟨World.ownsMap.kept h.1 hg hne, h.2⟩
theorem MapN.below {w w' : World} {B : Nat} {told : List Nat} (h : MapN w B told) (hb : Below w.heap.size w w') : MapN w' B told := h.kept (row := none) ⟨hb.os, hb.tape, hb.output, hb.size, fun i hi _ => hb.block i hi⟩ (by simp)
theorem MapN.set {w : World} {B : Nat} {told : List Nat} (h : MapN w B told) {q : Addr} (hq : B ≠ q.block) (u : Value) : MapN (w.setCell q u) B told := ⟨World.ownsMap.setCell h.1 hq u, h.2⟩
theorem RD.ok.below {r : RD} {w w' : World} (h : r.ok w) (hb : Below w.heap.size w w') : r.ok w' := by
  obtain ⟨es, c, hB⟩ := h.isMap
  exact h.kept (Kp.below hb) ⟨es, c, by rw [hb.block _ (lt_of_block hB)]; exact hB⟩

section
variable {r : RD} {w : World}
theorem RD.ok.c0 (h : r.ok w) : w.cell? ⟨r.R, 0, none⟩ = some (.slice r.a r.bs.length r.cap) := by rw [cell_of_row w r.R 0 _ _ _ h.box]; rfl
theorem RD.ok.c1 (h : r.ok w) : w.cell? ⟨r.R, 1, none⟩ = some (.int .i64 r.ty) := by rw [cell_of_row w r.R 1 _ _ _ h.box]; rfl
theorem RD.ok.c2 (h : r.ok w) : w.cell? ⟨r.R, 2, none⟩ = some (.int .u64 r.en) := by rw [cell_of_row w r.R 2 _ _ _ h.box]; rfl
theorem RD.ok.c3 (h : r.ok w) : w.cell? ⟨r.R, 3, none⟩ = some (.slice r.p r.ps.length r.pc) := by rw [cell_of_row w r.R 3 _ _ _ h.box]; rfl
theorem RD.ok.c4 (h : r.ok w) : w.cell? ⟨r.R, 4, none⟩ = some (.slice r.sa r.ss.length r.sc) := by rw [cell_of_row w r.R 4 _ _ _ h.box]; rfl
theorem RD.ok.c5 (h : r.ok w) : w.cell? ⟨r.R, 5, none⟩ = some (.map (some r.B)) := by rw [cell_of_row w r.R 5 _ _ _ h.box]; rfl
end
def rdV (r : RD) : Value := .pointer (some ⟨r.R, 0, none⟩)
end Go.Proofs.YtnaejlfjlennhaaGreatDoor
/- Layer 8: a thing of a table, a text of it, the note of an index: the program's answers. -/
namespace Go.Proofs.YtnaejlfjlennhaaGreatDoor
open Go.RowKit Go.Maps
set_option linter.unusedVariables false
set_option linter.unusedSimpArgs false

theorem errV_five : errV ((5 : Nat) : Int) = .iface 56 (.int .i64 5) := rfl
theorem errV_three : errV ((3 : Nat) : Int) = .iface 56 (.int .i64 3) := rfl

set_option maxRecDepth 100000 in
set_option maxHeartbeats 4000000 in
theorem tell_any (r : RD) (w : World) (told : List Nat) (x : Nat) (h : r.ok w) (hm : MapN w r.B told) (h1 : 1 ≤ x) (h2 : x < 32768) :
    Calls Tryz.prog 107 #[rdV r, .int .i64 (x : Int)] w fun e w' => e = .returned (errV ((if x ∈ told then 5 else 0 : Nat) : Int)) ∧ Kp r.B w w' ∧ MapN w' r.B (if x ∈ told then told else told ++ [x]) := by
  have c5 := h.c5
  have hkey := keyL_of (x := x) (by omega)
  have hlen := hm.2.len
  have HM := Lib.hid hm
  have HK : Hid (∀ w1, Below w.heap.size w w1 → MapN w1 r.B told) := Lib.hid (fun w1 hb => hm.below hb)
  have HH := Lib.hid (has_setN told x)
  have HC5 : Hid (∀ w1, Below w.heap.size w w1 → w1.cell? ⟨r.R, 5, none⟩ = some (.map (some r.B))) := Lib.hid (fun w1 hb => (h.below hb).c5)
  have B1 : Hid (Below w.heap.size w (w.alloc (.cells #[] 213))) := Lib.hid ((Below.refl _ _).alloc (Nat.le_refl _) _)
  unfold rdV
  generalize r.R = R at *
  generalize r.B = B at *
  have hown := HM.out.1
  have HOWN := Lib.hid hown
  clear h hm hown
  by_cases hx : x ∈ told
  · have hd : decide (x ∈ told) = true := decide_eq_true hx
    rw [if_pos hx, if_pos hx, errV_five]
    rw [hd] at HH
    clear hx hd
    go_enter Tryz.func107, Tryz.ntmps107
    go_wp2_with (at_lookup; refine wpList_lookup_own_unit _ rfl _ _ 148 rfl 3 213 lawInt Tryz.underlying148 (zeroUnit _) B told.length (setN told) rfl HOWN.out _ _ rfl hkey ?_; rw [HH.out])
    go_ret
    exact ⟨rfl, Kp.below B1.out, HK.out _ B1.out⟩
  · have hd : decide (x ∈ told) = false := decide_eq_false hx
    have HX : Hid (ToldOk (told ++ [x])) := Lib.hid (HM.out.2.snoc hx h1 h2)
    rw [if_neg hx, if_neg hx]
    rw [hd] at HH
    clear hx hd
    have hown1 := (HK.out _ B1.out).1
    have HOWN1 := Lib.hid hown1
    have c5b := HC5.out _ B1.out
    clear hown1
    go_enter Tryz.func107, Tryz.ntmps107
    go_wp2_with (first | (at_lookup; refine wpList_lookup_own_unit _ rfl _ _ 148 rfl 3 213 lawInt Tryz.underlying148 (zeroUnit _) B told.length (setN told) rfl HOWN.out _ _ rfl hkey ?_; rw [HH.out]) | (at_mapUpdate; refine wpList_mapUpdate_own _ rfl _ _ _ 148 rfl 3 213 lawInt Tryz.underlying148 _ B told.length _ rfl HOWN1.out (by unfold maxLen; omega) _ _ _ rfl rfl hkey _ [] (unitElem_mk (H := Unit)) ?_; intro w2 hown2 hgr2; have O2 := Lib.hid hown2; have G2 := Lib.hid hgr2; clear hown2 hgr2))
    go_ret
    refine ⟨rfl, (Kp.below B1.out).trans G2.out, ?_, HX.out⟩
    have o2 := O2.out
    rw [← setN_snoc] at o2
    simpa using o2

set_option maxRecDepth 100000 in
set_option maxHeartbeats 4000000 in
theorem vtext_any (r : RD) (w : World) (h : r.ok w) (a : Option Addr) (cap : Nat) (b : List Nat) (hb : BRow w a b) (hl : b.length ≤ 4) :
    Calls Tryz.prog 109 #[rdV r, .slice a b.length cap] w fun e w' => e = .returned (.tuple #[.string (textF r.ss (numOf b)).1, errV ((textF r.ss (numOf b)).2 : Int)]) ∧ ∃ m, w' = w.drewN m := by
  have hlt : numOf b < 18446744073709551616 := by
    have h1 := numOf_lt b hb.2
    have h2 : (256 : Nat) ^ b.length ≤ 256 ^ 4 := Nat.pow_le_pow_right (by decide) hl
    omega
  have HN := Lib.hid (fun (w1 : World) (hb1 : Below w.heap.size w w1) => number_any a cap b w1 (hb.below hb1) (by omega))
  have HT := Lib.hid (fun (w1 : World) (hb1 : Below w.heap.size w w1) => symText_any r.sa r.sc r.ss (numOf b) w1 (h.hs.below hb1) (by have := h.fit.ssl; omega) h.fit.ssc hlt)
  have c4 := h.c4
  clear hb hlt h
  generalize textF r.ss (numOf b) = F at *
  generalize numOf b = n at *
  generalize b.length = bl at *
  generalize r.ss.length = sl at *
  unfold rdV
  generalize r.R = R at *
  go_enter Tryz.func109, Tryz.ntmps109
  go_wp2_with fail
  go_quiet (first | (go_at_call 48; exact Calls.quiet_of_same ((HN.out _ (below_drewN (Below.refl _ _) _)).mono (by rintro e w' ⟨rfl, rfl⟩; exact ⟨rfl, rfl⟩))) | (go_at_call 58; exact Calls.quiet_of_same ((HT.out _ (below_drewN (Below.refl _ _) _)).mono (by rintro e w' ⟨rfl, rfl⟩; exact ⟨rfl, rfl⟩))))
  go_wp2
  go_ret2
  exact ⟨rfl, _, rfl⟩
end Go.Proofs.YtnaejlfjlennhaaGreatDoor
/- Layer 8: a thing of a table: the program's answer. -/
namespace Go.Proofs.YtnaejlfjlennhaaGreatDoor
open Go.RowKit Go.Maps
set_option linter.unusedVariables false
set_option linter.unusedSimpArgs false

/-- bytes of a table, and where they stand -/
def ItemAns (F : List Nat × Nat × Nat) (w : World) (e : Ending) (w' : World) : Prop :=
  ∃ ad c, e = .returned (.tuple #[.slice ad F.1.length c, .int .u64 (F.2.1 : Int), errV (F.2.2 : Int)]) ∧ OwnI w' w.heap.size 5 .u8 (.slice ad F.1.length c) (toI F.1) ∧ Below w.heap.size w w'

set_option maxRecDepth 100000 in
set_option maxHeartbeats 4000000 in
theorem item_any (r : RD) (w : World) (h : r.ok w) (fr step size : Nat) (h1 : fr < 18446744073709551616) (h2 : step < 18446744073709551616) (h3 : size < 18446744073709551616) :
    Calls Tryz.prog 106 #[rdV r, .int .u64 (fr : Int), .int .u64 (step : Int), .int .u64 (size : Int)] w (ItemAns (itemF r.bs r.ps fr step size) w) := by
  by_cases hb : 18446744073709551616 ≤ fr + step
  · rw [itemF_beyond hb]
    have HA := add64v_over (fr : Int) (step : Int) (by omega) (by omega) (by rw [M64_eq]; omega) (by rw [M64_eq]; omega) (by rw [M64_eq]; omega)
    clear hb
    generalize (fr : Int) + (step : Int) - M64 = q at *
    unfold rdV
    go_enter Tryz.func106, Tryz.ntmps106
    go_wp2_with fail
    go_ret3
    exact ⟨none, 0, rfl, OwnI.nil _ _ _ _, Below.refl _ _⟩
  · rw [itemF_in (by omega)]
    have HA := add64v_fits (fr : Int) (step : Int) (by omega) (by omega) (by rw [M64_eq]; omega)
    have e1 : (fr : Int) + (step : Int) = ((fr + step : Nat) : Int) := by omega
    rw [e1] at HA
    have h4 : fr + step < 18446744073709551616 := by omega
    clear hb e1
    generalize fr + step = q at *
    have HS := Lib.hid (fun (w1 : World) (hb1 : Below w.heap.size w w1) => slice_any r.a r.cap r.bs r.ty r.en r.p r.pc r.ps q size w1 (h.hb.below hb1) h.fit.hbl h.fit.hbc h.fit.hbn (h.h.below hb1) h.fit.hl h4 h3)
    have HK : Hid (∀ w1, Below w.heap.size w w1 → w1.cell? ⟨r.R, 0, none⟩ = some (.slice r.a r.bs.length r.cap) ∧ w1.cell? ⟨r.R, 1, none⟩ = some (.int .i64 r.ty) ∧ w1.cell? ⟨r.R, 2, none⟩ = some (.int .u64 r.en) ∧ w1.cell? ⟨r.R, 3, none⟩ = some (.slice r.p r.ps.length r.pc)) := Lib.hid (fun w1 h1 => ⟨(h.below h1).c0, (h.below h1).c1, (h.below h1).c2, (h.below h1).c3⟩)
    have HD := Lib.hid ((Below.refl w.heap.size w).drew)
    clear h h1 h2 h3 h4
    generalize sliceF r.bs r.ps q size = F at *
    unfold rdV
    unfold headV at HS
    generalize r.R = R at *
    generalize r.bs.length = bl at *
    generalize r.ps.length = pl at *
    generalize r.a = ra at *
    generalize r.cap = rcap at *
    generalize r.ty = rty at *
    generalize r.en = ren at *
    generalize r.p = rp at *
    generalize r.pc = rpc at *
    go_enter Tryz.func106, Tryz.ntmps106
    go_wp2_with fail
    go_region_held3 (fun w' => Below w.heap.size w w' ∧ w'.cell? ⟨R, 0, none⟩ = some (.slice ra bl rcap) ∧ w'.cell? ⟨R, 1, none⟩ = some (.int .i64 rty) ∧ w'.cell? ⟨R, 2, none⟩ = some (.int .u64 ren) ∧ w'.cell? ⟨R, 3, none⟩ = some (.slice rp pl rpc))
      (first | assumption | exact ⟨HD.out, HK.out _ HD.out⟩ | exact ⟨Below.drew (Below.refl _ _), HK.out _ (Below.drew (Below.refl _ _))⟩ | exact ⟨B2.out, HK.out _ B2.out⟩)
      (first
        | (go_simp; go_at_call 55; refine (HS.out _ (by assumption)).mono ?_; rintro e w3 ⟨ad, c, rfl, ho, hb2⟩; have HO := Lib.hid ho; have B2 := Lib.hid (bstep (by assumption) hb2); clear ho hb2))
    all_goals
      go_wp2
      go_ret3
      exact ⟨ad, c, rfl, HO.out, B2.out⟩
end Go.Proofs.YtnaejlfjlennhaaGreatDoor
