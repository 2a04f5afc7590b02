/- Layer 5: the bytes of a file at an address, the program's answer. -/
import Derived.Test.YtnaejlfjlennhaaGreatDoorDynNum
import Derived.Test.YtnaejlfjlennhaaGreatDoorDynCut
import Derived.Test.YtnaejlfjlennhaaGreatDoorShelf
namespace Go.Proofs.YtnaejlfjlennhaaGreatDoor
open Go.RowKit
set_option linter.unusedVariables false
set_option linter.unusedSimpArgs false

theorem slice8 : IntSlice Tryz.prog 22 5 .u8 1 := ⟨Tryz.underlying22, by kernel_rfl⟩

/-- the bytes at an address; an error's number behind -/
def sliceF (bs : List Nat) (ps : List PT) (addr size : Nat) : List Nat × Nat :=
  if (offF ps addr size).2 = 0 ∧ (offF ps addr size).1 ≤ bs.length ∧ size ≤ bs.length - (offF ps addr size).1 then ((bs.drop (offF ps addr size).1).take size, 0) else ([], 4)
theorem sliceF_yes {bs : List Nat} {ps : List PT} {addr size o : Nat} (h : offF ps addr size = (o, 0)) (h1 : o ≤ bs.length) (h2 : size ≤ bs.length - o) : sliceF bs ps addr size = ((bs.drop o).take size, 0) := by
  unfold sliceF
  rw [h, if_pos ⟨rfl, h1, h2⟩]
theorem sliceF_off {bs : List Nat} {ps : List PT} {addr size : Nat} (h : offF ps addr size = (0, 4)) : sliceF bs ps addr size = ([], 4) := by
  unfold sliceF
  rw [h, if_neg (fun h => by have := h.1; simp at this)]
theorem sliceF_out {bs : List Nat} {ps : List PT} {addr size o : Nat} (h : offF ps addr size = (o, 0)) (h1 : ¬ (o ≤ bs.length ∧ size ≤ bs.length - o)) : sliceF bs ps addr size = ([], 4) := by
  unfold sliceF
  rw [h, if_neg (fun h => h1 h.2)]

/-- bytes.Clone, of whatever slice -/
theorem clone_own (a : Option Addr) (n cap : Nat) (bs : List Nat) (w : World) (hx : bs.length = n) (h : BRow w a bs) (hl : n ≤ 140737488355328) (hn : a = none → n = 0 ∧ cap = 0) :
    Calls Tryz.prog 9 #[.slice a n cap] w fun e w' => ∃ ad c, e = .returned (.slice ad n c) ∧ OwnI w' w.heap.size 5 .u8 (.slice ad n c) (toI bs) ∧ Below w.heap.size w w' := by
  subst hx
  have key : ∀ (v : Value) (w' : World), w'.ownsRow w.heap.size 5 1 v bs.length ((toI bs).map (Value.int .u8)) → ∃ ad c, v = .slice ad bs.length c ∧ OwnI w' w.heap.size 5 .u8 (.slice ad bs.length c) (toI bs) := by
    intro v w' ho
    have ho' : OwnI w' w.heap.size 5 .u8 v (toI bs) := by unfold OwnI; rw [toI_length]; exact ho
    obtain ⟨ad, c, hv⟩ := ho'.len_le
    rw [toI_length] at hv
    subst hv
    exact ⟨ad, c, rfl, ho'⟩
  cases a with
  | none =>
    obtain ⟨h0, rfl⟩ := hn rfl
    obtain rfl : bs = [] := List.length_eq_zero_iff.1 h0
    refine (Tryz.bytes_Clone_nil 0 0 w).mono ?_
    rintro e w' ⟨rfl, rfl⟩
    exact ⟨none, 0, rfl, OwnI.nil _ _ _ _, Below.refl _ _⟩
  | some a =>
    have := Tryz.bytes_Clone_at a bs.length cap (toI bs) w (toI_length bs) hl (by
      intro i hi
      obtain ⟨b, off, e, hc⟩ := h.1 i (by rw [toI_length]; exact hi)
      simp only [Option.some.injEq] at e
      subst e
      rw [WideShapes.add_plain]
      exact hc)
    refine this.mono ?_
    rintro e w' ⟨v, rfl, ho, -, hb⟩
    obtain ⟨ad, c, rfl, ho'⟩ := key v w' ho
    exact ⟨ad, c, rfl, ho', hb⟩

set_option maxRecDepth 100000 in
set_option maxHeartbeats 4000000 in
theorem slice_any (a : Option Addr) (cap : Nat) (bs : List Nat) (ty en : Int) (p : Option Addr) (pc : Nat) (ps : List PT) (addr size : Nat) (w : World) (hb : BRow w a bs) (hbl : bs.length ≤ 140737488351232) (hbc : bs.length ≤ cap) (hbn : a = none → bs.length = 0 ∧ cap = 0)
    (h : PRow w p ps) (hl : ps.length ≤ 140737488351232) (ha : addr < 18446744073709551616) (hs : size < 18446744073709551616) :
    Calls Tryz.prog 55 #[.slice a bs.length cap, headV ty en p ps.length pc, .int .u64 addr, .int .u64 size] w fun e w' => ∃ ad c, e = .returned (.tuple #[.slice ad (sliceF bs ps addr size).1.length c, errV ((sliceF bs ps addr size).2 : Int)]) ∧
      OwnI w' w.heap.size 5 .u8 (.slice ad (sliceF bs ps addr size).1.length c) (toI (sliceF bs ps addr size).1) ∧ Below w.heap.size w w' := by
  have HO := Lib.hid (fun (w1 : World) (hp : PRow w1 p ps) => offset_any ty en p pc ps addr size w1 hp hl ha hs)
  have HP := Lib.hid h
  have HBR := Lib.hid hb
  have HN := Lib.hid hbn
  clear h hb hbn
  have hlt := offF_lt ps addr size
  rcases offF_code ps addr size with h0 | h4
  · obtain ⟨o, ho⟩ : ∃ o, offF ps addr size = (o, 0) := ⟨(offF ps addr size).1, by rw [← h0]⟩
    have HE := Lib.hid ho
    rw [ho] at hlt
    clear h0 ho
    simp only at hlt
    by_cases hin : o ≤ bs.length ∧ size ≤ bs.length - o
    · have hF := sliceF_yes HE.out hin.1 hin.2
      have HL := Lib.hid (show ((bs.drop o).take size).length = size from by simp; omega)
      rw [hF]
      clear hF
      obtain ⟨hin1, hin2⟩ := hin
      have hcase : ¬ cap = o ∨ cap = o := by omega
      rcases hcase with hco | hco
      · unfold headV
        go_enter Tryz.func55, Tryz.ntmps55
        go_wp2_with fail
        have HB1 : Hid (Below w.heap.size w (w.alloc (.cells #[.int .i64 ty, .int .u64 en, .slice p ps.length pc] 27))) := Lib.hid ((Below.refl _ _).alloc (Nat.le_refl _) _)
        generalize w.alloc (.cells #[.int .i64 ty, .int .u64 en, .slice p ps.length pc] 27) = w1 at *
        refine (HO.out w1 (HP.out.below HB1.out)).mono ?_
        rintro e w2 ⟨he, hb2⟩
        rw [HE.out] at he
        subst he
        have HB2 := Lib.hid (bstep HB1.out hb2)
        clear hb2 HB1
        simp only [errV]
        go_wp2_with fail
        refine (within_any a bs.length cap o size w2 (Nat.le_trans hbl (by decide)) hlt hs).mono ?_
        rintro e w3 ⟨rfl, rfl⟩
        have hd : decide (o ≤ bs.length ∧ size ≤ bs.length - o) = true := by simp [hin1, hin2]
        rw [hd]
        clear hd
        go_wp2_with fail
        have hcl := clone_own (a.map (·.add o)) size (cap - o) ((bs.drop o).take size) w2 HL.out ((HBR.out.below HB2.out).cut o size) (by omega) (by
          intro hn
          have : a = none := by cases a with
            | none => rfl
            | some x => simp at hn
          obtain ⟨h1, h2⟩ := HN.out this
          omega)
        refine hcl.mono ?_
        rintro e w4 ⟨ad, c, rfl, hown, hb4⟩
        have HOW := Lib.hid hown; have HB4 := Lib.hid (bstep HB2.out hb4)
        have HSZ := Lib.hid (show w.heap.size ≤ w2.heap.size from HB2.out.size)
        clear hown hb4 hcl HB2
        go_wp2
        go_ret2
        have hl := HL.out
        exact ⟨ad, c, by rw [hl]; rfl, by rw [hl]; exact HOW.out.mono HSZ.out, HB4.out⟩
      · subst hco
        have h0 : size = 0 := by omega
        subst h0
        unfold headV
        go_enter Tryz.func55, Tryz.ntmps55
        go_wp2_with fail
        have HB1 : Hid (Below w.heap.size w (w.alloc (.cells #[.int .i64 ty, .int .u64 en, .slice p ps.length pc] 27))) := Lib.hid ((Below.refl _ _).alloc (Nat.le_refl _) _)
        generalize w.alloc (.cells #[.int .i64 ty, .int .u64 en, .slice p ps.length pc] 27) = w1 at *
        refine (HO.out w1 (HP.out.below HB1.out)).mono ?_
        rintro e w2 ⟨he, hb2⟩
        rw [HE.out] at he
        subst he
        have HB2 := Lib.hid (bstep HB1.out hb2)
        clear hb2 HB1
        simp only [errV]
        go_wp2_with fail
        refine (within_any a bs.length cap cap 0 w2 (Nat.le_trans hbl (by decide)) hlt hs).mono ?_
        rintro e w3 ⟨rfl, rfl⟩
        have hd : decide (cap ≤ bs.length ∧ 0 ≤ bs.length - cap) = true := by simp [hin1]
        rw [hd]
        clear hd
        go_wp2_with fail
        have hcl := clone_own a 0 0 [] w2 rfl ⟨fun i hi => by simp [toI] at hi, fun b hb => by cases hb⟩ (by omega) (fun _ => ⟨rfl, rfl⟩)
        refine hcl.mono ?_
        rintro e w4 ⟨ad, c, rfl, hown, hb4⟩
        have HOW := Lib.hid hown; have HB4 := Lib.hid (bstep HB2.out hb4)
        have HSZ := Lib.hid (show w.heap.size ≤ w2.heap.size from HB2.out.size)
        clear hown hb4 hcl HB2
        go_wp2
        go_ret2
        have hl : (bs.drop cap).take 0 = [] := by simp
        rw [hl]
        exact ⟨ad, c, rfl, HOW.out.mono HSZ.out, HB4.out⟩
    · have hF := sliceF_out HE.out hin
      rw [hF]
      clear hF
      unfold headV
      go_enter Tryz.func55, Tryz.ntmps55
      go_wp2_with fail
      have HB1 : Hid (Below w.heap.size w (w.alloc (.cells #[.int .i64 ty, .int .u64 en, .slice p ps.length pc] 27))) := Lib.hid ((Below.refl _ _).alloc (Nat.le_refl _) _)
      generalize w.alloc (.cells #[.int .i64 ty, .int .u64 en, .slice p ps.length pc] 27) = w1 at *
      refine (HO.out w1 (HP.out.below HB1.out)).mono ?_
      rintro e w2 ⟨he, hb2⟩
      rw [HE.out] at he
      subst he
      have HB2 := Lib.hid (bstep HB1.out hb2)
      clear hb2 HB1
      simp only [errV]
      go_wp2_with fail
      refine (within_any a bs.length cap o size w2 (Nat.le_trans hbl (by decide)) hlt hs).mono ?_
      rintro e w3 ⟨rfl, rfl⟩
      have hd : decide (o ≤ bs.length ∧ size ≤ bs.length - o) = false := by rw [decide_eq_false_iff_not]; exact hin
      rw [hd]
      clear hd
      go_wp2_with fail
      go_ret2
      exact ⟨none, 0, rfl, OwnI.nil _ _ _ _, HB2.out⟩
  · have HE := Lib.hid h4
    have hF := sliceF_off (bs := bs) h4
    rw [hF]
    clear hF h4 hlt
    unfold headV
    go_enter Tryz.func55, Tryz.ntmps55
    go_wp2_with fail
    have HB1 : Hid (Below w.heap.size w (w.alloc (.cells #[.int .i64 ty, .int .u64 en, .slice p ps.length pc] 27))) := Lib.hid ((Below.refl _ _).alloc (Nat.le_refl _) _)
    generalize w.alloc (.cells #[.int .i64 ty, .int .u64 en, .slice p ps.length pc] 27) = w1 at *
    refine (HO.out w1 (HP.out.below HB1.out)).mono ?_
    rintro e w2 ⟨he, hb2⟩
    rw [HE.out] at he
    subst he
    have HB2 := Lib.hid (bstep HB1.out hb2)
    clear hb2 HB1
    simp only [errV]
    go_wp2_with fail
    go_ret2
    exact ⟨none, 0, rfl, OwnI.nil _ _ _ _, HB2.out⟩
end Go.Proofs.YtnaejlfjlennhaaGreatDoor
