/- Layer 17: whether a symbol's version fits a want, of whatever object. -/
import Derived.Test.YtpilccalgegadaaBindVersG
import Derived.Test.YtpilccalgegadaaBindWordG
namespace Go.Proofs.Ytpilccalgegadaa
open Go.RowKit
set_option linter.unusedVariables false
set_option linter.unusedSimpArgs false

theorem text_ne2 {x y : ByteArray} (h : ¬ x = y) : (x.toList == y.toList) = false := by
  rw [beq_eq_false_iff_ne, ByteArray.toList_eq, ByteArray.toList_eq]
  intro e
  exact h (ByteArray.ext (Array.ext' e))
/-- the bit that hides, and the index, of a version word -/
def hidG (v : Int) : Bool := bits .and .i64 v 32768 != 0
def suitV (vr : Option (ByteArray × ByteArray)) (ver : ByteArray) (hh : Bool) : Bool := match vr with | some (n, _) => n.toList == ver.toList | none => !hh
def idxG (v : Int) : Int := bits .and .i64 v 32767

set_option maxRecDepth 100000 in
set_option maxHeartbeats 8000000 in
theorem suits_none (C : Array Value) (h54 : C.size = 54) (sym v : Int) (nm ver fl : ByteArray) (w : World)
    (HWd : ∀ wx, Below w.heap.size w wx → Calls Try.prog 20 #[.agg C, .int .i64 sym] wx fun e w' => e = .returned (.tuple #[.int .i64 v, .bool false]) ∧ Below wx.heap.size wx w') :
    Calls Try.prog 13 #[.agg C, .int .i64 sym, .agg #[.string nm, .string ver, .string fl]] w fun e w' => e = .returned (.bool true) ∧ Below w.heap.size w w' := by
  have B1 : Hid (Below w.heap.size w ((w.alloc (.cells C 55)).alloc (.cells #[.string nm, .string ver, .string fl] 25))) := Lib.hid (((Below.refl _ _).alloc (Nat.le_refl _) _).alloc (by simp) _)
  have HI : Hid ((Try.prog.info? 55).map (·.size) = some C.size) := Lib.hid (by rw [h54]; kernel_rfl)
  have K0 : Hid (((w.alloc (.cells C 55)).alloc (.cells #[.string nm, .string ver, .string fl] 25)).heap[w.heap.size]? = some (.cells C 55)) := Lib.hid ((heap_alloc_old _ _ (by simp)).trans (heap_alloc_new _ _))
  have HW := Lib.hid HWd
  clear HWd
  go_enter Try.func13, Try.ntmps13
  go_wp2_with (refine wpList_load_row rfl 55 _ rfl w.heap.size rfl 55 C (0, 0) _ K0.out Try.underlying55 rfl HI.out ?_)
  refine (HW.out _ B1.out).mono ?_
  rintro e w4 ⟨rfl, hb4⟩
  have BW4 := Lib.hid (bstep B1.out hb4)
  clear hb4
  go_wp2_with fail
  go_ret
  exact ⟨rfl, BW4.out⟩

set_option maxRecDepth 100000 in
set_option maxHeartbeats 8000000 in
theorem suits_blank (C : Array Value) (h54 : C.size = 54) (sym v : Int) (nm fl : ByteArray) (w : World)
    (HWd : ∀ wx, Below w.heap.size w wx → Calls Try.prog 20 #[.agg C, .int .i64 sym] wx fun e w' => e = .returned (.tuple #[.int .i64 v, .bool true]) ∧ Below wx.heap.size wx w') :
    Calls Try.prog 13 #[.agg C, .int .i64 sym, .agg #[.string nm, .string ⟨#[]⟩, .string fl]] w fun e w' => e = .returned (.bool (!hidG v)) ∧ Below w.heap.size w w' := by
  have B1 : Hid (Below w.heap.size w ((w.alloc (.cells C 55)).alloc (.cells #[.string nm, .string ⟨#[]⟩, .string fl] 25))) := Lib.hid (((Below.refl _ _).alloc (Nat.le_refl _) _).alloc (by simp) _)
  have HI : Hid ((Try.prog.info? 55).map (·.size) = some C.size) := Lib.hid (by rw [h54]; kernel_rfl)
  have K0 : Hid (((w.alloc (.cells C 55)).alloc (.cells #[.string nm, .string ⟨#[]⟩, .string fl] 25)).heap[w.heap.size]? = some (.cells C 55)) := Lib.hid ((heap_alloc_old _ _ (by simp)).trans (heap_alloc_new _ _))
  have HW := Lib.hid HWd
  clear HWd
  go_enter Try.func13, Try.ntmps13
  go_wp2_with (refine wpList_load_row rfl 55 _ rfl w.heap.size rfl 55 C (0, 0) _ K0.out Try.underlying55 rfl HI.out ?_)
  refine (HW.out _ B1.out).mono ?_
  rintro e w4 ⟨rfl, hb4⟩
  have BW4 := Lib.hid (bstep B1.out hb4)
  have k1 : w4.cell? ⟨w.heap.size + 1, 1, none⟩ = some (.string ⟨#[]⟩) := by
    have e1 : ((w.alloc (.cells C 55)).alloc (.cells #[.string nm, .string ⟨#[]⟩, .string fl] 25)).heap[w.heap.size + 1]? = some (.cells #[.string nm, .string ⟨#[]⟩, .string fl] 25) := by
      have := heap_alloc_new (w.alloc (.cells C 55)) (.cells #[.string nm, .string ⟨#[]⟩, .string fl] 25)
      simpa using this
    rw [cell_of_row _ _ 1 _ _ _ ((hb4.block _ (lt_of_block e1)).trans e1)]; rfl
  clear hb4
  go_upto_region 5 with fail
  change Code.wp _ _ _ _ _
  obtain ⟨hh, hhe⟩ : ∃ hh, hidG v = hh := ⟨_, rfl⟩
  have HH := Lib.hid hhe
  unfold hidG at hhe
  rw [hhe]
  clear hhe
  go_wp2_with fail
  go_ret
  exact ⟨by rw [HH.out]; rfl, BW4.out⟩

set_option maxRecDepth 100000 in
set_option maxHeartbeats 8000000 in
theorem suits_some (C : Array Value) (h54 : C.size = 54) (sym v : Int) (nm ver fl : ByteArray) (vr : Option (ByteArray × ByteArray)) (w : World) (hver : ¬ ver = ⟨#[]⟩)
    (HVd : ∀ wx, Below w.heap.size w wx → Calls Try.prog 21 #[.agg C, .int .i64 (idxG v)] wx fun e w' => e = .returned (versV vr) ∧ Below wx.heap.size wx w')
    (HWd : ∀ wx, Below w.heap.size w wx → Calls Try.prog 20 #[.agg C, .int .i64 sym] wx fun e w' => e = .returned (.tuple #[.int .i64 v, .bool true]) ∧ Below wx.heap.size wx w') :
    Calls Try.prog 13 #[.agg C, .int .i64 sym, .agg #[.string nm, .string ver, .string fl]] w fun e w' => e = .returned (.bool (suitV vr ver (hidG v))) ∧ Below w.heap.size w w' := by
  have B1 : Hid (Below w.heap.size w ((w.alloc (.cells C 55)).alloc (.cells #[.string nm, .string ver, .string fl] 25))) := Lib.hid (((Below.refl _ _).alloc (Nat.le_refl _) _).alloc (by simp) _)
  have HI : Hid ((Try.prog.info? 55).map (·.size) = some C.size) := Lib.hid (by rw [h54]; kernel_rfl)
  have K0 : Hid (((w.alloc (.cells C 55)).alloc (.cells #[.string nm, .string ver, .string fl] 25)).heap[w.heap.size]? = some (.cells C 55)) := Lib.hid ((heap_alloc_old _ _ (by simp)).trans (heap_alloc_new _ _))
  have HW := Lib.hid HWd
  have HV := Lib.hid HVd
  have tv : ver.toList.isEmpty = false := by
    rw [ByteArray.toList_eq]
    cases h : ver.data.toList with
    | nil => exact absurd (ByteArray.ext (Array.ext' h)) hver
    | cons a b => rfl
  clear HWd HVd hver
  go_enter Try.func13, Try.ntmps13
  go_wp2_with (refine wpList_load_row rfl 55 _ rfl w.heap.size rfl 55 C (0, 0) _ K0.out Try.underlying55 rfl HI.out ?_)
  refine (HW.out _ B1.out).mono ?_
  rintro e w4 ⟨rfl, hb4⟩
  have BW4 := Lib.hid (bstep B1.out hb4)
  have HE : Hid (∀ wx, Below w4.heap.size w4 wx → wx.cell? ⟨w.heap.size + 1, 1, none⟩ = some (.string ver) ∧ wx.heap[w.heap.size]? = some (.cells C 55)) := Lib.hid (fun wx hx => by
    have e1 : ((w.alloc (.cells C 55)).alloc (.cells #[.string nm, .string ver, .string fl] 25)).heap[w.heap.size + 1]? = some (.cells #[.string nm, .string ver, .string fl] 25) := by
      have := heap_alloc_new (w.alloc (.cells C 55)) (.cells #[.string nm, .string ver, .string fl] 25)
      simpa using this
    have hbx := bstep hb4 hx
    exact ⟨by rw [cell_of_row _ _ 1 _ _ _ ((hbx.block _ (lt_of_block e1)).trans e1)]; rfl, (hbx.block _ (lt_of_block K0.out)).trans K0.out⟩)
  clear hb4
  obtain ⟨k1, k2⟩ := HE.out w4 (Below.refl _ _)
  have K2 := Lib.hid k2
  clear k2
  go_upto_region 5 with fail
  obtain ⟨hh, hhe⟩ : ∃ hh, hidG v = hh := ⟨_, rfl⟩
  have HH := Lib.hid hhe
  unfold hidG at hhe
  rw [hhe]
  clear hhe
  go_upto_region 7 with fail
  clear tv k1
  have HV4 := Lib.hid (HV.out w4 BW4.out)
  unfold idxG at HV4
  go_wp2_with (refine wpList_load_row rfl 55 _ rfl w.heap.size rfl 55 C (0, 0) _ K2.out Try.underlying55 rfl HI.out ?_)
  refine HV4.out.mono ?_
  rintro e w5 ⟨rfl, hb5⟩
  have B5 := Lib.hid (bstep BW4.out hb5)
  rcases vr with _ | ⟨n, f⟩
  · have k3 : (w5.alloc (.cells #[.string ⟨#[]⟩, .string ⟨#[]⟩] 85)).cell? ⟨w.heap.size + 1, 1, none⟩ = some (.string ver) := (HE.out _ (hb5.alloc hb5.size _)).1
    clear hb5 HV4
    unfold versV
    cases hh with
    | true =>
      go_wp2_with fail
      go_ret
      exact ⟨by rw [HH.out]; rfl, B5.out.alloc B5.out.size _⟩
    | false =>
      go_wp2_with fail
      go_ret
      exact ⟨by rw [HH.out]; rfl, B5.out.alloc B5.out.size _⟩
  · have k3 : (w5.alloc (.cells #[.string n, .string f] 85)).cell? ⟨w.heap.size + 1, 1, none⟩ = some (.string ver) := (HE.out _ (hb5.alloc hb5.size _)).1
    clear hb5 HV4
    unfold versV
    obtain ⟨tt, ht⟩ : ∃ tt, (n.toList == ver.toList) = tt := ⟨_, rfl⟩
    cases tt with
    | true =>
      go_wp2_with fail
      go_ret
      exact ⟨by simp only [suitV, ht]; rfl, B5.out.alloc B5.out.size _⟩
    | false =>
      go_wp2_with fail
      go_ret
      exact ⟨by simp only [suitV, ht]; rfl, B5.out.alloc B5.out.size _⟩
end Go.Proofs.Ytpilccalgegadaa
