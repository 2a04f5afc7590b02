/- Layer 13: the three instructions at the head of all statements are done. -/
import Derived.Test.YtmnjkaimpejohaaGreatDoorExecA
namespace Go.Proofs.YtmnjkaimpejohaaGreatDoor
open Go.RowKit
set_option linter.unusedVariables false
set_option linter.unusedSimpArgs false

/-- ten cells are an operand -/
def OpA (C : Array Value) (o : Nat) (k n W : Int) : Prop := ∀ j, j < 10 → C[o + j]? = (operC k n W)[j]?
theorem OpA.set {C : Array Value} {o : Nat} {k n W : Int} (h : OpA C o k n W) {i : Nat} (hi : i < o ∨ o + 10 ≤ i) (v : Value) : OpA (C.setIfInBounds i v) o k n W := fun j hj => by
  rw [Array.getElem?_setIfInBounds_ne (by omega)]
  exact h j hj
theorem opnd_a {w : World} {sb : Nat} {C : Array Value} (h : SAt w sb C) {k n W : Int} (hA : OpA C 27 k n W) : w.cell? ⟨sb, 27, none⟩ = some (.int .i64 k) ∧ w.cell? ⟨sb, 28, none⟩ = some (.int .i64 n) ∧ w.cell? ⟨sb, 29, none⟩ = some (.int .i64 W) ∧ w.cell? ⟨sb, 30, none⟩ = some (.int .i64 0) ∧ w.cell? ⟨sb, 31, none⟩ = some (.int .i64 0) ∧ w.cell? ⟨sb, 32, none⟩ = some (.int .i64 0) ∧ w.cell? ⟨sb, 33, none⟩ = some (.int .i64 0) ∧ w.cell? ⟨sb, 34, none⟩ = some (.int .i64 0) ∧ w.cell? ⟨sb, 35, none⟩ = some (.bool false) ∧ w.cell? ⟨sb, 36, none⟩ = some (.bool false) :=
  ⟨(h.cell 27).trans (hA 0 (by omega)), (h.cell 28).trans (hA 1 (by omega)), (h.cell 29).trans (hA 2 (by omega)), (h.cell 30).trans (hA 3 (by omega)), (h.cell 31).trans (hA 4 (by omega)), (h.cell 32).trans (hA 5 (by omega)), (h.cell 33).trans (hA 6 (by omega)), (h.cell 34).trans (hA 7 (by omega)), (h.cell 35).trans (hA 8 (by omega)), (h.cell 36).trans (hA 9 (by omega))⟩
theorem opnd_b {w : World} {sb : Nat} {C : Array Value} (h : SAt w sb C) {k n W : Int} (hA : OpA C 37 k n W) : w.cell? ⟨sb, 37, none⟩ = some (.int .i64 k) ∧ w.cell? ⟨sb, 38, none⟩ = some (.int .i64 n) ∧ w.cell? ⟨sb, 39, none⟩ = some (.int .i64 W) ∧ w.cell? ⟨sb, 40, none⟩ = some (.int .i64 0) ∧ w.cell? ⟨sb, 41, none⟩ = some (.int .i64 0) ∧ w.cell? ⟨sb, 42, none⟩ = some (.int .i64 0) ∧ w.cell? ⟨sb, 43, none⟩ = some (.int .i64 0) ∧ w.cell? ⟨sb, 44, none⟩ = some (.int .i64 0) ∧ w.cell? ⟨sb, 45, none⟩ = some (.bool false) ∧ w.cell? ⟨sb, 46, none⟩ = some (.bool false) :=
  ⟨(h.cell 37).trans (hA 0 (by omega)), (h.cell 38).trans (hA 1 (by omega)), (h.cell 39).trans (hA 2 (by omega)), (h.cell 40).trans (hA 3 (by omega)), (h.cell 41).trans (hA 4 (by omega)), (h.cell 42).trans (hA 5 (by omega)), (h.cell 43).trans (hA 6 (by omega)), (h.cell 44).trans (hA 7 (by omega)), (h.cell 45).trans (hA 8 (by omega)), (h.cell 46).trans (hA 9 (by omega))⟩
theorem opnd_box {w : World} {b : Nat} {k n W : Int} {T : TypeId} (h : w.heap[b]? = some (.cells (operC k n W) T)) : w.cell? ⟨b, 0, none⟩ = some (.int .i64 k) ∧ w.cell? ⟨b, 1, none⟩ = some (.int .i64 n) ∧ w.cell? ⟨b, 2, none⟩ = some (.int .i64 W) ∧ w.cell? ⟨b, 3, none⟩ = some (.int .i64 0) ∧ w.cell? ⟨b, 4, none⟩ = some (.int .i64 0) ∧ w.cell? ⟨b, 5, none⟩ = some (.int .i64 0) ∧ w.cell? ⟨b, 6, none⟩ = some (.int .i64 0) ∧ w.cell? ⟨b, 7, none⟩ = some (.int .i64 0) ∧ w.cell? ⟨b, 8, none⟩ = some (.bool false) ∧ w.cell? ⟨b, 9, none⟩ = some (.bool false) := by
  refine ⟨?_, ?_, ?_, ?_, ?_, ?_, ?_, ?_, ?_, ?_⟩ <;> (rw [cell_of_row _ _ _ _ _ _ h]; rfl)
theorem inc_get {C : Array Value} {i : Nat} (h : i ≠ 18 ∧ i ≠ 19 ∧ i ≠ 20 ∧ i ≠ 21 ∧ i ≠ 22) : (incC C)[i]? = C[i]? := by
  unfold incC
  rw [Array.getElem?_setIfInBounds_ne (by omega), Array.getElem?_setIfInBounds_ne (by omega), Array.getElem?_setIfInBounds_ne (by omega), Array.getElem?_setIfInBounds_ne (by omega), Array.getElem?_setIfInBounds_ne (by omega)]
theorem inc_size {C : Array Value} : (incC C).size = C.size := by simp [incC]
set_option maxRecDepth 100000 in
set_option maxHeartbeats 8000000 in
theorem turn_up (sb : Nat) (C : Array Value) (cf : Bool) (w : World) (h : SAt w sb C) (hs : C.size = 57) (hop : C[24]? = some (.int .i64 12)) (hA : OpA C 27 1 0 8) (h0 : C[0]? = some (.int .u64 18446744073709551615)) (hcf : C[18]? = some (.bool cf)) :
    Calls Tryz.prog 28 #[.pointer (some ⟨sb, 0, none⟩)] w fun e w' => e = .returned .nilIface ∧ SAt w' sb (((incC C).setIfInBounds 18 (.bool cf)).setIfInBounds 0 (.int .u64 0)) ∧ Near sb w w' := by
  have H := Lib.hid h
  have HV := Lib.hid (value_reg sb C 0 18446744073709551615 w h (by omega) (by omega) h0)
  have HOP := Lib.hid hop
  have HA := Lib.hid hA
  have HS := Lib.hid hs
  obtain ⟨a0, a1, a2, a3, a4, a5, a6, a7, a8, a9⟩ := opnd_a h hA
  have HCF := Lib.hid hcf
  have H0 := Lib.hid h0
  clear h hs hop hA h0 hcf
  unfold operC at HV
  go_enter Tryz.func28, Tryz.ntmps28
  go_wp2_with fail
  refine HV.out.mono ?_
  rintro e w1 ⟨rfl, b1⟩
  have s1 := H.out.below b1
  have S1 := Lib.hid s1
  have N1 := Lib.hid (Near.of b1 H.out.lt)
  clear a0 a1 a2 a3 a4 a5 a6 a7 a8 a9 b1 HV
  obtain ⟨a0, a1, a2, a3, a4, a5, a6, a7, a8, a9⟩ := opnd_a s1 HA.out
  have c18 : w1.cell? ⟨sb, 18, none⟩ = some (.bool cf) := (s1.cell 18).trans HCF.out
  have c24 : w1.cell? ⟨sb, 24, none⟩ = some (.int .i64 12) := (s1.cell 24).trans HOP.out
  have HAD : Hid (∀ m, Calls Tryz.prog 52 #[.pointer (some ⟨sb, 0, none⟩), .int .u64 18446744073709551615, .int .u64 1, .int .i64 8] (w1.drewN m) fun e w' => e = .returned (.int .u64 0) ∧ SAt w' sb (incC C) ∧ Near sb w1 w') := Lib.hid fun m => (add_up sb C _ (s1.below (below_drewN (Below.refl _ _) m)) HS.out).mono fun e w' hh => ⟨hh.1, hh.2.1, (Near.of (below_drewN (Below.refl _ _) m) s1.lt).trans hh.2.2⟩
  clear s1
  go_wp2_with fail
  go_quiet (fail)
  go_wp2_with fail
  refine (HAD.out _).mono ?_
  rintro e w2 ⟨rfl, s2, n2⟩
  have S2 := Lib.hid s2
  have N2 := Lib.hid (N1.out.trans n2)
  clear a0 a1 a2 a3 a4 a5 a6 a7 a8 a9 c18 c24 HAD n2 N1 S1
  have c18 : w2.cell? ⟨sb, 18, none⟩ = some ((incC C)[18]'(by rw [inc_size, HS.out]; omega)) := (s2.cell 18).trans (by simp)
  generalize ((incC C)[18]'(by rw [inc_size, HS.out]; omega)) = u18 at *
  have f18 := s2.free 18
  obtain ⟨a0, a1, a2, a3, a4, a5, a6, a7, a8, a9⟩ := opnd_a s2 (fun j hj => (inc_get (by omega)).trans (HA.out j hj))
  have c24 : w2.cell? ⟨sb, 24, none⟩ = some (.int .i64 12) := (s2.cell 24).trans ((inc_get (by omega)).trans HOP.out)
  have HW := Lib.hid (write_reg sb ((incC C).setIfInBounds 18 (.bool cf)) 0 0 (.int .u64 18446744073709551615) (w2.setCell ⟨sb, 18, none⟩ (.bool cf)) (s2.set _ _) (by omega) (by rw [Array.getElem?_setIfInBounds_ne (by omega), inc_get (by omega)]; exact H0.out))
  clear s2
  unfold operC at HW
  go_wp2_with fail
  refine HW.out.mono ?_
  rintro e w3 ⟨rfl, s3, n3⟩
  go_wp2_with fail
  go_ret
  exact ⟨rfl, s3, (N2.out.set _ _).trans n3⟩
set_option maxRecDepth 100000 in
set_option maxHeartbeats 16000000 in
theorem move_up (sb : Nat) (C : Array Value) (k j v : Nat) (x : Value) (w : World) (h : SAt w sb C) (hop : C[24]? = some (.int .i64 8)) (hA : OpA C 27 1 (k : Int) 8) (hB : OpA C 37 1 (j : Int) 8) (hk : k < 16) (hj : j < 16) (hv : v < 18446744073709551616) (hcj : C[j]? = some (.int .u64 (v : Int))) (hck : C[k]? = some x) :
    Calls Tryz.prog 26 #[.pointer (some ⟨sb, 0, none⟩)] w fun e w' => e = .returned .nilIface ∧ SAt w' sb (C.setIfInBounds k (.int .u64 (v : Int))) ∧ Near sb w w' := by
  have H : Hid (∀ wx, Below w.heap.size w wx → SAt wx sb C) := Lib.hid fun wx hb => h.below hb
  have HLT := Lib.hid h.lt
  have HV : Hid (∀ wx, Below w.heap.size w wx → Calls Tryz.prog 47 #[.pointer (some ⟨sb, 0, none⟩), .agg (operC 1 (j : Int) 8)] wx fun e w' => e = .returned (.tuple #[.int .u64 (v : Int), .nilIface]) ∧ Below wx.heap.size wx w') := Lib.hid fun wx hb => value_reg sb C j v wx (h.below hb) hj hv hcj
  have HW : Hid (∀ wx, Below w.heap.size w wx → Calls Tryz.prog 44 #[.pointer (some ⟨sb, 0, none⟩), .agg (operC 1 (k : Int) 8), .int .u64 (v : Int)] wx fun e w' => e = .returned .nilIface ∧ SAt w' sb (C.setIfInBounds k (.int .u64 (v : Int))) ∧ Near sb wx w') := Lib.hid fun wx hb => write_reg sb C k v x wx (h.below hb) hk hck
  have HOP := Lib.hid hop
  obtain ⟨a0, a1, a2, a3, a4, a5, a6, a7, a8, a9⟩ := opnd_a h hA
  obtain ⟨d0, d1, d2, d3, d4, d5, d6, d7, d8, d9⟩ := opnd_b h hB
  have K1 : Hid (w.drew.cell? ⟨sb, 27, none⟩ = some (.int .i64 1) ∧ w.drew.cell? ⟨sb, 28, none⟩ = some (.int .i64 (k : Int)) ∧ w.drew.cell? ⟨sb, 29, none⟩ = some (.int .i64 8) ∧ w.drew.cell? ⟨sb, 30, none⟩ = some (.int .i64 0) ∧ w.drew.cell? ⟨sb, 31, none⟩ = some (.int .i64 0) ∧ w.drew.cell? ⟨sb, 32, none⟩ = some (.int .i64 0) ∧ w.drew.cell? ⟨sb, 33, none⟩ = some (.int .i64 0) ∧ w.drew.cell? ⟨sb, 34, none⟩ = some (.int .i64 0) ∧ w.drew.cell? ⟨sb, 35, none⟩ = some (.bool false) ∧ w.drew.cell? ⟨sb, 36, none⟩ = some (.bool false)) := Lib.hid (opnd_a (h.below (Below.refl _ _).drew) hA)
  clear h hop hA hB hk hj hv hcj hck
  unfold operC at HV HW
  go_enter Tryz.func26, Tryz.ntmps26
  have hlt := HLT.out
  go_wp2_with fail
  go_region
  · have X3 : Hid (((w.alloc (.cells (operC 1 (k : Int) 8) 52)).alloc (.cells (operC 1 (j : Int) 8) 52)).drew.heap[w.heap.size]? = some (.cells (operC 1 (k : Int) 8) 52)) := Lib.hid ((heap_alloc_old _ _ (by simp)).trans (heap_alloc_new _ _))
    have X4 : Hid (((w.alloc (.cells (operC 1 (k : Int) 8) 52)).alloc (.cells (operC 1 (j : Int) 8) 52)).drew.heap[w.heap.size + 1]? = some (.cells (operC 1 (j : Int) 8) 52)) := Lib.hid (by have := heap_alloc_new (w.alloc (.cells (operC 1 (k : Int) 8) 52)) (.cells (operC 1 (j : Int) 8) 52); rwa [World.size_alloc] at this)
    have BZ : Hid (Below w.heap.size w ((w.alloc (.cells (operC 1 (k : Int) 8) 52)).alloc (.cells (operC 1 (j : Int) 8) 52)).drew) := Lib.hid (Below.drew (by go_grown))
    clear a0 a1 a2 a3 a4 a5 a6 a7 a8 a9 d0 d1 d2 d3 d4 d5 d6 d7 d8 d9 K1
    show Exit.then _ _ _ _ ((w.alloc (.cells (operC 1 (k : Int) 8) 52)).alloc (.cells (operC 1 (j : Int) 8) 52)).drew
    generalize ((w.alloc (.cells (operC 1 (k : Int) 8) 52)).alloc (.cells (operC 1 (j : Int) 8) 52)).drew = wz at *
    obtain ⟨b3, hb3⟩ : ∃ b3, w.heap.size = b3 := ⟨_, rfl⟩
    obtain ⟨b4, hb4⟩ : ∃ b4, w.heap.size + 1 = b4 := ⟨_, rfl⟩
    rw [hb3] at X3
    rw [hb4] at X4
    rw [hb4, hb3]
    clear hb3 hb4
    have hs := H.out wz BZ.out
    have c24 : wz.cell? ⟨sb, 24, none⟩ = some (.int .i64 8) := (hs.cell 24).trans HOP.out
    obtain ⟨a0, a1, a2, a3, a4, a5, a6, a7, a8, a9⟩ := opnd_box X4.out
    have HVZ := Lib.hid (HV.out wz BZ.out)
    clear hs HV hlt
    go_wp2_with fail
    refine HVZ.out.mono ?_
    rintro e w2 ⟨rfl, b2⟩
    clear a0 a1 a2 a3 a4 a5 a6 a7 a8 a9 c24 HVZ
    have B2 := Lib.hid (BZ.out.trans (b2.mono BZ.out.size))
    have Y3 := Lib.hid ((b2.block _ (lt_of_block X3.out)).trans X3.out)
    clear b2 X3 X4 BZ
    have hs := H.out w2 B2.out
    have c24 : w2.cell? ⟨sb, 24, none⟩ = some (.int .i64 8) := (hs.cell 24).trans HOP.out
    obtain ⟨a0, a1, a2, a3, a4, a5, a6, a7, a8, a9⟩ := opnd_box Y3.out
    clear hs
    go_wp2_with fail
    go_quiet (fail)
    go_wp2_with fail
    refine (HW.out _ (below_drewN B2.out _)).mono ?_
    rintro e w3 ⟨rfl, s3, n3⟩
    go_wp2_with fail
    go_ret
    exact ⟨rfl, s3, (Near.of (below_drewN B2.out _) HLT.out).trans n3⟩
  · have X3 : Hid (((w.alloc (.cells (operC 1 (j : Int) 8) 52)).alloc (.cells (operC 1 (k : Int) 8) 52)).drew.heap[w.heap.size + 1]? = some (.cells (operC 1 (k : Int) 8) 52)) := Lib.hid (by have := heap_alloc_new (w.alloc (.cells (operC 1 (j : Int) 8) 52)) (.cells (operC 1 (k : Int) 8) 52); rwa [World.size_alloc] at this)
    have X4 : Hid (((w.alloc (.cells (operC 1 (j : Int) 8) 52)).alloc (.cells (operC 1 (k : Int) 8) 52)).drew.heap[w.heap.size]? = some (.cells (operC 1 (j : Int) 8) 52)) := Lib.hid ((heap_alloc_old _ _ (by simp)).trans (heap_alloc_new _ _))
    have BZ : Hid (Below w.heap.size w ((w.alloc (.cells (operC 1 (j : Int) 8) 52)).alloc (.cells (operC 1 (k : Int) 8) 52)).drew) := Lib.hid (Below.drew (by go_grown))
    clear a0 a1 a2 a3 a4 a5 a6 a7 a8 a9 d0 d1 d2 d3 d4 d5 d6 d7 d8 d9 K1
    show Exit.then _ _ _ _ ((w.alloc (.cells (operC 1 (j : Int) 8) 52)).alloc (.cells (operC 1 (k : Int) 8) 52)).drew
    generalize ((w.alloc (.cells (operC 1 (j : Int) 8) 52)).alloc (.cells (operC 1 (k : Int) 8) 52)).drew = wz at *
    obtain ⟨b3, hb3⟩ : ∃ b3, w.heap.size + 1 = b3 := ⟨_, rfl⟩
    obtain ⟨b4, hb4⟩ : ∃ b4, w.heap.size = b4 := ⟨_, rfl⟩
    rw [hb3] at X3
    rw [hb4] at X4
    rw [hb3, hb4]
    clear hb3 hb4
    have hs := H.out wz BZ.out
    have c24 : wz.cell? ⟨sb, 24, none⟩ = some (.int .i64 8) := (hs.cell 24).trans HOP.out
    obtain ⟨a0, a1, a2, a3, a4, a5, a6, a7, a8, a9⟩ := opnd_box X4.out
    have HVZ := Lib.hid (HV.out wz BZ.out)
    clear hs HV hlt
    go_wp2_with fail
    refine HVZ.out.mono ?_
    rintro e w2 ⟨rfl, b2⟩
    clear a0 a1 a2 a3 a4 a5 a6 a7 a8 a9 c24 HVZ
    have B2 := Lib.hid (BZ.out.trans (b2.mono BZ.out.size))
    have Y3 := Lib.hid ((b2.block _ (lt_of_block X3.out)).trans X3.out)
    clear b2 X3 X4 BZ
    have hs := H.out w2 B2.out
    have c24 : w2.cell? ⟨sb, 24, none⟩ = some (.int .i64 8) := (hs.cell 24).trans HOP.out
    obtain ⟨a0, a1, a2, a3, a4, a5, a6, a7, a8, a9⟩ := opnd_box Y3.out
    clear hs
    go_wp2_with fail
    go_quiet (fail)
    go_wp2_with fail
    refine (HW.out _ (below_drewN B2.out _)).mono ?_
    rintro e w3 ⟨rfl, s3, n3⟩
    go_wp2_with fail
    go_ret
    exact ⟨rfl, s3, (Near.of (below_drewN B2.out _) HLT.out).trans n3⟩
end Go.Proofs.YtmnjkaimpejohaaGreatDoor
