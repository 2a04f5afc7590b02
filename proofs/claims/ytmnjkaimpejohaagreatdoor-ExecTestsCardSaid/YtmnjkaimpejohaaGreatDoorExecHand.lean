/- Layer 13: the registers that a statement is handed; a world that meets the rows' list. -/
import Derived.Test.YtmnjkaimpejohaaGreatDoorRows
import Derived.Test.YtmnjkaimpejohaaGreatDoorExecLaws
import Derived.LaidLaws
import Derived.LaidHandle
import Derived.Stop.Joined
import Derived.Deep.Fields
import Derived.OpenShut
namespace Go.Proofs.YtmnjkaimpejohaaGreatDoor
open Go.RowKit Go.WideShapes Go.Deep
set_option linter.unusedVariables false
set_option linter.unusedSimpArgs false

section
variable {H : Type} {enc : TypeId × Value → H} {w : World} {base : Nat} {spare : Nat → Bool} {held : Bool}
theorem one_int {n : Nat} {c : Value} {y : DataW H × List MemPlace} (h : DataW.trod enc Tryz.prog w base spare held n 22 [c] = some y) : ∃ x, c = .int .u64 x ∧ (Lit.int .u64 x).wf = true := by
  obtain ⟨x, hc, -, hw⟩ := DataW.trod_int Tryz.underlying22 h
  exact ⟨x, by simpa using hc, hw⟩
theorem one_bool {n : Nat} {c : Value} {y : DataW H × List MemPlace} (h : DataW.trod enc Tryz.prog w base spare held n 4 [c] = some y) : ∃ x, c = .bool x := by
  obtain ⟨x, hc, -⟩ := DataW.trod_bool Tryz.underlying4 h
  exact ⟨x, by simpa using hc⟩
set_option maxRecDepth 100000 in
set_option maxHeartbeats 4000000 in
theorem open_regs {r : Reach} {b0 : Nat} {v : Value} {d : DataW H} {p : List MemPlace} (hv : Value.okWide Tryz.prog w r b0 25 v) (h : DataW.Trod enc Tryz.prog w base spare held 25 v d p) : ∃ g : RG, v = .agg g.cells ∧ g.Ok := by
  obtain ⟨cs, rfl, hsz⟩ := okWide_struct Tryz.underlying25 hv
  obtain ⟨fuel, hf⟩ := h
  obtain ⟨xs, n, -, -, -, hlen, hg⟩ := DataW.trod_struct Tryz.underlying25 hf
  have hC : Tryz.prog.cellsOf 25 = 23 := by kernel_rfl
  have k1 : Tryz.prog.cellsOf 4 = 1 := by kernel_rfl
  have k2 : Tryz.prog.cellsOf 23 = 16 := by kernel_rfl
  rw [hC] at hsz
  obtain ⟨l⟩ := cs
  have hl : l.length = 23 := by simpa using hsz
  match l, hl with
  | [c0, c1, c2, c3, c4, c5, c6, c7, c8, c9, c10, c11, c12, c13, c14, c15, c16, c17, c18, c19, c20, c21, c22], _ =>
    have a0 := hg 0 _ rfl
    have a1 := hg 1 _ rfl
    have a2 := hg 2 _ rfl
    have a3 := hg 3 _ rfl
    have a4 := hg 4 _ rfl
    have a5 := hg 5 _ rfl
    have a6 := hg 6 _ rfl
    have a7 := hg 7 _ rfl
    simp only [Value.cells, k1, k2, cells_u64, List.drop_zero, List.drop_succ_cons, List.take_succ_cons, List.take_zero] at a0 a1 a2 a3 a4 a5 a6 a7
    have hx : ∀ j, j < 8 → ∃ y, xs[j]? = some y := fun j hj => ⟨xs[j]'(by rw [hlen]; exact hj), by simp⟩
    obtain ⟨z0, e0⟩ := hx 0 (by omega)
    obtain ⟨z1, e1⟩ := hx 1 (by omega)
    obtain ⟨z2, e2⟩ := hx 2 (by omega)
    obtain ⟨z3, e3⟩ := hx 3 (by omega)
    obtain ⟨z4, e4⟩ := hx 4 (by omega)
    obtain ⟨z5, e5⟩ := hx 5 (by omega)
    obtain ⟨z6, e6⟩ := hx 6 (by omega)
    obtain ⟨z7, e7⟩ := hx 7 (by omega)
    rw [e0] at a0
    rw [e1] at a1
    rw [e2] at a2
    rw [e3] at a3
    rw [e4] at a4
    rw [e5] at a5
    rw [e6] at a6
    rw [e7] at a7
    obtain ⟨us, m, -, -, -, hul, hu⟩ := DataW.trod_array Tryz.underlying23 a0
    have hux : ∀ j, j < 16 → ∃ y, us[j]? = some y := fun j hj => ⟨us[j]'(by rw [hul]; exact hj), by simp⟩
    rw [cells_u64] at hu
    obtain ⟨t0, f0⟩ := hux 0 (by omega)
    have g0 := hu 0 (by omega)
    simp only [Nat.reduceMul, List.drop_zero, List.drop_succ_cons, List.take_succ_cons, List.take_zero] at g0
    rw [f0] at g0
    obtain ⟨x0, rfl, w0⟩ := one_int g0
    obtain ⟨t1, f1⟩ := hux 1 (by omega)
    have g1 := hu 1 (by omega)
    simp only [Nat.reduceMul, List.drop_zero, List.drop_succ_cons, List.take_succ_cons, List.take_zero] at g1
    rw [f1] at g1
    obtain ⟨x1, rfl, w1⟩ := one_int g1
    obtain ⟨t2, f2⟩ := hux 2 (by omega)
    have g2 := hu 2 (by omega)
    simp only [Nat.reduceMul, List.drop_zero, List.drop_succ_cons, List.take_succ_cons, List.take_zero] at g2
    rw [f2] at g2
    obtain ⟨x2, rfl, w2⟩ := one_int g2
    obtain ⟨t3, f3⟩ := hux 3 (by omega)
    have g3 := hu 3 (by omega)
    simp only [Nat.reduceMul, List.drop_zero, List.drop_succ_cons, List.take_succ_cons, List.take_zero] at g3
    rw [f3] at g3
    obtain ⟨x3, rfl, w3⟩ := one_int g3
    obtain ⟨t4, f4⟩ := hux 4 (by omega)
    have g4 := hu 4 (by omega)
    simp only [Nat.reduceMul, List.drop_zero, List.drop_succ_cons, List.take_succ_cons, List.take_zero] at g4
    rw [f4] at g4
    obtain ⟨x4, rfl, w4⟩ := one_int g4
    obtain ⟨t5, f5⟩ := hux 5 (by omega)
    have g5 := hu 5 (by omega)
    simp only [Nat.reduceMul, List.drop_zero, List.drop_succ_cons, List.take_succ_cons, List.take_zero] at g5
    rw [f5] at g5
    obtain ⟨x5, rfl, w5⟩ := one_int g5
    obtain ⟨t6, f6⟩ := hux 6 (by omega)
    have g6 := hu 6 (by omega)
    simp only [Nat.reduceMul, List.drop_zero, List.drop_succ_cons, List.take_succ_cons, List.take_zero] at g6
    rw [f6] at g6
    obtain ⟨x6, rfl, w6⟩ := one_int g6
    obtain ⟨t7, f7⟩ := hux 7 (by omega)
    have g7 := hu 7 (by omega)
    simp only [Nat.reduceMul, List.drop_zero, List.drop_succ_cons, List.take_succ_cons, List.take_zero] at g7
    rw [f7] at g7
    obtain ⟨x7, rfl, w7⟩ := one_int g7
    obtain ⟨t8, f8⟩ := hux 8 (by omega)
    have g8 := hu 8 (by omega)
    simp only [Nat.reduceMul, List.drop_zero, List.drop_succ_cons, List.take_succ_cons, List.take_zero] at g8
    rw [f8] at g8
    obtain ⟨x8, rfl, w8⟩ := one_int g8
    obtain ⟨t9, f9⟩ := hux 9 (by omega)
    have g9 := hu 9 (by omega)
    simp only [Nat.reduceMul, List.drop_zero, List.drop_succ_cons, List.take_succ_cons, List.take_zero] at g9
    rw [f9] at g9
    obtain ⟨x9, rfl, w9⟩ := one_int g9
    obtain ⟨t10, f10⟩ := hux 10 (by omega)
    have g10 := hu 10 (by omega)
    simp only [Nat.reduceMul, List.drop_zero, List.drop_succ_cons, List.take_succ_cons, List.take_zero] at g10
    rw [f10] at g10
    obtain ⟨x10, rfl, w10⟩ := one_int g10
    obtain ⟨t11, f11⟩ := hux 11 (by omega)
    have g11 := hu 11 (by omega)
    simp only [Nat.reduceMul, List.drop_zero, List.drop_succ_cons, List.take_succ_cons, List.take_zero] at g11
    rw [f11] at g11
    obtain ⟨x11, rfl, w11⟩ := one_int g11
    obtain ⟨t12, f12⟩ := hux 12 (by omega)
    have g12 := hu 12 (by omega)
    simp only [Nat.reduceMul, List.drop_zero, List.drop_succ_cons, List.take_succ_cons, List.take_zero] at g12
    rw [f12] at g12
    obtain ⟨x12, rfl, w12⟩ := one_int g12
    obtain ⟨t13, f13⟩ := hux 13 (by omega)
    have g13 := hu 13 (by omega)
    simp only [Nat.reduceMul, List.drop_zero, List.drop_succ_cons, List.take_succ_cons, List.take_zero] at g13
    rw [f13] at g13
    obtain ⟨x13, rfl, w13⟩ := one_int g13
    obtain ⟨t14, f14⟩ := hux 14 (by omega)
    have g14 := hu 14 (by omega)
    simp only [Nat.reduceMul, List.drop_zero, List.drop_succ_cons, List.take_succ_cons, List.take_zero] at g14
    rw [f14] at g14
    obtain ⟨x14, rfl, w14⟩ := one_int g14
    obtain ⟨t15, f15⟩ := hux 15 (by omega)
    have g15 := hu 15 (by omega)
    simp only [Nat.reduceMul, List.drop_zero, List.drop_succ_cons, List.take_succ_cons, List.take_zero] at g15
    rw [f15] at g15
    obtain ⟨x15, rfl, w15⟩ := one_int g15
    obtain ⟨x16, rfl, w16⟩ := one_int a1
    obtain ⟨x17, rfl, w17⟩ := one_int a2
    obtain ⟨b18, rfl⟩ := one_bool a3
    obtain ⟨b19, rfl⟩ := one_bool a4
    obtain ⟨b20, rfl⟩ := one_bool a5
    obtain ⟨b21, rfl⟩ := one_bool a6
    obtain ⟨b22, rfl⟩ := one_bool a7
    refine ⟨⟨fun j => [x0, x1, x2, x3, x4, x5, x6, x7, x8, x9, x10, x11, x12, x13, x14, x15, x16, x17].getD j 0, b18, b19, b20, b21, b22⟩, rfl, fun j hj => ?_⟩
    match j, hj with
    | 0, _ => exact w0
    | 1, _ => exact w1
    | 2, _ => exact w2
    | 3, _ => exact w3
    | 4, _ => exact w4
    | 5, _ => exact w5
    | 6, _ => exact w6
    | 7, _ => exact w7
    | 8, _ => exact w8
    | 9, _ => exact w9
    | 10, _ => exact w10
    | 11, _ => exact w11
    | 12, _ => exact w12
    | 13, _ => exact w13
    | 14, _ => exact w14
    | 15, _ => exact w15
    | 16, _ => exact w16
    | 17, _ => exact w17
    | j + 18, h => omega
end
/-- A world that meets the condition: the settled one, the variable's cell laid. -/
noncomputable def laidWorld (os : Os) : World :=
  let w0 := World.holding Tryz.prog os ⟨#[], #[], []⟩
  { w0 with heap := w0.heap.modify 0 fun
      | .cells _ t frozen => .cells #[.iface 150 (.agg #[.pointer (some ⟨1, 32, none⟩)])] t frozen
      | o => o }
theorem laidWorld_met (os : Os) (args : Array Value) : laidMetH Tryz.prog [("errors.errorType", Rows.laid_errors_errorType)] ((laidWorld os).forCall (fun _ _ => 0) ⟨#[], args, []⟩).memory :=
  laidMetH_of_parts (laidMet_nil _ _) (by kernel_rfl)
end Go.Proofs.YtmnjkaimpejohaaGreatDoor
