/- Layer 8: the examples at the head of the statements. -/
import Derived.Test.YtikpkblemegggaaVersReadM
import Derived.Deep.WholeRow
namespace Go.Proofs.Ytikpkblemegggaa
open Go.RowKit Go.Maps
set_option linter.unusedVariables false
set_option linter.unusedSimpArgs false

theorem wp_build_as {P : Program} {o : Oper} {a : Act} {w : World} {K : Act → World → Prop} {Q : Exit → Act → World → Prop} (t : TypeId) (parts : Array (Nat × Operand)) (ho : o.op = .build t parts)
    (vals : List (Nat × Value)) (cells : Array Value) (hv : (parts.map fun (i, x) => (i, a.eval x)).toList = vals) (hb : P.built t vals = some cells) (h : K (a.put o.dst (.agg cells)) w) : o.wp P a w K Q := by
  subst hv
  exact wp_build t parts ho (by rw [hb]; rfl) (by rw [hb]; exact h)
def DT0 : DT := ⟨none, 0, 0, 0, 0, 0, 0, 0, 0, 0, 0, 0, 0, 0, 0, 0, false, false, false, 0, 0, 0, 0, 0, 0, 0, 0, 0, 0, 0, 0, 0, 0, 0, false, false, false, false, false⟩
def DTU : DT := { DT0 with strtab := 256, strsz := 1, versym := 258 }
theorem DT0_wf : DT0.wf := by simp [DT.wf, DT0]
theorem DTU_wf : DTU.wf := by simp [DT.wf, DTU, DT0]
theorem dtu_built : Try.prog.built 29 [(4, .int .u64 256), (8, .int .u64 1), (26, .int .u64 258)] = some DTU.cells := by kernel_rfl
theorem dt0_built : Try.prog.built 29 [] = some DT0.cells := by kernel_rfl
def BU8 : List Nat := [0, 0, 0, 0, 1, 0, 2, 0]
def PU : PT := ⟨1, 0, 0, 256, 8, 0, 0⟩
theorem vu1 : versF BU8 [PU] DTU 2 = (⟨true, [0, 1], [], []⟩, 0) := rfl
theorem vu2 : versF BU8 [PU] DT0 2 = (⟨false, [], [], []⟩, 0) := rfl
theorem vu3 : versF BU8 [PU] DTU 3 = (⟨false, [], [], []⟩, 3) := rfl

set_option maxRecDepth 100000 in
set_option maxHeartbeats 8000000 in
theorem vup_true (w : World) : Calls Try.prog 6 #[] w fun e w' => e = .returned (.bool true) ∧ Below w.heap.size w w' := by
  have he := run_eql_code
  have B7 : Hid (Below w.heap.size w (((w.alloc (.cells #[.int .u8 0, .int .u8 0, .int .u8 0, .int .u8 0, .int .u8 1, .int .u8 0, .int .u8 2, .int .u8 0] 5)).alloc (.cells #[.int .u32 1, .int .u32 0, .int .u64 0, .int .u64 256, .int .u64 8, .int .u64 0, .int .u64 0] 58)).alloc (.cells #[.int .i64 0, .int .u64 0, .slice (some ⟨w.heap.size + 1, 0, none⟩) 1 1] 26))) := Lib.hid ((((Below.refl _ _).alloc (Nat.le_refl _) _).alloc (by simp) _).alloc (by simp; omega) _)
  have HB7 : Hid ((((w.alloc (.cells #[.int .u8 0, .int .u8 0, .int .u8 0, .int .u8 0, .int .u8 1, .int .u8 0, .int .u8 2, .int .u8 0] 5)).alloc (.cells #[.int .u32 1, .int .u32 0, .int .u64 0, .int .u64 256, .int .u64 8, .int .u64 0, .int .u64 0] 58)).alloc (.cells #[.int .i64 0, .int .u64 0, .slice (some ⟨w.heap.size + 1, 0, none⟩) 1 1] 26)).heap[w.heap.size]? = some (.cells #[.int .u8 0, .int .u8 0, .int .u8 0, .int .u8 0, .int .u8 1, .int .u8 0, .int .u8 2, .int .u8 0] 5)) := Lib.hid (by
    have h1 := heap_alloc_new w (.cells #[.int .u8 0, .int .u8 0, .int .u8 0, .int .u8 0, .int .u8 1, .int .u8 0, .int .u8 2, .int .u8 0] 5)
    have h2 : Below (w.alloc (.cells #[.int .u8 0, .int .u8 0, .int .u8 0, .int .u8 0, .int .u8 1, .int .u8 0, .int .u8 2, .int .u8 0] 5)).heap.size (w.alloc (.cells #[.int .u8 0, .int .u8 0, .int .u8 0, .int .u8 0, .int .u8 1, .int .u8 0, .int .u8 2, .int .u8 0] 5)) (((w.alloc (.cells #[.int .u8 0, .int .u8 0, .int .u8 0, .int .u8 0, .int .u8 1, .int .u8 0, .int .u8 2, .int .u8 0] 5)).alloc (.cells #[.int .u32 1, .int .u32 0, .int .u64 0, .int .u64 256, .int .u64 8, .int .u64 0, .int .u64 0] 58)).alloc (.cells #[.int .i64 0, .int .u64 0, .slice (some ⟨w.heap.size + 1, 0, none⟩) 1 1] 26)) := ((Below.refl _ _).alloc (Nat.le_refl _) _).alloc (by simp) _
    rw [h2.block _ (by simp)]
    exact h1)
  have HP7 : Hid ((((w.alloc (.cells #[.int .u8 0, .int .u8 0, .int .u8 0, .int .u8 0, .int .u8 1, .int .u8 0, .int .u8 2, .int .u8 0] 5)).alloc (.cells #[.int .u32 1, .int .u32 0, .int .u64 0, .int .u64 256, .int .u64 8, .int .u64 0, .int .u64 0] 58)).alloc (.cells #[.int .i64 0, .int .u64 0, .slice (some ⟨w.heap.size + 1, 0, none⟩) 1 1] 26)).heap[w.heap.size + 1]? = some (.cells #[.int .u32 1, .int .u32 0, .int .u64 0, .int .u64 256, .int .u64 8, .int .u64 0, .int .u64 0] 58)) := Lib.hid (by
    have h1 := heap_alloc_new (w.alloc (.cells #[.int .u8 0, .int .u8 0, .int .u8 0, .int .u8 0, .int .u8 1, .int .u8 0, .int .u8 2, .int .u8 0] 5)) (.cells #[.int .u32 1, .int .u32 0, .int .u64 0, .int .u64 256, .int .u64 8, .int .u64 0, .int .u64 0] 58)
    rw [show (w.alloc (.cells #[.int .u8 0, .int .u8 0, .int .u8 0, .int .u8 0, .int .u8 1, .int .u8 0, .int .u8 2, .int .u8 0] 5)).heap.size = w.heap.size + 1 by simp] at h1
    have h2 : Below ((w.alloc (.cells #[.int .u8 0, .int .u8 0, .int .u8 0, .int .u8 0, .int .u8 1, .int .u8 0, .int .u8 2, .int .u8 0] 5)).alloc (.cells #[.int .u32 1, .int .u32 0, .int .u64 0, .int .u64 256, .int .u64 8, .int .u64 0, .int .u64 0] 58)).heap.size ((w.alloc (.cells #[.int .u8 0, .int .u8 0, .int .u8 0, .int .u8 0, .int .u8 1, .int .u8 0, .int .u8 2, .int .u8 0] 5)).alloc (.cells #[.int .u32 1, .int .u32 0, .int .u64 0, .int .u64 256, .int .u64 8, .int .u64 0, .int .u64 0] 58)) (((w.alloc (.cells #[.int .u8 0, .int .u8 0, .int .u8 0, .int .u8 0, .int .u8 1, .int .u8 0, .int .u8 2, .int .u8 0] 5)).alloc (.cells #[.int .u32 1, .int .u32 0, .int .u64 0, .int .u64 256, .int .u64 8, .int .u64 0, .int .u64 0] 58)).alloc (.cells #[.int .i64 0, .int .u64 0, .slice (some ⟨w.heap.size + 1, 0, none⟩) 1 1] 26)) := (Below.refl _ _).alloc (Nat.le_refl _) _
    rw [h2.block _ (by simp)]
    exact h1)
  have HH7 : Hid ((((w.alloc (.cells #[.int .u8 0, .int .u8 0, .int .u8 0, .int .u8 0, .int .u8 1, .int .u8 0, .int .u8 2, .int .u8 0] 5)).alloc (.cells #[.int .u32 1, .int .u32 0, .int .u64 0, .int .u64 256, .int .u64 8, .int .u64 0, .int .u64 0] 58)).alloc (.cells #[.int .i64 0, .int .u64 0, .slice (some ⟨w.heap.size + 1, 0, none⟩) 1 1] 26)).heap[w.heap.size + 2]? = some (.cells #[.int .i64 0, .int .u64 0, .slice (some ⟨w.heap.size + 1, 0, none⟩) 1 1] 26)) := Lib.hid (by
    have h1 := heap_alloc_new ((w.alloc (.cells #[.int .u8 0, .int .u8 0, .int .u8 0, .int .u8 0, .int .u8 1, .int .u8 0, .int .u8 2, .int .u8 0] 5)).alloc (.cells #[.int .u32 1, .int .u32 0, .int .u64 0, .int .u64 256, .int .u64 8, .int .u64 0, .int .u64 0] 58)) (.cells #[.int .i64 0, .int .u64 0, .slice (some ⟨w.heap.size + 1, 0, none⟩) 1 1] 26)
    simpa using h1)
  have HS7 : Hid ((((w.alloc (.cells #[.int .u8 0, .int .u8 0, .int .u8 0, .int .u8 0, .int .u8 1, .int .u8 0, .int .u8 2, .int .u8 0] 5)).alloc (.cells #[.int .u32 1, .int .u32 0, .int .u64 0, .int .u64 256, .int .u64 8, .int .u64 0, .int .u64 0] 58)).alloc (.cells #[.int .i64 0, .int .u64 0, .slice (some ⟨w.heap.size + 1, 0, none⟩) 1 1] 26)).heap.size = w.heap.size + 3) := Lib.hid (by simp)
  have HDU1 : Hid (DTU.cells.all (·.oneCell') = true) := Lib.hid (by simp [DTU, DT0, DT.cells, Value.oneCell'])
  have HD37 : Hid (DTU.cells.size = 37) := Lib.hid rfl
  have HI : Hid ((Try.prog.info? 29).map (·.size) = some DTU.cells.size) := Lib.hid (show _ = some 37 by kernel_rfl)
  have HC : Hid (∀ w1, (∀ i, i < 3 → w1.heap[w.heap.size + i]? = (((w.alloc (.cells #[.int .u8 0, .int .u8 0, .int .u8 0, .int .u8 0, .int .u8 1, .int .u8 0, .int .u8 2, .int .u8 0] 5)).alloc (.cells #[.int .u32 1, .int .u32 0, .int .u64 0, .int .u64 256, .int .u64 8, .int .u64 0, .int .u64 0] 58)).alloc (.cells #[.int .i64 0, .int .u64 0, .slice (some ⟨w.heap.size + 1, 0, none⟩) 1 1] 26)).heap[w.heap.size + i]?) → w.heap.size + 3 ≤ w1.heap.size →
      Calls Try.prog 7 #[.slice (some ⟨w.heap.size, 0, none⟩) 8 8, .agg #[.int .i64 0, .int .u64 0, .slice (some ⟨w.heap.size + 1, 0, none⟩) 1 1], .agg DTU.cells, .int .i64 2] w1 (VersAns (⟨true, [0, 1], [], []⟩, 0) w1) ∧
      Calls Try.prog 7 #[.slice (some ⟨w.heap.size, 0, none⟩) 8 8, .agg #[.int .i64 0, .int .u64 0, .slice (some ⟨w.heap.size + 1, 0, none⟩) 1 1], .agg DT0.cells, .int .i64 2] w1 (VersAns (⟨false, [], [], []⟩, 0) w1) ∧
      Calls Try.prog 7 #[.slice (some ⟨w.heap.size, 0, none⟩) 8 8, .agg #[.int .i64 0, .int .u64 0, .slice (some ⟨w.heap.size + 1, 0, none⟩) 1 1], .agg DTU.cells, .int .i64 3] w1 (VersAns (⟨false, [], [], []⟩, 3) w1)) := Lib.hid (fun w1 hk hsz => by
    have k0 := (show w1.heap[w.heap.size]? = _ from hk 0 (by omega)).trans HB7.out
    have k1 := (hk 1 (by omega)).trans HP7.out
    have hb : BRow w1 (some ⟨w.heap.size, 0, none⟩) BU8 := by
      refine ⟨fun i hi => ⟨w.heap.size, 0, rfl, ?_⟩, by decide⟩
      rw [Nat.zero_add, cell_of_row _ _ _ _ _ _ k0]
      have hi8 : i < 8 := hi
      rcases (show i = 0 ∨ i = 1 ∨ i = 2 ∨ i = 3 ∨ i = 4 ∨ i = 5 ∨ i = 6 ∨ i = 7 by omega) with rfl | rfl | rfl | rfl | rfl | rfl | rfl | rfl <;> rfl
    have hp : PRow w1 (some ⟨w.heap.size + 1, 0, none⟩) [PU] := by
      intro i hi
      have hi0 : i = 0 := by simpa using hi
      subst hi0
      refine ⟨by simp [PU, PT.wf], w.heap.size + 1, 0, rfl, by omega, fun j hj => ?_⟩
      rw [show 0 + 0 * 7 + j = j by omega, cell_of_row _ _ _ _ _ _ k1]
      rcases (show j = 0 ∨ j = 1 ∨ j = 2 ∨ j = 3 ∨ j = 4 ∨ j = 5 ∨ j = 6 by omega) with rfl | rfl | rfl | rfl | rfl | rfl | rfl <;> rfl
    exact ⟨vread_any (some ⟨w.heap.size, 0, none⟩) 8 BU8 0 0 (some ⟨w.heap.size + 1, 0, none⟩) 1 [PU] DTU 2 w1 hb (by decide) (by decide) (fun h => by cases h) hp (by decide) DTU_wf (by decide) (by decide),
      vread_any (some ⟨w.heap.size, 0, none⟩) 8 BU8 0 0 (some ⟨w.heap.size + 1, 0, none⟩) 1 [PU] DT0 2 w1 hb (by decide) (by decide) (fun h => by cases h) hp (by decide) DT0_wf (by decide) (by decide),
      vread_any (some ⟨w.heap.size, 0, none⟩) 8 BU8 0 0 (some ⟨w.heap.size + 1, 0, none⟩) 1 [PU] DTU 3 w1 hb (by decide) (by decide) (fun h => by cases h) hp (by decide) DTU_wf (by decide) (by decide)⟩)
  have dub := dtu_built
  have d0b := dt0_built
  have DUB := Lib.hid dub
  have D0B := Lib.hid d0b
  clear dub d0b
  generalize DTU.cells = D at *
  generalize DT0.cells = D0 at *
  obtain ⟨w7, hw7⟩ : ∃ w7, (((w.alloc (.cells #[.int .u8 0, .int .u8 0, .int .u8 0, .int .u8 0, .int .u8 1, .int .u8 0, .int .u8 2, .int .u8 0] 5)).alloc (.cells #[.int .u32 1, .int .u32 0, .int .u64 0, .int .u64 256, .int .u64 8, .int .u64 0, .int .u64 0] 58)).alloc (.cells #[.int .i64 0, .int .u64 0, .slice (some ⟨w.heap.size + 1, 0, none⟩) 1 1] 26)) = w7 := ⟨_, rfl⟩
  go_enter Try.func6, Try.ntmps6
  go_wp2_with fail
  refine wp_build_as 29 _ rfl [(4, .int .u64 256), (8, .int .u64 1), (26, .int .u64 258)] D (by rw [Array.toList_map]; rfl) DUB.out ?_
  rw [hw7] at B7 HB7 HP7 HH7 HS7 HC
  have hsc : (storeCells ⟨w7.heap.size, 0, none⟩ D.toList).run Try.prog (w7.alloc (.cells #[.slice none 0 0, .int .u64 0, .int .u64 0, .int .u64 0, .int .u64 0, .int .u64 0, .int .u64 0, .int .u64 0, .int .u64 0, .int .u64 0, .int .u64 0, .int .u64 0, .int .u64 0, .int .u64 0, .bool false, .bool false, .bool false, .int .u64 0, .int .u64 0, .int .u64 0, .int .u64 0, .int .u64 0, .int .u64 0, .int .u64 0, .int .u64 0, .int .u64 0, .int .u64 0, .int .u64 0, .int .u64 0, .int .u64 0, .int .u64 0, .int .u64 0, .bool false, .bool false, .bool false, .bool false, .bool false] 29)) = .ok () (w7.alloc (.cells D 29)) := run_storeCells_new w7 29 #[.slice none 0 0, .int .u64 0, .int .u64 0, .int .u64 0, .int .u64 0, .int .u64 0, .int .u64 0, .int .u64 0, .int .u64 0, .int .u64 0, .int .u64 0, .int .u64 0, .int .u64 0, .int .u64 0, .bool false, .bool false, .bool false, .int .u64 0, .int .u64 0, .int .u64 0, .int .u64 0, .int .u64 0, .int .u64 0, .int .u64 0, .int .u64 0, .int .u64 0, .int .u64 0, .int .u64 0, .int .u64 0, .int .u64 0, .int .u64 0, .int .u64 0, .bool false, .bool false, .bool false, .bool false, .bool false] D HI.out (by rw [HD37.out]; rfl) HDU1.out
  clear hw7
  have HH8 : Hid (∀ w1, Below w7.heap.size w7 w1 → w1.cell? ⟨w.heap.size + 1 + 1, 0, none⟩ = some (.int .i64 0) ∧ w1.cell? ⟨w.heap.size + 1 + 1, 1, none⟩ = some (.int .u64 0) ∧ w1.cell? ⟨w.heap.size + 1 + 1, 2, none⟩ = some (.slice (some ⟨w.heap.size + 1, 0, none⟩) 1 1)) := Lib.hid (fun w1 h => by
    have e := (h.block _ (lt_of_block HH7.out)).trans HH7.out
    exact ⟨by rw [cell_of_row _ _ _ _ _ _ e]; rfl, by rw [cell_of_row _ _ _ _ _ _ e]; rfl, by rw [cell_of_row _ _ _ _ _ _ e]; rfl⟩)
  have HK8 : Hid (∀ w1, Below w7.heap.size w7 w1 → (∀ i, i < 3 → w1.heap[w.heap.size + i]? = w7.heap[w.heap.size + i]?) ∧ w.heap.size + 3 ≤ w1.heap.size) := Lib.hid (fun w1 h => ⟨fun i hi => h.block _ (by rw [HS7.out]; omega), by have := h.size; rw [HS7.out] at this; exact this⟩)
  have B8 : Hid (Below w7.heap.size w7 (w7.alloc (.cells D 29))) := Lib.hid ((Below.refl _ _).alloc (Nat.le_refl _) _)
  have HD8 : Hid ((w7.alloc (.cells D 29)).heap[w7.heap.size]? = some (.cells D 29)) := Lib.hid (heap_alloc_new _ _)
  obtain ⟨k0, k1, k2⟩ := HH8.out _ B8.out
  have HC1 := Lib.hid (HC.out _ (HK8.out _ B8.out).1 (HK8.out _ B8.out).2).1
  go_wp2_with (refine wpList_load_row rfl 29 _ rfl w7.heap.size rfl 29 D (0, 0) _ HD8.out Try.underlying29 rfl HI.out ?_)
  refine HC1.out.mono ?_
  rintro e wA ⟨oa, oc, da, dc, drows, na, nc, nrows, he1, hoi, -, -, -, -, hbA⟩
  replace he1 : e = .returned (.tuple #[.agg #[.bool true, .slice oa 2 oc, .slice da 0 dc, .slice na 0 nc], .nilIface]) := he1
  subst he1
  replace hoi : OwnI wA _ 3 .i64 (.slice oa 2 oc) (toI [0, 1]) := hoi
  obtain ⟨g, rfl⟩ := hoi.shape2 (by omega)
  have hoc := hoi.cap2
  have HG : Hid (wA.cell? ⟨g, 1, none⟩ = some (.int .i64 1)) := Lib.hid (by
    obtain ⟨b', o', e', hc⟩ := hoi.row2 1 (by decide)
    simp only [Option.some.injEq, Addr.mk.injEq] at e'
    obtain ⟨rfl, rfl, -⟩ := e'
    exact hc)
  have BA : Hid (Below w7.heap.size w7 (wA.alloc (.cells #[.bool true, .slice (some ⟨g, 0, none⟩) 2 oc, .slice da 0 dc, .slice na 0 nc] 35))) := Lib.hid ((bstep B8.out hbA).alloc (bstep B8.out hbA).size _)
  have HDA : Hid ((wA.alloc (.cells #[.bool true, .slice (some ⟨g, 0, none⟩) 2 oc, .slice da 0 dc, .slice na 0 nc] 35)).heap[w7.heap.size]? = some (.cells D 29)) := Lib.hid (by
    have h1 := (hbA.block _ (lt_of_block HD8.out)).trans HD8.out
    exact (heap_alloc_old _ _ (lt_of_block h1)).trans h1)
  have HVA : Hid ((wA.alloc (.cells #[.bool true, .slice (some ⟨g, 0, none⟩) 2 oc, .slice da 0 dc, .slice na 0 nc] 35)).heap[wA.heap.size]? = some (.cells #[.bool true, .slice (some ⟨g, 0, none⟩) 2 oc, .slice da 0 dc, .slice na 0 nc] 35)) := Lib.hid (heap_alloc_new _ _)
  have HGA : Hid ((wA.alloc (.cells #[.bool true, .slice (some ⟨g, 0, none⟩) 2 oc, .slice da 0 dc, .slice na 0 nc] 35)).cell? ⟨g, 1, none⟩ = some (.int .i64 1)) := Lib.hid (by
    have h1 : Below wA.heap.size wA (wA.alloc (.cells #[.bool true, .slice (some ⟨g, 0, none⟩) 2 oc, .slice da 0 dc, .slice na 0 nc] 35)) := (Below.refl _ _).alloc (Nat.le_refl _) _
    rw [h1.cell (World.block_lt_of_cell? wA _ HG.out)]
    exact HG.out)
  clear k0 k1 k2 hoi hbA HC1 hsc
  obtain ⟨k0, k1, k2⟩ := HH8.out _ BA.out
  have HC2 := Lib.hid (HC.out _ (HK8.out _ BA.out).1 (HK8.out _ BA.out).2)
  go_wp2_with fail
  refine wp_build_as 29 _ rfl [] D0 (by rw [Array.toList_map]; rfl) D0B.out ?_
  go_wp2_with fail
  refine (HC2.out).2.1.mono ?_
  rintro e wB ⟨oa2, oc2, da2, dc2, drows2, na2, nc2, nrows2, he1, -, -, -, -, -, hbB⟩
  replace he1 : e = .returned (.tuple #[.agg #[.bool false, .slice oa2 0 oc2, .slice da2 0 dc2, .slice na2 0 nc2], .nilIface]) := he1
  subst he1
  have BB : Hid (Below w7.heap.size w7 (wB.alloc (.cells #[.bool false, .slice oa2 0 oc2, .slice da2 0 dc2, .slice na2 0 nc2] 35))) := Lib.hid ((bstep BA.out hbB).alloc (bstep BA.out hbB).size _)
  have BAB : Hid (Below (wA.alloc (.cells #[.bool true, .slice (some ⟨g, 0, none⟩) 2 oc, .slice da 0 dc, .slice na 0 nc] 35)).heap.size (wA.alloc (.cells #[.bool true, .slice (some ⟨g, 0, none⟩) 2 oc, .slice da 0 dc, .slice na 0 nc] 35)) (wB.alloc (.cells #[.bool false, .slice oa2 0 oc2, .slice da2 0 dc2, .slice na2 0 nc2] 35))) := Lib.hid (hbB.alloc hbB.size _)
  have HDB : Hid ((wB.alloc (.cells #[.bool false, .slice oa2 0 oc2, .slice da2 0 dc2, .slice na2 0 nc2] 35)).heap[w7.heap.size]? = some (.cells D 29)) := Lib.hid ((BAB.out.block _ (lt_of_block HDA.out)).trans HDA.out)
  have HVB : Hid ((wB.alloc (.cells #[.bool false, .slice oa2 0 oc2, .slice da2 0 dc2, .slice na2 0 nc2] 35)).heap[wB.heap.size]? = some (.cells #[.bool false, .slice oa2 0 oc2, .slice da2 0 dc2, .slice na2 0 nc2] 35)) := Lib.hid (heap_alloc_new _ _)
  clear k0 k1 k2 hbB HC2
  obtain ⟨k0, k1, k2⟩ := HH8.out _ BB.out
  have HC3 := Lib.hid (HC.out _ (HK8.out _ BB.out).1 (HK8.out _ BB.out).2)
  go_wp2_with (refine wpList_load_row rfl 29 _ rfl w7.heap.size rfl 29 D (0, 0) _ HDB.out Try.underlying29 rfl HI.out ?_)
  refine (HC3.out).2.2.mono ?_
  rintro e wC ⟨oa3, oc3, da3, dc3, drows3, na3, nc3, nrows3, he1, -, -, -, -, -, hbC⟩
  replace he1 : e = .returned (.tuple #[.agg #[.bool false, .slice oa3 0 oc3, .slice da3 0 dc3, .slice na3 0 nc3], .iface 60 (.int .i64 3)]) := he1
  subst he1
  have BC : Hid (Below w7.heap.size w7 (wC.alloc (.cells #[.bool false, .slice oa3 0 oc3, .slice da3 0 dc3, .slice na3 0 nc3] 35))) := Lib.hid ((bstep BB.out hbC).alloc (bstep BB.out hbC).size _)
  have BBC : Hid (Below (wB.alloc (.cells #[.bool false, .slice oa2 0 oc2, .slice da2 0 dc2, .slice na2 0 nc2] 35)).heap.size (wB.alloc (.cells #[.bool false, .slice oa2 0 oc2, .slice da2 0 dc2, .slice na2 0 nc2] 35)) (wC.alloc (.cells #[.bool false, .slice oa3 0 oc3, .slice da3 0 dc3, .slice na3 0 nc3] 35))) := Lib.hid (hbC.alloc hbC.size _)
  have BAC := Lib.hid (bstep BAB.out BBC.out)
  have q0 : (wC.alloc (.cells #[.bool false, .slice oa3 0 oc3, .slice da3 0 dc3, .slice na3 0 nc3] 35)).cell? ⟨wA.heap.size, 0, none⟩ = some (.bool true) := by rw [cell_of_row _ _ 0 _ _ _ ((BAC.out.block _ (lt_of_block HVA.out)).trans HVA.out)]; rfl
  have q1 : (wC.alloc (.cells #[.bool false, .slice oa3 0 oc3, .slice da3 0 dc3, .slice na3 0 nc3] 35)).cell? ⟨wA.heap.size, 1, none⟩ = some (.slice (some ⟨g, 0, none⟩) 2 oc) := by rw [cell_of_row _ _ 1 _ _ _ ((BAC.out.block _ (lt_of_block HVA.out)).trans HVA.out)]; rfl
  have q2 : (wC.alloc (.cells #[.bool false, .slice oa3 0 oc3, .slice da3 0 dc3, .slice na3 0 nc3] 35)).cell? ⟨wB.heap.size, 0, none⟩ = some (.bool false) := by rw [cell_of_row _ _ 0 _ _ _ ((BBC.out.block _ (lt_of_block HVB.out)).trans HVB.out)]; rfl
  have q3 : (wC.alloc (.cells #[.bool false, .slice oa3 0 oc3, .slice da3 0 dc3, .slice na3 0 nc3] 35)).cell? ⟨g, 1, none⟩ = some (.int .i64 1) := by rw [BAC.out.cell (World.block_lt_of_cell? _ _ HGA.out)]; exact HGA.out
  clear k0 k1 k2 hbC HC3 HC
  go_wp2_with fail
  go_ret
  exact ⟨rfl, bstep B7.out BC.out⟩
end Go.Proofs.Ytikpkblemegggaa
