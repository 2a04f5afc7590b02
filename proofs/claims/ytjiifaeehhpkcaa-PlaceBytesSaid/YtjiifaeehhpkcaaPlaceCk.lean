/- Layer 15: whether an object can be mapped. -/
import Derived.Test.YtjiifaeehhpkcaaPlaceSpan
namespace Go.Proofs.Ytjiifaeehhpkcaa
open Go.RowKit
set_option linter.unusedVariables false
set_option linter.unusedSimpArgs false

theorem errV_pos' {n : Nat} (h : n ≠ 0) : errV (n : Int) = .iface 51 (.int .i64 (n : Int)) := by unfold errV; rw [if_neg (by omega)]
/-- what is left of the check behind the segments -/
def restF (ty : Int) (ps : List PT) : Nat :=
  if ty = 2 ∧ beginF (pagedF (kindF 1 ps)) < 4096 then 4
  else if 1 < (kindF 1685382482 ps).length ∨ 1 < (kindF 7 ps).length then 3
  else if (kindF 1685382482 ps).all (heldF (pagedF (kindF 1 ps))) then 0 else 3
theorem placeF_rest {ty : Int} {n : Nat} {ps : List PT} (h1 : ty = 2 ∨ ty = 3) (h2 : pagedF (kindF 1 ps) ≠ []) : placeF ty n ps = if walkF n 0 (kindF 1 ps) ≠ 0 then walkF n 0 (kindF 1 ps) else restF ty ps := by
  unfold placeF restF
  rw [if_neg (fun h => h.elim (fun h => by omega) h2)]

set_option maxRecDepth 100000 in
set_option maxHeartbeats 16000000 in
theorem check_kind (C : Array Value) (x : POb) (w : World) (h : PCells w C x) (h2 : x.ty ≠ 2) (h3 : x.ty ≠ 3) :
    Calls Try.prog 19 #[.agg C] w fun e w' => e = .returned (errV 3) ∧ Below w.heap.size w w' := by
  have h54 := h.size
  have hone := h.one
  have HI := Lib.hid h.info
  have B1 : Hid (Below w.heap.size w (w.alloc (.cells C 39))) := Lib.hid ((Below.refl _ _).alloc (Nat.le_refl _) _)
  have HX : Hid ((w.alloc (.cells C 39)).heap[w.heap.size]? = some (.cells C 39)) := Lib.hid (heap_alloc_new _ _)
  have HSE := Lib.hid (segments_any C x _ (h.below B1.out))
  have hc0 := h.c0
  have m1 : (x.ty != 2) = true := by rw [bne_iff_ne]; exact h2
  have m2 : (x.ty != 3) = true := by rw [bne_iff_ne]; exact h3
  clear h h2 h3
  generalize kindF 1 x.ps = l at *
  generalize x.ty = ty at *
  go_enter Try.func19, Try.ntmps19
  go_wp2_with (refine wpList_load_row rfl 39 _ rfl w.heap.size rfl 39 C (0, 0) _ HX.out Try.underlying39 rfl HI.out ?_)
  refine HSE.out.mono ?_
  rintro e w2 ⟨ad, c, rfl, ho, hb⟩
  have B2 := Lib.hid (bstep B1.out hb)
  have hx2 := (hb.block _ (lt_of_block HX.out)).trans HX.out
  have c0 : w2.cell? ⟨w.heap.size, 0, none⟩ = some (.int .i64 ty) := by rw [cell_of_row _ _ 0 _ _ _ hx2]; exact hc0
  clear ho hb HSE HX hx2
  go_wp2_with fail
  go_ret
  exact ⟨rfl, B2.out⟩

set_option maxRecDepth 100000 in
set_option maxHeartbeats 16000000 in
theorem check_empty (C : Array Value) (x : POb) (w : World) (h : PCells w C x) (h2 : x.ty = 2 ∨ x.ty = 3) (hemp : pagedF (kindF 1 x.ps) = []) :
    Calls Try.prog 19 #[.agg C] w fun e w' => e = .returned (errV 3) ∧ Below w.heap.size w w' := by
  have h54 := h.size
  have hone := h.one
  have HI := Lib.hid h.info
  have B1 : Hid (Below w.heap.size w (w.alloc (.cells C 39))) := Lib.hid ((Below.refl _ _).alloc (Nat.le_refl _) _)
  have HX : Hid ((w.alloc (.cells C 39)).heap[w.heap.size]? = some (.cells C 39)) := Lib.hid (heap_alloc_new _ _)
  have HSE := Lib.hid (segments_any C x _ (h.below B1.out))
  have hc0 := h.c0
  have HWF : Hid (∀ p ∈ kindF 1 x.ps, p.wf) := Lib.hid (fun p hp => h.wf p (mem_kind hp).1)
  have HLN : Hid ((kindF 1 x.ps).length * 48 ≤ 140737488351232) := Lib.hid (by have h1 : (kindF 1 x.ps).length ≤ x.ps.length := List.length_filter_le _ _; have := h.pl; omega)
  have HEM := Lib.hid hemp
  clear h hemp
  generalize kindF 1 x.ps = l at *
  generalize x.ty = ty at *
  rcases h2 with rfl | rfl
  all_goals (
    go_enter Try.func19, Try.ntmps19
    go_wp2_with (refine wpList_load_row rfl 39 _ rfl w.heap.size rfl 39 C (0, 0) _ HX.out Try.underlying39 rfl HI.out ?_)
    refine HSE.out.mono ?_
    rintro e w2 ⟨ad, c, rfl, ho, hb⟩
    have B2 := Lib.hid (bstep B1.out hb)
    have hx2 := (hb.block _ (lt_of_block HX.out)).trans HX.out
    have c0 := (cell_of_row _ _ 0 _ _ _ hx2).trans hc0
    have HPG := paged_any ad l.length c l w2 (OwnP.row ho HWF.out).2.1 rfl HLN.out
    rw [HEM.out] at HPG
    have HPG := Lib.hid HPG
    clear ho hb HSE HX hx2
    go_wp2_with fail
    refine HPG.out.mono ?_
    rintro e w3 ⟨ad3, c3, rfl, ho, hb⟩
    have B3 := Lib.hid (bstep B2.out hb)
    clear ho hb HPG c0
    go_wp2_with fail
    go_ret
    exact ⟨rfl, B3.out⟩)
end Go.Proofs.Ytjiifaeehhpkcaa
