/- Layer 3: what a node leaves in the tree: a directory, a link. -/
import Derived.Test.YtpblgbegdfdgdaaDoorVfsCheckN
import Derived.Deep.DeepCutAuto
namespace Go.Proofs.YtpblgbegdfdgdaaDoor
open Go.RowKit
set_option linter.unusedVariables false
set_option linter.unusedSimpArgs false

set_option maxRecDepth 100000 in
set_option maxHeartbeats 8000000 in
theorem entry_link (n : Nd) (w : World) (a : Value) (i : Nat) (hk : n.kind = 2) :
    Calls Tryd.prog 13 #[a, .int .i64 (i : Int), n.v] w fun e w' => e = .returned (Ent.v ⟨none, 2, n.tgt⟩) ∧ Below w.heap.size w w' := by
  obtain ⟨path, kind, da, dn, dc, tgt, su⟩ := n
  unfold Nd.v Nd.cells Ent.v
  simp only [ptrV] at hk ⊢
  subst hk
  obtain ⟨w1, hw1⟩ : ∃ w1, (w.alloc (.cells #[.string path, .int .i64 2, .slice da dn dc, .string tgt, .bool su] 36)).alloc (.cells #[.pointer none, .int .i64 0, .string ⟨#[]⟩] 49) = w1 := ⟨_, rfl⟩
  obtain ⟨xb, hxb⟩ : ∃ xb, w.heap.size = xb := ⟨_, rfl⟩
  obtain ⟨yb, hyb⟩ : ∃ yb, w.heap.size + 1 = yb := ⟨_, rfl⟩
  have B1 : Hid (Below w.heap.size w w1) := Lib.hid (by rw [← hw1]; exact ((Below.refl _ _).alloc (Nat.le_refl _) _).alloc (by simp) _)
  have X1 : w1.heap[xb]? = some (.cells #[.string path, .int .i64 2, .slice da dn dc, .string tgt, .bool su] 36) := by rw [← hw1, ← hxb]; exact (heap_alloc_old _ _ (by simp)).trans (heap_alloc_new _ _)
  have Y1 : Hid (w1.heap[yb]? = some (.cells #[.pointer none, .int .i64 0, .string ⟨#[]⟩] 49)) := Lib.hid (by rw [← hw1, ← hyb]; (have := heap_alloc_new (w.alloc (.cells #[.string path, .int .i64 2, .slice da dn dc, .string tgt, .bool su] 36)) (.cells #[.pointer none, .int .i64 0, .string ⟨#[]⟩] 49); simpa using this))
  obtain ⟨w8, hw8⟩ : ∃ w8, w1.setRow yb #[.pointer none, .int .i64 2, .string tgt] = w8 := ⟨_, rfl⟩
  have HW8 := Lib.hid hw8
  have Y8 : Hid (w8.heap[yb]? = some (.cells #[.pointer none, .int .i64 2, .string tgt] 49)) := Lib.hid (by rw [← hw8]; exact setRow_heap _ _ _ _ _ _ Y1.out)
  have B8 : Hid (Below w.heap.size w w8) := Lib.hid (by
    rw [← hw8]
    have h := B1.out
    exact ⟨h.os, h.tape, h.output, by rw [setRow_size]; exact h.size, fun k hk => (setRow_other _ _ _ _ (by omega)).trans (h.block k hk)⟩)
  have HIE : Hid ((Tryd.prog.info? 49).map (·.size) = some (#[.pointer none, .int .i64 2, .string tgt] : Array Value).size) := Lib.hid (by kernel_rfl)
  have HOE : Hid ((#[.pointer none, .int .i64 2, .string tgt] : Array Value).all (·.oneCell') = true) := Lib.hid (by simp [Value.oneCell'])
  have c1 : w1.cell? ⟨xb, 1, none⟩ = some (.int .i64 2) := by rw [cell_of_row _ _ 1 _ _ _ X1]; rfl
  have c3 : w1.cell? ⟨xb, 3, none⟩ = some (.string tgt) := by rw [cell_of_row _ _ 3 _ _ _ X1]; rfl
  clear hw8 X1
  have HW1 := Lib.hid hw1
  clear hw1
  go_enter Tryd.func13, Tryd.ntmps13
  go_upto_region 1 with fail
  rw [HW1.out]
  try rw [hxb]
  rw [show xb + 1 = yb by omega]
  go_wp2_with (refine wpList_store_row rfl 49 _ _ rfl yb #[.pointer none, .int .i64 2, .string tgt] rfl rfl 49 _ Y1.out HIE.out rfl HOE.out ?_; rw [HW8.out])
  refine bodyPost_ret_by (results_cell_row Tryd.results13 _ _ yb 49 #[.pointer none, .int .i64 2, .string tgt] (0, 0) _ rfl Y8.out Tryd.underlying49 rfl HIE.out) (by rfl) ?_
  exact ⟨rfl, B8.out⟩
set_option maxRecDepth 100000 in
set_option maxHeartbeats 8000000 in
theorem entry_dir (n : Nd) (w : World) (a : Value) (i : Nat) (hk : n.kind = 1) :
    Calls Tryd.prog 13 #[a, .int .i64 (i : Int), n.v] w fun e w' => e = .returned (Ent.v ⟨none, 1, ⟨#[]⟩⟩) ∧ Below w.heap.size w w' := by
  obtain ⟨path, kind, da, dn, dc, tgt, su⟩ := n
  unfold Nd.v Nd.cells Ent.v
  simp only [ptrV] at hk ⊢
  subst hk
  obtain ⟨w1, hw1⟩ : ∃ w1, (w.alloc (.cells #[.string path, .int .i64 1, .slice da dn dc, .string tgt, .bool su] 36)).alloc (.cells #[.pointer none, .int .i64 0, .string ⟨#[]⟩] 49) = w1 := ⟨_, rfl⟩
  obtain ⟨xb, hxb⟩ : ∃ xb, w.heap.size = xb := ⟨_, rfl⟩
  obtain ⟨yb, hyb⟩ : ∃ yb, w.heap.size + 1 = yb := ⟨_, rfl⟩
  have B1 : Hid (Below w.heap.size w w1) := Lib.hid (by rw [← hw1]; exact ((Below.refl _ _).alloc (Nat.le_refl _) _).alloc (by simp) _)
  have X1 : w1.heap[xb]? = some (.cells #[.string path, .int .i64 1, .slice da dn dc, .string tgt, .bool su] 36) := by rw [← hw1, ← hxb]; exact (heap_alloc_old _ _ (by simp)).trans (heap_alloc_new _ _)
  have Y1 : Hid (w1.heap[yb]? = some (.cells #[.pointer none, .int .i64 0, .string ⟨#[]⟩] 49)) := Lib.hid (by rw [← hw1, ← hyb]; (have := heap_alloc_new (w.alloc (.cells #[.string path, .int .i64 1, .slice da dn dc, .string tgt, .bool su] 36)) (.cells #[.pointer none, .int .i64 0, .string ⟨#[]⟩] 49); simpa using this))
  obtain ⟨w8, hw8⟩ : ∃ w8, w1.setRow yb #[.pointer none, .int .i64 1, .string ⟨#[]⟩] = w8 := ⟨_, rfl⟩
  have HW8 := Lib.hid hw8
  have Y8 : Hid (w8.heap[yb]? = some (.cells #[.pointer none, .int .i64 1, .string ⟨#[]⟩] 49)) := Lib.hid (by rw [← hw8]; exact setRow_heap _ _ _ _ _ _ Y1.out)
  have B8 : Hid (Below w.heap.size w w8) := Lib.hid (by
    rw [← hw8]
    have h := B1.out
    exact ⟨h.os, h.tape, h.output, by rw [setRow_size]; exact h.size, fun k hk => (setRow_other _ _ _ _ (by omega)).trans (h.block k hk)⟩)
  have HIE : Hid ((Tryd.prog.info? 49).map (·.size) = some (#[.pointer none, .int .i64 1, .string ⟨#[]⟩] : Array Value).size) := Lib.hid (by kernel_rfl)
  have HOE : Hid ((#[.pointer none, .int .i64 1, .string ⟨#[]⟩] : Array Value).all (·.oneCell') = true) := Lib.hid (by simp [Value.oneCell'])
  have c1 : w1.cell? ⟨xb, 1, none⟩ = some (.int .i64 1) := by rw [cell_of_row _ _ 1 _ _ _ X1]; rfl
  have c3 : w1.cell? ⟨xb, 3, none⟩ = some (.string tgt) := by rw [cell_of_row _ _ 3 _ _ _ X1]; rfl
  clear hw8 X1
  have HW1 := Lib.hid hw1
  clear hw1
  go_enter Tryd.func13, Tryd.ntmps13
  go_upto_region 1 with fail
  rw [HW1.out]
  try rw [hxb]
  rw [show xb + 1 = yb by omega]
  go_wp2_with (refine wpList_store_row rfl 49 _ _ rfl yb #[.pointer none, .int .i64 1, .string ⟨#[]⟩] rfl rfl 49 _ Y1.out HIE.out rfl HOE.out ?_; rw [HW8.out])
  refine bodyPost_ret_by (results_cell_row Tryd.results13 _ _ yb 49 #[.pointer none, .int .i64 1, .string ⟨#[]⟩] (0, 0) _ rfl Y8.out Tryd.underlying49 rfl HIE.out) (by rfl) ?_
  exact ⟨rfl, B8.out⟩
end Go.Proofs.YtpblgbegdfdgdaaDoor
