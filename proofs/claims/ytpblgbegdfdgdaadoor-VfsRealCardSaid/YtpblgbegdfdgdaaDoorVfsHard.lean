/- Layer 3: what a further name of a file leaves in the tree. -/
import Derived.Test.YtpblgbegdfdgdaaDoorVfsEntry
namespace Go.Proofs.YtpblgbegdfdgdaaDoor
open Go.RowKit
set_option linter.unusedVariables false
set_option linter.unusedSimpArgs false

set_option maxRecDepth 100000 in
set_option maxHeartbeats 8000000 in
theorem entry_hard (tb g c : Nat) (F : ByteArray → Option Ent) (n : Nd) (w : World) (i : Nat) (h : TreeAt w tb g c F) (hk : n.kind = 3) (ht : n.tgt.size ≤ 1048576) :
    Calls Tryd.prog 13 #[.pointer (some ⟨tb, 0, none⟩), .int .i64 (i : Int), n.v] w fun e w' => e = .returned (Ent.v ((F n.tgt).getD Ent.zero)) ∧ Below w.heap.size w w' := by
  have HT := Lib.hid h
  obtain ⟨e5, he5⟩ : ∃ e5, (F n.tgt).getD Ent.zero = e5 := ⟨_, rfl⟩
  rw [he5]
  clear h
  obtain ⟨path, kind, da, dn, dc, tgt, su⟩ := n
  unfold Nd.v Nd.cells Ent.v
  simp only [] at hk ht he5 ⊢
  subst hk
  obtain ⟨w1, hw1⟩ : ∃ w1, w.alloc (.cells #[.string path, .int .i64 3, .slice da dn dc, .string tgt, .bool su] 36) = w1 := ⟨_, rfl⟩
  obtain ⟨xb, hxb⟩ : ∃ xb, w.heap.size = xb := ⟨_, rfl⟩
  have HW1 := Lib.hid hw1
  have B1 : Hid (Below w.heap.size w w1) := Lib.hid (by rw [← hw1]; exact (Below.refl _ _).alloc (Nat.le_refl _) _)
  have X1 : w1.heap[xb]? = some (.cells #[.string path, .int .i64 3, .slice da dn dc, .string tgt, .bool su] 36) := by rw [← hw1, ← hxb]; exact heap_alloc_new _ _
  have hsz : w.heap.size + 1 = w1.heap.size := by rw [← hw1]; simp
  have T1 := HT.out.below B1.out
  have c1 : (w1.alloc (.cells #[.pointer none, .int .i64 0, .string ⟨#[]⟩] 49)).cell? ⟨xb, 1, none⟩ = some (.int .i64 3) := by rw [cell_of_row _ _ 1 _ _ _ ((heap_alloc_old _ _ (lt_of_block X1)).trans X1)]; rfl
  have KS : Hid (∀ wx, Below w1.heap.size w1 wx → wx.cell? ⟨tb, 0, none⟩ = some (.map (some g)) ∧ wx.cell? ⟨xb, 3, none⟩ = some (.string tgt) ∧ (Instr.lookup 50 (.map (some g)) (.string tgt) false).run Tryd.prog wx = .ok e5.v wx) := Lib.hid (fun wx hb => by
    have tx := T1.below hb
    have hl := tx.map.look (T := 50) (E := 49) Tryd.underlying9 Tryd.underlying50 (ent_zeroV wx) (k := tgt) (by unfold maxLen; omega)
    rw [he5] at hl
    refine ⟨?_, ?_, hl⟩
    · have := cell_of_row _ _ 0 _ _ _ tx.box
      simpa using this
    · rw [cell_of_row _ _ 3 _ _ _ ((hb.block _ (lt_of_block X1)).trans X1)]; rfl)
  obtain ⟨s5, k5, t5⟩ := e5
  unfold Ent.v at KS
  have HIE : Hid ((Tryd.prog.info? 49).map (·.size) = some (#[ptrV s5, .int .i64 k5, .string t5] : Array Value).size) := Lib.hid (by kernel_rfl)
  clear hw1 he5 HT T1 X1
  go_enter Tryd.func13, Tryd.ntmps13
  go_upto_region 1 with fail
  rw [HW1.out]
  try rw [hsz]
  try rw [hxb]
  try rw [show xb + 1 = w1.heap.size by omega]
  go_upto_region 3 with fail
  cases s5 with
  | none =>
    simp only [ptrV] at KS ⊢
    go_region_held3 (fun wx => wx.cell? ⟨tb, 0, none⟩ = some (.map (some g)) ∧ wx.cell? ⟨xb, 3, none⟩ = some (.string tgt) ∧ (Instr.lookup 50 (.map (some g)) (.string tgt) false).run Tryd.prog wx = .ok (.agg #[.pointer none, .int .i64 k5, .string t5]) wx) (exact KS.out _ ((Below.refl _ _).alloc (Nat.le_refl _) _).drew) (fail)
    go_wp2_with fail
    refine bodyPost_ret_by (results_cell_row Tryd.results13 _ _ w1.heap.size 49 #[.pointer none, .int .i64 k5, .string t5] (0, 0) _ rfl (heap_alloc_new w1 _) Tryd.underlying49 rfl HIE.out) (by rfl) ?_
    exact ⟨rfl, (B1.out.alloc B1.out.size _).drew⟩
  | some b5 =>
    simp only [ptrV] at KS ⊢
    go_region_held3 (fun wx => wx.cell? ⟨tb, 0, none⟩ = some (.map (some g)) ∧ wx.cell? ⟨xb, 3, none⟩ = some (.string tgt) ∧ (Instr.lookup 50 (.map (some g)) (.string tgt) false).run Tryd.prog wx = .ok (.agg #[.pointer (some ⟨b5, 0, none⟩), .int .i64 k5, .string t5]) wx) (exact KS.out _ ((Below.refl _ _).alloc (Nat.le_refl _) _).drew) (fail)
    go_wp2_with fail
    refine bodyPost_ret_by (results_cell_row Tryd.results13 _ _ w1.heap.size 49 #[.pointer (some ⟨b5, 0, none⟩), .int .i64 k5, .string t5] (0, 0) _ rfl (heap_alloc_new w1 _) Tryd.underlying49 rfl HIE.out) (by rfl) ?_
    exact ⟨rfl, (B1.out.alloc B1.out.size _).drew⟩
end Go.Proofs.YtpblgbegdfdgdaaDoor
