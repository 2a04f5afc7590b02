/- Layer 3: what a node leaves in the tree: a directory, a link. -/
import Derived.Test.YtcabpidbdnlomaaGreatDoorVfsCheck
import Derived.Deep.DeepCutAuto
namespace Go.Proofs.YtcabpidbdnlomaaGreatDoor
open Go.RowKit
set_option linter.unusedVariables false
set_option linter.unusedSimpArgs false

set_option maxRecDepth 100000 in
set_option maxHeartbeats 8000000 in
theorem entry_link (n : Nd) (w : World) (a : Value) (i : Nat) (hk : n.kind = 2) :
    Calls Tryz.prog 25 #[a, .int .i64 (i : Int), n.v] w fun e w' => e = .returned (Ent.v ⟨none, 2, n.tgt⟩) ∧ Below w.heap.size w w' := by
  obtain ⟨path, kind, da, dn, dc, tgt, su⟩ := n
  unfold Nd.v Nd.cells Ent.v
  simp only [ptrV] at hk ⊢
  subst hk
  obtain ⟨w1, hw1⟩ : ∃ w1, (w.alloc (.cells #[.string path, .int .i64 2, .slice da dn dc, .string tgt, .bool su] 49)).alloc (.cells #[.pointer none, .int .i64 0, .string ⟨#[]⟩] 56) = w1 := ⟨_, rfl⟩
  obtain ⟨xb, hxb⟩ : ∃ xb, w.heap.size = xb := ⟨_, rfl⟩
  obtain ⟨yb, hyb⟩ : ∃ yb, w.heap.size + 1 = yb := ⟨_, rfl⟩
  have B1 : Hid (Below w.heap.size w w1) := Lib.hid (by rw [← hw1]; exact ((Below.refl _ _).alloc (Nat.le_refl _) _).alloc (by simp) _)
  have X1 : w1.heap[xb]? = some (.cells #[.string path, .int .i64 2, .slice da dn dc, .string tgt, .bool su] 49) := by rw [← hw1, ← hxb]; exact (heap_alloc_old _ _ (by simp)).trans (heap_alloc_new _ _)
  have Y1 : Hid (w1.heap[yb]? = some (.cells #[.pointer none, .int .i64 0, .string ⟨#[]⟩] 56)) := Lib.hid (by rw [← hw1, ← hyb]; (have := heap_alloc_new (w.alloc (.cells #[.string path, .int .i64 2, .slice da dn dc, .string tgt, .bool su] 49)) (.cells #[.pointer none, .int .i64 0, .string ⟨#[]⟩] 56); simpa using this))
  obtain ⟨w8, hw8⟩ : ∃ w8, w1.setRow yb #[.pointer none, .int .i64 2, .string tgt] = w8 := ⟨_, rfl⟩
  have HW8 := Lib.hid hw8
  have Y8 : Hid (w8.heap[yb]? = some (.cells #[.pointer none, .int .i64 2, .string tgt] 56)) := Lib.hid (by rw [← hw8]; exact setRow_heap _ _ _ _ _ _ Y1.out)
  have B8 : Hid (Below w.heap.size w w8) := Lib.hid (by
    rw [← hw8]
    have h := B1.out
    exact ⟨h.os, h.tape, h.output, by rw [setRow_size]; exact h.size, fun k hk => (setRow_other _ _ _ _ (by omega)).trans (h.block k hk)⟩)
  have HIE : Hid ((Tryz.prog.info? 56).map (·.size) = some (#[.pointer none, .int .i64 2, .string tgt] : Array Value).size) := Lib.hid (by kernel_rfl)
  have HOE : Hid ((#[.pointer none, .int .i64 2, .string tgt] : Array Value).all (·.oneCell') = true) := Lib.hid (by simp [Value.oneCell'])
  have c1 : w1.cell? ⟨xb, 1, none⟩ = some (.int .i64 2) := by rw [cell_of_row _ _ 1 _ _ _ X1]; rfl
  have c3 : w1.cell? ⟨xb, 3, none⟩ = some (.string tgt) := by rw [cell_of_row _ _ 3 _ _ _ X1]; rfl
  clear hw8 X1
  have HW1 := Lib.hid hw1
  clear hw1
  go_enter Tryz.func25, Tryz.ntmps25
  go_upto_region 1 with fail
  rw [HW1.out]
  try rw [hxb]
  rw [show xb + 1 = yb by omega]
  go_wp2_with (refine wpList_store_row rfl 56 _ _ rfl yb #[.pointer none, .int .i64 2, .string tgt] rfl rfl 56 _ Y1.out HIE.out rfl HOE.out ?_; rw [HW8.out])
  refine bodyPost_ret_by (results_cell_row Tryz.results25 _ _ yb 56 #[.pointer none, .int .i64 2, .string tgt] (0, 0) _ rfl Y8.out Tryz.underlying56 rfl HIE.out) (by rfl) ?_
  exact ⟨rfl, B8.out⟩
set_option maxRecDepth 100000 in
set_option maxHeartbeats 8000000 in
theorem entry_dir (n : Nd) (w : World) (a : Value) (i : Nat) (hk : n.kind = 1) :
    Calls Tryz.prog 25 #[a, .int .i64 (i : Int), n.v] w fun e w' => e = .returned (Ent.v ⟨none, 1, ⟨#[]⟩⟩) ∧ Below w.heap.size w w' := by
  obtain ⟨path, kind, da, dn, dc, tgt, su⟩ := n
  unfold Nd.v Nd.cells Ent.v
  simp only [ptrV] at hk ⊢
  subst hk
  obtain ⟨w1, hw1⟩ : ∃ w1, (w.alloc (.cells #[.string path, .int .i64 1, .slice da dn dc, .string tgt, .bool su] 49)).alloc (.cells #[.pointer none, .int .i64 0, .string ⟨#[]⟩] 56) = w1 := ⟨_, rfl⟩
  obtain ⟨xb, hxb⟩ : ∃ xb, w.heap.size = xb := ⟨_, rfl⟩
  obtain ⟨yb, hyb⟩ : ∃ yb, w.heap.size + 1 = yb := ⟨_, rfl⟩
  have B1 : Hid (Below w.heap.size w w1) := Lib.hid (by rw [← hw1]; exact ((Below.refl _ _).alloc (Nat.le_refl _) _).alloc (by simp) _)
  have X1 : w1.heap[xb]? = some (.cells #[.string path, .int .i64 1, .slice da dn dc, .string tgt, .bool su] 49) := by rw [← hw1, ← hxb]; exact (heap_alloc_old _ _ (by simp)).trans (heap_alloc_new _ _)
  have Y1 : Hid (w1.heap[yb]? = some (.cells #[.pointer none, .int .i64 0, .string ⟨#[]⟩] 56)) := Lib.hid (by rw [← hw1, ← hyb]; (have := heap_alloc_new (w.alloc (.cells #[.string path, .int .i64 1, .slice da dn dc, .string tgt, .bool su] 49)) (.cells #[.pointer none, .int .i64 0, .string ⟨#[]⟩] 56); simpa using this))
  obtain ⟨w8, hw8⟩ : ∃ w8, w1.setRow yb #[.pointer none, .int .i64 1, .string ⟨#[]⟩] = w8 := ⟨_, rfl⟩
  have HW8 := Lib.hid hw8
  have Y8 : Hid (w8.heap[yb]? = some (.cells #[.pointer none, .int .i64 1, .string ⟨#[]⟩] 56)) := Lib.hid (by rw [← hw8]; exact setRow_heap _ _ _ _ _ _ Y1.out)
  have B8 : Hid (Below w.heap.size w w8) := Lib.hid (by
    rw [← hw8]
    have h := B1.out
    exact ⟨h.os, h.tape, h.output, by rw [setRow_size]; exact h.size, fun k hk => (setRow_other _ _ _ _ (by omega)).trans (h.block k hk)⟩)
  have HIE : Hid ((Tryz.prog.info? 56).map (·.size) = some (#[.pointer none, .int .i64 1, .string ⟨#[]⟩] : Array Value).size) := Lib.hid (by kernel_rfl)
  have HOE : Hid ((#[.pointer none, .int .i64 1, .string ⟨#[]⟩] : Array Value).all (·.oneCell') = true) := Lib.hid (by simp [Value.oneCell'])
  have c1 : w1.cell? ⟨xb, 1, none⟩ = some (.int .i64 1) := by rw [cell_of_row _ _ 1 _ _ _ X1]; rfl
  have c3 : w1.cell? ⟨xb, 3, none⟩ = some (.string tgt) := by rw [cell_of_row _ _ 3 _ _ _ X1]; rfl
  clear hw8 X1
  have HW1 := Lib.hid hw1
  clear hw1
  go_enter Tryz.func25, Tryz.ntmps25
  go_upto_region 1 with fail
  rw [HW1.out]
  try rw [hxb]
  rw [show xb + 1 = yb by omega]
  go_wp2_with (refine wpList_store_row rfl 56 _ _ rfl yb #[.pointer none, .int .i64 1, .string ⟨#[]⟩] rfl rfl 56 _ Y1.out HIE.out rfl HOE.out ?_; rw [HW8.out])
  refine bodyPost_ret_by (results_cell_row Tryz.results25 _ _ yb 56 #[.pointer none, .int .i64 1, .string ⟨#[]⟩] (0, 0) _ rfl Y8.out Tryz.underlying56 rfl HIE.out) (by rfl) ?_
  exact ⟨rfl, B8.out⟩
end Go.Proofs.YtcabpidbdnlomaaGreatDoor
/- Layer 3: what a further name of a file leaves in the tree. -/
namespace Go.Proofs.YtcabpidbdnlomaaGreatDoor
open Go.RowKit
set_option linter.unusedVariables false
set_option linter.unusedSimpArgs false

set_option maxRecDepth 100000 in
set_option maxHeartbeats 8000000 in
theorem entry_hard (tb g c : Nat) (F : ByteArray → Option Ent) (n : Nd) (w : World) (i : Nat) (h : TreeAt w tb g c F) (hk : n.kind = 3) (ht : n.tgt.size ≤ 1048576) :
    Calls Tryz.prog 25 #[.pointer (some ⟨tb, 0, none⟩), .int .i64 (i : Int), n.v] w fun e w' => e = .returned (Ent.v ((F n.tgt).getD Ent.zero)) ∧ Below w.heap.size w w' := by
  have HT := Lib.hid h
  obtain ⟨e5, he5⟩ : ∃ e5, (F n.tgt).getD Ent.zero = e5 := ⟨_, rfl⟩
  rw [he5]
  clear h
  obtain ⟨path, kind, da, dn, dc, tgt, su⟩ := n
  unfold Nd.v Nd.cells Ent.v
  simp only [] at hk ht he5 ⊢
  subst hk
  obtain ⟨w1, hw1⟩ : ∃ w1, w.alloc (.cells #[.string path, .int .i64 3, .slice da dn dc, .string tgt, .bool su] 49) = w1 := ⟨_, rfl⟩
  obtain ⟨xb, hxb⟩ : ∃ xb, w.heap.size = xb := ⟨_, rfl⟩
  have HW1 := Lib.hid hw1
  have B1 : Hid (Below w.heap.size w w1) := Lib.hid (by rw [← hw1]; exact (Below.refl _ _).alloc (Nat.le_refl _) _)
  have X1 : w1.heap[xb]? = some (.cells #[.string path, .int .i64 3, .slice da dn dc, .string tgt, .bool su] 49) := by rw [← hw1, ← hxb]; exact heap_alloc_new _ _
  have hsz : w.heap.size + 1 = w1.heap.size := by rw [← hw1]; simp
  have T1 := HT.out.below B1.out
  have c1 : (w1.alloc (.cells #[.pointer none, .int .i64 0, .string ⟨#[]⟩] 56)).cell? ⟨xb, 1, none⟩ = some (.int .i64 3) := by rw [cell_of_row _ _ 1 _ _ _ ((heap_alloc_old _ _ (lt_of_block X1)).trans X1)]; rfl
  have KS : Hid (∀ wx, Below w1.heap.size w1 wx → wx.cell? ⟨tb, 0, none⟩ = some (.map (some g)) ∧ wx.cell? ⟨xb, 3, none⟩ = some (.string tgt) ∧ (Instr.lookup 57 (.map (some g)) (.string tgt) false).run Tryz.prog wx = .ok e5.v wx) := Lib.hid (fun wx hb => by
    have tx := T1.below hb
    have hl := tx.map.look (T := 57) (E := 56) Tryz.underlying9 Tryz.underlying57 (ent_zeroV wx) (k := tgt) (by unfold maxLen; omega)
    rw [he5] at hl
    refine ⟨?_, ?_, hl⟩
    · have := cell_of_row _ _ 0 _ _ _ tx.box
      simpa using this
    · rw [cell_of_row _ _ 3 _ _ _ ((hb.block _ (lt_of_block X1)).trans X1)]; rfl)
  obtain ⟨s5, k5, t5⟩ := e5
  unfold Ent.v at KS
  have HIE : Hid ((Tryz.prog.info? 56).map (·.size) = some (#[ptrV s5, .int .i64 k5, .string t5] : Array Value).size) := Lib.hid (by kernel_rfl)
  clear hw1 he5 HT T1 X1
  go_enter Tryz.func25, Tryz.ntmps25
  go_upto_region 1 with fail
  rw [HW1.out]
  try rw [hsz]
  try rw [hxb]
  try rw [show xb + 1 = w1.heap.size by omega]
  go_upto_region 3 with fail
  cases s5 with
  | none =>
    simp only [ptrV] at KS ⊢
    go_region_held3 (fun wx => wx.cell? ⟨tb, 0, none⟩ = some (.map (some g)) ∧ wx.cell? ⟨xb, 3, none⟩ = some (.string tgt) ∧ (Instr.lookup 57 (.map (some g)) (.string tgt) false).run Tryz.prog wx = .ok (.agg #[.pointer none, .int .i64 k5, .string t5]) wx) (exact KS.out _ ((Below.refl _ _).alloc (Nat.le_refl _) _).drew) (fail)
    go_wp2_with fail
    refine bodyPost_ret_by (results_cell_row Tryz.results25 _ _ w1.heap.size 56 #[.pointer none, .int .i64 k5, .string t5] (0, 0) _ rfl (heap_alloc_new w1 _) Tryz.underlying56 rfl HIE.out) (by rfl) ?_
    exact ⟨rfl, (B1.out.alloc B1.out.size _).drew⟩
  | some b5 =>
    simp only [ptrV] at KS ⊢
    go_region_held3 (fun wx => wx.cell? ⟨tb, 0, none⟩ = some (.map (some g)) ∧ wx.cell? ⟨xb, 3, none⟩ = some (.string tgt) ∧ (Instr.lookup 57 (.map (some g)) (.string tgt) false).run Tryz.prog wx = .ok (.agg #[.pointer (some ⟨b5, 0, none⟩), .int .i64 k5, .string t5]) wx) (exact KS.out _ ((Below.refl _ _).alloc (Nat.le_refl _) _).drew) (fail)
    go_wp2_with fail
    refine bodyPost_ret_by (results_cell_row Tryz.results25 _ _ w1.heap.size 56 #[.pointer (some ⟨b5, 0, none⟩), .int .i64 k5, .string t5] (0, 0) _ rfl (heap_alloc_new w1 _) Tryz.underlying56 rfl HIE.out) (by rfl) ?_
    exact ⟨rfl, (B1.out.alloc B1.out.size _).drew⟩
end Go.Proofs.YtcabpidbdnlomaaGreatDoor
/- Layer 3: what a file leaves in the tree. -/
namespace Go.Proofs.YtcabpidbdnlomaaGreatDoor
open Go.RowKit
set_option linter.unusedVariables false
set_option linter.unusedSimpArgs false

theorem three_stores {w : World} {b : Nat} {T : TypeId} {u0 u1 u2 : Value} (E : w.heap[b]? = some (.cells #[u0, u1, u2] T)) (v0 v1 v2 : Value) :
    (((w.setCell ⟨b, 0, none⟩ v0).setCell ⟨b, 1, none⟩ v1).setCell ⟨b, 2, none⟩ v2) = w.setRow b #[v0, v1, v2] := by
  have step : ∀ (cs : Array Value) (i : Nat) (v : Value), (w.setRow b cs).setCell ⟨b, i, none⟩ v = w.setRow b (cs.setIfInBounds i v) := fun cs i v => by
    rw [setCell_eq_setRow _ _ _ _ _ _ _ (setRow_heap w b _ cs T (0, 0) E), setRow_setRow]
  rw [setCell_eq_setRow w b 0 _ _ _ _ E, step, step]
  simp only [List.setIfInBounds_toArray, List.set_cons_zero, List.set_cons_succ]
structure BAux where
  idx : Int
  weak : Bool
  name : ByteArray
structure BNeed where
  file : ByteArray
  aux : List BAux
structure BObj where
  soname : ByteArray
  defs : List ByteArray
  needs : List BNeed

/-- is a text in a list? -/
def hasF (T : List ByteArray) (ver : ByteArray) : Bool := T.any fun d => decide (d = ver)
theorem OwnI.keepAt {w w' : World} {B : Nat} {e : TypeId} {k : IntKind} {v : Value} {xs : List Int} (h : OwnI w B e k v xs) (hb : ∀ g, B ≤ g → g < w.heap.size → w'.heap[g]? = w.heap[g]?) : OwnI w' B e k v xs := by
  obtain ⟨h1, h2⟩ := h
  refine ⟨h1, ?_⟩
  rcases h2 with h2 | ⟨g, cap, cur, hv, hB, hg, r⟩
  · exact .inl h2
  · exact .inr ⟨g, cap, cur, hv, hB, by rw [hb g hB (lt_of_block hg)]; exact hg, r⟩

theorem three_facts {w : World} {b : Nat} {T : TypeId} {u0 u1 u2 : Value} (E : w.heap[b]? = some (.cells #[u0, u1, u2] T)) (v0 v1 : Value) :
    w.cell? ⟨b, 0, none⟩ = some u0 ∧ w.frozen? ⟨b, 0, none⟩ = false ∧ (w.setCell ⟨b, 0, none⟩ v0).cell? ⟨b, 1, none⟩ = some u1 ∧ (w.setCell ⟨b, 0, none⟩ v0).frozen? ⟨b, 1, none⟩ = false ∧ ((w.setCell ⟨b, 0, none⟩ v0).setCell ⟨b, 1, none⟩ v1).cell? ⟨b, 2, none⟩ = some u2 ∧ ((w.setCell ⟨b, 0, none⟩ v0).setCell ⟨b, 1, none⟩ v1).frozen? ⟨b, 2, none⟩ = false := by
  have e1 : (w.setCell ⟨b, 0, none⟩ v0).heap[b]? = some (.cells #[v0, u1, u2] T) := by
    rw [setCell_eq_setRow w b 0 _ _ _ _ E]
    exact setRow_heap _ _ _ _ _ _ E
  have e2 : ((w.setCell ⟨b, 0, none⟩ v0).setCell ⟨b, 1, none⟩ v1).heap[b]? = some (.cells #[v0, v1, u2] T) := by
    rw [setCell_eq_setRow _ b 1 _ _ _ _ e1]
    exact setRow_heap _ _ _ _ _ _ e1
  refine ⟨?_, frozen_of_row _ _ _ _ _ E, ?_, frozen_of_row _ _ _ _ _ e1, ?_, frozen_of_row _ _ _ _ _ e2⟩
  · rw [cell_of_row _ _ 0 _ _ _ E]; rfl
  · rw [cell_of_row _ _ 1 _ _ _ e1]; rfl
  · rw [cell_of_row _ _ 2 _ _ _ e2]; rfl

set_option maxRecDepth 100000 in
set_option maxHeartbeats 8000000 in
theorem entry_file (n : Nd) (w : World) (a : Value) (i : Nat) (bs : List Nat) (hk : n.kind = 0)
    (HC : Hid (∀ wx, Below w.heap.size w wx → Calls Tryz.prog 26 #[.slice n.da n.dn n.dc] wx fun e w' => ∃ ad c, e = .returned (.slice ad n.dn c) ∧ OwnI w' wx.heap.size 5 .u8 (.slice ad n.dn c) (toI bs) ∧ Below wx.heap.size wx w')) :
    Calls Tryz.prog 25 #[a, .int .i64 (i : Int), n.v] w fun e w' => ∃ sb ad c, e = .returned (Ent.v ⟨some sb, 0, ⟨#[]⟩⟩) ∧ w.heap.size ≤ sb ∧ w'.heap[sb]? = some (.cells #[.int .i64 (i : Int), .slice ad n.dn c, .bool n.su] 76) ∧ OwnI w' w.heap.size 5 .u8 (.slice ad n.dn c) (toI bs) ∧ Below w.heap.size w w' := by
  obtain ⟨path, kind, da, dn, dc, tgt, su⟩ := n
  unfold Nd.v Nd.cells Ent.v
  simp only [ptrV] at hk HC ⊢
  subst hk
  obtain ⟨w1, hw1⟩ : ∃ w1, (w.alloc (.cells #[.string path, .int .i64 0, .slice da dn dc, .string tgt, .bool su] 49)).alloc (.cells #[.pointer none, .int .i64 0, .string ⟨#[]⟩] 56) = w1 := ⟨_, rfl⟩
  obtain ⟨xb, hxb⟩ : ∃ xb, w.heap.size = xb := ⟨_, rfl⟩
  obtain ⟨yb, hyb⟩ : ∃ yb, w.heap.size + 1 = yb := ⟨_, rfl⟩
  have B1 : Hid (Below w.heap.size w w1) := Lib.hid (by rw [← hw1]; exact ((Below.refl _ _).alloc (Nat.le_refl _) _).alloc (by simp) _)
  have X1 : Hid (w1.heap[xb]? = some (.cells #[.string path, .int .i64 0, .slice da dn dc, .string tgt, .bool su] 49)) := Lib.hid (by rw [← hw1, ← hxb]; exact (heap_alloc_old _ _ (by simp)).trans (heap_alloc_new _ _))
  have Y1 : Hid (w1.heap[yb]? = some (.cells #[.pointer none, .int .i64 0, .string ⟨#[]⟩] 56)) := Lib.hid (by rw [← hw1, ← hyb]; (have := heap_alloc_new (w.alloc (.cells #[.string path, .int .i64 0, .slice da dn dc, .string tgt, .bool su] 49)) (.cells #[.pointer none, .int .i64 0, .string ⟨#[]⟩] 56); simpa using this))
  have HW1 := Lib.hid hw1
  have c1 : w1.cell? ⟨xb, 1, none⟩ = some (.int .i64 0) := by rw [cell_of_row _ _ 1 _ _ _ X1.out]; rfl
  have KS : Hid (∀ wx, Below w1.heap.size w1 wx → wx.cell? ⟨xb, 2, none⟩ = some (.slice da dn dc) ∧ wx.cell? ⟨xb, 4, none⟩ = some (.bool su)) := Lib.hid (fun wx hb => by
    have hr := (hb.block _ (lt_of_block X1.out)).trans X1.out
    exact ⟨by rw [cell_of_row _ _ 2 _ _ _ hr]; rfl, by rw [cell_of_row _ _ 4 _ _ _ hr]; rfl⟩)
  have KX : Hid (∀ wx : World, wx.heap[xb]? = some (.cells #[.string path, .int .i64 0, .slice da dn dc, .string tgt, .bool su] 49) → wx.cell? ⟨xb, 2, none⟩ = some (.slice da dn dc) ∧ wx.cell? ⟨xb, 4, none⟩ = some (.bool su)) := Lib.hid (fun wx hr => ⟨by rw [cell_of_row _ _ 2 _ _ _ hr]; rfl, by rw [cell_of_row _ _ 4 _ _ _ hr]; rfl⟩)
  have HIE : Hid (∀ b5 : Nat, (Tryz.prog.info? 56).map (·.size) = some (#[.pointer (some ⟨b5, 0, none⟩), .int .i64 0, .string ⟨#[]⟩] : Array Value).size) := Lib.hid (fun b5 => by kernel_rfl)
  clear hw1
  go_enter Tryz.func25, Tryz.ntmps25
  go_upto_region 1 with fail
  rw [HW1.out]
  try rw [hxb]
  rw [show xb + 1 = yb by omega]
  go_upto_region 5 with fail
  go_region_held3 (fun wx => wx.cell? ⟨xb, 2, none⟩ = some (.slice da dn dc) ∧ wx.cell? ⟨xb, 4, none⟩ = some (.bool su))
    (first | exact KS.out _ (Below.refl _ _).drew | exact k9 | exact KS.out _ b7 | exact KS.out _ b6)
    (first | (go_at_call 26; refine (HC.out _ B1.out.drew).mono ?_; rintro e w6 ⟨ad, c, rfl, ho, hb6⟩; have b6 : Below w1.heap.size w1 w6 := bstep (Below.refl w1.heap.size w1).drew hb6; have b7 : Below w1.heap.size w1 (w6.alloc (.cells #[.int .i64 (i : Int), .slice ad dn c, .bool su] 76)) := b6.alloc b6.size _; have Y7 := (b7.block _ (lt_of_block Y1.out)).trans Y1.out; have HY7 := Lib.hid Y7; obtain ⟨s1, s2, s3, s4, s5, s6⟩ := three_facts Y7 (.pointer (some ⟨w6.heap.size, 0, none⟩)) (.int .i64 0); have E9 := Lib.hid (three_stores Y7 (.pointer (some ⟨w6.heap.size, 0, none⟩)) (.int .i64 0) (.string ⟨#[]⟩)); have k9 := KX.out ((((w6.alloc (.cells #[.int .i64 (i : Int), .slice ad dn c, .bool su] 76)).setCell ⟨yb, 0, none⟩ (.pointer (some ⟨w6.heap.size, 0, none⟩))).setCell ⟨yb, 1, none⟩ (.int .i64 0)).setCell ⟨yb, 2, none⟩ (.string ⟨#[]⟩)) (by rw [E9.out, setRow_other _ _ _ _ (by omega)]; exact (b7.block _ (lt_of_block X1.out)).trans X1.out); clear Y7))
  all_goals (
    go_wp2_with fail
    have hw6 : w.heap.size ≤ w6.heap.size := Nat.le_trans B1.out.size b6.size
    have hy6 : yb < w6.heap.size := Nat.lt_of_lt_of_le (lt_of_block Y1.out) b6.size
    have R9 : ((((w6.alloc (.cells #[.int .i64 (i : Int), .slice ad dn c, .bool su] 76)).setCell ⟨yb, 0, none⟩ (.pointer (some ⟨w6.heap.size, 0, none⟩))).setCell ⟨yb, 1, none⟩ (.int .i64 0)).setCell ⟨yb, 2, none⟩ (.string ⟨#[]⟩)).heap[yb]? = some (.cells #[.pointer (some ⟨w6.heap.size, 0, none⟩), .int .i64 0, .string ⟨#[]⟩] 56) := by rw [E9.out]; exact setRow_heap _ _ _ _ _ _ HY7.out
    refine bodyPost_ret_by (results_cell_row Tryz.results25 _ _ yb 56 #[.pointer (some ⟨w6.heap.size, 0, none⟩), .int .i64 0, .string ⟨#[]⟩] (0, 0) _ rfl R9 Tryz.underlying56 rfl (HIE.out w6.heap.size)) (by rfl) ?_
    refine ⟨w6.heap.size, ad, c, rfl, hw6, ?_, ?_, ?_⟩
    · rw [E9.out, setRow_other _ _ _ _ (by omega)]; exact heap_alloc_new _ _
    · have hyl : yb < w1.drew.heap.size := lt_of_block Y1.out
      rw [E9.out]
      refine ((ho.allocO _).keepAt (fun g h1 h2 => setRow_other _ _ _ _ (by omega))).mono B1.out.size
    · rw [E9.out]
      have h : Below w.heap.size w (w6.alloc (.cells #[.int .i64 (i : Int), .slice ad dn c, .bool su] 76)) := (bstep B1.out b6).alloc hw6 _
      exact ⟨h.os, h.tape, h.output, by rw [setRow_size]; exact h.size, fun k hk => (setRow_other _ _ _ _ (by omega)).trans (h.block k hk)⟩)
end Go.Proofs.YtcabpidbdnlomaaGreatDoor
