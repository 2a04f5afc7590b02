/- Layer 3: may a node be laid? What stands at its path, above it, and where it leads to. -/
import Derived.Test.YtpblgbegdfdgdaaDoorVfsCheck
namespace Go.Proofs.YtpblgbegdfdgdaaDoor
open Go.RowKit
set_option linter.unusedVariables false
set_option linter.unusedSimpArgs false

set_option maxRecDepth 100000 in
set_option maxHeartbeats 8000000 in
theorem check_twice (tb g c : Nat) (F : ByteArray → Option Ent) (n : Nd) (w : World) (h : TreeAt w tb g c F) (h0 : 0 ≤ n.kind) (h3 : n.kind ≤ 3) (hn : namedF n = true) (ht : n.tgt.size ≤ 140737488355328) (hf : (F n.path).isSome = true) :
    Calls Tryd.prog 12 #[.pointer (some ⟨tb, 0, none⟩), n.v] w fun e w' => e = .returned (errV ((5 : Nat) : Int)) ∧ Below w.heap.size w w' := by
  rw [errV5]
  have hps := named_size hn
  have HN : Hid (∀ wx, Calls Tryd.prog 22 #[n.v] wx fun e w' => e = .returned (.bool (namedF n)) ∧ Below wx.heap.size wx w') := Lib.hid (fun wx => named_any n wx (by omega) ht)
  rw [hn] at HN
  obtain ⟨path, kind, da, dn, dc, tgt, su⟩ := n
  unfold Nd.v Nd.cells at *
  simp only [] at h0 h3 HN hps hf ⊢
  have HB : Hid (Below w.heap.size w (w.alloc (.cells #[.string path, .int .i64 kind, .slice da dn dc, .string tgt, .bool su] 36))) := Lib.hid ((Below.refl _ _).alloc (Nat.le_refl _) _)
  have HX : Hid ((w.alloc (.cells #[.string path, .int .i64 kind, .slice da dn dc, .string tgt, .bool su] 36)).heap[w.heap.size]? = some (.cells #[.string path, .int .i64 kind, .slice da dn dc, .string tgt, .bool su] 36)) := Lib.hid (heap_alloc_new _ _)
  have HI : Hid ((Tryd.prog.info? 36).map (·.size) = some (#[.string path, .int .i64 kind, .slice da dn dc, .string tgt, .bool su] : Array Value).size) := Lib.hid (by kernel_rfl)
  have c1 := cell_of_row _ _ 1 _ _ _ HX.out
  simp only [List.getElem?_toArray, List.getElem?_cons_zero, List.getElem?_cons_succ] at c1
  have e1 : decide (kind < 0) = false := decide_eq_false (by omega)
  have e2 : decide (3 < kind) = false := decide_eq_false (by omega)
  have HT : Hid (TreeAt w tb g c F) := Lib.hid h
  obtain ⟨e5, he5⟩ : ∃ e5, F path = some e5 := Option.isSome_iff_exists.1 hf
  clear h0 h3 hn ht h hf
  go_enter Tryd.func12, Tryd.ntmps12
  go_wp2_with (refine wpList_load_row rfl 36 _ rfl w.heap.size rfl 36 #[.string path, .int .i64 kind, .slice da dn dc, .string tgt, .bool su] (0, 0) _ HX.out Tryd.underlying36 rfl HI.out ?_)
  refine (HN.out _).mono ?_
  rintro e w2 ⟨rfl, hb2⟩
  have B2 := Lib.hid (bstep HB.out hb2)
  have X2 := (hb2.block _ (lt_of_block HX.out)).trans HX.out
  have T2 := HT.out.below B2.out
  obtain ⟨xb, hxb⟩ : ∃ xb, w.heap.size = xb := ⟨_, rfl⟩
  rw [hxb] at X2
  have m0 : w2.cell? ⟨tb, 0, none⟩ = some (.map (some g)) := by
    have := cell_of_row _ _ 0 _ _ _ T2.box
    simpa using this
  have p0 : w2.cell? ⟨xb, 0, none⟩ = some (.string path) := by rw [cell_of_row _ _ 0 _ _ _ X2]; rfl
  have KS : Hid (∀ wx, Below w2.heap.size w2 wx → wx.cell? ⟨tb, 0, none⟩ = some (.map (some g)) ∧ wx.cell? ⟨xb, 0, none⟩ = some (.string path) ∧ (Instr.lookup 50 (.map (some g)) (.string path) true).run Tryd.prog wx = .ok (.tuple #[e5.v, .bool true]) wx) := Lib.hid (fun wx hb => by
    have tx := T2.below hb
    have hl := tx.map.look_ok (T := 50) (E := 49) Tryd.underlying9 Tryd.underlying50 (ent_zeroV wx) (k := path) (by unfold maxLen; omega)
    rw [he5] at hl
    exact ⟨(hb.cell (p := ⟨tb, 0, none⟩) (lt_of_block T2.box)).trans m0, (hb.cell (p := ⟨xb, 0, none⟩) (lt_of_block X2)).trans p0, hl⟩)
  obtain ⟨s5, k5, t5⟩ := e5
  unfold Ent.v at KS
  clear hb2 HT T2 X2 HX HN HI he5 hps c1 e1 e2 HB m0 p0
  rw [hxb]
  cases s5 with
  | none =>
    simp only [ptrV] at KS
    go_wp2_with fail
    go_region_held3 (fun wx => wx.cell? ⟨tb, 0, none⟩ = some (.map (some g)) ∧ wx.cell? ⟨xb, 0, none⟩ = some (.string path) ∧ (Instr.lookup 50 (.map (some g)) (.string path) true).run Tryd.prog wx = .ok (.tuple #[.agg #[.pointer none, .int .i64 k5, .string t5], .bool true]) wx)
      (first | exact KS.out _ (Below.refl _ _).drew | (refine KS.out _ ?_; (repeat' (first | exact Below.refl _ _ | refine Below.drew ?_ | (refine Below.alloc ?_ (by simp) _) | (refine Below.setCell ?_ (by simp) _))))) (fail)
    all_goals (go_wp2_with fail; go_ret)
    all_goals exact ⟨rfl, (B2.out.alloc B2.out.size _).drew⟩
  | some b5 =>
    simp only [ptrV] at KS
    go_wp2_with fail
    go_region_held3 (fun wx => wx.cell? ⟨tb, 0, none⟩ = some (.map (some g)) ∧ wx.cell? ⟨xb, 0, none⟩ = some (.string path) ∧ (Instr.lookup 50 (.map (some g)) (.string path) true).run Tryd.prog wx = .ok (.tuple #[.agg #[.pointer (some ⟨b5, 0, none⟩), .int .i64 k5, .string t5], .bool true]) wx)
      (first | exact KS.out _ (Below.refl _ _).drew | (refine KS.out _ ?_; (repeat' (first | exact Below.refl _ _ | refine Below.drew ?_ | (refine Below.alloc ?_ (by simp) _) | (refine Below.setCell ?_ (by simp) _))))) (fail)
    all_goals (go_wp2_with fail; go_ret)
    all_goals exact ⟨rfl, (B2.out.alloc B2.out.size _).drew⟩
end Go.Proofs.YtpblgbegdfdgdaaDoor
