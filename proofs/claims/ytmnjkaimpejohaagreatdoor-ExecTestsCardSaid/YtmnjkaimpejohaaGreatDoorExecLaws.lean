/- Layer 13: the statements' walks. -/
import Derived.Test.YtmnjkaimpejohaaGreatDoorExecG
import Derived.Test.YtmnjkaimpejohaaGreatDoorETestR
import Derived.DeepKeys
namespace Go.Proofs.YtmnjkaimpejohaaGreatDoor
open Go.RowKit
set_option linter.unusedVariables false
set_option linter.unusedSimpArgs false

set_option maxRecDepth 100000 in
theorem step_nil1 (b : Nat) (w : World) : Calls Tryz.prog 7 #[.pointer none, .pointer (some ⟨b, 0, none⟩)] w fun e w' => e = .returned (.tuple #[.bool false, .iface 36 (.int .i64 1)]) ∧ w' = w := by
  go_enter Tryz.func7, Tryz.ntmps7
  go_wp2_with fail
  go_ret2
  exact ⟨rfl, rfl⟩
set_option maxRecDepth 100000 in
theorem step_nil2 (mb : Nat) (w : World) : Calls Tryz.prog 7 #[.pointer (some ⟨mb, 0, none⟩), .pointer none] w fun e w' => e = .returned (.tuple #[.bool false, .iface 36 (.int .i64 1)]) ∧ w' = w := by
  go_enter Tryz.func7, Tryz.ntmps7
  go_wp2_with fail
  go_ret2
  exact ⟨rfl, rfl⟩
/-- each register is a number of 64 bits -/
def RG.Ok (g : RG) : Prop := ∀ j, j < 18 → (Lit.int .u64 (g.r j)).wf = true
theorem mapM_all {α β : Type} (f : α → Option β) : ∀ l : List α, (∀ x ∈ l, (f x).isSome = true) → (l.mapM f).isSome = true
  | [], _ => rfl
  | x :: l, h => by
    rw [List.mapM_cons]
    obtain ⟨y, hy⟩ := Option.isSome_iff_exists.1 (h x (by simp))
    obtain ⟨ys, hys⟩ := Option.isSome_iff_exists.1 (mapM_all f l (fun z hz => h z (by simp [hz])))
    rw [hy, hys]
    rfl
theorem keys_int (d : Nat) (x : Int) (h : (Lit.int .u64 x).wf = true) : (Tryz.prog.keyLits (d + 1) 22 [.int .u64 x]).isSome = true := by
  unfold Program.keyLits
  rw [Tryz.underlying22]
  simp [h]
theorem keys_bool (d : Nat) (x : Bool) : (Tryz.prog.keyLits (d + 1) 4 [.bool x]).isSome = true := by
  unfold Program.keyLits
  rw [Tryz.underlying4]
  rfl
theorem cells_u64 : Tryz.prog.cellsOf 22 = 1 := by kernel_rfl
theorem keys_arr (d : Nat) (g : RG) (h : g.Ok) : (Tryz.prog.keyLits (d + 2) 23 (g.cells.toList.take 16)).isSome = true := by
  unfold Program.keyLits
  rw [Tryz.underlying23]
  simp only []
  rw [if_pos (by kernel_rfl), Option.isSome_map]
  refine mapM_all _ _ (fun i hi => ?_)
  have hi : i < 16 := by simpa using hi
  rw [cells_u64, Nat.mul_one]
  have key : ((g.cells.toList.take 16).drop i).take 1 = [.int .u64 (g.r i)] := by
    match i, hi with
    | 0, _ => rfl | 1, _ => rfl | 2, _ => rfl | 3, _ => rfl | 4, _ => rfl | 5, _ => rfl | 6, _ => rfl | 7, _ => rfl | 8, _ => rfl | 9, _ => rfl | 10, _ => rfl | 11, _ => rfl | 12, _ => rfl | 13, _ => rfl | 14, _ => rfl | 15, _ => rfl
    | j + 16, h => omega
  rw [key]
  exact keys_int d _ (h i (by omega))
theorem keys_regs (g : RG) (h : g.Ok) : (Tryz.prog.keyLits 4 25 g.cells.toList).isSome = true := by
  unfold Program.keyLits
  rw [Tryz.underlying25]
  simp only []
  rw [if_pos ⟨by kernel_rfl, by kernel_rfl⟩, Option.isSome_map]
  refine mapM_all _ _ (fun f hf => ?_)
  simp only [List.mem_cons, List.not_mem_nil, or_false] at hf
  have k1 : Tryz.prog.cellsOf 4 = 1 := by kernel_rfl
  have k2 : Tryz.prog.cellsOf 23 = 16 := by kernel_rfl
  rcases hf with rfl | rfl | rfl | rfl | rfl | rfl | rfl | rfl
  · simp only [k2, List.drop_zero]
    exact keys_arr 1 g h
  · simp only [cells_u64]
    exact keys_int 2 (g.r 16) (h 16 (by omega))
  · simp only [cells_u64]
    exact keys_int 2 (g.r 17) (h 17 (by omega))
  · simp only [k1]
    exact keys_bool 2 g.cf
  · simp only [k1]
    exact keys_bool 2 g.zf
  · simp only [k1]
    exact keys_bool 2 g.sf
  · simp only [k1]
    exact keys_bool 2 g.ov
  · simp only [k1]
    exact keys_bool 2 g.pf
theorem eq_regs (g : RG) (h : g.Ok) : ∀ w, (Op.equalIn 10000 25 (.agg g.cells) (.agg g.cells)).run Tryz.prog w = .ok true w := by
  intro w
  obtain ⟨l, hl⟩ := Option.isSome_iff_exists.1 (keys_regs g h)
  obtain ⟨r, h1, h2⟩ := run_equalIn_deep (P := Tryz.prog) 9996 4 25 (by kernel_rfl) w 4 4 (.agg g.cells) (.agg g.cells) l l (by kernel_rfl) (by kernel_rfl) hl hl
  rw [show (9996 + 4 : Nat) = 10000 from rfl] at h1
  rw [h1, h2.2 rfl]
/-- a whole load that is guarded, and wanted -/
theorem wpList_load_rowG {P : Program} {ops : Array Oper} {rest : List Oper} {o : Oper} {a : Act} {w : World} {Q : Exit → Act → World → Prop} (hw : Region.wanted o (yielded ops a.tmps) = true) (ty : TypeId) (x : Operand) (ho : o.op = .load ty x)
    (g : Nat) (hx : a.eval x = .pointer (some ⟨g, 0, none⟩)) (t : TypeId) (cs : Array Value) (fr : Nat × Nat) (d : TypeDesc) (hg : w.heap[g]? = some (.cells cs t fr))
    (hu : P.underlying ty = some d) (hd : (match d with | .struct _ | .array _ _ => true | _ => false) = true) (hi : (P.info? ty).map (·.size) = some cs.size)
    (h : wpList P ops Q rest (a.put o.dst (.agg cs)) w) : wpList P ops Q (o :: rest) a w :=
  wpList_step fun K hK => by
    rw [if_pos hw]
    exact wp_load_row ty x ho g hx t cs fr d hg hu hd hi (hK _ _ h)
set_option maxRecDepth 100000 in
set_option maxHeartbeats 16000000 in
theorem walk_ExecTests (g : RG) (cond : Int) (W : World) (hg : g.Ok) (hc : (Lit.int .i64 cond).wf = true) :
    Calls Tryz.prog 4 #[.agg g.cells, .int .i64 cond] W fun e W' => e = .returned (.bool true) ∧ Below W.heap.size W W' := by
  clear hg hc
  have HU := Lib.hid up_exec
  have HE := Lib.hid (etest_any g cond)
  have HR := Lib.hid (rtest_any g cond)
  have HGI := Lib.hid (regs_info g)
  generalize testF g (cond % 16).toNat = T at *
  generalize g.cells = G at *
  go_enter Tryz.func4, Tryz.ntmps4
  go_wp2_with fail
  have X0 := Lib.hid (heap_alloc_new W (.cells G 25))
  have B0 : Hid (Below W.heap.size W (W.alloc (.cells G 25))) := Lib.hid (by go_grown)
  refine (HU.out _).mono ?_
  rintro e w1 ⟨rfl, b1⟩
  have X1 := Lib.hid ((b1.block _ (lt_of_block X0.out)).trans X0.out)
  have B1 := Lib.hid (B0.out.trans (b1.mono B0.out.size))
  clear b1 X0 B0 HU
  obtain ⟨b2, hb2⟩ : ∃ b2, W.heap.size = b2 := ⟨_, rfl⟩
  rw [hb2] at X1
  go_wp2_with fail
  try simp only [hb2]
  have HB2 := Lib.hid hb2
  clear hb2
  refine wp_region_held_drew (S := fun wx => wx.heap[b2]? = some (.cells G 25)) (by kernel_rfl) X1.out (fun hHeld => ?_)
  refine tkw 0 (.bool true) rfl (fun wx hS => by (first | (go_simp; rfl) | go_simp | rfl)) ?_
  refine tkw 1 (.bool true) rfl (fun wx hS => by (first | (go_simp; rfl) | go_simp | rfl)) ?_
  refine tkw 2 (.agg G) rfl (fun wx hS => run_load_row 25 _ rfl b2 rfl 25 G (0, 0) _ hS Tryz.underlying25 rfl HGI.out) ?_
  refine tkw 3 (.int .i64 cond) rfl (fun wx hS => by (first | (go_simp; rfl) | go_simp | rfl)) ?_
  refine tkw 5 (.agg G) rfl (fun wx hS => run_load_row 25 _ rfl b2 rfl 25 G (0, 0) _ hS Tryz.underlying25 rfl HGI.out) ?_
  refine tkw 6 (.int .i64 cond) rfl (fun wx hS => by (first | (go_simp; rfl) | go_simp | rfl)) ?_
  refine wpAnyH_ready (rs := [4]) (by kernel_rfl) (by simp) ?_
  refine AllReadyH.cons rfl (fun K hK => ?_) AllReadyH.nil
  go_simp
  refine (HE.out _).mono ?_
  rintro e w2 ⟨rfl, b3⟩
  have X2 := Lib.hid ((b3.block _ (lt_of_block X1.out)).trans X1.out)
  have B2 : Hid (Below W.heap.size W w2) := Lib.hid (B1.out.trans (((Below.refl _ _).drew.trans b3).mono B1.out.size))
  clear b3
  try go_simp
  refine hK.out _ _ X2.out (fun hHeld2 => ?_)
  clear hK K X1 B1 hHeld
  refine wpAnyH_ready (rs := [7]) (by kernel_rfl) (by simp) ?_
  refine AllReadyH.cons rfl (fun K hK => ?_) AllReadyH.nil
  go_simp
  refine (HR.out _).mono ?_
  rintro e w3 ⟨rfl, b3⟩
  have X3 := Lib.hid ((b3.block _ (lt_of_block X2.out)).trans X2.out)
  have B3 : Hid (Below W.heap.size W w3) := Lib.hid (B2.out.trans (b3.mono B2.out.size))
  clear b3
  try go_simp
  refine hK.out _ _ X3.out (fun hHeld3 => ?_)
  clear hK K X2 B2 hHeld2
  refine tkw 8 (.bool true) rfl (fun wx hS => by (first | (go_simp; rfl) | go_simp | rfl)) ?_
  refine tkw 9 (.bool true) rfl (fun wx hS => by (first | (go_simp; rfl) | go_simp | rfl)) ?_
  refine tkw 10 (.bool true) rfl (fun wx hS => by (first | (go_simp; rfl) | go_simp | rfl)) ?_
  refine wpAnyH_done (by kernel_rfl) ?_ _
  clear hHeld3
  go_wp2_with fail
  go_ret
  exact ⟨rfl, B3.out⟩
set_option maxRecDepth 100000 in
set_option maxHeartbeats 16000000 in
theorem walk_ExecNil (g : RG) (W : World) (hg : g.Ok) :
    Calls Tryz.prog 3 #[.agg g.cells] W fun e W' => e = .returned (.bool true) ∧ Below W.heap.size W W' := by
  have HU := Lib.hid up_exec
  have HB : Hid (∀ wx, Calls Tryz.prog 6 #[.slice none 0 0, .slice none 0 0] wx fun e w' => ∃ mb qb : Nat, e = .returned (.tuple #[.pointer (some ⟨mb, 0, none⟩), .pointer (some ⟨qb, 0, none⟩)]) ∧ Below wx.heap.size wx w') := Lib.hid fun wx => (both_ok none 0 0 [] wx (brow_nil _) rfl (by omega) (by omega)).mono (by
    rintro e w' ⟨mb, qb, gm, S, F, V, h1, h2, h3, h4, h5, h6⟩
    exact ⟨mb, qb, h1, h6⟩)
  have HGI := Lib.hid (regs_info g)
  have HGO := Lib.hid (regs_one g)
  have HGS : Hid (g.cells.size = 23) := Lib.hid rfl
  have HS1 := Lib.hid step_nil1
  have HS2 := Lib.hid step_nil2
  have hq := eq_regs g hg
  have hc := run_eql_code 1 1
  clear hg
  generalize g.cells = G at *
  go_enter Tryz.func3, Tryz.ntmps3
  go_wp2_with fail
  have X0 := Lib.hid (heap_alloc_new W (.cells G 25))
  have B0 : Hid (Below W.heap.size W (W.alloc (.cells G 25))) := Lib.hid (by go_grown)
  refine (HU.out _).mono ?_
  rintro e w1 ⟨rfl, b1⟩
  have X1 := Lib.hid ((b1.block _ (lt_of_block X0.out)).trans X0.out)
  have B1 := Lib.hid (B0.out.trans (b1.mono B0.out.size))
  clear b1 X0 B0 HU
  go_wp2_with fail
  refine (HB.out _).mono ?_
  rintro e w2 ⟨mb, qb, rfl, b2⟩
  have X2 := Lib.hid ((b2.block _ (lt_of_block X1.out)).trans X1.out)
  have B2 := Lib.hid (B1.out.trans (b2.mono B1.out.size))
  clear b2 X1 B1 HB
  go_upto_region 4 with (first
    | (refine wpList_load_row rfl 25 _ rfl W.heap.size rfl 25 G (0, 0) _ X2.out Tryz.underlying25 rfl HGI.out ?_)
    | (refine wpList_store_row rfl 25 _ _ rfl w2.heap.size G rfl (by rfl) 25 _ (heap_alloc_new _ _) HGI.out (by rw [HGS.out]; rfl) HGO.out ?_; rw [World.setRow_alloc_new]))
  have X6 := Lib.hid (heap_alloc_new w2 (.cells G 25))
  have X3 := Lib.hid ((heap_alloc_old w2 (.cells G 25) (lt_of_block X2.out)).trans X2.out)
  have B3 := Lib.hid (B2.out.alloc B2.out.size (.cells G 25))
  clear X2 B2
  obtain ⟨b6, hb6⟩ : ∃ b6, w2.heap.size = b6 := ⟨_, rfl⟩
  rw [hb6] at X6 ⊢
  clear hb6
  generalize w2.alloc (.cells G 25) = w3 at *
  go_wp2_with fail
  refine (HS1.out _ _).mono ?_
  rintro e w' ⟨rfl, rfl⟩
  go_wp2_with fail
  refine (HS2.out _ _).mono ?_
  rintro e w' ⟨rfl, rfl⟩
  go_wp2_with (first
    | (refine wpList_load_rowG (by rfl) 25 _ rfl b6 rfl 25 G (0, 0) _ X6.out Tryz.underlying25 rfl HGI.out ?_)
    | (refine wpList_load_rowG (by rfl) 25 _ rfl W.heap.size rfl 25 G (0, 0) _ X3.out Tryz.underlying25 rfl HGI.out ?_))
  go_ret
  exact ⟨rfl, B3.out⟩
end Go.Proofs.YtmnjkaimpejohaaGreatDoor
