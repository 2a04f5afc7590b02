/- Layer 13: one step. -/
import Derived.Test.YtmnjkaimpejohaaGreatDoorExecC
import Derived.Test.YtmnjkaimpejohaaGreatDoorETest
import Derived.Test.YtmnjkaimpejohaaGreatDoorTk
import Derived.Deep.DeepCutAuto
import Derived.Deep.MidRow
namespace Go.Proofs.YtmnjkaimpejohaaGreatDoor
open Go.RowKit
set_option linter.unusedVariables false
set_option linter.unusedSimpArgs false

def RG.set (g : RG) (k : Nat) (v : Int) : RG := { g with r := fun j => if j = k then v else g.r j }
def stepC (g : RG) (mb : Nat) (op sz cd ka na wa kb nb wb kc nc wc : Int) : Array Value := (g.cells.toList ++ (Value.pointer (some ⟨mb, 0, none⟩) :: (instC op sz cd ka na wa kb nb wb kc nc wc).toList)).toArray
theorem step_built (g : RG) (mb : Nat) (op sz cd ka na wa kb nb wb kc nc wc : Int) : Tryz.prog.built 58 [(1, .pointer (some ⟨mb, 0, none⟩)), (2, .agg (instC op sz cd ka na wa kb nb wb kc nc wc)), (0, .agg g.cells)] = some (stepC g mb op sz cd ka na wa kb nb wb kc nc wc) := by kernel_rfl
theorem step_info (g : RG) (mb : Nat) (op sz cd ka na wa kb nb wb kc nc wc : Int) : (Tryz.prog.info? 58).map (·.size) = some (stepC g mb op sz cd ka na wa kb nb wb kc nc wc).size := by kernel_rfl
theorem step_one (g : RG) (mb : Nat) (op sz cd ka na wa kb nb wb kc nc wc : Int) : (stepC g mb op sz cd ka na wa kb nb wb kc nc wc).all (·.oneCell') = true := by simp [stepC, RG.cells, instC, Value.oneCell']
theorem step_ip (g : RG) (v : Int) (mb : Nat) (op sz cd ka na wa kb nb wb kc nc wc : Int) : (stepC g mb op sz cd ka na wa kb nb wb kc nc wc).setIfInBounds 16 (.int .u64 v) = stepC (g.set 16 v) mb op sz cd ka na wa kb nb wb kc nc wc := by kernel_rfl
theorem step_regs (g : RG) (mb : Nat) (op sz cd ka na wa kb nb wb kc nc wc : Int) (j : Nat) (v : Value) (h : g.cells.toList[j]? = some v) : (stepC g mb op sz cd ka na wa kb nb wb kc nc wc)[0 + j]? = some v := by
  have hj := (List.getElem?_eq_some_iff.1 h).1
  rw [Nat.zero_add]
  simp only [stepC, List.getElem?_toArray]
  rw [List.getElem?_append_left hj]
  exact h
theorem regs_info (g : RG) : (Tryz.prog.info? 25).map (·.size) = some g.cells.size := by kernel_rfl
theorem regs_one (g : RG) : g.cells.all (·.oneCell') = true := by simp [RG.cells, Value.oneCell']
theorem run_load_row {P : Program} {o : Oper} {a : Act} {w : World} (ty : TypeId) (x : Operand) (ho : o.op = .load ty x)
    (g : Nat) (hx : a.eval x = .pointer (some ⟨g, 0, none⟩)) (t : TypeId) (cs : Array Value) (fr : Nat × Nat) (d : TypeDesc) (hg : w.heap[g]? = some (.cells cs t fr))
    (hu : P.underlying ty = some d) (hd : (match d with | .struct _ | .array _ _ => true | _ => false) = true) (hi : (P.info? ty).map (·.size) = some cs.size) : (execOp a.eval o).run P w = .ok (.value (.agg cs)) w := by
  unfold execOp
  simp only [ho, hx, Instr.loadAt, Instr.sureAddr, Sem.run_bind, Sem.run_pure, Result.andThen_ok, run_loadVar_row w g t ty cs fr d hg hu hd hi]
theorem run_build_as {P : Program} {o : Oper} {a : Act} {w : World} (t : TypeId) (parts : Array (Nat × Operand)) (ho : o.op = .build t parts)
    (vals : List (Nat × Value)) (cells : Array Value) (hv : (parts.map fun (i, x) => (i, a.eval x)).toList = vals) (hb : P.built t vals = some cells) : (execOp a.eval o).run P w = .ok (.value (.agg cells)) w := by
  subst hv
  unfold execOp
  simp only [ho, Sem.run_bind, run_build w t _ cells hb, Result.andThen_ok, Sem.run_pure]
set_option maxRecDepth 100000 in
set_option maxHeartbeats 16000000 in
theorem step_ok (mb : Nat) (S : Nat → Prop) (q c : Nat) (V : Nat → Option Pg) (gm : Nat) (F : Nat → Option Nat) (b a a2 : Nat) (g g' : RG) (op sz cd ka na wa kb nb wb kc nc wc : Int) (w : World) (h : VmAt w mb S q c V gm F) (ha : a + 14 < 18446744073709551616) (hbar : barredF V 1 a 14 = none)
    (hD : ∀ gb wx, OwnI wx 0 5 .u8 (.slice (some ⟨gb, 0, none⟩) 14 14) (toI (bytesAt V a 14)) → (∀ b ∈ bytesAt V a 14, b < 256) → Calls Tryz.prog 24 #[.slice (some ⟨gb, 0, none⟩) 14 14] wx fun e w' => e = .returned (.tuple #[.agg (instC op sz cd ka na wa kb nb wb kc nc wc), .nilIface]) ∧ Below wx.heap.size wx w')
    (hr : w.heap[b]? = some (.cells g.cells 25)) (hip : g.r 16 = (a : Int)) (hsz : 0 ≤ sz ∧ sz ≤ 14) (ha2 : (a2 : Int) = (a : Int) + sz)
    (hdo : ∀ sb wx, SAt wx sb (stepC (g.set 16 (a2 : Int)) mb op sz cd ka na wa kb nb wb kc nc wc) → Calls Tryz.prog 17 #[.pointer (some ⟨sb, 0, none⟩)] wx fun e w' => e = .returned .nilIface ∧ SAt w' sb (stepC g' mb op sz cd ka na wa kb nb wb kc nc wc) ∧ Near sb wx w') :
    Calls Tryz.prog 7 #[.pointer (some ⟨mb, 0, none⟩), .pointer (some ⟨b, 0, none⟩)] w fun e w' => e = .returned (.tuple #[.bool (op == 30), .nilIface]) ∧ w'.heap[b]? = some (.cells g'.cells 25) ∧ Near b w w' := by
  have HF := Lib.hid (fetch_ok mb S q c V gm F a op sz cd ka na wa kb nb wb kc nc wc w h ha hbar hD)
  have HR := Lib.hid hr
  have c16 : w.cell? ⟨b, 16, none⟩ = some (.int .u64 (a : Int)) := by rw [cell_of_row _ _ 16 _ _ _ hr, ← hip]; rfl
  have HDO := Lib.hid hdo
  have HIP := Lib.hid hip
  have e1 : IntKind.u64.wrap sz = sz := by rw [IntKind.wrap_u64]; omega
  have e2 : IntKind.u64.wrap ((a : Int) + sz) = (a2 : Int) := by rw [← ha2, IntKind.wrap_u64]; omega
  have HIN : Hid ((Tryz.prog.info? 54).map (·.size) = some (instC op sz cd ka na wa kb nb wb kc nc wc).size) := Lib.hid inst_info
  have HON := Lib.hid (inst_one op sz cd ka na wa kb nb wb kc nc wc)
  have HSZ : Hid ((instC op sz cd ka na wa kb nb wb kc nc wc).size = 33) := Lib.hid rfl
  have HI0 : Hid ((instC op sz cd ka na wa kb nb wb kc nc wc)[0]? = some (.int .i64 op) ∧ (instC op sz cd ka na wa kb nb wb kc nc wc)[1]? = some (.int .i64 sz)) := Lib.hid ⟨rfl, rfl⟩
  have HBU := Lib.hid (step_built g mb op sz cd ka na wa kb nb wb kc nc wc)
  have HSI := Lib.hid (step_info g mb op sz cd ka na wa kb nb wb kc nc wc)
  have HCS : Hid ((stepC g mb op sz cd ka na wa kb nb wb kc nc wc).size = 57) := Lib.hid rfl
  have HSO := Lib.hid (step_one g mb op sz cd ka na wa kb nb wb kc nc wc)
  have HSIP := Lib.hid (step_ip g (a2 : Int) mb op sz cd ka na wa kb nb wb kc nc wc)
  have HS16 : Hid ((stepC g mb op sz cd ka na wa kb nb wb kc nc wc)[16]? = some (.int .u64 (a : Int))) := Lib.hid (by rw [← hip]; rfl)
  have HRG := Lib.hid (step_regs g' mb op sz cd ka na wa kb nb wb kc nc wc)
  have HGI := Lib.hid (regs_info g)
  have HGI2 := Lib.hid (regs_info g')
  have HGO := Lib.hid (regs_one g')
  have HGS : Hid (g.cells.size = 23 ∧ g'.cells.size = 23) := Lib.hid ⟨rfl, rfl⟩
  clear h ha hbar hD hr hip hsz ha2 hdo
  generalize stepC g mb op sz cd ka na wa kb nb wb kc nc wc = C0 at *
  generalize stepC g' mb op sz cd ka na wa kb nb wb kc nc wc = C2 at *
  generalize stepC (g.set 16 (a2 : Int)) mb op sz cd ka na wa kb nb wb kc nc wc = C1 at *
  generalize instC op sz cd ka na wa kb nb wb kc nc wc = I at *
  generalize g.cells = G at *
  generalize g'.cells = G2 at *
  go_enter Tryz.func7, Tryz.ntmps7
  go_wp2_with fail
  refine HF.out.mono ?_
  rintro e w1 ⟨rfl, b1⟩
  have B1 := Lib.hid b1
  have HLT := Lib.hid (lt_of_block HR.out)
  clear c16 b1 HF
  go_upto_region 6 with (refine wpList_store_row rfl 54 _ _ rfl w1.heap.size I rfl (by rfl) 54 _ (heap_alloc_new _ _) HIN.out (by rw [HSZ.out]; rfl) HON.out ?_; rw [World.setRow_alloc_new])
  have X6 := Lib.hid (heap_alloc_new w1 (.cells I 54))
  have B2 := Lib.hid (B1.out.alloc B1.out.size (.cells I 54))
  have L6 : Hid (w.heap.size ≤ w1.heap.size) := Lib.hid B1.out.size
  obtain ⟨b6, hb6⟩ : ∃ b6, w1.heap.size = b6 := ⟨_, rfl⟩
  rw [hb6] at X6 L6 ⊢
  clear hb6
  generalize w1.alloc (.cells I 54) = w2 at *
  have R2 := Lib.hid ((B2.out.block _ HLT.out).trans HR.out)
  refine wp_region_held_drew (S := fun wx => wx.heap[b6]? = some (.cells I 54) ∧ wx.heap[b]? = some (.cells G 25)) (by kernel_rfl) ⟨X6.out, R2.out⟩ (fun hHeld => ?_)
  refine tkw 0 (.pointer (some ⟨mb, 0, none⟩)) rfl (fun wx hS => by (first | (go_simp; rfl) | go_simp | rfl)) ?_
  refine tkw 1 (.agg I) rfl (fun wx hS => run_load_row 54 _ rfl b6 rfl 54 I (0, 0) _ hS.1 Tryz.underlying54 rfl HIN.out) ?_
  refine tkw 2 (.pointer (some ⟨b, 0, none⟩)) rfl (fun wx hS => by (first | (go_simp; rfl) | go_simp | rfl)) ?_
  refine tkw 3 (.pointer (some ⟨b, 0, none⟩)) rfl (fun wx hS => by (first | (go_simp; rfl) | go_simp | rfl)) ?_
  refine tkw 4 (.agg G) rfl (fun wx hS => run_load_row 25 _ rfl b rfl 25 G (0, 0) _ hS.2 Tryz.underlying25 rfl HGI.out) ?_
  refine tkw 5 (.agg C0) rfl (fun wx hS => run_build_as 58 _ rfl [(1, .pointer (some ⟨mb, 0, none⟩)), (2, .agg I), (0, .agg G)] C0 (by rw [Array.toList_map]; rfl) HBU.out) ?_
  refine wpAnyH_ready (rs := [6]) (by kernel_rfl) (by simp) ?_
  refine AllReadyH.cons rfl (fun K hK => ?_) AllReadyH.nil
  go_simp
  refine hK.out _ _ ⟨(heap_alloc_old _ _ (lt_of_block X6.out)).trans X6.out, (heap_alloc_old _ _ (lt_of_block R2.out)).trans R2.out⟩ (fun hHeld2 => ?_)
  clear hK K
  refine wpAnyH_ready (rs := [7]) (by kernel_rfl) (by simp) ?_
  refine AllReadyH.cons rfl (fun K hK => ?_) AllReadyH.nil
  rw [if_pos (by rfl)]
  refine wp_store_row 58 _ _ rfl w2.heap.size C0 rfl (by rfl) 58 _ (heap_alloc_new _ _) HSI.out (by rw [HCS.out]; rfl) HSO.out ?_
  have hw : ∀ (Z : Array Value), ((w2.alloc (.cells Z 58)).drew).setRow w2.heap.size C0 = (w2.alloc (.cells C0 58)).drew := fun Z => congrArg World.drew (World.setRow_alloc_new w2 Z C0 58)
  rw [hw]
  refine hK.out _ _ ⟨(heap_alloc_old _ _ (lt_of_block X6.out)).trans X6.out, (heap_alloc_old _ _ (lt_of_block R2.out)).trans R2.out⟩ (fun hHeld3 => ?_)
  clear hK K hw
  refine wpAnyH_done (by kernel_rfl) ?_ _
  have S3 : Hid (SAt (w2.alloc (.cells C0 58)).drew w2.heap.size C0) := Lib.hid (heap_alloc_new _ _)
  have X3 : Hid ((w2.alloc (.cells C0 58)).drew.heap[b6]? = some (.cells I 54)) := Lib.hid hHeld3.1
  have R3 : Hid ((w2.alloc (.cells C0 58)).drew.heap[b]? = some (.cells G 25)) := Lib.hid hHeld3.2
  have B3 : Hid (Below w.heap.size w (w2.alloc (.cells C0 58)).drew) := Lib.hid (B2.out.alloc B2.out.size _).drew
  have L3 : Hid (w.heap.size ≤ w2.heap.size ∧ b6 < w2.heap.size) := Lib.hid ⟨B2.out.size, lt_of_block X6.out⟩
  clear hHeld hHeld2 hHeld3 X6 R2 B2
  obtain ⟨sb, hsb⟩ : ∃ sb, w2.heap.size = sb := ⟨_, rfl⟩
  rw [hsb] at S3 L3
  try simp only [hsb]
  clear hsb
  try simp only [List.getElem_toArray, List.getElem_cons_zero, List.getElem_cons_succ, Act.put, List.setIfInBounds_toArray, List.set_cons_zero, List.set_cons_succ, Array.toArray_toList]
  generalize (w2.alloc (.cells C0 58)).drew = w3 at *
  have c16 : w3.cell? ⟨sb, 16, none⟩ = some (.int .u64 (a : Int)) := (S3.out.cell 16).trans HS16.out
  have f16 := S3.out.free 16
  have i1 : w3.cell? ⟨b6, 1, none⟩ = some (.int .i64 sz) := (cell_of_row _ _ 1 _ _ _ X3.out).trans HI0.out.2
  go_upto_region 8 with fail
  have S4 : Hid (SAt (w3.setCell ⟨sb, 16, none⟩ (.int .u64 (a2 : Int))) sb C1) := Lib.hid (by
    have := S3.out.set 16 (.int .u64 (a2 : Int))
    rwa [HSIP.out] at this)
  have X4 : Hid ((w3.setCell ⟨sb, 16, none⟩ (.int .u64 (a2 : Int))).heap[b6]? = some (.cells I 54)) := Lib.hid ((Below.heap_setCell _ _ _ _ (by show b6 ≠ sb; have := L3.out; omega)).trans X3.out)
  have R4 : Hid ((w3.setCell ⟨sb, 16, none⟩ (.int .u64 (a2 : Int))).heap[b]? = some (.cells G 25)) := Lib.hid ((Below.heap_setCell _ _ _ _ (by show b ≠ sb; have := L3.out; have := HLT.out; omega)).trans R3.out)
  have B4 : Hid (Below w.heap.size w (w3.setCell ⟨sb, 16, none⟩ (.int .u64 (a2 : Int)))) := Lib.hid (B3.out.setCell L3.out.1 _)
  clear c16 f16 i1 S3 X3 R3 B3
  generalize w3.setCell ⟨sb, 16, none⟩ (.int .u64 (a2 : Int)) = w4 at *
  go_wp2_with fail
  refine (HDO.out sb w4 S4.out).mono ?_
  rintro e w5 ⟨rfl, s5, n5⟩
  have X5 : Hid (w5.heap[b6]? = some (.cells I 54)) := Lib.hid ((n5.block (lt_of_block X4.out) (by have := L3.out; omega)).trans X4.out)
  have R5 : Hid (w5.heap[b]? = some (.cells G 25)) := Lib.hid ((n5.block (lt_of_block R4.out) (by have := L3.out; have := HLT.out; omega)).trans R4.out)
  have B5 : Hid (Below w.heap.size w w5) := Lib.hid (B4.out.trans (n5.below.mono L3.out.1))
  have HRA : Hid (w5.rangeAt sb 0 G2.toList) := Lib.hid (range_of s5 (fun j v hv => HRG.out j v hv))
  have HGL : Hid ((Tryz.prog.info? 25).map (·.size) = some G2.toList.length) := Lib.hid (by rw [HGI2.out, Array.length_toList])
  clear s5 n5 S4 X4 R4 B4 HDO
  go_upto_region 12 with (first
    | (refine wpList_load_mid rfl 25 _ rfl sb 0 (by rfl) G2.toList _ HRA.out Tryz.underlying25 rfl HGL.out ?_; rw [Array.toArray_toList])
    | (refine wpList_store_row rfl 25 _ _ rfl b G2 rfl (by rfl) 25 _ R5.out HGI2.out (by rw [HGS.out.1, HGS.out.2]) HGO.out ?_))
  have X6 : Hid ((w5.setRow b G2).heap[b6]? = some (.cells I 54)) := Lib.hid ((setRow_other _ _ _ _ (by
    intro e
    have h1 := X5.out
    rw [e, R5.out] at h1
    simp only [Option.some.injEq, Obj.cells.injEq] at h1
    exact absurd h1.2.1 (by decide))).trans X5.out)
  have R6 : Hid ((w5.setRow b G2).heap[b]? = some (.cells G2 25)) := Lib.hid (setRow_heap _ _ _ _ _ _ R5.out)
  have N6 : Hid (Near b w (w5.setRow b G2)) := Lib.hid ((Near.of B5.out HLT.out).trans (near_row _ _ _))
  clear X5 R5 B5 HRA HGL
  generalize w5.setRow b G2 = w6 at *
  have i0 : w6.cell? ⟨b6, 0, none⟩ = some (.int .i64 op) := (cell_of_row _ _ 0 _ _ _ X6.out).trans HI0.out.1
  go_wp2_with fail
  go_ret2
  exact ⟨rfl, R6.out, N6.out⟩
end Go.Proofs.YtmnjkaimpejohaaGreatDoor
