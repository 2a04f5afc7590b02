/- Layer 5: what a section tells. -/
import Derived.Test.YtnaejlfjlennhaaGreatDoorDynStill
import Derived.Test.YtnaejlfjlennhaaGreatDoorDyn
import Derived.Deep.MidRow
import Derived.StillTailTactics
import Derived.Deep.QuietTactic
import Derived.BigQuiet
namespace Go.Proofs.YtnaejlfjlennhaaGreatDoor
open Go.RowKit
set_option linter.unusedVariables false
set_option linter.unusedSimpArgs false

theorem below_setRow {n : Nat} {w w' : World} {g : Nat} {cs : Array Value} (h : Below n w w') (hg : n ≤ g) : Below n w (w'.setRow g cs) :=
  ⟨h.os, h.tape, h.output, by rw [setRow_size]; exact h.size, fun k hk => (setRow_other _ _ _ _ (by omega)).trans (h.block k hk)⟩
theorem told_built (na : Option Addr) (nl nc : Nat) (v1 v2 v3 v4 v5 v6 v7 v8 v9 v10 v11 v12 v13 v17 v18 v19 v20 v21 v22 v23 v24 v25 v26 v27 v28 v29 v30 v31 : Int) (v14 v15 v16 v32 v33 v34 v35 v36 : Bool) : Tryz.prog.built 30 [(0, .slice na nl nc), (1, .int .u64 v1), (2, .int .u64 v2), (3, .int .u64 v3), (4, .int .u64 v4), (5, .int .u64 v5), (6, .int .u64 v6), (7, .int .u64 v7), (8, .int .u64 v8), (9, .int .u64 v9), (10, .int .u64 v10), (11, .int .u64 v11), (12, .int .u64 v12), (13, .int .u64 v13), (14, .bool v14), (15, .bool v15), (16, .bool v16), (17, .int .u64 v17), (18, .int .u64 v18), (19, .int .u64 v19), (20, .int .u64 v20), (21, .int .u64 v21), (22, .int .u64 v22), (23, .int .u64 v23), (24, .int .u64 v24), (25, .int .u64 v25), (26, .int .u64 v26), (27, .int .u64 v27), (28, .int .u64 v28), (29, .int .u64 v29), (30, .int .u64 v30), (31, .int .u64 v31), (32, .bool v32), (33, .bool v33), (34, .bool v34), (35, .bool v35), (36, .bool v36)] = some #[.slice na nl nc, .int .u64 v1, .int .u64 v2, .int .u64 v3, .int .u64 v4, .int .u64 v5, .int .u64 v6, .int .u64 v7, .int .u64 v8, .int .u64 v9, .int .u64 v10, .int .u64 v11, .int .u64 v12, .int .u64 v13, .bool v14, .bool v15, .bool v16, .int .u64 v17, .int .u64 v18, .int .u64 v19, .int .u64 v20, .int .u64 v21, .int .u64 v22, .int .u64 v23, .int .u64 v24, .int .u64 v25, .int .u64 v26, .int .u64 v27, .int .u64 v28, .int .u64 v29, .int .u64 v30, .int .u64 v31, .bool v32, .bool v33, .bool v34, .bool v35, .bool v36] := by kernel_rfl
theorem wp_build_asT {P : Program} {o : Oper} {a : Act} {w : World} {K : Act → World → Prop} {Q : Exit → Act → World → Prop} (t : TypeId) (parts : Array (Nat × Operand)) (ho : o.op = .build t parts)
    (vals : List (Nat × Value)) (cells : Array Value) (hv : (parts.map fun (i, x) => (i, a.eval x)).toList = vals) (hb : P.built t vals = some cells) (h : K (a.put o.dst (.agg cells)) w) : o.wp P a w K Q := by
  subst hv
  exact wp_build t parts ho (by rw [hb]; rfl) (by rw [hb]; exact h)
def orF (m : Nat → Option Nat) (t f : Nat) (b : Int) : Bool := (m t).isSome || (bits BinOp.and IntKind.u64 ((gv m f : Nat) : Int) b != 0)
/-- what a section tells -/
def toldF (na : Option Addr) (nl nc : Nat) (m : Nat → Option Nat) : DT := ⟨na, nl, nc, gv m 2, gv m 3, gv m 4, gv m 5, gv m 6, gv m 7, gv m 8, gv m 10, gv m 12, gv m 13, gv m 14, gv m 15, gv m 29, (m 14).isSome, (m 15).isSome, (m 29).isSome, gv m 23, gv m 25, gv m 26, gv m 27, gv m 28, gv m 30, gv m 36, gv m 35, gv m 1879047925, gv m 1879048176, gv m 1879048187, gv m 1879048188, gv m 1879048189, gv m 1879048190, gv m 1879048191, orF m 16 30 2, (orF m 24 30 8 || (bits BinOp.and IntKind.u64 ((gv m 1879048187 : Nat) : Int) 1 != 0)), orF m 22 30 4, (m 12).isSome, (m 13).isSome⟩

set_option maxRecDepth 100000 in
set_option maxHeartbeats 8000000 in
theorem told_any (na : Option Addr) (nl nc : Nat) (gm c : Nat) (m : Nat → Option Nat) (w : World) (h : UM w Tryz.prog 24 gm m c) :
    Calls Tryz.prog 27 #[.slice na nl nc, .map (some gm)] w fun e w' => e = .returned (toldF na nl nc m).v ∧ Below w.heap.size w w' := by
  obtain ⟨R, hR⟩ : ∃ R, (toldF na nl nc m).v = R := ⟨_, rfl⟩
  rw [hR]
  have HRR := Lib.hid hR
  clear hR
  have HT : Hid (∀ w2, Below w.heap.size w w2 → UM w2 Tryz.prog 24 gm m c) := Lib.hid (fun w2 hb => h.of_block (hb.block gm h.lt))
  obtain ⟨V, hV⟩ : ∃ V, gv m = V := ⟨_, rfl⟩
  have HVV := Lib.hid hV
  obtain ⟨S, hS⟩ : ∃ S : Nat → Bool, (fun k => (m k).isSome) = S := ⟨_, rfl⟩
  have HSS := Lib.hid hS
  have HL : Hid (∀ w2, Below w.heap.size w w2 → ∀ k : Nat, k < 18446744073709551616 → (Instr.lookup 86 (.map (some gm)) (.int .u64 (k : Int)) false).run Tryz.prog w2 = .ok (.int .u64 ((V k : Nat) : Int)) w2) := Lib.hid (fun w2 hb k hk => by
    have := (HT.out w2 hb).look (T := 86) (E := 24) Tryz.underlying24 Tryz.underlying86 (u64_zeroT w2) (k := k) hk
    rw [← hV]
    exact this)
  have HS : Hid (∀ w2 b, Below w.heap.size w w2 → w2.cell? ⟨b, 0, none⟩ = some (.map (some gm)) → ∀ k : Nat, k < 18446744073709551616 → Calls Tryz.prog 50 #[.int .u64 (k : Int), .pointer (some ⟨b, 0, none⟩)] w2 fun e w' => e = .returned (.bool (S k)) ∧ w' = w2) := Lib.hid (fun w2 b hb hc k hk => by
    rw [← hS]
    exact has_any b gm c m k w2 hc (HT.out w2 hb) hk)
  clear HT h hV hS
  go_enter Tryz.func27, Tryz.ntmps27
  go_wp2_with fail
  have key : ∀ (wz : World) (o : Obj), wz = (w.alloc (.cells #[.map (some gm)] 86)).alloc o → Below w.heap.size w wz ∧ wz.cell? ⟨w.heap.size, 0, none⟩ = some (.map (some gm)) ∧ wz.heap[w.heap.size + 1]? = some o := by
    rintro wz o rfl
    refine ⟨((Below.refl _ _).alloc (Nat.le_refl _) _).alloc (by simp) _, ?_, ?_⟩
    · have h1 := heap_alloc_new w (.cells #[.map (some gm)] 86)
      have h2 : ((w.alloc (.cells #[.map (some gm)] 86)).alloc o).heap[w.heap.size]? = some (.cells #[.map (some gm)] 86) := by
        rw [heap_alloc_old _ _ (by simp)]
        exact h1
      rw [cell_of_row _ _ 0 _ _ _ h2]
      rfl
    · have := heap_alloc_new (w.alloc (.cells #[.map (some gm)] 86)) o
      simpa using this
  have KEY := Lib.hid (key _ (.cells #[.slice none 0 0, .int .u64 0, .int .u64 0, .int .u64 0, .int .u64 0, .int .u64 0, .int .u64 0, .int .u64 0, .int .u64 0, .int .u64 0, .int .u64 0, .int .u64 0, .int .u64 0, .int .u64 0, .bool false, .bool false, .bool false, .int .u64 0, .int .u64 0, .int .u64 0, .int .u64 0, .int .u64 0, .int .u64 0, .int .u64 0, .int .u64 0, .int .u64 0, .int .u64 0, .int .u64 0, .int .u64 0, .int .u64 0, .int .u64 0, .int .u64 0, .bool false, .bool false, .bool false, .bool false, .bool false] 30) rfl)
  clear key
  generalize (w.alloc (.cells #[.map (some gm)] 86)).alloc (.cells #[.slice none 0 0, .int .u64 0, .int .u64 0, .int .u64 0, .int .u64 0, .int .u64 0, .int .u64 0, .int .u64 0, .int .u64 0, .int .u64 0, .int .u64 0, .int .u64 0, .int .u64 0, .int .u64 0, .bool false, .bool false, .bool false, .int .u64 0, .int .u64 0, .int .u64 0, .int .u64 0, .int .u64 0, .int .u64 0, .int .u64 0, .int .u64 0, .int .u64 0, .int .u64 0, .int .u64 0, .int .u64 0, .int .u64 0, .int .u64 0, .int .u64 0, .bool false, .bool false, .bool false, .bool false, .bool false] 30) = w1 at *
  have hbox := KEY.out.2.1
  have l30 : ∀ nz, (Instr.lookup 86 (.map (some gm)) (.int .u64 30) false).run Tryz.prog (World.drewN w1 nz) = .ok (.int .u64 ((V 30 : Nat) : Int)) (World.drewN w1 nz) := fun nz => HL.out (World.drewN w1 nz) (below_drewN KEY.out.1 nz) 30 (by omega)
  have l1879048187 : ∀ nz, (Instr.lookup 86 (.map (some gm)) (.int .u64 1879048187) false).run Tryz.prog (World.drewN w1 nz) = .ok (.int .u64 ((V 1879048187 : Nat) : Int)) (World.drewN w1 nz) := fun nz => HL.out (World.drewN w1 nz) (below_drewN KEY.out.1 nz) 1879048187 (by omega)
  go_quiet (fail)
  clear hbox l30 l1879048187
  have KEY2 : Hid (Below w.heap.size w (World.drewN w1 nq)) := Lib.hid (below_drewN KEY.out.1 nq)
  have KB : Hid ((World.drewN w1 nq).cell? ⟨w.heap.size, 0, none⟩ = some (.map (some gm))) := Lib.hid KEY.out.2.1
  have KR : Hid ((World.drewN w1 nq).heap[w.heap.size + 1]? = some (.cells #[.slice none 0 0, .int .u64 0, .int .u64 0, .int .u64 0, .int .u64 0, .int .u64 0, .int .u64 0, .int .u64 0, .int .u64 0, .int .u64 0, .int .u64 0, .int .u64 0, .int .u64 0, .int .u64 0, .bool false, .bool false, .bool false, .int .u64 0, .int .u64 0, .int .u64 0, .int .u64 0, .int .u64 0, .int .u64 0, .int .u64 0, .int .u64 0, .int .u64 0, .int .u64 0, .int .u64 0, .int .u64 0, .int .u64 0, .int .u64 0, .int .u64 0, .bool false, .bool false, .bool false, .bool false, .bool false] 30)) := Lib.hid KEY.out.2.2
  clear KEY
  generalize World.drewN w1 nq = w2 at *
  go_wp2_with fail
  have KEY3 : Hid (Below w.heap.size w (World.drew w2)) := Lib.hid KEY2.out.drew
  have hbox : (World.drew w2).cell? ⟨w.heap.size, 0, none⟩ = some (.map (some gm)) := KB.out
  have l2 : (Instr.lookup 86 (.map (some gm)) (.int .u64 2) false).run Tryz.prog (World.drew w2) = .ok (.int .u64 ((V 2 : Nat) : Int)) (World.drew w2) := HL.out _ KEY3.out 2 (by omega)
  have l3 : (Instr.lookup 86 (.map (some gm)) (.int .u64 3) false).run Tryz.prog (World.drew w2) = .ok (.int .u64 ((V 3 : Nat) : Int)) (World.drew w2) := HL.out _ KEY3.out 3 (by omega)
  have l4 : (Instr.lookup 86 (.map (some gm)) (.int .u64 4) false).run Tryz.prog (World.drew w2) = .ok (.int .u64 ((V 4 : Nat) : Int)) (World.drew w2) := HL.out _ KEY3.out 4 (by omega)
  have l5 : (Instr.lookup 86 (.map (some gm)) (.int .u64 5) false).run Tryz.prog (World.drew w2) = .ok (.int .u64 ((V 5 : Nat) : Int)) (World.drew w2) := HL.out _ KEY3.out 5 (by omega)
  have l6 : (Instr.lookup 86 (.map (some gm)) (.int .u64 6) false).run Tryz.prog (World.drew w2) = .ok (.int .u64 ((V 6 : Nat) : Int)) (World.drew w2) := HL.out _ KEY3.out 6 (by omega)
  have l7 : (Instr.lookup 86 (.map (some gm)) (.int .u64 7) false).run Tryz.prog (World.drew w2) = .ok (.int .u64 ((V 7 : Nat) : Int)) (World.drew w2) := HL.out _ KEY3.out 7 (by omega)
  have l8 : (Instr.lookup 86 (.map (some gm)) (.int .u64 8) false).run Tryz.prog (World.drew w2) = .ok (.int .u64 ((V 8 : Nat) : Int)) (World.drew w2) := HL.out _ KEY3.out 8 (by omega)
  have l10 : (Instr.lookup 86 (.map (some gm)) (.int .u64 10) false).run Tryz.prog (World.drew w2) = .ok (.int .u64 ((V 10 : Nat) : Int)) (World.drew w2) := HL.out _ KEY3.out 10 (by omega)
  have l12 : (Instr.lookup 86 (.map (some gm)) (.int .u64 12) false).run Tryz.prog (World.drew w2) = .ok (.int .u64 ((V 12 : Nat) : Int)) (World.drew w2) := HL.out _ KEY3.out 12 (by omega)
  have l13 : (Instr.lookup 86 (.map (some gm)) (.int .u64 13) false).run Tryz.prog (World.drew w2) = .ok (.int .u64 ((V 13 : Nat) : Int)) (World.drew w2) := HL.out _ KEY3.out 13 (by omega)
  have l14 : (Instr.lookup 86 (.map (some gm)) (.int .u64 14) false).run Tryz.prog (World.drew w2) = .ok (.int .u64 ((V 14 : Nat) : Int)) (World.drew w2) := HL.out _ KEY3.out 14 (by omega)
  have l15 : (Instr.lookup 86 (.map (some gm)) (.int .u64 15) false).run Tryz.prog (World.drew w2) = .ok (.int .u64 ((V 15 : Nat) : Int)) (World.drew w2) := HL.out _ KEY3.out 15 (by omega)
  have l29 : (Instr.lookup 86 (.map (some gm)) (.int .u64 29) false).run Tryz.prog (World.drew w2) = .ok (.int .u64 ((V 29 : Nat) : Int)) (World.drew w2) := HL.out _ KEY3.out 29 (by omega)
  have l23 : (Instr.lookup 86 (.map (some gm)) (.int .u64 23) false).run Tryz.prog (World.drew w2) = .ok (.int .u64 ((V 23 : Nat) : Int)) (World.drew w2) := HL.out _ KEY3.out 23 (by omega)
  have l25 : (Instr.lookup 86 (.map (some gm)) (.int .u64 25) false).run Tryz.prog (World.drew w2) = .ok (.int .u64 ((V 25 : Nat) : Int)) (World.drew w2) := HL.out _ KEY3.out 25 (by omega)
  have l26 : (Instr.lookup 86 (.map (some gm)) (.int .u64 26) false).run Tryz.prog (World.drew w2) = .ok (.int .u64 ((V 26 : Nat) : Int)) (World.drew w2) := HL.out _ KEY3.out 26 (by omega)
  have l27 : (Instr.lookup 86 (.map (some gm)) (.int .u64 27) false).run Tryz.prog (World.drew w2) = .ok (.int .u64 ((V 27 : Nat) : Int)) (World.drew w2) := HL.out _ KEY3.out 27 (by omega)
  have l28 : (Instr.lookup 86 (.map (some gm)) (.int .u64 28) false).run Tryz.prog (World.drew w2) = .ok (.int .u64 ((V 28 : Nat) : Int)) (World.drew w2) := HL.out _ KEY3.out 28 (by omega)
  have l36 : (Instr.lookup 86 (.map (some gm)) (.int .u64 36) false).run Tryz.prog (World.drew w2) = .ok (.int .u64 ((V 36 : Nat) : Int)) (World.drew w2) := HL.out _ KEY3.out 36 (by omega)
  have l35 : (Instr.lookup 86 (.map (some gm)) (.int .u64 35) false).run Tryz.prog (World.drew w2) = .ok (.int .u64 ((V 35 : Nat) : Int)) (World.drew w2) := HL.out _ KEY3.out 35 (by omega)
  have l1879047925 : (Instr.lookup 86 (.map (some gm)) (.int .u64 1879047925) false).run Tryz.prog (World.drew w2) = .ok (.int .u64 ((V 1879047925 : Nat) : Int)) (World.drew w2) := HL.out _ KEY3.out 1879047925 (by omega)
  have l1879048176 : (Instr.lookup 86 (.map (some gm)) (.int .u64 1879048176) false).run Tryz.prog (World.drew w2) = .ok (.int .u64 ((V 1879048176 : Nat) : Int)) (World.drew w2) := HL.out _ KEY3.out 1879048176 (by omega)
  have l1879048188 : (Instr.lookup 86 (.map (some gm)) (.int .u64 1879048188) false).run Tryz.prog (World.drew w2) = .ok (.int .u64 ((V 1879048188 : Nat) : Int)) (World.drew w2) := HL.out _ KEY3.out 1879048188 (by omega)
  have l1879048189 : (Instr.lookup 86 (.map (some gm)) (.int .u64 1879048189) false).run Tryz.prog (World.drew w2) = .ok (.int .u64 ((V 1879048189 : Nat) : Int)) (World.drew w2) := HL.out _ KEY3.out 1879048189 (by omega)
  have l1879048190 : (Instr.lookup 86 (.map (some gm)) (.int .u64 1879048190) false).run Tryz.prog (World.drew w2) = .ok (.int .u64 ((V 1879048190 : Nat) : Int)) (World.drew w2) := HL.out _ KEY3.out 1879048190 (by omega)
  have l1879048191 : (Instr.lookup 86 (.map (some gm)) (.int .u64 1879048191) false).run Tryz.prog (World.drew w2) = .ok (.int .u64 ((V 1879048191 : Nat) : Int)) (World.drew w2) := HL.out _ KEY3.out 1879048191 (by omega)
  have c14 : Calls Tryz.prog 50 #[.int .u64 14, .pointer (some ⟨w.heap.size, 0, none⟩)] (World.drew w2) fun e w' => e = .returned (.bool (S 14)) ∧ w' = World.drew w2 := HS.out _ _ KEY3.out KB.out 14 (by omega)
  have c15 : Calls Tryz.prog 50 #[.int .u64 15, .pointer (some ⟨w.heap.size, 0, none⟩)] (World.drew w2) fun e w' => e = .returned (.bool (S 15)) ∧ w' = World.drew w2 := HS.out _ _ KEY3.out KB.out 15 (by omega)
  have c29 : Calls Tryz.prog 50 #[.int .u64 29, .pointer (some ⟨w.heap.size, 0, none⟩)] (World.drew w2) fun e w' => e = .returned (.bool (S 29)) ∧ w' = World.drew w2 := HS.out _ _ KEY3.out KB.out 29 (by omega)
  have c16 : Calls Tryz.prog 50 #[.int .u64 16, .pointer (some ⟨w.heap.size, 0, none⟩)] (World.drew w2) fun e w' => e = .returned (.bool (S 16)) ∧ w' = World.drew w2 := HS.out _ _ KEY3.out KB.out 16 (by omega)
  have c24 : Calls Tryz.prog 50 #[.int .u64 24, .pointer (some ⟨w.heap.size, 0, none⟩)] (World.drew w2) fun e w' => e = .returned (.bool (S 24)) ∧ w' = World.drew w2 := HS.out _ _ KEY3.out KB.out 24 (by omega)
  have c22 : Calls Tryz.prog 50 #[.int .u64 22, .pointer (some ⟨w.heap.size, 0, none⟩)] (World.drew w2) fun e w' => e = .returned (.bool (S 22)) ∧ w' = World.drew w2 := HS.out _ _ KEY3.out KB.out 22 (by omega)
  have c12 : Calls Tryz.prog 50 #[.int .u64 12, .pointer (some ⟨w.heap.size, 0, none⟩)] (World.drew w2) fun e w' => e = .returned (.bool (S 12)) ∧ w' = World.drew w2 := HS.out _ _ KEY3.out KB.out 12 (by omega)
  have c13 : Calls Tryz.prog 50 #[.int .u64 13, .pointer (some ⟨w.heap.size, 0, none⟩)] (World.drew w2) fun e w' => e = .returned (.bool (S 13)) ∧ w' = World.drew w2 := HS.out _ _ KEY3.out KB.out 13 (by omega)
  obtain ⟨b16, e16⟩ : ∃ b, S 16 = b := ⟨_, rfl⟩
  obtain ⟨b24, e24⟩ : ∃ b, S 24 = b := ⟨_, rfl⟩
  obtain ⟨b22, e22⟩ : ∃ b, S 22 = b := ⟨_, rfl⟩
  rw [e16] at c16
  rw [e24] at c24
  rw [e22] at c22
  have E16 := Lib.hid e16; have E24 := Lib.hid e24; have E22 := Lib.hid e22
  clear e16 e24 e22
  have C14 := Lib.hid c14
  have C15 := Lib.hid c15
  have C29 := Lib.hid c29
  have C16 := Lib.hid c16
  have C24 := Lib.hid c24
  have C22 := Lib.hid c22
  have C12 := Lib.hid c12
  have C13 := Lib.hid c13
  clear c14 c15 c29 c16 c24 c22 c12 c13
  refine wp_region_still_tail 91 (by kernel_rfl) (by kernel_rfl) ?_
  simp only [List.take_succ_cons, List.take_zero, List.drop_succ_cons, List.drop_zero]
  change wpStill _ _ (World.drew w2) _ _ _
  have KB3 : Hid ((World.drew w2).heap[w.heap.size + 1]? = w2.heap[w.heap.size + 1]?) := Lib.hid rfl
  generalize hwd : World.drew w2 = wd at *
  still_step
  still_step
  still_step
  still_step
  still_step
  still_step
  still_step
  still_step
  still_step
  still_step
  still_step
  still_step
  still_step
  still_step
  still_step
  still_step
  still_step
  still_step
  still_step
  still_step
  still_step
  still_step
  still_step
  still_step
  still_step
  still_step
  still_step
  still_step
  still_call C14.out
  as_aux_lemma =>
    still_step
    still_call C15.out
    still_step
    still_call C29.out
    still_step
    still_step
    still_step
    still_step
    still_step
    still_step
    still_step
    still_step
    still_step
    still_step
    still_step
    as_aux_lemma =>
      still_step
      still_step
      still_step
      still_step
      still_step
      still_step
      still_step
      still_step
      still_step
      still_step
      still_step
      still_step
      still_step
      still_step
      still_step
      still_step
      still_step
      as_aux_lemma =>
        still_step
        still_call C16.out
        still_step
        refine still_or b16 (bits BinOp.and IntKind.u64 ((V 30 : Nat) : Int) 2 != 0) ?hf1 ?ht1 ?h1
        case hf1 =>
          intro hb Q1 hQ
          revert hQ
          go_simp
          intro hQ
          have HQ := Lib.hid hQ
          clear hQ
          try rw [hb]
          clear hb
          still_step
          still_step
          still_step
          still_step
          exact wpStill_nil (HQ.out _ _ _)
        case ht1 =>
          intro hb Q1 hQ
          revert hQ
          go_simp
          intro hQ
          have HQ := Lib.hid hQ
          clear hQ
          try rw [hb]
          clear hb
          still_step
          still_step
          still_step
          still_step
          exact wpStill_nil (HQ.out _ _ _)
        case h1 =>
          rintro r1 x1 y1 z1 R1
          have HR1 := Lib.hid R1
          clear R1
          go_simp
          still_step
          still_call C24.out
          still_step
          as_aux_lemma =>
            refine still_or b24 (bits BinOp.and IntKind.u64 ((V 30 : Nat) : Int) 8 != 0) ?hf2 ?ht2 ?h2
            case hf2 =>
              intro hb Q1 hQ
              revert hQ
              go_simp
              intro hQ
              have HQ := Lib.hid hQ
              clear hQ
              try rw [hb]
              clear hb
              still_step
              still_step
              still_step
              still_step
              exact wpStill_nil (HQ.out _ _ _)
            case ht2 =>
              intro hb Q1 hQ
              revert hQ
              go_simp
              intro hQ
              have HQ := Lib.hid hQ
              clear hQ
              try rw [hb]
              clear hb
              still_step
              still_step
              still_step
              still_step
              exact wpStill_nil (HQ.out _ _ _)
            case h2 =>
              rintro r2 x2 y2 z2 R2
              have HR2 := Lib.hid R2
              clear R2
              go_simp
              still_step
              as_aux_lemma =>
                refine still_or r2 (bits BinOp.and IntKind.u64 ((V 1879048187 : Nat) : Int) 1 != 0) ?hf3 ?ht3 ?h3
                case hf3 =>
                  intro hb Q1 hQ
                  revert hQ
                  go_simp
                  intro hQ
                  have HQ := Lib.hid hQ
                  clear hQ
                  try rw [hb]
                  clear hb
                  still_step
                  still_step
                  still_step
                  still_step
                  exact wpStill_nil (HQ.out _ _ _)
                case ht3 =>
                  intro hb Q1 hQ
                  revert hQ
                  go_simp
                  intro hQ
                  have HQ := Lib.hid hQ
                  clear hQ
                  try rw [hb]
                  clear hb
                  still_step
                  still_step
                  still_step
                  still_step
                  exact wpStill_nil (HQ.out _ _ _)
                case h3 =>
                  rintro r3 x3 y3 z3 R3
                  have HR3 := Lib.hid R3
                  clear R3
                  go_simp
                  still_step
                  still_call C22.out
                  still_step
                  as_aux_lemma =>
                    refine still_or b22 (bits BinOp.and IntKind.u64 ((V 30 : Nat) : Int) 4 != 0) ?hf4 ?ht4 ?h4
                    case hf4 =>
                      intro hb Q1 hQ
                      revert hQ
                      go_simp
                      intro hQ
                      have HQ := Lib.hid hQ
                      clear hQ
                      try rw [hb]
                      clear hb
                      still_step
                      still_step
                      still_step
                      still_step
                      exact wpStill_nil (HQ.out _ _ _)
                    case ht4 =>
                      intro hb Q1 hQ
                      revert hQ
                      go_simp
                      intro hQ
                      have HQ := Lib.hid hQ
                      clear hQ
                      try rw [hb]
                      clear hb
                      still_step
                      still_step
                      still_step
                      still_step
                      exact wpStill_nil (HQ.out _ _ _)
                    case h4 =>
                      rintro r4 x4 y4 z4 R4
                      have HR4 := Lib.hid R4
                      clear R4
                      go_simp
                      still_step
                      still_call C12.out
                      still_step
                      still_call C13.out
                      refine wpStill_nil ?_
                      obtain ⟨C, hC⟩ : ∃ C : Array Value, #[.slice na nl nc, .int .u64 ((V 2 : Nat) : Int), .int .u64 ((V 3 : Nat) : Int), .int .u64 ((V 4 : Nat) : Int), .int .u64 ((V 5 : Nat) : Int), .int .u64 ((V 6 : Nat) : Int), .int .u64 ((V 7 : Nat) : Int), .int .u64 ((V 8 : Nat) : Int), .int .u64 ((V 10 : Nat) : Int), .int .u64 ((V 12 : Nat) : Int), .int .u64 ((V 13 : Nat) : Int), .int .u64 ((V 14 : Nat) : Int), .int .u64 ((V 15 : Nat) : Int), .int .u64 ((V 29 : Nat) : Int), .bool (S 14), .bool (S 15), .bool (S 29), .int .u64 ((V 23 : Nat) : Int), .int .u64 ((V 25 : Nat) : Int), .int .u64 ((V 26 : Nat) : Int), .int .u64 ((V 27 : Nat) : Int), .int .u64 ((V 28 : Nat) : Int), .int .u64 ((V 30 : Nat) : Int), .int .u64 ((V 36 : Nat) : Int), .int .u64 ((V 35 : Nat) : Int), .int .u64 ((V 1879047925 : Nat) : Int), .int .u64 ((V 1879048176 : Nat) : Int), .int .u64 ((V 1879048187 : Nat) : Int), .int .u64 ((V 1879048188 : Nat) : Int), .int .u64 ((V 1879048189 : Nat) : Int), .int .u64 ((V 1879048190 : Nat) : Int), .int .u64 ((V 1879048191 : Nat) : Int), .bool r1, .bool r3, .bool r4, .bool (S 12), .bool (S 13)] = C := ⟨_, rfl⟩
                      have HBLT : Hid (Tryz.prog.built 30 [(0, .slice na nl nc), (1, .int .u64 ((V 2 : Nat) : Int)), (2, .int .u64 ((V 3 : Nat) : Int)), (3, .int .u64 ((V 4 : Nat) : Int)), (4, .int .u64 ((V 5 : Nat) : Int)), (5, .int .u64 ((V 6 : Nat) : Int)), (6, .int .u64 ((V 7 : Nat) : Int)), (7, .int .u64 ((V 8 : Nat) : Int)), (8, .int .u64 ((V 10 : Nat) : Int)), (9, .int .u64 ((V 12 : Nat) : Int)), (10, .int .u64 ((V 13 : Nat) : Int)), (11, .int .u64 ((V 14 : Nat) : Int)), (12, .int .u64 ((V 15 : Nat) : Int)), (13, .int .u64 ((V 29 : Nat) : Int)), (14, .bool (S 14)), (15, .bool (S 15)), (16, .bool (S 29)), (17, .int .u64 ((V 23 : Nat) : Int)), (18, .int .u64 ((V 25 : Nat) : Int)), (19, .int .u64 ((V 26 : Nat) : Int)), (20, .int .u64 ((V 27 : Nat) : Int)), (21, .int .u64 ((V 28 : Nat) : Int)), (22, .int .u64 ((V 30 : Nat) : Int)), (23, .int .u64 ((V 36 : Nat) : Int)), (24, .int .u64 ((V 35 : Nat) : Int)), (25, .int .u64 ((V 1879047925 : Nat) : Int)), (26, .int .u64 ((V 1879048176 : Nat) : Int)), (27, .int .u64 ((V 1879048187 : Nat) : Int)), (28, .int .u64 ((V 1879048188 : Nat) : Int)), (29, .int .u64 ((V 1879048189 : Nat) : Int)), (30, .int .u64 ((V 1879048190 : Nat) : Int)), (31, .int .u64 ((V 1879048191 : Nat) : Int)), (32, .bool r1), (33, .bool r3), (34, .bool r4), (35, .bool (S 12)), (36, .bool (S 13))] = some C) := Lib.hid (by rw [← hC]; exact told_built _ _ _ _ _ _ _ _ _ _ _ _ _ _ _ _ _ _ _ _ _ _ _ _ _ _ _ _ _ _ _ _ _ _ _ _ _ _ _)
                      have H37 : C.size = 37 := by rw [← hC]; rfl
                      have HON : C.all (·.oneCell') = true := by rw [← hC]; simp [Value.oneCell']
                      have HI : (Tryz.prog.info? 30).map (·.size) = some C.size := by rw [H37]; kernel_rfl
                      have HC := Lib.hid hC
                      clear hC
                      refine wpList_plain rfl (fun K hK => ?_)
                      refine wp_build_asT 30 _ rfl _ C ?hv HBLT.out ?hh
                      case hv => go_simp
                      refine hK _ _ ?_
                      refine wpList_store_row rfl 30 _ _ rfl (w.heap.size + 1) C ?hx ?hy 30 _ (KB3.out.trans KR.out) HI (by rw [H37]; rfl) HON ?h2
                      case hx => go_simp
                      case hy => go_simp
                      have KRX : Hid ((wd.setRow (w.heap.size + 1) C).heap[w.heap.size + 1]? = some (.cells C 30)) := Lib.hid (setRow_heap _ _ _ _ _ _ (KB3.out.trans KR.out))
                      have KBX : Hid (Below w.heap.size w (wd.setRow (w.heap.size + 1) C)) := Lib.hid (below_setRow KEY3.out (by omega))
                      have HIX := Lib.hid HI
                      have HFIN : Hid (Value.agg C = R) := Lib.hid (by
                        rw [← HRR.out, ← HC.out, ← HR1.out, ← HR3.out, ← HR2.out, ← HR4.out, ← E16.out, ← E24.out, ← E22.out, ← HSS.out, ← HVV.out]
                        rfl)
                      clear HI HON H37 hbox
                      generalize wd.setRow (w.heap.size + 1) C = we at *
                      go_wp2_with fail
                      refine bodyPost_ret_by (results_cell_row Tryz.results27 _ _ (w.heap.size + 1) 30 C (0, 0) _ rfl KRX.out Tryz.underlying30 rfl HIX.out) (by rfl) ?_
                      exact ⟨ret1 HFIN.out, KBX.out⟩
end Go.Proofs.YtnaejlfjlennhaaGreatDoor
