/- Layer 13: an instruction is done; one is fetched. -/
import Derived.Test.YtmnjkaimpejohaaGreatDoorExecB
import Derived.Test.YtmnjkaimpejohaaGreatDoorVmRead
import Derived.Test.YtmnjkaimpejohaaGreatDoorDecUp
namespace Go.Proofs.YtmnjkaimpejohaaGreatDoor
open Go.RowKit
set_option linter.unusedVariables false
set_option linter.unusedSimpArgs false

set_option maxRecDepth 100000 in
set_option maxHeartbeats 8000000 in
theorem do_mov (sb : Nat) (C : Array Value) (k j v : Nat) (x : Value) (w : World) (h : SAt w sb C) (hop : C[24]? = some (.int .i64 8)) (hA : OpA C 27 1 (k : Int) 8) (hB : OpA C 37 1 (j : Int) 8) (hk : k < 16) (hj : j < 16) (hv : v < 18446744073709551616) (hcj : C[j]? = some (.int .u64 (v : Int))) (hck : C[k]? = some x) :
    Calls Tryz.prog 17 #[.pointer (some ⟨sb, 0, none⟩)] w fun e w' => e = .returned .nilIface ∧ SAt w' sb (C.setIfInBounds k (.int .u64 (v : Int))) ∧ Near sb w w' := by
  have HM := Lib.hid (move_up sb C k j v x w h hop hA hB hk hj hv hcj hck)
  have c24 : w.cell? ⟨sb, 24, none⟩ = some (.int .i64 8) := (h.cell 24).trans hop
  clear h hop hA hB hk hj hv hcj hck
  go_enter Tryz.func17, Tryz.ntmps17
  go_wp2_with fail
  refine HM.out.mono ?_
  rintro e w1 ⟨rfl, s1, n1⟩
  go_wp2_with fail
  go_ret
  exact ⟨rfl, s1, n1⟩
set_option maxRecDepth 100000 in
set_option maxHeartbeats 8000000 in
theorem do_inc (sb : Nat) (C : Array Value) (cf : Bool) (w : World) (h : SAt w sb C) (hs : C.size = 57) (hop : C[24]? = some (.int .i64 12)) (hA : OpA C 27 1 0 8) (h0 : C[0]? = some (.int .u64 18446744073709551615)) (hcf : C[18]? = some (.bool cf)) :
    Calls Tryz.prog 17 #[.pointer (some ⟨sb, 0, none⟩)] w fun e w' => e = .returned .nilIface ∧ SAt w' sb (((incC C).setIfInBounds 18 (.bool cf)).setIfInBounds 0 (.int .u64 0)) ∧ Near sb w w' := by
  have HM := Lib.hid (turn_up sb C cf w h hs hop hA h0 hcf)
  have c24 : w.cell? ⟨sb, 24, none⟩ = some (.int .i64 12) := (h.cell 24).trans hop
  clear h hop hA hs h0 hcf
  go_enter Tryz.func17, Tryz.ntmps17
  go_wp2_with fail
  refine HM.out.mono ?_
  rintro e w1 ⟨rfl, s1, n1⟩
  go_wp2_with fail
  go_ret
  exact ⟨rfl, s1, n1⟩
set_option maxRecDepth 100000 in
set_option maxHeartbeats 8000000 in
theorem do_hlt (sb : Nat) (C : Array Value) (w : World) (h : SAt w sb C) (hop : C[24]? = some (.int .i64 30)) :
    Calls Tryz.prog 17 #[.pointer (some ⟨sb, 0, none⟩)] w fun e w' => e = .returned .nilIface ∧ SAt w' sb C ∧ Near sb w w' := by
  have H := Lib.hid h
  have c24 : w.cell? ⟨sb, 24, none⟩ = some (.int .i64 30) := (h.cell 24).trans hop
  clear h hop
  go_enter Tryz.func17, Tryz.ntmps17
  go_wp2_with fail
  go_ret
  exact ⟨rfl, H.out, Near.refl _ _⟩
theorem run_equalIn_nil {P : Program} (w : World) (d : Nat) {ti tn : TypeId} {ms : Array (String × TypeId)} {v : Value}
    (hi : P.underlying ti = some (.interface ms)) : (Op.equalIn (d + 2) ti .nilIface (.iface tn v)).run P w = .ok false w := by
  simp [Op.equalIn, run_underlying hi]
theorem run_eql_nil (v : Int) : ∀ w, (binOp .eql 32 .nilIface (.iface 36 (.int .i64 v))).run Tryz.prog w = .ok (.bool false) w := by
  intro w
  simp only [binOp]
  simp [Op.equal, Op.maxDepth, run_equalIn_nil (P := Tryz.prog) w 9998 (tn := 36) (v := .int .i64 v) Tryz.underlying32]
set_option maxRecDepth 100000 in
theorem is_nil (n : Int) (w : World) : Calls Tryz.prog 25 #[.nilIface, .iface 36 (.int .i64 n)] w fun e w' => e = .returned (.bool false) ∧ w' = w := by
  have hq := run_eql_nil n
  go_enter Tryz.func25, Tryz.ntmps25
  go_wp2_with fail
  go_ret
  exact ⟨rfl, rfl⟩
set_option maxRecDepth 100000 in
theorem code_ok (mb : Nat) (S : Nat → Prop) (q c : Nat) (V : Nat → Option Pg) (g : Nat) (F : Nat → Option Nat) (a : Nat) (w : World) (h : VmAt w mb S q c V g F) (ha : a + 14 < 18446744073709551616) (hbar : barredF V 1 a 14 = none) :
    Calls Tryz.prog 23 #[.pointer (some ⟨mb, 0, none⟩), .int .u64 (a : Int)] w fun e w' => ∃ gb, e = .returned (.tuple #[.slice (some ⟨gb, 0, none⟩) 14 14, .int .u64 ((a + 14 : Nat) : Int)]) ∧ OwnI w' w.heap.size 5 .u8 (.slice (some ⟨gb, 0, none⟩) 14 14) (toI (bytesAt V a 14)) ∧ (∀ b ∈ bytesAt V a 14, b < 256) ∧ Below w.heap.size w w' := by
  have hf := fetch_any mb S q c V g F a 14 w h (by omega) (by omega)
  rw [hbar] at hf
  have HF := Lib.hid hf
  have e1 : IntKind.u64.wrap ((a : Int) + 14) = ((a + 14 : Nat) : Int) := by rw [IntKind.wrap_u64]; omega
  clear h ha hbar hf
  obtain ⟨P, hP⟩ : ∃ P, loaded w V a 14 12 none = P := ⟨_, rfl⟩
  rw [hP] at HF
  have HE : Hid (∀ e w', P e w' → ∃ gb, e = .returned (.tuple #[.slice (some ⟨gb, 0, none⟩) 14 14, .nilIface]) ∧ OwnI w' w.heap.size 5 .u8 (.slice (some ⟨gb, 0, none⟩) 14 14) (toI (bytesAt V a 14)) ∧ (∀ b ∈ bytesAt V a 14, b < 256) ∧ Below w.heap.size w w') := Lib.hid (by rw [← hP]; rintro e w' ⟨gb, h1, h2, h3, h4, h5⟩; exact ⟨gb, h1, h3, h4, h5⟩)
  clear hP
  generalize bytesAt V a 14 = bs at *
  go_enter Tryz.func23, Tryz.ntmps23
  go_wp2_with fail
  refine HF.out.mono ?_
  intro e w1 he
  obtain ⟨gb, rfl, hown, hb, hbel⟩ := HE.out e w1 he
  have HQ := Lib.hid (And.intro hown (And.intro hb hbel))
  clear hown hb hbel he HF HE
  go_wp2_with fail
  go_ret2
  exact ⟨gb, rfl, HQ.out⟩
set_option maxRecDepth 100000 in
set_option maxHeartbeats 8000000 in
theorem fetch_ok (mb : Nat) (S : Nat → Prop) (q c : Nat) (V : Nat → Option Pg) (g : Nat) (F : Nat → Option Nat) (a : Nat) (op sz cd ka na wa kb nb wb kc nc wc : Int) (w : World) (h : VmAt w mb S q c V g F) (ha : a + 14 < 18446744073709551616) (hbar : barredF V 1 a 14 = none)
    (hD : ∀ gb wx, OwnI wx 0 5 .u8 (.slice (some ⟨gb, 0, none⟩) 14 14) (toI (bytesAt V a 14)) → (∀ b ∈ bytesAt V a 14, b < 256) → Calls Tryz.prog 24 #[.slice (some ⟨gb, 0, none⟩) 14 14] wx fun e w' => e = .returned (.tuple #[.agg (instC op sz cd ka na wa kb nb wb kc nc wc), .nilIface]) ∧ Below wx.heap.size wx w') :
    Calls Tryz.prog 16 #[.pointer (some ⟨mb, 0, none⟩), .int .u64 (a : Int)] w fun e w' => e = .returned (.tuple #[.agg (instC op sz cd ka na wa kb nb wb kc nc wc), .nilIface]) ∧ Below w.heap.size w w' := by
  have HC : Hid (∀ wx, Below w.heap.size w wx → _) := Lib.hid fun wx hb => code_ok mb S q c V g F a wx (h.below hb) ha hbar
  have HD := Lib.hid hD
  have HI := Lib.hid (is_nil 4)
  have HIN : Hid ((Tryz.prog.info? 54).map (·.size) = some (instC op sz cd ka na wa kb nb wb kc nc wc).size) := Lib.hid inst_info
  have HON := Lib.hid (inst_one op sz cd ka na wa kb nb wb kc nc wc)
  have HSZ : Hid ((instC op sz cd ka na wa kb nb wb kc nc wc).size = 33) := Lib.hid rfl
  clear h ha hbar hD
  generalize bytesAt V a 14 = bs at *
  generalize instC op sz cd ka na wa kb nb wb kc nc wc = I at *
  go_enter Tryz.func16, Tryz.ntmps16
  go_wp2_with fail
  refine (HC.out _ (by go_grown)).mono ?_
  rintro e w1 ⟨gb, rfl, hown, hby, hbel⟩
  have BD1 : Hid (Below w.heap.size w w1) := Lib.hid (Below.trans (by go_grown) (hbel.mono (by simp)))
  have ZB1 := Lib.hid ((hbel.block _ (by simp)).trans (heap_alloc_new w (.cells (instC 0 0 0 0 0 0 0 0 0 0 0 0) 54)))
  have HDD := Lib.hid (HD.out gb w1 (hown.mono (Nat.zero_le _)) hby)
  clear hown hby hbel HC HD
  go_wp2_with fail
  refine HDD.out.mono ?_
  rintro e w2 ⟨rfl, hb2⟩
  have BD2 : Hid (Below w.heap.size w w2) := Lib.hid (BD1.out.trans (hb2.mono BD1.out.size))
  have ZB2 := Lib.hid ((hb2.block _ (lt_of_block ZB1.out)).trans ZB1.out)
  clear BD1 ZB1 hb2 HDD
  have ZB3 := Lib.hid ((heap_alloc_old w2 (.cells I 54) (lt_of_block ZB2.out)).trans ZB2.out)
  go_wp2_with (first
    | (refine wpList_store_row rfl 54 _ _ rfl w2.heap.size I rfl (by rfl) 54 _ (heap_alloc_new _ _) HIN.out (by rw [HSZ.out]; rfl) HON.out ?_; rw [World.setRow_alloc_new]; have X8 := Lib.hid (heap_alloc_new w2 (.cells I 54)))
    | (refine wpList_load_row rfl 54 _ rfl w2.heap.size rfl 54 I (0, 0) _ X8.out Tryz.underlying54 rfl HIN.out ?_)
    | (refine wpList_store_row rfl 54 _ _ rfl w.heap.size I rfl (by rfl) 54 _ ZB3.out HIN.out (by rw [HSZ.out]; rfl) HON.out ?_)
    | (go_at_call 25; refine (HI.out _).mono ?_; rintro e w' ⟨rfl, rfl⟩))
  refine bodyPost_ret_by (results_cellT Tryz.results16 _ _ w.heap.size 54 I (0, 0) _ rfl (setRow_heap _ _ _ _ _ _ ZB3.out) Tryz.underlying54 rfl HIN.out) (by rfl) ?_
  exact ⟨rfl, below_setRow (BD2.out.alloc BD2.out.size _) (Nat.le_refl _) _⟩
end Go.Proofs.YtmnjkaimpejohaaGreatDoor
