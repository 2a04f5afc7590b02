/- Layer 7: Look, whatever tables there are, both at once too. -/
import Derived.Test.YtpilccalgegadaaHashAll
namespace Go.Proofs.Ytpilccalgegadaa
open Go.RowKit
set_option linter.unusedVariables false
set_option linter.unusedSimpArgs false

section
variable (a : Option Addr) (cap : Nat) (bs : List Nat) (ty en : Int) (p : Option Addr) (pc : Nat) (ps : List PT) (D : Array Value) (hash gnu : Nat) (la : Option Addr) (lc : Nat) (names : List ByteArray) (name : ByteArray) (w : World)

set_option maxRecDepth 100000 in
set_option maxHeartbeats 4000000 in
theorem look_c_err (H : LookIn a cap bs p ps D hash gnu w) (h10 : ¬ hash = 0) (h20 : gnu = 0) (c : Nat) (hcc : c = 2 ∨ c = 3 ∨ c = 4) (hFC : chainsF bs ps hash = (([], []), c))
    (hnr : NameRow w la names) (hnl : names.length ≤ 140737488351232) (hns : name.size ≤ 140737488351232) :
    Calls Try.prog 10 #[.slice a bs.length cap, headV ty en p ps.length pc, .agg D, .slice la names.length lc, .string name] w (NumsErr 3 .i64 ([], c) w) := by
  obtain ⟨hb, hbl, hbc, hbn, h, hl, h1, h2, hD, hD3, hD25⟩ := H
  have HRC := Lib.hid (fun (w1 : World) (hb1 : Below w.heap.size w w1) => readChains_any a cap bs ty en p pc ps hash w1 (hb.below hb1) hbl hbc hbn (h.below hb1) hl h1)
  have HRB := Lib.hid (fun (w1 : World) (hb1 : Below w.heap.size w w1) => readBloomed_any a cap bs ty en p pc ps gnu w1 (hb.below hb1) hbl hbc hbn (h.below hb1) hl h2)
  have HBC := Lib.hid (fun (t : BT) (ba : Option Addr) (bc : Nat) (ua : Option Addr) (uc : Nat) (w1 : World) (hb1 : Below w.heap.size w w1) (T : BTok t) (hu : Row .u32 w1 ua (toI t.buckets)) => bcount_any a cap bs ty en p pc ps t ba bc ua uc w1 (hb.below hb1) hbl hbc (h.below hb1) hl T.first T.base hu T.bu0 T.bul (maxF_lt (by omega) T.but))
  have HBL := Lib.hid (fun (t : BT) (ba : Option Addr) (bc : Nat) (ua : Option Addr) (uc : Nat) (w1 : World) (hb1 : Below w.heap.size w w1) (T : BTok t) (hu : Row .u32 w1 ua (toI t.buckets)) (hr : Row .u64 w1 ba (toI t.bloom)) (hE : maxF t.buckets = 0 ∨ ∃ ee, maxF t.buckets ≤ ee ∧ ee < 4096 ∧ (linkF bs ps t ee).1 % 2 = 1) => blook_any a cap bs ty en p pc ps t ba bc ua uc la lc names name w1 (hb.below hb1) hbl hbc (h.below hb1) hl T.first T.shift T.base hu T.bu0 T.bul T.but hr T.blt T.bl0 T.bll (hnr.below hb1) hnl hns hE)
  have HBB := Lib.hid hb.2
  have HNR := Lib.hid hnr
  have h10i : ((hash : Int) == 0) = false := beq_eq_false_iff_ne.2 (by omega)
  have h10j : ((hash : Int) != 0) = true := by rw [bne, h10i]; rfl
  rw [hFC] at HRC
  have h20i : ((gnu : Int) == 0) = true := by rw [h20]; rfl
  clear h10 h20
  clear hb h hbn hnr
  have HI : Hid ((Try.prog.info? 47).map (·.size) = some D.size) := Lib.hid (show _ by rw [hD]; kernel_rfl)
  have B0 : Hid (Below w.heap.size w ((w.alloc (.cells #[.int .i64 ty, .int .u64 en, .slice p ps.length pc] 44)).alloc (.cells D 47))) := Lib.hid (((Below.refl _ _).alloc (Nat.le_refl _) _).alloc (by simp) _)
  have B1 : Hid (Below w.heap.size w (((w.alloc (.cells #[.int .i64 ty, .int .u64 en, .slice p ps.length pc] 44)).alloc (.cells D 47)).alloc (.cells #[.slice a bs.length cap, .int .i64 ty, .int .u64 en, .slice p ps.length pc] 70))) := Lib.hid (B0.out.alloc B0.out.size _)
  clear hD
  unfold headV fileV bloomV at *
  go_enter Try.func10, Try.ntmps10
  go_wp2_with fail
  refine (HRC.out _ B1.out).mono ?_
  rintro e wa ⟨b1, c1, b2, c2, he, -, -, hba⟩
  replace he : e = .returned (.tuple #[.agg #[.slice b1 0 c1, .slice b2 0 c2], errV (c : Int)]) := he
  rw [errVc hcc] at he
  subst he
  have Ba := Lib.hid (bstep B1.out hba)
  clear hba HRC
  go_wp2_with fail
  go_ret2
  rw [← errVc hcc]
  exact ⟨none, 0, rfl, OwnI.nil _ _ _ _, Ba.out.alloc Ba.out.size _⟩

set_option maxRecDepth 100000 in
set_option maxHeartbeats 4000000 in
theorem look_h_err (H : LookIn a cap bs p ps D hash gnu w) (h10 : ¬ hash = 0) (h20 : ¬ gnu = 0) (c : Nat) (hcc : c = 2 ∨ c = 3 ∨ c = 4) (hFC : chainsF bs ps hash = (([], []), c))
    (hnr : NameRow w la names) (hnl : names.length ≤ 140737488351232) (hns : name.size ≤ 140737488351232) :
    Calls Try.prog 10 #[.slice a bs.length cap, headV ty en p ps.length pc, .agg D, .slice la names.length lc, .string name] w (NumsErr 3 .i64 ([], c) w) := by
  obtain ⟨hb, hbl, hbc, hbn, h, hl, h1, h2, hD, hD3, hD25⟩ := H
  have HRC := Lib.hid (fun (w1 : World) (hb1 : Below w.heap.size w w1) => readChains_any a cap bs ty en p pc ps hash w1 (hb.below hb1) hbl hbc hbn (h.below hb1) hl h1)
  have HRB := Lib.hid (fun (w1 : World) (hb1 : Below w.heap.size w w1) => readBloomed_any a cap bs ty en p pc ps gnu w1 (hb.below hb1) hbl hbc hbn (h.below hb1) hl h2)
  have HBC := Lib.hid (fun (t : BT) (ba : Option Addr) (bc : Nat) (ua : Option Addr) (uc : Nat) (w1 : World) (hb1 : Below w.heap.size w w1) (T : BTok t) (hu : Row .u32 w1 ua (toI t.buckets)) => bcount_any a cap bs ty en p pc ps t ba bc ua uc w1 (hb.below hb1) hbl hbc (h.below hb1) hl T.first T.base hu T.bu0 T.bul (maxF_lt (by omega) T.but))
  have HBL := Lib.hid (fun (t : BT) (ba : Option Addr) (bc : Nat) (ua : Option Addr) (uc : Nat) (w1 : World) (hb1 : Below w.heap.size w w1) (T : BTok t) (hu : Row .u32 w1 ua (toI t.buckets)) (hr : Row .u64 w1 ba (toI t.bloom)) (hE : maxF t.buckets = 0 ∨ ∃ ee, maxF t.buckets ≤ ee ∧ ee < 4096 ∧ (linkF bs ps t ee).1 % 2 = 1) => blook_any a cap bs ty en p pc ps t ba bc ua uc la lc names name w1 (hb.below hb1) hbl hbc (h.below hb1) hl T.first T.shift T.base hu T.bu0 T.bul T.but hr T.blt T.bl0 T.bll (hnr.below hb1) hnl hns hE)
  have HBB := Lib.hid hb.2
  have HNR := Lib.hid hnr
  have h10i : ((hash : Int) == 0) = false := beq_eq_false_iff_ne.2 (by omega)
  have h10j : ((hash : Int) != 0) = true := by rw [bne, h10i]; rfl
  rw [hFC] at HRC
  have h20i : ((gnu : Int) == 0) = false := beq_eq_false_iff_ne.2 (by omega)
  clear h10 h20
  clear hb h hbn hnr
  have HI : Hid ((Try.prog.info? 47).map (·.size) = some D.size) := Lib.hid (show _ by rw [hD]; kernel_rfl)
  have B0 : Hid (Below w.heap.size w ((w.alloc (.cells #[.int .i64 ty, .int .u64 en, .slice p ps.length pc] 44)).alloc (.cells D 47))) := Lib.hid (((Below.refl _ _).alloc (Nat.le_refl _) _).alloc (by simp) _)
  have B1 : Hid (Below w.heap.size w (((w.alloc (.cells #[.int .i64 ty, .int .u64 en, .slice p ps.length pc] 44)).alloc (.cells D 47)).alloc (.cells #[.slice a bs.length cap, .int .i64 ty, .int .u64 en, .slice p ps.length pc] 70))) := Lib.hid (B0.out.alloc B0.out.size _)
  clear hD
  unfold headV fileV bloomV at *
  go_enter Try.func10, Try.ntmps10
  go_wp2_with fail
  refine (HRC.out _ B1.out).mono ?_
  rintro e wa ⟨b1, c1, b2, c2, he, -, -, hba⟩
  replace he : e = .returned (.tuple #[.agg #[.slice b1 0 c1, .slice b2 0 c2], errV (c : Int)]) := he
  rw [errVc hcc] at he
  subst he
  have Ba := Lib.hid (bstep B1.out hba)
  clear hba HRC
  go_wp2_with fail
  go_ret2
  rw [← errVc hcc]
  exact ⟨none, 0, rfl, OwnI.nil _ _ _ _, Ba.out.alloc Ba.out.size _⟩

set_option maxRecDepth 100000 in
set_option maxHeartbeats 4000000 in
theorem look_hg_err (H : LookIn a cap bs p ps D hash gnu w) (h10 : ¬ hash = 0) (tc : List Nat × List Nat) (hFC : chainsF bs ps hash = (tc, 0)) (h20 : ¬ gnu = 0) (c : Nat) (hcc : c = 2 ∨ c = 3 ∨ c = 4) (hF : bloomF bs ps gnu = (.nil, c))
    (hnr : NameRow w la names) (hnl : names.length ≤ 140737488351232) (hns : name.size ≤ 140737488351232) :
    Calls Try.prog 10 #[.slice a bs.length cap, headV ty en p ps.length pc, .agg D, .slice la names.length lc, .string name] w (NumsErr 3 .i64 ([], c) w) := by
  obtain ⟨hb, hbl, hbc, hbn, h, hl, h1, h2, hD, hD3, hD25⟩ := H
  have HRC := Lib.hid (fun (w1 : World) (hb1 : Below w.heap.size w w1) => readChains_any a cap bs ty en p pc ps hash w1 (hb.below hb1) hbl hbc hbn (h.below hb1) hl h1)
  have HRB := Lib.hid (fun (w1 : World) (hb1 : Below w.heap.size w w1) => readBloomed_any a cap bs ty en p pc ps gnu w1 (hb.below hb1) hbl hbc hbn (h.below hb1) hl h2)
  have HBC := Lib.hid (fun (t : BT) (ba : Option Addr) (bc : Nat) (ua : Option Addr) (uc : Nat) (w1 : World) (hb1 : Below w.heap.size w w1) (T : BTok t) (hu : Row .u32 w1 ua (toI t.buckets)) => bcount_any a cap bs ty en p pc ps t ba bc ua uc w1 (hb.below hb1) hbl hbc (h.below hb1) hl T.first T.base hu T.bu0 T.bul (maxF_lt (by omega) T.but))
  have HBL := Lib.hid (fun (t : BT) (ba : Option Addr) (bc : Nat) (ua : Option Addr) (uc : Nat) (w1 : World) (hb1 : Below w.heap.size w w1) (T : BTok t) (hu : Row .u32 w1 ua (toI t.buckets)) (hr : Row .u64 w1 ba (toI t.bloom)) (hE : maxF t.buckets = 0 ∨ ∃ ee, maxF t.buckets ≤ ee ∧ ee < 4096 ∧ (linkF bs ps t ee).1 % 2 = 1) => blook_any a cap bs ty en p pc ps t ba bc ua uc la lc names name w1 (hb.below hb1) hbl hbc (h.below hb1) hl T.first T.shift T.base hu T.bu0 T.bul T.but hr T.blt T.bl0 T.bll (hnr.below hb1) hnl hns hE)
  have HBB := Lib.hid hb.2
  have HNR := Lib.hid hnr
  rw [hF] at HRB
  rw [hFC] at HRC
  have hcb : ¬ (BT.nil, c).2 = 0 := by show ¬ c = 0; omega
  have h10i : ((hash : Int) == 0) = false := beq_eq_false_iff_ne.2 (by omega)
  have h10j : ((hash : Int) != 0) = true := by rw [bne, h10i]; rfl
  clear h10
  have h20i : ((gnu : Int) == 0) = false := beq_eq_false_iff_ne.2 (by omega)
  clear h20
  clear hb h hbn hnr
  have HI : Hid ((Try.prog.info? 47).map (·.size) = some D.size) := Lib.hid (show _ by rw [hD]; kernel_rfl)
  have B0 : Hid (Below w.heap.size w ((w.alloc (.cells #[.int .i64 ty, .int .u64 en, .slice p ps.length pc] 44)).alloc (.cells D 47))) := Lib.hid (((Below.refl _ _).alloc (Nat.le_refl _) _).alloc (by simp) _)
  have B1 : Hid (Below w.heap.size w (((w.alloc (.cells #[.int .i64 ty, .int .u64 en, .slice p ps.length pc] 44)).alloc (.cells D 47)).alloc (.cells #[.slice a bs.length cap, .int .i64 ty, .int .u64 en, .slice p ps.length pc] 70))) := Lib.hid (B0.out.alloc B0.out.size _)
  have HBK : Hid (∀ wx, Below (((w.alloc (.cells #[.int .i64 ty, .int .u64 en, .slice p ps.length pc] 44)).alloc (.cells D 47)).alloc (.cells #[.slice a bs.length cap, .int .i64 ty, .int .u64 en, .slice p ps.length pc] 70)).heap.size (((w.alloc (.cells #[.int .i64 ty, .int .u64 en, .slice p ps.length pc] 44)).alloc (.cells D 47)).alloc (.cells #[.slice a bs.length cap, .int .i64 ty, .int .u64 en, .slice p ps.length pc] 70)) wx → wx.heap[w.heap.size + 1]? = some (.cells D 47) ∧ wx.heap[w.heap.size + 1 + 1]? = some (.cells #[.slice a bs.length cap, .int .i64 ty, .int .u64 en, .slice p ps.length pc] 70)) := Lib.hid (fun wx hb => by
    have e1 : (((w.alloc (.cells #[.int .i64 ty, .int .u64 en, .slice p ps.length pc] 44)).alloc (.cells D 47)).alloc (.cells #[.slice a bs.length cap, .int .i64 ty, .int .u64 en, .slice p ps.length pc] 70)).heap[w.heap.size + 1]? = some (.cells D 47) := by
      have h0 := heap_alloc_new (w.alloc (.cells #[.int .i64 ty, .int .u64 en, .slice p ps.length pc] 44)) (.cells D 47)
      have hs : (w.alloc (.cells #[.int .i64 ty, .int .u64 en, .slice p ps.length pc] 44)).heap.size = w.heap.size + 1 := by simp
      rw [hs] at h0
      exact (heap_alloc_old _ _ (by simp)).trans h0
    have e2 : (((w.alloc (.cells #[.int .i64 ty, .int .u64 en, .slice p ps.length pc] 44)).alloc (.cells D 47)).alloc (.cells #[.slice a bs.length cap, .int .i64 ty, .int .u64 en, .slice p ps.length pc] 70)).heap[w.heap.size + 1 + 1]? = some (.cells #[.slice a bs.length cap, .int .i64 ty, .int .u64 en, .slice p ps.length pc] 70) := by
      have h0 := heap_alloc_new ((w.alloc (.cells #[.int .i64 ty, .int .u64 en, .slice p ps.length pc] 44)).alloc (.cells D 47)) (.cells #[.slice a bs.length cap, .int .i64 ty, .int .u64 en, .slice p ps.length pc] 70)
      have hs : ((w.alloc (.cells #[.int .i64 ty, .int .u64 en, .slice p ps.length pc] 44)).alloc (.cells D 47)).heap.size = w.heap.size + 1 + 1 := by simp
      rw [hs] at h0
      exact h0
    exact ⟨(hb.block _ (lt_of_block e1)).trans e1, (hb.block _ (lt_of_block e2)).trans e2⟩)
  clear hD
  unfold headV fileV bloomV at *
  go_enter Try.func10, Try.ntmps10
  go_wp2_with fail
  refine (HRC.out _ B1.out).mono ?_
  rintro e wa ⟨b1, c1, b2, c2, he, -, -, hba⟩
  replace he : e = .returned (.tuple #[.agg #[.slice b1 tc.1.length c1, .slice b2 tc.2.length c2], .nilIface]) := he
  subst he
  have Ba0 := bstep B1.out hba
  have Ba := Lib.hid (Ba0.alloc Ba0.size (.cells #[.slice b1 tc.1.length c1, .slice b2 tc.2.length c2] 73))
  obtain ⟨gD, gF⟩ := HBK.out (wa.alloc (.cells #[.slice b1 tc.1.length c1, .slice b2 tc.2.length c2] 73)) (hba.alloc hba.size _)
  have gd : (wa.alloc (.cells #[.slice b1 tc.1.length c1, .slice b2 tc.2.length c2] 73)).cell? ⟨w.heap.size + 1, 25, none⟩ = some (.int .u64 (gnu : Int)) := by rw [cell_of_row _ _ 25 _ _ _ gD]; exact hD25
  have gf0 : (wa.alloc (.cells #[.slice b1 tc.1.length c1, .slice b2 tc.2.length c2] 73)).cell? ⟨w.heap.size + 1 + 1, 0, none⟩ = some (.slice a bs.length cap) := by rw [cell_of_row _ _ 0 _ _ _ gF]; rfl
  have gf1 : (wa.alloc (.cells #[.slice b1 tc.1.length c1, .slice b2 tc.2.length c2] 73)).cell? ⟨w.heap.size + 1 + 1, 1, none⟩ = some (.int .i64 ty) := by rw [cell_of_row _ _ 1 _ _ _ gF]; rfl
  have gf2 : (wa.alloc (.cells #[.slice b1 tc.1.length c1, .slice b2 tc.2.length c2] 73)).cell? ⟨w.heap.size + 1 + 1, 2, none⟩ = some (.int .u64 en) := by rw [cell_of_row _ _ 2 _ _ _ gF]; rfl
  have gf3 : (wa.alloc (.cells #[.slice b1 tc.1.length c1, .slice b2 tc.2.length c2] 73)).cell? ⟨w.heap.size + 1 + 1, 3, none⟩ = some (.slice p ps.length pc) := by rw [cell_of_row _ _ 3 _ _ _ gF]; rfl
  clear hba HRC gD gF Ba0
  go_wp2_with fail
  refine (HRB.out _ Ba.out).mono ?_
  rintro e wb ⟨hbb, hzb⟩
  obtain ⟨-, heb⟩ := hzb.resolve_left (fun h => hcb h.1)
  replace heb : e = .returned (.tuple #[.agg #[.slice none 0 0, .int .i64 0, .int .u64 0, .slice none 0 0, .int .u32 0, .int .u32 0, .slice none 0 0, .slice none 0 0, .int .u64 0], errV (c : Int)]) := heb
  rw [errVc hcc] at heb
  subst heb
  have Bb := Lib.hid (bstep Ba.out hbb)
  clear hbb hzb HRB
  go_wp2_with fail
  go_ret2
  rw [← errVc hcc]
  exact ⟨none, 0, rfl, OwnI.nil _ _ _ _, Bb.out.alloc Bb.out.size _⟩

set_option maxRecDepth 100000 in
set_option maxHeartbeats 4000000 in
theorem look_hg_cerr (H : LookIn a cap bs p ps D hash gnu w) (h10 : ¬ hash = 0) (tc : List Nat × List Nat) (hFC : chainsF bs ps hash = (tc, 0)) (h20 : ¬ gnu = 0) (t : BT) (hF : bloomF bs ps gnu = (t, 0)) (hT : BTok t) (c : Nat) (hcc : c = 2 ∨ c = 3 ∨ c = 4) (hcc2 : bcountF bs ps t = (0, c))
    (hnr : NameRow w la names) (hnl : names.length ≤ 140737488351232) (hns : name.size ≤ 140737488351232) :
    Calls Try.prog 10 #[.slice a bs.length cap, headV ty en p ps.length pc, .agg D, .slice la names.length lc, .string name] w (NumsErr 3 .i64 ([], c) w) := by
  obtain ⟨hb, hbl, hbc, hbn, h, hl, h1, h2, hD, hD3, hD25⟩ := H
  have HRC := Lib.hid (fun (w1 : World) (hb1 : Below w.heap.size w w1) => readChains_any a cap bs ty en p pc ps hash w1 (hb.below hb1) hbl hbc hbn (h.below hb1) hl h1)
  have HRB := Lib.hid (fun (w1 : World) (hb1 : Below w.heap.size w w1) => readBloomed_any a cap bs ty en p pc ps gnu w1 (hb.below hb1) hbl hbc hbn (h.below hb1) hl h2)
  have HBC := Lib.hid (fun (t : BT) (ba : Option Addr) (bc : Nat) (ua : Option Addr) (uc : Nat) (w1 : World) (hb1 : Below w.heap.size w w1) (T : BTok t) (hu : Row .u32 w1 ua (toI t.buckets)) => bcount_any a cap bs ty en p pc ps t ba bc ua uc w1 (hb.below hb1) hbl hbc (h.below hb1) hl T.first T.base hu T.bu0 T.bul (maxF_lt (by omega) T.but))
  have HBL := Lib.hid (fun (t : BT) (ba : Option Addr) (bc : Nat) (ua : Option Addr) (uc : Nat) (w1 : World) (hb1 : Below w.heap.size w w1) (T : BTok t) (hu : Row .u32 w1 ua (toI t.buckets)) (hr : Row .u64 w1 ba (toI t.bloom)) (hE : maxF t.buckets = 0 ∨ ∃ ee, maxF t.buckets ≤ ee ∧ ee < 4096 ∧ (linkF bs ps t ee).1 % 2 = 1) => blook_any a cap bs ty en p pc ps t ba bc ua uc la lc names name w1 (hb.below hb1) hbl hbc (h.below hb1) hl T.first T.shift T.base hu T.bu0 T.bul T.but hr T.blt T.bl0 T.bll (hnr.below hb1) hnl hns hE)
  have HBB := Lib.hid hb.2
  have HNR := Lib.hid hnr
  rw [hF] at HRB
  rw [hFC] at HRC
  have HT := Lib.hid hT
  have h10i : ((hash : Int) == 0) = false := beq_eq_false_iff_ne.2 (by omega)
  have h10j : ((hash : Int) != 0) = true := by rw [bne, h10i]; rfl
  clear h10
  have h20i : ((gnu : Int) == 0) = false := beq_eq_false_iff_ne.2 (by omega)
  clear h20
  clear hb h hbn hnr
  have HI : Hid ((Try.prog.info? 47).map (·.size) = some D.size) := Lib.hid (show _ by rw [hD]; kernel_rfl)
  have B0 : Hid (Below w.heap.size w ((w.alloc (.cells #[.int .i64 ty, .int .u64 en, .slice p ps.length pc] 44)).alloc (.cells D 47))) := Lib.hid (((Below.refl _ _).alloc (Nat.le_refl _) _).alloc (by simp) _)
  have B1 : Hid (Below w.heap.size w (((w.alloc (.cells #[.int .i64 ty, .int .u64 en, .slice p ps.length pc] 44)).alloc (.cells D 47)).alloc (.cells #[.slice a bs.length cap, .int .i64 ty, .int .u64 en, .slice p ps.length pc] 70))) := Lib.hid (B0.out.alloc B0.out.size _)
  have HBK : Hid (∀ wx, Below (((w.alloc (.cells #[.int .i64 ty, .int .u64 en, .slice p ps.length pc] 44)).alloc (.cells D 47)).alloc (.cells #[.slice a bs.length cap, .int .i64 ty, .int .u64 en, .slice p ps.length pc] 70)).heap.size (((w.alloc (.cells #[.int .i64 ty, .int .u64 en, .slice p ps.length pc] 44)).alloc (.cells D 47)).alloc (.cells #[.slice a bs.length cap, .int .i64 ty, .int .u64 en, .slice p ps.length pc] 70)) wx → wx.heap[w.heap.size + 1]? = some (.cells D 47) ∧ wx.heap[w.heap.size + 1 + 1]? = some (.cells #[.slice a bs.length cap, .int .i64 ty, .int .u64 en, .slice p ps.length pc] 70)) := Lib.hid (fun wx hb => by
    have e1 : (((w.alloc (.cells #[.int .i64 ty, .int .u64 en, .slice p ps.length pc] 44)).alloc (.cells D 47)).alloc (.cells #[.slice a bs.length cap, .int .i64 ty, .int .u64 en, .slice p ps.length pc] 70)).heap[w.heap.size + 1]? = some (.cells D 47) := by
      have h0 := heap_alloc_new (w.alloc (.cells #[.int .i64 ty, .int .u64 en, .slice p ps.length pc] 44)) (.cells D 47)
      have hs : (w.alloc (.cells #[.int .i64 ty, .int .u64 en, .slice p ps.length pc] 44)).heap.size = w.heap.size + 1 := by simp
      rw [hs] at h0
      exact (heap_alloc_old _ _ (by simp)).trans h0
    have e2 : (((w.alloc (.cells #[.int .i64 ty, .int .u64 en, .slice p ps.length pc] 44)).alloc (.cells D 47)).alloc (.cells #[.slice a bs.length cap, .int .i64 ty, .int .u64 en, .slice p ps.length pc] 70)).heap[w.heap.size + 1 + 1]? = some (.cells #[.slice a bs.length cap, .int .i64 ty, .int .u64 en, .slice p ps.length pc] 70) := by
      have h0 := heap_alloc_new ((w.alloc (.cells #[.int .i64 ty, .int .u64 en, .slice p ps.length pc] 44)).alloc (.cells D 47)) (.cells #[.slice a bs.length cap, .int .i64 ty, .int .u64 en, .slice p ps.length pc] 70)
      have hs : ((w.alloc (.cells #[.int .i64 ty, .int .u64 en, .slice p ps.length pc] 44)).alloc (.cells D 47)).heap.size = w.heap.size + 1 + 1 := by simp
      rw [hs] at h0
      exact h0
    exact ⟨(hb.block _ (lt_of_block e1)).trans e1, (hb.block _ (lt_of_block e2)).trans e2⟩)
  clear hD
  unfold headV fileV bloomV at *
  go_enter Try.func10, Try.ntmps10
  go_wp2_with fail
  refine (HRC.out _ B1.out).mono ?_
  rintro e wa ⟨b1, c1, b2, c2, he, -, -, hba⟩
  replace he : e = .returned (.tuple #[.agg #[.slice b1 tc.1.length c1, .slice b2 tc.2.length c2], .nilIface]) := he
  subst he
  have Ba0 := bstep B1.out hba
  have Ba := Lib.hid (Ba0.alloc Ba0.size (.cells #[.slice b1 tc.1.length c1, .slice b2 tc.2.length c2] 73))
  obtain ⟨gD, gF⟩ := HBK.out (wa.alloc (.cells #[.slice b1 tc.1.length c1, .slice b2 tc.2.length c2] 73)) (hba.alloc hba.size _)
  have gd : (wa.alloc (.cells #[.slice b1 tc.1.length c1, .slice b2 tc.2.length c2] 73)).cell? ⟨w.heap.size + 1, 25, none⟩ = some (.int .u64 (gnu : Int)) := by rw [cell_of_row _ _ 25 _ _ _ gD]; exact hD25
  have gf0 : (wa.alloc (.cells #[.slice b1 tc.1.length c1, .slice b2 tc.2.length c2] 73)).cell? ⟨w.heap.size + 1 + 1, 0, none⟩ = some (.slice a bs.length cap) := by rw [cell_of_row _ _ 0 _ _ _ gF]; rfl
  have gf1 : (wa.alloc (.cells #[.slice b1 tc.1.length c1, .slice b2 tc.2.length c2] 73)).cell? ⟨w.heap.size + 1 + 1, 1, none⟩ = some (.int .i64 ty) := by rw [cell_of_row _ _ 1 _ _ _ gF]; rfl
  have gf2 : (wa.alloc (.cells #[.slice b1 tc.1.length c1, .slice b2 tc.2.length c2] 73)).cell? ⟨w.heap.size + 1 + 1, 2, none⟩ = some (.int .u64 en) := by rw [cell_of_row _ _ 2 _ _ _ gF]; rfl
  have gf3 : (wa.alloc (.cells #[.slice b1 tc.1.length c1, .slice b2 tc.2.length c2] 73)).cell? ⟨w.heap.size + 1 + 1, 3, none⟩ = some (.slice p ps.length pc) := by rw [cell_of_row _ _ 3 _ _ _ gF]; rfl
  clear hba HRC gD gF Ba0
  go_wp2_with fail
  refine (HRB.out _ Ba.out).mono ?_
  rintro e wb ⟨hbb, hzb⟩
  obtain ⟨-, ba, bc, ua, uc, heb, hr1, hr2⟩ := hzb.resolve_right (fun h => h.1 rfl)
  replace heb : e = .returned (.tuple #[.agg #[.slice a bs.length cap, .int .i64 ty, .int .u64 en, .slice p ps.length pc, .int .u32 (t.first : Int), .int .u32 (t.shift : Int), .slice ba t.bloom.length bc, .slice ua t.buckets.length uc, .int .u64 (t.base : Int)], .nilIface]) := heb
  subst heb
  have Bb := Lib.hid (bstep Ba.out hbb)
  have BX : Hid (Below wb.heap.size wb (wb.alloc (.cells #[.slice a bs.length cap, .int .i64 ty, .int .u64 en, .slice p ps.length pc, .int .u32 (t.first : Int), .int .u32 (t.shift : Int), .slice ba t.bloom.length bc, .slice ua t.buckets.length uc, .int .u64 (t.base : Int)] 78))) := Lib.hid ((Below.refl _ _).alloc (Nat.le_refl _) _)
  have BY := Lib.hid (bstep Bb.out BX.out)
  have BH : Hid ((wb.alloc (.cells #[.slice a bs.length cap, .int .i64 ty, .int .u64 en, .slice p ps.length pc, .int .u32 (t.first : Int), .int .u32 (t.shift : Int), .slice ba t.bloom.length bc, .slice ua t.buckets.length uc, .int .u64 (t.base : Int)] 78)).heap[wb.heap.size]? = some (.cells #[.slice a bs.length cap, .int .i64 ty, .int .u64 en, .slice p ps.length pc, .int .u32 (t.first : Int), .int .u32 (t.shift : Int), .slice ba t.bloom.length bc, .slice ua t.buckets.length uc, .int .u64 (t.base : Int)] 78)) := Lib.hid (heap_alloc_new _ _)
  have HCN := Lib.hid (HBC.out t ba bc ua uc _ BY.out HT.out (Row.below hr2 BX.out))
  have R1 := Lib.hid (Row.below hr1 BX.out); have R2 := Lib.hid (Row.below hr2 BX.out)
  clear hbb hzb HRB hr1 hr2 HBC
  go_wp2_with fail
  refine HCN.out.mono ?_
  rintro e wc ⟨hec, hbc⟩
  rw [hcc2] at hec
  replace hec : e = .returned (.tuple #[.int .i64 0, errV (c : Int)]) := hec
  rw [errVc hcc] at hec
  subst hec
  have Bc := Lib.hid (bstep BY.out hbc)
  clear hbc
  go_wp2_with fail
  go_ret2
  rw [← errVc hcc]
  exact ⟨none, 0, rfl, OwnI.nil _ _ _ _, Bc.out⟩

set_option maxRecDepth 100000 in
set_option maxHeartbeats 4000000 in
theorem look_hg_ok (H : LookIn a cap bs p ps D hash gnu w) (h10 : ¬ hash = 0) (tc : List Nat × List Nat) (hFC : chainsF bs ps hash = (tc, 0)) (h20 : ¬ gnu = 0) (t : BT) (hF : bloomF bs ps gnu = (t, 0)) (hT : BTok t) (n : Nat) (hcc2 : bcountF bs ps t = (n, 0))
    (hnr : NameRow w la names) (hnl : names.length ≤ 140737488351232) (hns : name.size ≤ 140737488351232) :
    Calls Try.prog 10 #[.slice a bs.length cap, headV ty en p ps.length pc, .agg D, .slice la names.length lc, .string name] w (NumsErr 3 .i64 (blookF bs ps t names name (gnuN name.data.toList)) w) := by
  obtain ⟨hb, hbl, hbc, hbn, h, hl, h1, h2, hD, hD3, hD25⟩ := H
  have HRC := Lib.hid (fun (w1 : World) (hb1 : Below w.heap.size w w1) => readChains_any a cap bs ty en p pc ps hash w1 (hb.below hb1) hbl hbc hbn (h.below hb1) hl h1)
  have HRB := Lib.hid (fun (w1 : World) (hb1 : Below w.heap.size w w1) => readBloomed_any a cap bs ty en p pc ps gnu w1 (hb.below hb1) hbl hbc hbn (h.below hb1) hl h2)
  have HBC := Lib.hid (fun (t : BT) (ba : Option Addr) (bc : Nat) (ua : Option Addr) (uc : Nat) (w1 : World) (hb1 : Below w.heap.size w w1) (T : BTok t) (hu : Row .u32 w1 ua (toI t.buckets)) => bcount_any a cap bs ty en p pc ps t ba bc ua uc w1 (hb.below hb1) hbl hbc (h.below hb1) hl T.first T.base hu T.bu0 T.bul (maxF_lt (by omega) T.but))
  have HBL := Lib.hid (fun (t : BT) (ba : Option Addr) (bc : Nat) (ua : Option Addr) (uc : Nat) (w1 : World) (hb1 : Below w.heap.size w w1) (T : BTok t) (hu : Row .u32 w1 ua (toI t.buckets)) (hr : Row .u64 w1 ba (toI t.bloom)) (hE : maxF t.buckets = 0 ∨ ∃ ee, maxF t.buckets ≤ ee ∧ ee < 4096 ∧ (linkF bs ps t ee).1 % 2 = 1) => blook_any a cap bs ty en p pc ps t ba bc ua uc la lc names name w1 (hb.below hb1) hbl hbc (h.below hb1) hl T.first T.shift T.base hu T.bu0 T.bul T.but hr T.blt T.bl0 T.bll (hnr.below hb1) hnl hns hE)
  have HBB := Lib.hid hb.2
  have HNR := Lib.hid hnr
  rw [hF] at HRB
  rw [hFC] at HRC
  have HT := Lib.hid hT
  have h10i : ((hash : Int) == 0) = false := beq_eq_false_iff_ne.2 (by omega)
  have h10j : ((hash : Int) != 0) = true := by rw [bne, h10i]; rfl
  clear h10
  have h20i : ((gnu : Int) == 0) = false := beq_eq_false_iff_ne.2 (by omega)
  clear h20
  clear hb h hbn hnr
  have HI : Hid ((Try.prog.info? 47).map (·.size) = some D.size) := Lib.hid (show _ by rw [hD]; kernel_rfl)
  have B0 : Hid (Below w.heap.size w ((w.alloc (.cells #[.int .i64 ty, .int .u64 en, .slice p ps.length pc] 44)).alloc (.cells D 47))) := Lib.hid (((Below.refl _ _).alloc (Nat.le_refl _) _).alloc (by simp) _)
  have B1 : Hid (Below w.heap.size w (((w.alloc (.cells #[.int .i64 ty, .int .u64 en, .slice p ps.length pc] 44)).alloc (.cells D 47)).alloc (.cells #[.slice a bs.length cap, .int .i64 ty, .int .u64 en, .slice p ps.length pc] 70))) := Lib.hid (B0.out.alloc B0.out.size _)
  have HBK : Hid (∀ wx, Below (((w.alloc (.cells #[.int .i64 ty, .int .u64 en, .slice p ps.length pc] 44)).alloc (.cells D 47)).alloc (.cells #[.slice a bs.length cap, .int .i64 ty, .int .u64 en, .slice p ps.length pc] 70)).heap.size (((w.alloc (.cells #[.int .i64 ty, .int .u64 en, .slice p ps.length pc] 44)).alloc (.cells D 47)).alloc (.cells #[.slice a bs.length cap, .int .i64 ty, .int .u64 en, .slice p ps.length pc] 70)) wx → wx.heap[w.heap.size + 1]? = some (.cells D 47) ∧ wx.heap[w.heap.size + 1 + 1]? = some (.cells #[.slice a bs.length cap, .int .i64 ty, .int .u64 en, .slice p ps.length pc] 70)) := Lib.hid (fun wx hb => by
    have e1 : (((w.alloc (.cells #[.int .i64 ty, .int .u64 en, .slice p ps.length pc] 44)).alloc (.cells D 47)).alloc (.cells #[.slice a bs.length cap, .int .i64 ty, .int .u64 en, .slice p ps.length pc] 70)).heap[w.heap.size + 1]? = some (.cells D 47) := by
      have h0 := heap_alloc_new (w.alloc (.cells #[.int .i64 ty, .int .u64 en, .slice p ps.length pc] 44)) (.cells D 47)
      have hs : (w.alloc (.cells #[.int .i64 ty, .int .u64 en, .slice p ps.length pc] 44)).heap.size = w.heap.size + 1 := by simp
      rw [hs] at h0
      exact (heap_alloc_old _ _ (by simp)).trans h0
    have e2 : (((w.alloc (.cells #[.int .i64 ty, .int .u64 en, .slice p ps.length pc] 44)).alloc (.cells D 47)).alloc (.cells #[.slice a bs.length cap, .int .i64 ty, .int .u64 en, .slice p ps.length pc] 70)).heap[w.heap.size + 1 + 1]? = some (.cells #[.slice a bs.length cap, .int .i64 ty, .int .u64 en, .slice p ps.length pc] 70) := by
      have h0 := heap_alloc_new ((w.alloc (.cells #[.int .i64 ty, .int .u64 en, .slice p ps.length pc] 44)).alloc (.cells D 47)) (.cells #[.slice a bs.length cap, .int .i64 ty, .int .u64 en, .slice p ps.length pc] 70)
      have hs : ((w.alloc (.cells #[.int .i64 ty, .int .u64 en, .slice p ps.length pc] 44)).alloc (.cells D 47)).heap.size = w.heap.size + 1 + 1 := by simp
      rw [hs] at h0
      exact h0
    exact ⟨(hb.block _ (lt_of_block e1)).trans e1, (hb.block _ (lt_of_block e2)).trans e2⟩)
  clear hD
  unfold headV fileV bloomV at *
  go_enter Try.func10, Try.ntmps10
  go_wp2_with fail
  refine (HRC.out _ B1.out).mono ?_
  rintro e wa ⟨b1, c1, b2, c2, he, -, -, hba⟩
  replace he : e = .returned (.tuple #[.agg #[.slice b1 tc.1.length c1, .slice b2 tc.2.length c2], .nilIface]) := he
  subst he
  have Ba0 := bstep B1.out hba
  have Ba := Lib.hid (Ba0.alloc Ba0.size (.cells #[.slice b1 tc.1.length c1, .slice b2 tc.2.length c2] 73))
  obtain ⟨gD, gF⟩ := HBK.out (wa.alloc (.cells #[.slice b1 tc.1.length c1, .slice b2 tc.2.length c2] 73)) (hba.alloc hba.size _)
  have gd : (wa.alloc (.cells #[.slice b1 tc.1.length c1, .slice b2 tc.2.length c2] 73)).cell? ⟨w.heap.size + 1, 25, none⟩ = some (.int .u64 (gnu : Int)) := by rw [cell_of_row _ _ 25 _ _ _ gD]; exact hD25
  have gf0 : (wa.alloc (.cells #[.slice b1 tc.1.length c1, .slice b2 tc.2.length c2] 73)).cell? ⟨w.heap.size + 1 + 1, 0, none⟩ = some (.slice a bs.length cap) := by rw [cell_of_row _ _ 0 _ _ _ gF]; rfl
  have gf1 : (wa.alloc (.cells #[.slice b1 tc.1.length c1, .slice b2 tc.2.length c2] 73)).cell? ⟨w.heap.size + 1 + 1, 1, none⟩ = some (.int .i64 ty) := by rw [cell_of_row _ _ 1 _ _ _ gF]; rfl
  have gf2 : (wa.alloc (.cells #[.slice b1 tc.1.length c1, .slice b2 tc.2.length c2] 73)).cell? ⟨w.heap.size + 1 + 1, 2, none⟩ = some (.int .u64 en) := by rw [cell_of_row _ _ 2 _ _ _ gF]; rfl
  have gf3 : (wa.alloc (.cells #[.slice b1 tc.1.length c1, .slice b2 tc.2.length c2] 73)).cell? ⟨w.heap.size + 1 + 1, 3, none⟩ = some (.slice p ps.length pc) := by rw [cell_of_row _ _ 3 _ _ _ gF]; rfl
  clear hba HRC gD gF Ba0
  go_wp2_with fail
  refine (HRB.out _ Ba.out).mono ?_
  rintro e wb ⟨hbb, hzb⟩
  obtain ⟨-, ba, bc, ua, uc, heb, hr1, hr2⟩ := hzb.resolve_right (fun h => h.1 rfl)
  replace heb : e = .returned (.tuple #[.agg #[.slice a bs.length cap, .int .i64 ty, .int .u64 en, .slice p ps.length pc, .int .u32 (t.first : Int), .int .u32 (t.shift : Int), .slice ba t.bloom.length bc, .slice ua t.buckets.length uc, .int .u64 (t.base : Int)], .nilIface]) := heb
  subst heb
  have Bb := Lib.hid (bstep Ba.out hbb)
  have BX : Hid (Below wb.heap.size wb (wb.alloc (.cells #[.slice a bs.length cap, .int .i64 ty, .int .u64 en, .slice p ps.length pc, .int .u32 (t.first : Int), .int .u32 (t.shift : Int), .slice ba t.bloom.length bc, .slice ua t.buckets.length uc, .int .u64 (t.base : Int)] 78))) := Lib.hid ((Below.refl _ _).alloc (Nat.le_refl _) _)
  have BY := Lib.hid (bstep Bb.out BX.out)
  have BH : Hid ((wb.alloc (.cells #[.slice a bs.length cap, .int .i64 ty, .int .u64 en, .slice p ps.length pc, .int .u32 (t.first : Int), .int .u32 (t.shift : Int), .slice ba t.bloom.length bc, .slice ua t.buckets.length uc, .int .u64 (t.base : Int)] 78)).heap[wb.heap.size]? = some (.cells #[.slice a bs.length cap, .int .i64 ty, .int .u64 en, .slice p ps.length pc, .int .u32 (t.first : Int), .int .u32 (t.shift : Int), .slice ba t.bloom.length bc, .slice ua t.buckets.length uc, .int .u64 (t.base : Int)] 78)) := Lib.hid (heap_alloc_new _ _)
  have HCN := Lib.hid (HBC.out t ba bc ua uc _ BY.out HT.out (Row.below hr2 BX.out))
  have R1 := Lib.hid (Row.below hr1 BX.out); have R2 := Lib.hid (Row.below hr2 BX.out)
  clear hbb hzb HRB hr1 hr2 HBC
  go_wp2_with fail
  refine HCN.out.mono ?_
  rintro e wc ⟨hec, hbc⟩
  rw [hcc2] at hec
  replace hec : e = .returned (.tuple #[.int .i64 (n : Int), .nilIface]) := hec
  subst hec
  have Bc := Lib.hid (bstep BY.out hbc)
  have HLK := Lib.hid (HBL.out t ba bc ua uc wc Bc.out HT.out (Row.below R2.out hbc) (Row.below R1.out hbc) (bcount_end hcc2))
  have hce : wc.heap[wb.heap.size]? = some (.cells #[.slice a bs.length cap, .int .i64 ty, .int .u64 en, .slice p ps.length pc, .int .u32 (t.first : Int), .int .u32 (t.shift : Int), .slice ba t.bloom.length bc, .slice ua t.buckets.length uc, .int .u64 (t.base : Int)] 78) := (hbc.block _ (lt_of_block BH.out)).trans BH.out
  obtain ⟨k0, k1, k2, k3, k4, k5, k6, k7, k8⟩ := b_cells (fi := t.first) (sh := t.shift) (base := t.base) hce
  clear hbc HCN HBL hce
  go_wp2_with fail
  refine HLK.out.mono ?_
  rintro e wl ⟨ad, c, rfl, ho, hbl2⟩
  have Bl := Lib.hid (bstep Bc.out hbl2)
  have HO := Lib.hid (ho.mono Bc.out.size)
  clear ho hbl2 k0 k1 k2 k3 k4 k5 k6 k7 k8
  go_wp2_with fail
  go_ret2
  exact ⟨ad, c, rfl, HO.out, Bl.out⟩

theorem look_any (H : LookIn a cap bs p ps D hash gnu w) (hnr : NameRow w la names) (hnl : names.length ≤ 140737488351232) (hns : name.size ≤ 140737488351232) :
    Calls Try.prog 10 #[.slice a bs.length cap, headV ty en p ps.length pc, .agg D, .slice la names.length lc, .string name] w (NumsErr 3 .i64 (lookAF bs ps hash gnu names name) w) := by
  by_cases h20 : gnu = 0
  · by_cases h10 : hash = 0
    · have h := look_none a cap bs ty en p pc ps D hash gnu la lc names name w H h10 h20 hnr hnl hns
      rw [show lookAF bs ps hash gnu names name = ([], 0) by unfold lookAF; rw [if_pos h20, if_pos h10]]
      exact h
    · rcases chainsF_alt (bs := bs) (ps := ps) (addr := hash) with ⟨t, ht⟩ | ⟨c, ht, hc⟩
      · have h25 := H.hD25
        rw [h20] at h25
        have h := look_first a cap bs ty en p pc ps D hash t la lc names name w H.hb H.hbl H.hbc H.hbn H.h H.hl H.h1 h10 H.hD H.hD3 h25 ht hnr hnl hns
        rw [show lookAF bs ps hash gnu names name = lookF t names name (sysOf name.data.toList) by unfold lookAF; rw [if_pos h20, if_neg h10, ht, if_pos rfl]]
        exact h
      · have h := look_c_err a cap bs ty en p pc ps D hash gnu la lc names name w H h10 h20 c hc ht hnr hnl hns
        rw [show lookAF bs ps hash gnu names name = ([], c) by unfold lookAF; rw [if_pos h20, if_neg h10, ht, if_neg (by show ¬ c = 0; omega)]]
        exact h
  · have hfin : ∀ t, bloomF bs ps gnu = (t, 0) → ¬ (hash ≠ 0 ∧ (chainsF bs ps hash).2 ≠ 0) → ∀ n, bcountF bs ps t = (n, 0) → lookAF bs ps hash gnu names name = blookF bs ps t names name (gnuN name.data.toList) := fun t ht hz n hn => by
      unfold lookAF
      rw [if_neg h20, if_neg hz, ht, if_pos rfl, hn, if_pos rfl]
    have hcer : ∀ t, bloomF bs ps gnu = (t, 0) → ¬ (hash ≠ 0 ∧ (chainsF bs ps hash).2 ≠ 0) → ∀ c, ¬ c = 0 → bcountF bs ps t = (0, c) → lookAF bs ps hash gnu names name = ([], c) := fun t ht hz c hc hn => by
      unfold lookAF
      rw [if_neg h20, if_neg hz, ht, if_pos rfl, hn, if_neg hc]
    have hber : ∀ c, ¬ c = 0 → bloomF bs ps gnu = (.nil, c) → ¬ (hash ≠ 0 ∧ (chainsF bs ps hash).2 ≠ 0) → lookAF bs ps hash gnu names name = ([], c) := fun c hc ht hz => by
      unfold lookAF
      rw [if_neg h20, if_neg hz, ht, if_neg hc]
    by_cases h10 : hash = 0
    · have hz : ¬ (hash ≠ 0 ∧ (chainsF bs ps hash).2 ≠ 0) := fun h => h.1 h10
      rcases bloomF_alt (bs := bs) (ps := ps) (addr := gnu) H.hb.2 with ⟨t, ht, hT⟩ | ⟨c, ht, hc⟩
      · rcases bcountF_code bs ps t with hn | hn | hn
        · obtain ⟨n, hn2⟩ : ∃ n, bcountF bs ps t = (n, 0) := ⟨_, Prod.ext rfl hn⟩
          rw [hfin t ht hz n hn2]
          exact look_g_ok a cap bs ty en p pc ps D hash gnu la lc names name w H h10 h20 t ht hT n hn2 hnr hnl hns
        · rw [hcer t ht hz 2 (by decide) hn]
          exact look_g_cerr a cap bs ty en p pc ps D hash gnu la lc names name w H h10 h20 t ht hT 2 (by simp) hn hnr hnl hns
        · rw [hcer t ht hz 4 (by decide) hn]
          exact look_g_cerr a cap bs ty en p pc ps D hash gnu la lc names name w H h10 h20 t ht hT 4 (by simp) hn hnr hnl hns
      · rw [hber c (by omega) ht hz]
        exact look_g_err a cap bs ty en p pc ps D hash gnu la lc names name w H h10 h20 c hc ht hnr hnl hns
    · rcases chainsF_alt (bs := bs) (ps := ps) (addr := hash) with ⟨tc, htc⟩ | ⟨c, htc, hc⟩
      · have hz : ¬ (hash ≠ 0 ∧ (chainsF bs ps hash).2 ≠ 0) := fun h => h.2 (by rw [htc])
        rcases bloomF_alt (bs := bs) (ps := ps) (addr := gnu) H.hb.2 with ⟨t, ht, hT⟩ | ⟨c, ht, hc⟩
        · rcases bcountF_code bs ps t with hn | hn | hn
          · obtain ⟨n, hn2⟩ : ∃ n, bcountF bs ps t = (n, 0) := ⟨_, Prod.ext rfl hn⟩
            rw [hfin t ht hz n hn2]
            exact look_hg_ok a cap bs ty en p pc ps D hash gnu la lc names name w H h10 tc htc h20 t ht hT n hn2 hnr hnl hns
          · rw [hcer t ht hz 2 (by decide) hn]
            exact look_hg_cerr a cap bs ty en p pc ps D hash gnu la lc names name w H h10 tc htc h20 t ht hT 2 (by simp) hn hnr hnl hns
          · rw [hcer t ht hz 4 (by decide) hn]
            exact look_hg_cerr a cap bs ty en p pc ps D hash gnu la lc names name w H h10 tc htc h20 t ht hT 4 (by simp) hn hnr hnl hns
        · rw [hber c (by omega) ht hz]
          exact look_hg_err a cap bs ty en p pc ps D hash gnu la lc names name w H h10 tc htc h20 c hc ht hnr hnl hns
      · have h := look_h_err a cap bs ty en p pc ps D hash gnu la lc names name w H h10 h20 c hc htc hnr hnl hns
        rw [show lookAF bs ps hash gnu names name = ([], c) by unfold lookAF; rw [if_neg h20, if_pos ⟨h10, by rw [htc]; show ¬ c = 0; omega⟩, htc]]
        exact h
end
end Go.Proofs.Ytpilccalgegadaa
