/- Layer 7: Look, whatever tables there are. -/
import Derived.Test.YtpilccalgegadaaBloomS
import Derived.Test.YtpilccalgegadaaHashFirst
namespace Go.Proofs.Ytpilccalgegadaa
open Go.RowKit
set_option linter.unusedVariables false
set_option linter.unusedSimpArgs false

theorem errVc {c : Nat} (h : c = 2 ∨ c = 3 ∨ c = 4) : errV (c : Int) = .iface 57 (.int .i64 (c : Int)) := by
  rcases h with rfl | rfl | rfl <;> rfl
section
variable (a : Option Addr) (cap : Nat) (bs : List Nat) (ty en : Int) (p : Option Addr) (pc : Nat) (ps : List PT) (D : Array Value) (hash gnu : Nat) (la : Option Addr) (lc : Nat) (names : List ByteArray) (name : ByteArray) (w : World)

/-- all that the walks of Look and Count take -/
structure LookIn : Prop where
  hb : BRow w a bs
  hbl : bs.length ≤ 140737488351232
  hbc : bs.length ≤ cap
  hbn : a = none → bs.length = 0 ∧ cap = 0
  h : PRow w p ps
  hl : ps.length ≤ 140737488351232
  h1 : hash < 18446744073709551616
  h2 : gnu < 18446744073709551616
  hD : D.size = 37
  hD3 : D[3]? = some (.int .u64 (hash : Int))
  hD25 : D[25]? = some (.int .u64 (gnu : Int))

set_option maxRecDepth 100000 in
set_option maxHeartbeats 4000000 in
theorem look_none (H : LookIn a cap bs p ps D hash gnu w) (h10 : hash = 0) (h20 : gnu = 0)
    (hnr : NameRow w la names) (hnl : names.length ≤ 140737488351232) (hns : name.size ≤ 140737488351232) :
    Calls Try.prog 10 #[.slice a bs.length cap, headV ty en p ps.length pc, .agg D, .slice la names.length lc, .string name] w (NumsErr 3 .i64 ([], 0) w) := by
  obtain ⟨hb, hbl, hbc, hbn, h, hl, h1, h2, hD, hD3, hD25⟩ := H
  have HRC := Lib.hid (fun (w1 : World) (hb1 : Below w.heap.size w w1) => readChains_any a cap bs ty en p pc ps hash w1 (hb.below hb1) hbl hbc hbn (h.below hb1) hl h1)
  have HRB := Lib.hid (fun (w1 : World) (hb1 : Below w.heap.size w w1) => readBloomed_any a cap bs ty en p pc ps gnu w1 (hb.below hb1) hbl hbc hbn (h.below hb1) hl h2)
  have HBC := Lib.hid (fun (t : BT) (ba : Option Addr) (bc : Nat) (ua : Option Addr) (uc : Nat) (w1 : World) (hb1 : Below w.heap.size w w1) (T : BTok t) (hu : Row .u32 w1 ua (toI t.buckets)) => bcount_any a cap bs ty en p pc ps t ba bc ua uc w1 (hb.below hb1) hbl hbc (h.below hb1) hl T.first T.base hu T.bu0 T.bul (maxF_lt (by omega) T.but))
  have HBL := Lib.hid (fun (t : BT) (ba : Option Addr) (bc : Nat) (ua : Option Addr) (uc : Nat) (w1 : World) (hb1 : Below w.heap.size w w1) (T : BTok t) (hu : Row .u32 w1 ua (toI t.buckets)) (hr : Row .u64 w1 ba (toI t.bloom)) (hE : maxF t.buckets = 0 ∨ ∃ ee, maxF t.buckets ≤ ee ∧ ee < 4096 ∧ (linkF bs ps t ee).1 % 2 = 1) => blook_any a cap bs ty en p pc ps t ba bc ua uc la lc names name w1 (hb.below hb1) hbl hbc (h.below hb1) hl T.first T.shift T.base hu T.bu0 T.bul T.but hr T.blt T.bl0 T.bll (hnr.below hb1) hnl hns hE)
  have HBB := Lib.hid hb.2
  have HNR := Lib.hid hnr
  have h10i : ((hash : Int) == 0) = true := by rw [h10]; rfl
  have h20i : ((gnu : Int) == 0) = true := by rw [h20]; rfl
  clear h10 h20
  clear hb h hbn hnr
  have HI : Hid ((Try.prog.info? 47).map (·.size) = some D.size) := Lib.hid (show _ by rw [hD]; kernel_rfl)
  have B0 : Hid (Below w.heap.size w ((w.alloc (.cells #[.int .i64 ty, .int .u64 en, .slice p ps.length pc] 44)).alloc (.cells D 47))) := Lib.hid (((Below.refl _ _).alloc (Nat.le_refl _) _).alloc (by simp) _)
  have B1 : Hid (Below w.heap.size w (((w.alloc (.cells #[.int .i64 ty, .int .u64 en, .slice p ps.length pc] 44)).alloc (.cells D 47)).alloc (.cells #[.slice a bs.length cap, .int .i64 ty, .int .u64 en, .slice p ps.length pc] 70))) := Lib.hid (B0.out.alloc B0.out.size _)
  clear hD
  unfold headV fileV bloomV at *
  go_enter Try.func10, Try.ntmps10
  go_wp2_with fail
  go_ret2
  exact ⟨none, 0, rfl, OwnI.nil _ _ _ _, B0.out⟩

set_option maxRecDepth 100000 in
set_option maxHeartbeats 4000000 in
theorem look_g_err (H : LookIn a cap bs p ps D hash gnu w) (h10 : hash = 0) (h20 : ¬ gnu = 0) (c : Nat) (hcc : c = 2 ∨ c = 3 ∨ c = 4) (hF : bloomF bs ps gnu = (.nil, c))
    (hnr : NameRow w la names) (hnl : names.length ≤ 140737488351232) (hns : name.size ≤ 140737488351232) :
    Calls Try.prog 10 #[.slice a bs.length cap, headV ty en p ps.length pc, .agg D, .slice la names.length lc, .string name] w (NumsErr 3 .i64 ([], c) w) := by
  obtain ⟨hb, hbl, hbc, hbn, h, hl, h1, h2, hD, hD3, hD25⟩ := H
  have HRC := Lib.hid (fun (w1 : World) (hb1 : Below w.heap.size w w1) => readChains_any a cap bs ty en p pc ps hash w1 (hb.below hb1) hbl hbc hbn (h.below hb1) hl h1)
  have HRB := Lib.hid (fun (w1 : World) (hb1 : Below w.heap.size w w1) => readBloomed_any a cap bs ty en p pc ps gnu w1 (hb.below hb1) hbl hbc hbn (h.below hb1) hl h2)
  have HBC := Lib.hid (fun (t : BT) (ba : Option Addr) (bc : Nat) (ua : Option Addr) (uc : Nat) (w1 : World) (hb1 : Below w.heap.size w w1) (T : BTok t) (hu : Row .u32 w1 ua (toI t.buckets)) => bcount_any a cap bs ty en p pc ps t ba bc ua uc w1 (hb.below hb1) hbl hbc (h.below hb1) hl T.first T.base hu T.bu0 T.bul (maxF_lt (by omega) T.but))
  have HBL := Lib.hid (fun (t : BT) (ba : Option Addr) (bc : Nat) (ua : Option Addr) (uc : Nat) (w1 : World) (hb1 : Below w.heap.size w w1) (T : BTok t) (hu : Row .u32 w1 ua (toI t.buckets)) (hr : Row .u64 w1 ba (toI t.bloom)) (hE : maxF t.buckets = 0 ∨ ∃ ee, maxF t.buckets ≤ ee ∧ ee < 4096 ∧ (linkF bs ps t ee).1 % 2 = 1) => blook_any a cap bs ty en p pc ps t ba bc ua uc la lc names name w1 (hb.below hb1) hbl hbc (h.below hb1) hl T.first T.shift T.base hu T.bu0 T.bul T.but hr T.blt T.bl0 T.bll (hnr.below hb1) hnl hns hE)
  have HBB := Lib.hid hb.2
  have HNR := Lib.hid hnr
  rw [hF] at HRB
  have hcb : ¬ (BT.nil, c).2 = 0 := by show ¬ c = 0; omega
  have h10i : ((hash : Int) == 0) = true := by rw [h10]; rfl
  have h10j : ((hash : Int) != 0) = false := by rw [h10]; rfl
  clear h10
  have h20i : ((gnu : Int) == 0) = false := beq_eq_false_iff_ne.2 (by omega)
  clear h20
  clear hb h hbn hnr
  have HI : Hid ((Try.prog.info? 47).map (·.size) = some D.size) := Lib.hid (show _ by rw [hD]; kernel_rfl)
  have B0 : Hid (Below w.heap.size w ((w.alloc (.cells #[.int .i64 ty, .int .u64 en, .slice p ps.length pc] 44)).alloc (.cells D 47))) := Lib.hid (((Below.refl _ _).alloc (Nat.le_refl _) _).alloc (by simp) _)
  have B1 : Hid (Below w.heap.size w (((w.alloc (.cells #[.int .i64 ty, .int .u64 en, .slice p ps.length pc] 44)).alloc (.cells D 47)).alloc (.cells #[.slice a bs.length cap, .int .i64 ty, .int .u64 en, .slice p ps.length pc] 70))) := Lib.hid (B0.out.alloc B0.out.size _)
  clear hD
  unfold headV fileV bloomV at *
  go_enter Try.func10, Try.ntmps10
  go_wp2_with fail
  refine (HRB.out _ B1.out).mono ?_
  rintro e wb ⟨hbb, hzb⟩
  obtain ⟨-, heb⟩ := hzb.resolve_left (fun h => hcb h.1)
  replace heb : e = .returned (.tuple #[.agg #[.slice none 0 0, .int .i64 0, .int .u64 0, .slice none 0 0, .int .u32 0, .int .u32 0, .slice none 0 0, .slice none 0 0, .int .u64 0], errV (c : Int)]) := heb
  rw [errVc hcc] at heb
  subst heb
  have Bb := Lib.hid (bstep B1.out hbb)
  clear hbb hzb HRB
  go_wp2_with fail
  go_ret2
  rw [← errVc hcc]
  exact ⟨none, 0, rfl, OwnI.nil _ _ _ _, Bb.out.alloc Bb.out.size _⟩

set_option maxRecDepth 100000 in
set_option maxHeartbeats 4000000 in
theorem look_g_cerr (H : LookIn a cap bs p ps D hash gnu w) (h10 : hash = 0) (h20 : ¬ gnu = 0) (t : BT) (hF : bloomF bs ps gnu = (t, 0)) (hT : BTok t) (c : Nat) (hcc : c = 2 ∨ c = 3 ∨ c = 4) (hcc2 : bcountF bs ps t = (0, c))
    (hnr : NameRow w la names) (hnl : names.length ≤ 140737488351232) (hns : name.size ≤ 140737488351232) :
    Calls Try.prog 10 #[.slice a bs.length cap, headV ty en p ps.length pc, .agg D, .slice la names.length lc, .string name] w (NumsErr 3 .i64 ([], c) w) := by
  obtain ⟨hb, hbl, hbc, hbn, h, hl, h1, h2, hD, hD3, hD25⟩ := H
  have HRC := Lib.hid (fun (w1 : World) (hb1 : Below w.heap.size w w1) => readChains_any a cap bs ty en p pc ps hash w1 (hb.below hb1) hbl hbc hbn (h.below hb1) hl h1)
  have HRB := Lib.hid (fun (w1 : World) (hb1 : Below w.heap.size w w1) => readBloomed_any a cap bs ty en p pc ps gnu w1 (hb.below hb1) hbl hbc hbn (h.below hb1) hl h2)
  have HBC := Lib.hid (fun (t : BT) (ba : Option Addr) (bc : Nat) (ua : Option Addr) (uc : Nat) (w1 : World) (hb1 : Below w.heap.size w w1) (T : BTok t) (hu : Row .u32 w1 ua (toI t.buckets)) => bcount_any a cap bs ty en p pc ps t ba bc ua uc w1 (hb.below hb1) hbl hbc (h.below hb1) hl T.first T.base hu T.bu0 T.bul (maxF_lt (by omega) T.but))
  have HBL := Lib.hid (fun (t : BT) (ba : Option Addr) (bc : Nat) (ua : Option Addr) (uc : Nat) (w1 : World) (hb1 : Below w.heap.size w w1) (T : BTok t) (hu : Row .u32 w1 ua (toI t.buckets)) (hr : Row .u64 w1 ba (toI t.bloom)) (hE : maxF t.buckets = 0 ∨ ∃ ee, maxF t.buckets ≤ ee ∧ ee < 4096 ∧ (linkF bs ps t ee).1 % 2 = 1) => blook_any a cap bs ty en p pc ps t ba bc ua uc la lc names name w1 (hb.below hb1) hbl hbc (h.below hb1) hl T.first T.shift T.base hu T.bu0 T.bul T.but hr T.blt T.bl0 T.bll (hnr.below hb1) hnl hns hE)
  have HBB := Lib.hid hb.2
  have HNR := Lib.hid hnr
  rw [hF] at HRB
  have HT := Lib.hid hT
  have h10i : ((hash : Int) == 0) = true := by rw [h10]; rfl
  have h10j : ((hash : Int) != 0) = false := by rw [h10]; rfl
  clear h10
  have h20i : ((gnu : Int) == 0) = false := beq_eq_false_iff_ne.2 (by omega)
  clear h20
  clear hb h hbn hnr
  have HI : Hid ((Try.prog.info? 47).map (·.size) = some D.size) := Lib.hid (show _ by rw [hD]; kernel_rfl)
  have B0 : Hid (Below w.heap.size w ((w.alloc (.cells #[.int .i64 ty, .int .u64 en, .slice p ps.length pc] 44)).alloc (.cells D 47))) := Lib.hid (((Below.refl _ _).alloc (Nat.le_refl _) _).alloc (by simp) _)
  have B1 : Hid (Below w.heap.size w (((w.alloc (.cells #[.int .i64 ty, .int .u64 en, .slice p ps.length pc] 44)).alloc (.cells D 47)).alloc (.cells #[.slice a bs.length cap, .int .i64 ty, .int .u64 en, .slice p ps.length pc] 70))) := Lib.hid (B0.out.alloc B0.out.size _)
  clear hD
  unfold headV fileV bloomV at *
  go_enter Try.func10, Try.ntmps10
  go_wp2_with fail
  refine (HRB.out _ B1.out).mono ?_
  rintro e wb ⟨hbb, hzb⟩
  obtain ⟨-, ba, bc, ua, uc, heb, hr1, hr2⟩ := hzb.resolve_right (fun h => h.1 rfl)
  replace heb : e = .returned (.tuple #[.agg #[.slice a bs.length cap, .int .i64 ty, .int .u64 en, .slice p ps.length pc, .int .u32 (t.first : Int), .int .u32 (t.shift : Int), .slice ba t.bloom.length bc, .slice ua t.buckets.length uc, .int .u64 (t.base : Int)], .nilIface]) := heb
  subst heb
  have Bb := Lib.hid (bstep B1.out hbb)
  have BX : Hid (Below wb.heap.size wb (wb.alloc (.cells #[.slice a bs.length cap, .int .i64 ty, .int .u64 en, .slice p ps.length pc, .int .u32 (t.first : Int), .int .u32 (t.shift : Int), .slice ba t.bloom.length bc, .slice ua t.buckets.length uc, .int .u64 (t.base : Int)] 78))) := Lib.hid ((Below.refl _ _).alloc (Nat.le_refl _) _)
  have BY := Lib.hid (bstep Bb.out BX.out)
  have BH : Hid ((wb.alloc (.cells #[.slice a bs.length cap, .int .i64 ty, .int .u64 en, .slice p ps.length pc, .int .u32 (t.first : Int), .int .u32 (t.shift : Int), .slice ba t.bloom.length bc, .slice ua t.buckets.length uc, .int .u64 (t.base : Int)] 78)).heap[wb.heap.size]? = some (.cells #[.slice a bs.length cap, .int .i64 ty, .int .u64 en, .slice p ps.length pc, .int .u32 (t.first : Int), .int .u32 (t.shift : Int), .slice ba t.bloom.length bc, .slice ua t.buckets.length uc, .int .u64 (t.base : Int)] 78)) := Lib.hid (heap_alloc_new _ _)
  have HCN := Lib.hid (HBC.out t ba bc ua uc _ BY.out HT.out (Row.below hr2 BX.out))
  have R1 := Lib.hid (Row.below hr1 BX.out); have R2 := Lib.hid (Row.below hr2 BX.out)
  clear hbb hzb HRB hr1 hr2 HBC
  go_wp2_with fail
  refine HCN.out.mono ?_
  rintro e wc ⟨hec, hbc⟩
  rw [hcc2] at hec
  replace hec : e = .returned (.tuple #[.int .i64 0, errV (c : Int)]) := hec
  rw [errVc hcc] at hec
  subst hec
  have Bc := Lib.hid (bstep BY.out hbc)
  clear hbc
  go_wp2_with fail
  go_ret2
  rw [← errVc hcc]
  exact ⟨none, 0, rfl, OwnI.nil _ _ _ _, Bc.out⟩

set_option maxRecDepth 100000 in
set_option maxHeartbeats 4000000 in
theorem look_g_ok (H : LookIn a cap bs p ps D hash gnu w) (h10 : hash = 0) (h20 : ¬ gnu = 0) (t : BT) (hF : bloomF bs ps gnu = (t, 0)) (hT : BTok t) (n : Nat) (hcc2 : bcountF bs ps t = (n, 0))
    (hnr : NameRow w la names) (hnl : names.length ≤ 140737488351232) (hns : name.size ≤ 140737488351232) :
    Calls Try.prog 10 #[.slice a bs.length cap, headV ty en p ps.length pc, .agg D, .slice la names.length lc, .string name] w (NumsErr 3 .i64 (blookF bs ps t names name (gnuN name.data.toList)) w) := by
  obtain ⟨hb, hbl, hbc, hbn, h, hl, h1, h2, hD, hD3, hD25⟩ := H
  have HRC := Lib.hid (fun (w1 : World) (hb1 : Below w.heap.size w w1) => readChains_any a cap bs ty en p pc ps hash w1 (hb.below hb1) hbl hbc hbn (h.below hb1) hl h1)
  have HRB := Lib.hid (fun (w1 : World) (hb1 : Below w.heap.size w w1) => readBloomed_any a cap bs ty en p pc ps gnu w1 (hb.below hb1) hbl hbc hbn (h.below hb1) hl h2)
  have HBC := Lib.hid (fun (t : BT) (ba : Option Addr) (bc : Nat) (ua : Option Addr) (uc : Nat) (w1 : World) (hb1 : Below w.heap.size w w1) (T : BTok t) (hu : Row .u32 w1 ua (toI t.buckets)) => bcount_any a cap bs ty en p pc ps t ba bc ua uc w1 (hb.below hb1) hbl hbc (h.below hb1) hl T.first T.base hu T.bu0 T.bul (maxF_lt (by omega) T.but))
  have HBL := Lib.hid (fun (t : BT) (ba : Option Addr) (bc : Nat) (ua : Option Addr) (uc : Nat) (w1 : World) (hb1 : Below w.heap.size w w1) (T : BTok t) (hu : Row .u32 w1 ua (toI t.buckets)) (hr : Row .u64 w1 ba (toI t.bloom)) (hE : maxF t.buckets = 0 ∨ ∃ ee, maxF t.buckets ≤ ee ∧ ee < 4096 ∧ (linkF bs ps t ee).1 % 2 = 1) => blook_any a cap bs ty en p pc ps t ba bc ua uc la lc names name w1 (hb.below hb1) hbl hbc (h.below hb1) hl T.first T.shift T.base hu T.bu0 T.bul T.but hr T.blt T.bl0 T.bll (hnr.below hb1) hnl hns hE)
  have HBB := Lib.hid hb.2
  have HNR := Lib.hid hnr
  rw [hF] at HRB
  have HT := Lib.hid hT
  have h10i : ((hash : Int) == 0) = true := by rw [h10]; rfl
  have h10j : ((hash : Int) != 0) = false := by rw [h10]; rfl
  clear h10
  have h20i : ((gnu : Int) == 0) = false := beq_eq_false_iff_ne.2 (by omega)
  clear h20
  clear hb h hbn hnr
  have HI : Hid ((Try.prog.info? 47).map (·.size) = some D.size) := Lib.hid (show _ by rw [hD]; kernel_rfl)
  have B0 : Hid (Below w.heap.size w ((w.alloc (.cells #[.int .i64 ty, .int .u64 en, .slice p ps.length pc] 44)).alloc (.cells D 47))) := Lib.hid (((Below.refl _ _).alloc (Nat.le_refl _) _).alloc (by simp) _)
  have B1 : Hid (Below w.heap.size w (((w.alloc (.cells #[.int .i64 ty, .int .u64 en, .slice p ps.length pc] 44)).alloc (.cells D 47)).alloc (.cells #[.slice a bs.length cap, .int .i64 ty, .int .u64 en, .slice p ps.length pc] 70))) := Lib.hid (B0.out.alloc B0.out.size _)
  clear hD
  unfold headV fileV bloomV at *
  go_enter Try.func10, Try.ntmps10
  go_wp2_with fail
  refine (HRB.out _ B1.out).mono ?_
  rintro e wb ⟨hbb, hzb⟩
  obtain ⟨-, ba, bc, ua, uc, heb, hr1, hr2⟩ := hzb.resolve_right (fun h => h.1 rfl)
  replace heb : e = .returned (.tuple #[.agg #[.slice a bs.length cap, .int .i64 ty, .int .u64 en, .slice p ps.length pc, .int .u32 (t.first : Int), .int .u32 (t.shift : Int), .slice ba t.bloom.length bc, .slice ua t.buckets.length uc, .int .u64 (t.base : Int)], .nilIface]) := heb
  subst heb
  have Bb := Lib.hid (bstep B1.out hbb)
  have BX : Hid (Below wb.heap.size wb (wb.alloc (.cells #[.slice a bs.length cap, .int .i64 ty, .int .u64 en, .slice p ps.length pc, .int .u32 (t.first : Int), .int .u32 (t.shift : Int), .slice ba t.bloom.length bc, .slice ua t.buckets.length uc, .int .u64 (t.base : Int)] 78))) := Lib.hid ((Below.refl _ _).alloc (Nat.le_refl _) _)
  have BY := Lib.hid (bstep Bb.out BX.out)
  have BH : Hid ((wb.alloc (.cells #[.slice a bs.length cap, .int .i64 ty, .int .u64 en, .slice p ps.length pc, .int .u32 (t.first : Int), .int .u32 (t.shift : Int), .slice ba t.bloom.length bc, .slice ua t.buckets.length uc, .int .u64 (t.base : Int)] 78)).heap[wb.heap.size]? = some (.cells #[.slice a bs.length cap, .int .i64 ty, .int .u64 en, .slice p ps.length pc, .int .u32 (t.first : Int), .int .u32 (t.shift : Int), .slice ba t.bloom.length bc, .slice ua t.buckets.length uc, .int .u64 (t.base : Int)] 78)) := Lib.hid (heap_alloc_new _ _)
  have HCN := Lib.hid (HBC.out t ba bc ua uc _ BY.out HT.out (Row.below hr2 BX.out))
  have R1 := Lib.hid (Row.below hr1 BX.out); have R2 := Lib.hid (Row.below hr2 BX.out)
  clear hbb hzb HRB hr1 hr2 HBC
  go_wp2_with fail
  refine HCN.out.mono ?_
  rintro e wc ⟨hec, hbc⟩
  rw [hcc2] at hec
  replace hec : e = .returned (.tuple #[.int .i64 (n : Int), .nilIface]) := hec
  subst hec
  have Bc := Lib.hid (bstep BY.out hbc)
  have HLK := Lib.hid (HBL.out t ba bc ua uc wc Bc.out HT.out (Row.below R2.out hbc) (Row.below R1.out hbc) (bcount_end hcc2))
  have hce : wc.heap[wb.heap.size]? = some (.cells #[.slice a bs.length cap, .int .i64 ty, .int .u64 en, .slice p ps.length pc, .int .u32 (t.first : Int), .int .u32 (t.shift : Int), .slice ba t.bloom.length bc, .slice ua t.buckets.length uc, .int .u64 (t.base : Int)] 78) := (hbc.block _ (lt_of_block BH.out)).trans BH.out
  obtain ⟨k0, k1, k2, k3, k4, k5, k6, k7, k8⟩ := b_cells (fi := t.first) (sh := t.shift) (base := t.base) hce
  clear hbc HCN HBL hce
  go_wp2_with fail
  refine HLK.out.mono ?_
  rintro e wl ⟨ad, c, rfl, ho, hbl2⟩
  have Bl := Lib.hid (bstep Bc.out hbl2)
  have HO := Lib.hid (ho.mono Bc.out.size)
  clear ho hbl2 k0 k1 k2 k3 k4 k5 k6 k7 k8
  go_wp2_with fail
  go_ret2
  exact ⟨ad, c, rfl, HO.out, Bl.out⟩


















































end
end Go.Proofs.Ytpilccalgegadaa
