/- tls.Addr: of a module that came later, for the first time. -/
import Derived.Test.YtbppajfpjhmcgaaTlsAddr
import Derived.Test.YtbppajfpjhmcgaaTlsEm
namespace Go.Proofs.Ytbppajfpjhmcgaa
open Go.RowKit
set_option linter.unusedVariables false
set_option linter.unusedSimpArgs false

set_option maxRecDepth 100000 in
set_option maxHeartbeats 8000000 in
theorem addr_new (sb st last gr : Nat) (ms : List TM) (ts : List (Nat × Nat)) (ma ta : Option Addr) (mc tc mb i j p mg off : Nat) (S : Nat → Prop) (q c : Nat) (V : Nat → Option Pg) (g : Nat) (F : Nat → Option Nat) (n at_ : Nat) (m : TM) (w : World)
    (h : StAt w sb st last gr ms ts ma mc ta tc) (hi : ts[i]? = some (p, mg)) (hj : ms[j]? = some m) (hjs : st ≤ j) (ht : ts.length ≤ 1048576) (hm : ms.length ≤ 1048576) (hd : m.dr = false)
    (hv : VmAt w mb S q c V g F) (hmap : w.heap[mg]? = some (.map #[] 0)) (hdis : ∀ k, stD sb ma ta k → ¬ (k = mb ∨ S k)) (hmd : ¬ stD sb ma ta mg) (hms : ¬ S mg) (hS : ∀ k, S k → k < w.heap.size) (hsz : 1 < m.size) (hsz2 : m.size < 1073741824)
    (hc : c ≤ 1) (hn : (m.size + 4095) / 4096 = n) (hfind : ∀ xs, AllOf (fun k => V k ≠ none) c xs → findL n xs 1073741824 = at_) (hbl : belowF at_ n = true) (hat : at_ < 140737488355328) (hck : checkF at_ n 6 = 0) (htk : takeF V n (at_ / 4096) = none) (hq : c + n ≤ q) (hoff : off < 140737488355328) :
    Calls Try.prog 15 #[.pointer (some ⟨sb, 0, none⟩), .pointer (some ⟨mb, 0, none⟩), .int .i64 (i : Int), .int .i64 ((j : Int) + 1), .int .u64 (off : Int)] w fun e w' => e = .returned (.tuple #[.int .u64 ((at_ + off : Nat) : Int), .nilIface]) ∧ VKept (fun k => S k ∨ k = mg) w w' ∧ StAt w' sb st last gr ms ts ma mc ta tc := by
  have HCL := Lib.hid (fun (wx : World) (hx : Below w.heap.size w wx) => claim_few mb S q c V g F m.size n at_ wx (hv.below hx) hc hsz2 hn (by omega) hfind hbl (by omega) hck htk hq)
  have HALL := Lib.hid (And.intro h (And.intro hdis (And.intro hmd (And.intro hms (And.intro hS hmap)))))
  have HMGL : Hid (mg < w.heap.size) := Lib.hid (lt_of_block hmap)
  have g1 : (1 : Int) < (m.size : Int) := by omega
  have e8 : IntKind.u64.wrap ((at_ : Int) + (off : Int)) = ((at_ + off : Nat) : Int) := by rw [IntKind.wrap_u64]; omega
  have HAT : Hid (at_ < 18446744073709551616) := Lib.hid (by omega)
  have HM8 := Lib.hid (And.intro hmap hms)
  clear hv hmap hdis hmd hms hS hsz hsz2 hc hn hfind hbl hat hck htk hq hoff
  have c0 := h.c0
  have c1 := h.c1
  have c4 := h.c4
  have hlt : i < ts.length := (List.getElem?_eq_some_iff.1 hi).1
  have hjl : j < ms.length := (List.getElem?_eq_some_iff.1 hj).1
  have HI := Lib.hid (isThread_any sb st last gr ms ts ma ta mc tc i w h hlt ht)
  obtain ⟨b, o, rfl, hb, t0, t1⟩ := h.thr_at hi
  obtain ⟨b2, o2, rfl, hb2, hcc⟩ := h.mod_at hj
  have q0 := hcc 0 (by omega)
  have q1 := hcc 1 (by omega)
  have q2 := hcc 2 (by omega)
  have q3 := hcc 3 (by omega)
  have q4 := hcc 4 (by omega)
  simp only [TM.row, hd] at q0 q1 q2 q3 q4
  replace q0 : w.cell? ⟨b2, o2 + j * 5, none⟩ = some (.slice none 0 0) := q0
  replace q1 : w.cell? ⟨b2, o2 + j * 5 + 1, none⟩ = some (.int .u64 (m.size : Int)) := q1
  replace q2 : w.cell? ⟨b2, o2 + j * 5 + 2, none⟩ = some (.int .u64 (m.al : Int)) := q2
  replace q3 : w.cell? ⟨b2, o2 + j * 5 + 3, none⟩ = some (.int .u64 (m.off : Int)) := q3
  replace q4 : w.cell? ⟨b2, o2 + j * 5 + 4, none⟩ = some (.bool false) := q4
  have HSB : Hid (sb < w.heap.size ∧ b < w.heap.size ∧ b2 < w.heap.size) := Lib.hid ⟨(h.blk (.inl rfl)).2, hb, hb2⟩
  obtain ⟨L, hL⟩ : ∃ L, ms.length = L := ⟨_, rfl⟩
  obtain ⟨T, hT⟩ : ∃ T, ts.length = T := ⟨_, rfl⟩
  rw [hL] at c0
  rw [hT] at c4
  have i0 : (0 : Int) ≤ (i : Int) := by omega
  have i1 : (i : Int) < (T : Int) := by omega
  have i2 : decide ((j : Int) + 1 < 1) = false := decide_eq_false (by omega)
  have i3 : decide ((L : Int) < (j : Int) + 1) = false := decide_eq_false (by omega)
  have i4 : (j : Int) < (L : Int) := by omega
  have i5 : (L : Int) ≤ 1048576 := by omega
  have i6 : IntKind.i64.wrap (j : Int) = (j : Int) := by rw [IntKind.wrap_i64]; omega
  have i7 : ¬ (j : Int) + 1 ≤ (st : Int) := by omega
  have i8 : (0 : Int) ≤ (j : Int) := by omega
  clear h hi hj hjs ht hm hd hlt hjl hb hb2 hcc hL hT
  generalize at_ + off = ato at *
  generalize m.size = msz at *
  generalize m.al = mal at *
  generalize m.off = mof at *
  go_enter Try.func15, Try.ntmps15
  go_upto_region 3 with (go_at_call 25; refine HI.out.mono ?_; rintro e w' ⟨rfl, rfl⟩)
  have KS : Hid (∀ wx, Below w.heap.size w wx → wx.cell? ⟨sb, 0, none⟩ = some (.slice (some ⟨b2, o2, none⟩) L mc) ∧ wx.cell? ⟨sb, 4, none⟩ = some (.slice (some ⟨b, o, none⟩) T tc) ∧ wx.cell? ⟨b, o + i * 2, none⟩ = some (.int .u64 (p : Int)) ∧ wx.cell? ⟨b, o + i * 2 + 1, none⟩ = some (.map (some mg)) ∧ wx.cell? ⟨b2, o2 + j * 5, none⟩ = some (.slice none 0 0) ∧ wx.cell? ⟨b2, o2 + j * 5 + 1, none⟩ = some (.int .u64 (msz : Int)) ∧ wx.cell? ⟨b2, o2 + j * 5 + 2, none⟩ = some (.int .u64 (mal : Int)) ∧ wx.cell? ⟨b2, o2 + j * 5 + 3, none⟩ = some (.int .u64 (mof : Int)) ∧ wx.cell? ⟨b2, o2 + j * 5 + 4, none⟩ = some (.bool false)) := Lib.hid (fun wx hb => by
    have g : ∀ b j, b < w.heap.size → wx.cell? ⟨b, j, none⟩ = w.cell? ⟨b, j, none⟩ := fun b j hbl => hb.cell (p := ⟨b, j, none⟩) hbl
    obtain ⟨s1, s2, s3⟩ := HSB.out
    exact ⟨(g _ _ s1).trans c0, (g _ _ s1).trans c4, (g _ _ s2).trans t0, (g _ _ s2).trans t1, (g _ _ s3).trans q0, (g _ _ s3).trans q1, (g _ _ s3).trans q2, (g _ _ s3).trans q3, (g _ _ s3).trans q4⟩)
  go_region_held3 (fun wx => wx.cell? ⟨sb, 0, none⟩ = some (.slice (some ⟨b2, o2, none⟩) L mc) ∧ wx.cell? ⟨sb, 4, none⟩ = some (.slice (some ⟨b, o, none⟩) T tc) ∧ wx.cell? ⟨b, o + i * 2, none⟩ = some (.int .u64 (p : Int)) ∧ wx.cell? ⟨b, o + i * 2 + 1, none⟩ = some (.map (some mg)) ∧ wx.cell? ⟨b2, o2 + j * 5, none⟩ = some (.slice none 0 0) ∧ wx.cell? ⟨b2, o2 + j * 5 + 1, none⟩ = some (.int .u64 (msz : Int)) ∧ wx.cell? ⟨b2, o2 + j * 5 + 2, none⟩ = some (.int .u64 (mal : Int)) ∧ wx.cell? ⟨b2, o2 + j * 5 + 3, none⟩ = some (.int .u64 (mof : Int)) ∧ wx.cell? ⟨b2, o2 + j * 5 + 4, none⟩ = some (.bool false))
    (first | exact KS.out _ (Below.refl _ _).drew | (refine KS.out _ ?_; (repeat' (first | exact Below.refl _ _ | refine Below.drew ?_ | (refine Below.alloc ?_ (by simp) _) | (refine Below.setCell ?_ (by simp) _))))) (fail)
  · obtain ⟨y, hy⟩ : ∃ y, w.heap.size + 1 = y := ⟨_, rfl⟩
    obtain ⟨x, hx⟩ : ∃ x, w.heap.size = x := ⟨_, rfl⟩
    have bW : Hid (Below w.heap.size w ((w.alloc (.cells #[.slice none 0 0, .int .u64 (msz : Int), .int .u64 (mal : Int), .int .u64 (mof : Int), .bool false] 62)).alloc (.cells #[.int .u64 (p : Int), .map (some mg)] 71)).drew) := Lib.hid (by (repeat' (first | exact Below.refl _ _ | refine Below.drew ?_ | (refine Below.alloc ?_ (by simp) _) | (refine Below.setCell ?_ (by simp) _))))
    have bX : ((w.alloc (.cells #[.slice none 0 0, .int .u64 (msz : Int), .int .u64 (mal : Int), .int .u64 (mof : Int), .bool false] 62)).alloc (.cells #[.int .u64 (p : Int), .map (some mg)] 71)).drew.heap[x]? = some (.cells #[.slice none 0 0, .int .u64 (msz : Int), .int .u64 (mal : Int), .int .u64 (mof : Int), .bool false] 62) := by rw [← hx]; show ((w.alloc (.cells #[.slice none 0 0, .int .u64 (msz : Int), .int .u64 (mal : Int), .int .u64 (mof : Int), .bool false] 62)).alloc (.cells #[.int .u64 (p : Int), .map (some mg)] 71)).heap[_]? = _; exact (heap_alloc_old _ _ (by simp)).trans (heap_alloc_new _ _)
    have bY : ((w.alloc (.cells #[.slice none 0 0, .int .u64 (msz : Int), .int .u64 (mal : Int), .int .u64 (mof : Int), .bool false] 62)).alloc (.cells #[.int .u64 (p : Int), .map (some mg)] 71)).drew.heap[y]? = some (.cells #[.int .u64 (p : Int), .map (some mg)] 71) := by rw [← hy]; show ((w.alloc (.cells #[.slice none 0 0, .int .u64 (msz : Int), .int .u64 (mal : Int), .int .u64 (mof : Int), .bool false] 62)).alloc (.cells #[.int .u64 (p : Int), .map (some mg)] 71)).heap[_]? = _; (have := heap_alloc_new (w.alloc (.cells #[.slice none 0 0, .int .u64 (msz : Int), .int .u64 (mal : Int), .int .u64 (mof : Int), .bool false] 62)) (.cells #[.int .u64 (p : Int), .map (some mg)] 71); simpa using this)
    have k1 : ((w.alloc (.cells #[.slice none 0 0, .int .u64 (msz : Int), .int .u64 (mal : Int), .int .u64 (mof : Int), .bool false] 62)).alloc (.cells #[.int .u64 (p : Int), .map (some mg)] 71)).drew.cell? ⟨sb, 1, none⟩ = some (.int .i64 (st : Int)) := by rw [bW.out.cell (p := ⟨sb, 1, none⟩) HSB.out.1]; exact c1
    rw [hy, hx]
    generalize ((w.alloc (.cells #[.slice none 0 0, .int .u64 (msz : Int), .int .u64 (mal : Int), .int .u64 (mof : Int), .bool false] 62)).alloc (.cells #[.int .u64 (p : Int), .map (some mg)] 71)).drew = w9 at *
    have x3 : w9.cell? ⟨x, 3, none⟩ = some (.int .u64 (mof : Int)) := by rw [cell_of_row _ _ 3 _ _ _ bX]; rfl
    have x4 : w9.cell? ⟨x, 4, none⟩ = some (.bool false) := by rw [cell_of_row _ _ 4 _ _ _ bX]; rfl
    have y0 : w9.cell? ⟨y, 0, none⟩ = some (.int .u64 (p : Int)) := by rw [cell_of_row _ _ 0 _ _ _ bY]; rfl
    have x1 : w9.cell? ⟨x, 1, none⟩ = some (.int .u64 (msz : Int)) := by rw [cell_of_row _ _ 1 _ _ _ bX]; rfl
    have y1 : w9.cell? ⟨y, 1, none⟩ = some (.map (some mg)) := by rw [cell_of_row _ _ 1 _ _ _ bY]; rfl
    have hmg9 := (bW.out.block _ HMGL.out).trans HM8.out.1
    have hlk := em_look hmg9 ((j : Int) + 1) (by omega) (by omega)
    have HXY : Hid (w9.heap[x]? = _ ∧ w9.heap[y]? = _ ∧ ¬ S x ∧ ¬ S y) := Lib.hid ⟨bX, bY, fun hs => by have := HALL.out.2.2.2.2.1 _ hs; omega, fun hs => by have := HALL.out.2.2.2.2.1 _ hs; omega⟩
    have HCX := Lib.hid (HCL.out _ bW.out)
    have HM9 := Lib.hid hmg9
    have HJB : Hid ((0 : Int) ≤ (j : Int) ∧ (j : Int) < 1048576) := Lib.hid ⟨i8, by omega⟩
    clear c0 c1 c4 q0 q1 q2 q3 q4 t0 t1 i0 i1 i2 i3 i4 i5 i6 i8 bX bY hx hy hmg9
    go_wp2_with (go_at_call 22; refine HCX.out.mono ?_; rintro e w2 ⟨rfl, hk2, F2, hm2⟩; have HK2 := Lib.hid hk2; have HM2 := Lib.hid hm2; clear hk2 hm2; have hx2 := (HK2.out.block _ (lt_of_block HXY.out.1) HXY.out.2.2.1).trans HXY.out.1; have hy2 := (HK2.out.block _ (lt_of_block HXY.out.2.1) HXY.out.2.2.2).trans HXY.out.2.1; have x0 : w2.cell? ⟨x, 0, none⟩ = some (.slice none 0 0) := (by rw [cell_of_row _ _ 0 _ _ _ hx2]; rfl); have HY2 := Lib.hid hy2; clear hx2 hy2)
    refine (write_ok mb (VGrow S w9 w2) q (c + n) _ g F2 at_ none 0 0 [] w2 HM2.out HAT.out (BRow.nil _) rfl (Nat.le_refl _) (by omega) (fun b o e => by cases e) (fun i hi => by omega)).mono ?_
    rintro e w5 ⟨rfl, V5, -, hk5, -, -⟩
    have HK5 := Lib.hid hk5
    have z9 : w9.heap.size ≤ w2.heap.size := HK2.out.size
    have hy5 : w5.heap[y]? = _ := (hk5.block _ (lt_of_block HY2.out) (by rintro (h | ⟨h, -⟩); exact HXY.out.2.2.2 h; (have := lt_of_block HXY.out.2.1; omega))).trans HY2.out
    have y15 : w5.cell? ⟨y, 1, none⟩ = some (.map (some mg)) := by rw [cell_of_row _ _ 1 _ _ _ hy5]; rfl
    have hm2 := (HK2.out.block _ (lt_of_block HM9.out) HM8.out.2).trans HM9.out
    have hm5 := (hk5.block _ (lt_of_block hm2) (by rintro (h | ⟨h, -⟩); exact HM8.out.2 h; (have := lt_of_block HM9.out; omega))).trans hm2
    obtain ⟨w6, hrun, hturn⟩ := em_store hm5 ((j : Int) + 1) (at_ : Int) (by have := HJB.out; omega) (by have := HJB.out; omega)
    have HG := Lib.hid hturn.grown
    clear hk5 z9 hy5 hm2 hm5 hturn x0 x1 x3 x4 y0 y1 hlk k1 g1
    go_wp2_with fail
    go_ret2
    have A1 : VKept (fun k => S k ∨ k = mg) w w9 := VKept.of_below bW.out
    have A2 := A1.trans HK2.out (fun j _ h => .inl h)
    have A3 := A2.trans HK5.out (fun j hj h => by
      rcases h with h | ⟨h, -⟩
      · exact .inl h
      · have := bW.out.size; omega)
    have hg := HG.out
    have A4 : VKept (fun k => S k ∨ k = mg) w w6 := A3.trans (S' := fun k => k = mg) ⟨hg.os, hg.tape, hg.output, hg.size, fun k hk hn => hg.block k hk (fun e => hn (Option.some.inj e))⟩ (fun j _ h => .inr h)
    refine ⟨rfl, A4, HALL.out.1.kept A4 (fun k hk h => ?_)⟩
    rcases h with h | rfl
    · exact HALL.out.2.1 k hk (.inr h)
    · exact HALL.out.2.2.1 hk
  · obtain ⟨x, hx⟩ : ∃ x, w.heap.size + 1 = x := ⟨_, rfl⟩
    obtain ⟨y, hy⟩ : ∃ y, w.heap.size = y := ⟨_, rfl⟩
    have bW : Hid (Below w.heap.size w ((w.alloc (.cells #[.int .u64 (p : Int), .map (some mg)] 71)).alloc (.cells #[.slice none 0 0, .int .u64 (msz : Int), .int .u64 (mal : Int), .int .u64 (mof : Int), .bool false] 62)).drew) := Lib.hid (by (repeat' (first | exact Below.refl _ _ | refine Below.drew ?_ | (refine Below.alloc ?_ (by simp) _) | (refine Below.setCell ?_ (by simp) _))))
    have bX : ((w.alloc (.cells #[.int .u64 (p : Int), .map (some mg)] 71)).alloc (.cells #[.slice none 0 0, .int .u64 (msz : Int), .int .u64 (mal : Int), .int .u64 (mof : Int), .bool false] 62)).drew.heap[x]? = some (.cells #[.slice none 0 0, .int .u64 (msz : Int), .int .u64 (mal : Int), .int .u64 (mof : Int), .bool false] 62) := by rw [← hx]; show ((w.alloc (.cells #[.int .u64 (p : Int), .map (some mg)] 71)).alloc (.cells #[.slice none 0 0, .int .u64 (msz : Int), .int .u64 (mal : Int), .int .u64 (mof : Int), .bool false] 62)).heap[_]? = _; (have := heap_alloc_new (w.alloc (.cells #[.int .u64 (p : Int), .map (some mg)] 71)) (.cells #[.slice none 0 0, .int .u64 (msz : Int), .int .u64 (mal : Int), .int .u64 (mof : Int), .bool false] 62); simpa using this)
    have bY : ((w.alloc (.cells #[.int .u64 (p : Int), .map (some mg)] 71)).alloc (.cells #[.slice none 0 0, .int .u64 (msz : Int), .int .u64 (mal : Int), .int .u64 (mof : Int), .bool false] 62)).drew.heap[y]? = some (.cells #[.int .u64 (p : Int), .map (some mg)] 71) := by rw [← hy]; show ((w.alloc (.cells #[.int .u64 (p : Int), .map (some mg)] 71)).alloc (.cells #[.slice none 0 0, .int .u64 (msz : Int), .int .u64 (mal : Int), .int .u64 (mof : Int), .bool false] 62)).heap[_]? = _; exact (heap_alloc_old _ _ (by simp)).trans (heap_alloc_new _ _)
    have k1 : ((w.alloc (.cells #[.int .u64 (p : Int), .map (some mg)] 71)).alloc (.cells #[.slice none 0 0, .int .u64 (msz : Int), .int .u64 (mal : Int), .int .u64 (mof : Int), .bool false] 62)).drew.cell? ⟨sb, 1, none⟩ = some (.int .i64 (st : Int)) := by rw [bW.out.cell (p := ⟨sb, 1, none⟩) HSB.out.1]; exact c1
    rw [hx, hy]
    generalize ((w.alloc (.cells #[.int .u64 (p : Int), .map (some mg)] 71)).alloc (.cells #[.slice none 0 0, .int .u64 (msz : Int), .int .u64 (mal : Int), .int .u64 (mof : Int), .bool false] 62)).drew = w9 at *
    have x3 : w9.cell? ⟨x, 3, none⟩ = some (.int .u64 (mof : Int)) := by rw [cell_of_row _ _ 3 _ _ _ bX]; rfl
    have x4 : w9.cell? ⟨x, 4, none⟩ = some (.bool false) := by rw [cell_of_row _ _ 4 _ _ _ bX]; rfl
    have y0 : w9.cell? ⟨y, 0, none⟩ = some (.int .u64 (p : Int)) := by rw [cell_of_row _ _ 0 _ _ _ bY]; rfl
    have x1 : w9.cell? ⟨x, 1, none⟩ = some (.int .u64 (msz : Int)) := by rw [cell_of_row _ _ 1 _ _ _ bX]; rfl
    have y1 : w9.cell? ⟨y, 1, none⟩ = some (.map (some mg)) := by rw [cell_of_row _ _ 1 _ _ _ bY]; rfl
    have hmg9 := (bW.out.block _ HMGL.out).trans HM8.out.1
    have hlk := em_look hmg9 ((j : Int) + 1) (by omega) (by omega)
    have HXY : Hid (w9.heap[x]? = _ ∧ w9.heap[y]? = _ ∧ ¬ S x ∧ ¬ S y) := Lib.hid ⟨bX, bY, fun hs => by have := HALL.out.2.2.2.2.1 _ hs; omega, fun hs => by have := HALL.out.2.2.2.2.1 _ hs; omega⟩
    have HCX := Lib.hid (HCL.out _ bW.out)
    have HM9 := Lib.hid hmg9
    have HJB : Hid ((0 : Int) ≤ (j : Int) ∧ (j : Int) < 1048576) := Lib.hid ⟨i8, by omega⟩
    clear c0 c1 c4 q0 q1 q2 q3 q4 t0 t1 i0 i1 i2 i3 i4 i5 i6 i8 bX bY hx hy hmg9
    go_wp2_with (go_at_call 22; refine HCX.out.mono ?_; rintro e w2 ⟨rfl, hk2, F2, hm2⟩; have HK2 := Lib.hid hk2; have HM2 := Lib.hid hm2; clear hk2 hm2; have hx2 := (HK2.out.block _ (lt_of_block HXY.out.1) HXY.out.2.2.1).trans HXY.out.1; have hy2 := (HK2.out.block _ (lt_of_block HXY.out.2.1) HXY.out.2.2.2).trans HXY.out.2.1; have x0 : w2.cell? ⟨x, 0, none⟩ = some (.slice none 0 0) := (by rw [cell_of_row _ _ 0 _ _ _ hx2]; rfl); have HY2 := Lib.hid hy2; clear hx2 hy2)
    refine (write_ok mb (VGrow S w9 w2) q (c + n) _ g F2 at_ none 0 0 [] w2 HM2.out HAT.out (BRow.nil _) rfl (Nat.le_refl _) (by omega) (fun b o e => by cases e) (fun i hi => by omega)).mono ?_
    rintro e w5 ⟨rfl, V5, -, hk5, -, -⟩
    have HK5 := Lib.hid hk5
    have z9 : w9.heap.size ≤ w2.heap.size := HK2.out.size
    have hy5 : w5.heap[y]? = _ := (hk5.block _ (lt_of_block HY2.out) (by rintro (h | ⟨h, -⟩); exact HXY.out.2.2.2 h; (have := lt_of_block HXY.out.2.1; omega))).trans HY2.out
    have y15 : w5.cell? ⟨y, 1, none⟩ = some (.map (some mg)) := by rw [cell_of_row _ _ 1 _ _ _ hy5]; rfl
    have hm2 := (HK2.out.block _ (lt_of_block HM9.out) HM8.out.2).trans HM9.out
    have hm5 := (hk5.block _ (lt_of_block hm2) (by rintro (h | ⟨h, -⟩); exact HM8.out.2 h; (have := lt_of_block HM9.out; omega))).trans hm2
    obtain ⟨w6, hrun, hturn⟩ := em_store hm5 ((j : Int) + 1) (at_ : Int) (by have := HJB.out; omega) (by have := HJB.out; omega)
    have HG := Lib.hid hturn.grown
    clear hk5 z9 hy5 hm2 hm5 hturn x0 x1 x3 x4 y0 y1 hlk k1 g1
    go_wp2_with fail
    go_ret2
    have A1 : VKept (fun k => S k ∨ k = mg) w w9 := VKept.of_below bW.out
    have A2 := A1.trans HK2.out (fun j _ h => .inl h)
    have A3 := A2.trans HK5.out (fun j hj h => by
      rcases h with h | ⟨h, -⟩
      · exact .inl h
      · have := bW.out.size; omega)
    have hg := HG.out
    have A4 : VKept (fun k => S k ∨ k = mg) w w6 := A3.trans (S' := fun k => k = mg) ⟨hg.os, hg.tape, hg.output, hg.size, fun k hk hn => hg.block k hk (fun e => hn (Option.some.inj e))⟩ (fun j _ h => .inr h)
    refine ⟨rfl, A4, HALL.out.1.kept A4 (fun k hk h => ?_)⟩
    rcases h with h | rfl
    · exact HALL.out.2.1 k hk (.inr h)
    · exact HALL.out.2.2.1 hk
end Go.Proofs.Ytbppajfpjhmcgaa
