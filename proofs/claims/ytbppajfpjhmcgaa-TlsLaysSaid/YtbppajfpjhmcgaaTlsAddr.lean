/- tls.Addr: of a module of the start; of a module that came later, for the first time. -/
import Derived.Test.YtbppajfpjhmcgaaTlsThr
import Derived.Deep.RegionLaw
import Derived.Deep.RegionHeld3
namespace Go.Proofs.Ytbppajfpjhmcgaa
open Go.RowKit
set_option linter.unusedVariables false
set_option linter.unusedSimpArgs false

set_option maxRecDepth 100000 in
set_option maxHeartbeats 8000000 in
theorem addr_start (sb st last gr : Nat) (ms : List TM) (ts : List (Nat × Nat)) (ma ta : Option Addr) (mc tc mb i j p mg off : Nat) (m : TM) (w : World)
    (h : StAt w sb st last gr ms ts ma mc ta tc) (hi : ts[i]? = some (p, mg)) (hj : ms[j]? = some m) (hjs : j < st) (ht : ts.length ≤ 1048576) (hm : ms.length ≤ 1048576) (hd : m.dr = false) (ho : m.off ≤ p) (hp : p + off < 18446744073709551616) :
    Calls Try.prog 15 #[.pointer (some ⟨sb, 0, none⟩), .pointer (some ⟨mb, 0, none⟩), .int .i64 (i : Int), .int .i64 ((j : Int) + 1), .int .u64 (off : Int)] w fun e w' => e = .returned (.tuple #[.int .u64 ((p - m.off + off : Nat) : Int), .nilIface]) ∧ Below w.heap.size w w' := by
  have c0 := h.c0
  have c1 := h.c1
  have c4 := h.c4
  have hlt : i < ts.length := (List.getElem?_eq_some_iff.1 hi).1
  have hjl : j < ms.length := (List.getElem?_eq_some_iff.1 hj).1
  have HI := Lib.hid (isThread_any sb st last gr ms ts ma ta mc tc i w h hlt ht)
  obtain ⟨b, o, rfl, hb, t0, t1⟩ := h.thr_at hi
  obtain ⟨b2, o2, rfl, hb2, hcc⟩ := h.mod_at hj
  have q0 := hcc 0 (by omega)
  have q1 := hcc 1 (by omega)
  have q2 := hcc 2 (by omega)
  have q3 := hcc 3 (by omega)
  have q4 := hcc 4 (by omega)
  simp only [TM.row, hd] at q0 q1 q2 q3 q4
  replace q0 : w.cell? ⟨b2, o2 + j * 5, none⟩ = some (.slice none 0 0) := q0
  replace q1 : w.cell? ⟨b2, o2 + j * 5 + 1, none⟩ = some (.int .u64 (m.size : Int)) := q1
  replace q2 : w.cell? ⟨b2, o2 + j * 5 + 2, none⟩ = some (.int .u64 (m.al : Int)) := q2
  replace q3 : w.cell? ⟨b2, o2 + j * 5 + 3, none⟩ = some (.int .u64 (m.off : Int)) := q3
  replace q4 : w.cell? ⟨b2, o2 + j * 5 + 4, none⟩ = some (.bool false) := q4
  have HOO : Hid (m.off ≤ p ∧ p + off < 18446744073709551616) := Lib.hid ⟨ho, hp⟩
  have HSB : Hid (sb < w.heap.size ∧ b < w.heap.size ∧ b2 < w.heap.size) := Lib.hid ⟨(h.blk (.inl rfl)).2, hb, hb2⟩
  obtain ⟨L, hL⟩ : ∃ L, ms.length = L := ⟨_, rfl⟩
  obtain ⟨T, hT⟩ : ∃ T, ts.length = T := ⟨_, rfl⟩
  rw [hL] at c0
  rw [hT] at c4
  have i0 : (0 : Int) ≤ (i : Int) := by omega
  have i1 : (i : Int) < (T : Int) := by omega
  have i2 : decide ((j : Int) + 1 < 1) = false := decide_eq_false (by omega)
  have i3 : decide ((L : Int) < (j : Int) + 1) = false := decide_eq_false (by omega)
  have i4 : (j : Int) < (L : Int) := by omega
  have i5 : (L : Int) ≤ 1048576 := by omega
  have i6 : IntKind.i64.wrap (j : Int) = (j : Int) := by rw [IntKind.wrap_i64]; omega
  have i7 : (j : Int) + 1 ≤ (st : Int) := by omega
  obtain ⟨d, hd9⟩ : ∃ d, p - m.off = d := ⟨_, rfl⟩
  obtain ⟨r, hr9⟩ : ∃ r, d + off = r := ⟨_, rfl⟩
  have e5 : IntKind.u64.wrap ((p : Int) - (m.off : Int)) = (d : Int) := by rw [IntKind.wrap_u64]; omega
  have e6 : IntKind.u64.wrap ((d : Int) + (off : Int)) = (r : Int) := by rw [IntKind.wrap_u64]; omega
  rw [hd9, hr9]
  clear hd9 hr9
  have i8 : (0 : Int) ≤ (j : Int) := by omega
  clear h hi hj hjs ht hm hd ho hp hlt hjl hb hb2 hcc hL hT
  generalize m.size = msz at *
  generalize m.al = mal at *
  generalize m.off = mof at *
  go_enter Try.func15, Try.ntmps15
  go_upto_region 3 with (go_at_call 25; refine HI.out.mono ?_; rintro e w' ⟨rfl, rfl⟩)
  have KS : Hid (∀ wx, Below w.heap.size w wx → wx.cell? ⟨sb, 0, none⟩ = some (.slice (some ⟨b2, o2, none⟩) L mc) ∧ wx.cell? ⟨sb, 4, none⟩ = some (.slice (some ⟨b, o, none⟩) T tc) ∧ wx.cell? ⟨b, o + i * 2, none⟩ = some (.int .u64 (p : Int)) ∧ wx.cell? ⟨b, o + i * 2 + 1, none⟩ = some (.map (some mg)) ∧ wx.cell? ⟨b2, o2 + j * 5, none⟩ = some (.slice none 0 0) ∧ wx.cell? ⟨b2, o2 + j * 5 + 1, none⟩ = some (.int .u64 (msz : Int)) ∧ wx.cell? ⟨b2, o2 + j * 5 + 2, none⟩ = some (.int .u64 (mal : Int)) ∧ wx.cell? ⟨b2, o2 + j * 5 + 3, none⟩ = some (.int .u64 (mof : Int)) ∧ wx.cell? ⟨b2, o2 + j * 5 + 4, none⟩ = some (.bool false)) := Lib.hid (fun wx hb => by
    have g : ∀ b j, b < w.heap.size → wx.cell? ⟨b, j, none⟩ = w.cell? ⟨b, j, none⟩ := fun b j hbl => hb.cell (p := ⟨b, j, none⟩) hbl
    obtain ⟨s1, s2, s3⟩ := HSB.out
    exact ⟨(g _ _ s1).trans c0, (g _ _ s1).trans c4, (g _ _ s2).trans t0, (g _ _ s2).trans t1, (g _ _ s3).trans q0, (g _ _ s3).trans q1, (g _ _ s3).trans q2, (g _ _ s3).trans q3, (g _ _ s3).trans q4⟩)
  go_region_held3 (fun wx => wx.cell? ⟨sb, 0, none⟩ = some (.slice (some ⟨b2, o2, none⟩) L mc) ∧ wx.cell? ⟨sb, 4, none⟩ = some (.slice (some ⟨b, o, none⟩) T tc) ∧ wx.cell? ⟨b, o + i * 2, none⟩ = some (.int .u64 (p : Int)) ∧ wx.cell? ⟨b, o + i * 2 + 1, none⟩ = some (.map (some mg)) ∧ wx.cell? ⟨b2, o2 + j * 5, none⟩ = some (.slice none 0 0) ∧ wx.cell? ⟨b2, o2 + j * 5 + 1, none⟩ = some (.int .u64 (msz : Int)) ∧ wx.cell? ⟨b2, o2 + j * 5 + 2, none⟩ = some (.int .u64 (mal : Int)) ∧ wx.cell? ⟨b2, o2 + j * 5 + 3, none⟩ = some (.int .u64 (mof : Int)) ∧ wx.cell? ⟨b2, o2 + j * 5 + 4, none⟩ = some (.bool false))
    (first | exact KS.out _ (Below.refl _ _).drew | (refine KS.out _ ?_; (repeat' (first | exact Below.refl _ _ | refine Below.drew ?_ | (refine Below.alloc ?_ (by simp) _) | (refine Below.setCell ?_ (by simp) _))))) (fail)
  · obtain ⟨y, hy⟩ : ∃ y, w.heap.size + 1 = y := ⟨_, rfl⟩
    obtain ⟨x, hx⟩ : ∃ x, w.heap.size = x := ⟨_, rfl⟩
    have bW : Hid (Below w.heap.size w ((w.alloc (.cells #[.slice none 0 0, .int .u64 (msz : Int), .int .u64 (mal : Int), .int .u64 (mof : Int), .bool false] 62)).alloc (.cells #[.int .u64 (p : Int), .map (some mg)] 71)).drew) := Lib.hid (by (repeat' (first | exact Below.refl _ _ | refine Below.drew ?_ | (refine Below.alloc ?_ (by simp) _) | (refine Below.setCell ?_ (by simp) _))))
    have bX : ((w.alloc (.cells #[.slice none 0 0, .int .u64 (msz : Int), .int .u64 (mal : Int), .int .u64 (mof : Int), .bool false] 62)).alloc (.cells #[.int .u64 (p : Int), .map (some mg)] 71)).drew.heap[x]? = some (.cells #[.slice none 0 0, .int .u64 (msz : Int), .int .u64 (mal : Int), .int .u64 (mof : Int), .bool false] 62) := by rw [← hx]; show ((w.alloc (.cells #[.slice none 0 0, .int .u64 (msz : Int), .int .u64 (mal : Int), .int .u64 (mof : Int), .bool false] 62)).alloc (.cells #[.int .u64 (p : Int), .map (some mg)] 71)).heap[_]? = _; exact (heap_alloc_old _ _ (by simp)).trans (heap_alloc_new _ _)
    have bY : ((w.alloc (.cells #[.slice none 0 0, .int .u64 (msz : Int), .int .u64 (mal : Int), .int .u64 (mof : Int), .bool false] 62)).alloc (.cells #[.int .u64 (p : Int), .map (some mg)] 71)).drew.heap[y]? = some (.cells #[.int .u64 (p : Int), .map (some mg)] 71) := by rw [← hy]; show ((w.alloc (.cells #[.slice none 0 0, .int .u64 (msz : Int), .int .u64 (mal : Int), .int .u64 (mof : Int), .bool false] 62)).alloc (.cells #[.int .u64 (p : Int), .map (some mg)] 71)).heap[_]? = _; (have := heap_alloc_new (w.alloc (.cells #[.slice none 0 0, .int .u64 (msz : Int), .int .u64 (mal : Int), .int .u64 (mof : Int), .bool false] 62)) (.cells #[.int .u64 (p : Int), .map (some mg)] 71); simpa using this)
    have k1 : ((w.alloc (.cells #[.slice none 0 0, .int .u64 (msz : Int), .int .u64 (mal : Int), .int .u64 (mof : Int), .bool false] 62)).alloc (.cells #[.int .u64 (p : Int), .map (some mg)] 71)).drew.cell? ⟨sb, 1, none⟩ = some (.int .i64 (st : Int)) := by rw [bW.out.cell (p := ⟨sb, 1, none⟩) HSB.out.1]; exact c1
    rw [hy, hx]
    generalize ((w.alloc (.cells #[.slice none 0 0, .int .u64 (msz : Int), .int .u64 (mal : Int), .int .u64 (mof : Int), .bool false] 62)).alloc (.cells #[.int .u64 (p : Int), .map (some mg)] 71)).drew = w9 at *
    have x3 : w9.cell? ⟨x, 3, none⟩ = some (.int .u64 (mof : Int)) := by rw [cell_of_row _ _ 3 _ _ _ bX]; rfl
    have x4 : w9.cell? ⟨x, 4, none⟩ = some (.bool false) := by rw [cell_of_row _ _ 4 _ _ _ bX]; rfl
    have y0 : w9.cell? ⟨y, 0, none⟩ = some (.int .u64 (p : Int)) := by rw [cell_of_row _ _ 0 _ _ _ bY]; rfl
    clear c0 c1 c4 q0 q1 q2 q3 q4 t0 t1 i0 i1 i2 i3 i4 i5 i6 i8 bX bY hx hy
    go_wp2_with fail
    go_ret2
    exact ⟨rfl, bW.out⟩
  · obtain ⟨x, hx⟩ : ∃ x, w.heap.size + 1 = x := ⟨_, rfl⟩
    obtain ⟨y, hy⟩ : ∃ y, w.heap.size = y := ⟨_, rfl⟩
    have bW : Hid (Below w.heap.size w ((w.alloc (.cells #[.int .u64 (p : Int), .map (some mg)] 71)).alloc (.cells #[.slice none 0 0, .int .u64 (msz : Int), .int .u64 (mal : Int), .int .u64 (mof : Int), .bool false] 62)).drew) := Lib.hid (by (repeat' (first | exact Below.refl _ _ | refine Below.drew ?_ | (refine Below.alloc ?_ (by simp) _) | (refine Below.setCell ?_ (by simp) _))))
    have bX : ((w.alloc (.cells #[.int .u64 (p : Int), .map (some mg)] 71)).alloc (.cells #[.slice none 0 0, .int .u64 (msz : Int), .int .u64 (mal : Int), .int .u64 (mof : Int), .bool false] 62)).drew.heap[x]? = some (.cells #[.slice none 0 0, .int .u64 (msz : Int), .int .u64 (mal : Int), .int .u64 (mof : Int), .bool false] 62) := by rw [← hx]; show ((w.alloc (.cells #[.int .u64 (p : Int), .map (some mg)] 71)).alloc (.cells #[.slice none 0 0, .int .u64 (msz : Int), .int .u64 (mal : Int), .int .u64 (mof : Int), .bool false] 62)).heap[_]? = _; (have := heap_alloc_new (w.alloc (.cells #[.int .u64 (p : Int), .map (some mg)] 71)) (.cells #[.slice none 0 0, .int .u64 (msz : Int), .int .u64 (mal : Int), .int .u64 (mof : Int), .bool false] 62); simpa using this)
    have bY : ((w.alloc (.cells #[.int .u64 (p : Int), .map (some mg)] 71)).alloc (.cells #[.slice none 0 0, .int .u64 (msz : Int), .int .u64 (mal : Int), .int .u64 (mof : Int), .bool false] 62)).drew.heap[y]? = some (.cells #[.int .u64 (p : Int), .map (some mg)] 71) := by rw [← hy]; show ((w.alloc (.cells #[.int .u64 (p : Int), .map (some mg)] 71)).alloc (.cells #[.slice none 0 0, .int .u64 (msz : Int), .int .u64 (mal : Int), .int .u64 (mof : Int), .bool false] 62)).heap[_]? = _; exact (heap_alloc_old _ _ (by simp)).trans (heap_alloc_new _ _)
    have k1 : ((w.alloc (.cells #[.int .u64 (p : Int), .map (some mg)] 71)).alloc (.cells #[.slice none 0 0, .int .u64 (msz : Int), .int .u64 (mal : Int), .int .u64 (mof : Int), .bool false] 62)).drew.cell? ⟨sb, 1, none⟩ = some (.int .i64 (st : Int)) := by rw [bW.out.cell (p := ⟨sb, 1, none⟩) HSB.out.1]; exact c1
    rw [hx, hy]
    generalize ((w.alloc (.cells #[.int .u64 (p : Int), .map (some mg)] 71)).alloc (.cells #[.slice none 0 0, .int .u64 (msz : Int), .int .u64 (mal : Int), .int .u64 (mof : Int), .bool false] 62)).drew = w9 at *
    have x3 : w9.cell? ⟨x, 3, none⟩ = some (.int .u64 (mof : Int)) := by rw [cell_of_row _ _ 3 _ _ _ bX]; rfl
    have x4 : w9.cell? ⟨x, 4, none⟩ = some (.bool false) := by rw [cell_of_row _ _ 4 _ _ _ bX]; rfl
    have y0 : w9.cell? ⟨y, 0, none⟩ = some (.int .u64 (p : Int)) := by rw [cell_of_row _ _ 0 _ _ _ bY]; rfl
    clear c0 c1 c4 q0 q1 q2 q3 q4 t0 t1 i0 i1 i2 i3 i4 i5 i6 i8 bX bY hx hy
    go_wp2_with fail
    go_ret2
    exact ⟨rfl, bW.out⟩
end Go.Proofs.Ytbppajfpjhmcgaa
