/- Layer 4: the PtLoad that was read last. -/
import Derived.Test.YtmjfkcclhbpclaaDoorHeadBack
import Derived.Laws.Tables
import Derived.Laws.CopyRow
import Derived.Laws.CopyOwn
namespace Go.Proofs.YtmjfkcclhbpclaaDoor
open Go.RowKit
set_option linter.unusedVariables false
set_option linter.unusedSimpArgs false

attribute [local go_sem] Oper.semAt_some

def zProg : Array Value := #[.int .u32 0, .int .u32 0, .int .u64 0, .int .u64 0, .int .u64 0, .int .u64 0, .int .u64 0]
theorem row_own {β : Type} (B : Nat) (t : TypeId) (f : β → Array Value) : Own (fun s W => W.heap[B]? = some (.cells (f s) t)) := fun s X Y row hs hg hrow => by
  have hs' : X.heap[B]? = some (.cells (f s) t) := hs
  have hlt := lt_of_block hs'
  show Y.heap[B]? = _
  rw [hg.block B hlt (fun e' => by obtain ⟨o, ho, hc⟩ := hrow B e'.symm; rw [hs'] at ho; cases ho; cases hc)]
  exact hs'
/-- the first PtLoad of what has come -/
def foundF (l : List (Int × PT)) : Option PT := (l.find? fun x => decide (x.2.ty = 1)).map (·.2)
theorem foundF_snoc (l : List (Int × PT)) (x : Int × PT) (h : foundF l = none) : foundF (l ++ [x]) = if x.2.ty = 1 then some x.2 else none := by
  unfold foundF at *
  rw [List.find?_append]
  rw [Option.map_eq_none_iff] at h
  rw [h]
  by_cases hx : x.2.ty = 1
  · simp [hx]
  · simp [hx]
theorem lastF_snoc (ps : List PT) (p : PT) : lastF (ps ++ [p]) = if p.ty = 1 then some p else lastF ps := by
  induction ps with
  | nil => simp [lastF]
  | cons q ps ih =>
    simp only [List.cons_append, lastF, ih]
    by_cases h : p.ty = 1
    · simp [h]
    · simp [h]
theorem found_last (ps : List PT) : ∀ k, k ≤ ps.length → (lastF (ps.drop (ps.length - k)) = foundF (backL ps k))
  | 0, _ => by simp [backL, foundF, lastF]
  | k + 1, h => by
    have ih := found_last ps k (by omega)
    have hi : ps.length - (k + 1) < ps.length := by omega
    rw [List.drop_eq_getElem_cons hi, show ps.length - (k + 1) + 1 = ps.length - k by omega, backL_succ]
    simp only [lastF, ih]
    have hp : ps.getD (ps.length - 1 - k) PT.zero = ps[ps.length - (k + 1)] := by
      rw [show ps.length - 1 - k = ps.length - (k + 1) by omega]
      simp [List.getD, hi]
    rw [hp]
    cases hf : foundF (backL ps k) with
    | some q =>
      unfold foundF at hf ⊢
      rw [List.find?_append]
      rw [Option.map_eq_some_iff] at hf
      obtain ⟨x, hx, hq⟩ := hf
      rw [hx]
      simp [hq]
    | none =>
      rw [foundF_snoc _ _ hf]
theorem found_all (ps : List PT) : foundF (backL ps ps.length) = lastF ps := by
  have := found_last ps ps.length (Nat.le_refl _)
  rw [Nat.sub_self, List.drop_zero] at this
  exact this.symm
theorem back_stops (F : Fence) (m : Nat) (hf : F.fn 88) (hro : F.round = none) (hm : 1 ≤ m) (Bs n0 n cap : Nat) (pa : Option Addr) (ps : List PT) (hn : ps.length = n) (hnl : n ≤ 140737488351232) (w : World) (hw : n0 ≤ w.heap.size) (hBl : Bs < w.heap.size) (hBs : w.cell? ⟨Bs, 0, none⟩ = some (.slice pa n cap))
    (hc : ∀ i, (hi : i < ps.length) → ∃ b off, pa = some ⟨b, off, none⟩ ∧ b < n0 ∧ ∀ j, j < 7 → w.cell? ⟨b, off + i * 7 + j, none⟩ = ps[i].cells[j]?) (hB0 : Bs < n0) :
    SeqStopsK F m Tryd.prog 88 #[.pointer (some ⟨Bs, 0, none⟩)] backE (Below n0) (fun ys => ys = backL ps n) (fun pre => ∃ k, k ≤ n ∧ pre = backL ps k) n w := fun l J Jx W hW _ _ hY h0 => by
  have hBs' := (hW.cell (p := ⟨Bs, 0, none⟩) hBl).trans hBs
  by_cases hz : n = 0
  · subst hz
    refine (show CallsIn F m Tryd.prog _ _ _ fun e W' => (∃ v, e = .returned v) ∧ J [] W' from ?_).mono ?_
    · have e1 : IntKind.i64.wrap (-1) = -1 := by decide
      refine callsIn_of_wp Tryd.func88 rfl hf ?_ hro
      simp only [Tryd.ntmps88, List.size_toArray, List.length_cons, List.length_nil, Nat.reduceAdd, Nat.reduceSub, Array.replicate_succ, Array.replicate_zero, List.push_toArray, List.append_toArray, List.nil_append, List.cons_append]
      gi_wp2
      gi_loopw [3] (fun i wr => i = .int .i64 (-1) ∧ J [] wr) (fun _ _ => 0)
      case atStart => exact ⟨rfl, h0⟩
      case round =>
        obtain ⟨rfl, hJs⟩ := hrel
        gi_wp2
        go_end0
        exact ⟨⟨_, rfl⟩, hJs⟩
    · intro e W' h
      exact ⟨h.1, .inl ⟨_, rfl, by simpa [backL] using h.2⟩⟩
  · obtain ⟨b, off, rfl, hb, -⟩ := hc 0 (by omega)
    refine (back1_in F m hf hro hm l Bs n0 b off n cap ps hn hnl hb J Jx hY W hBs' hB0 (fun i hi j hj => ?_) h0).mono ?_
    · obtain ⟨b', off', e, hb', hcs⟩ := hc i hi
      simp only [Option.some.injEq, Addr.mk.injEq, and_true] at e
      obtain ⟨rfl, rfl⟩ := e
      exact ((hW.mono hw).cell (p := ⟨b, off + i * 7 + j, none⟩) hb).trans (hcs j hj)
    · intro e W' h
      exact h
theorem seven_stores {w : World} {b : Nat} {T : TypeId} {u0 u1 u2 u3 u4 u5 u6 : Value} (E : w.heap[b]? = some (.cells #[u0, u1, u2, u3, u4, u5, u6] T)) (v0 v1 v2 v3 v4 v5 v6 : Value) :
    (((((((w.setCell ⟨b, 0, none⟩ v0).setCell ⟨b, 1, none⟩ v1).setCell ⟨b, 2, none⟩ v2).setCell ⟨b, 3, none⟩ v3).setCell ⟨b, 4, none⟩ v4).setCell ⟨b, 5, none⟩ v5).setCell ⟨b, 6, none⟩ v6) = w.setRow b #[v0, v1, v2, v3, v4, v5, v6] := by
  have step : ∀ (cs : Array Value) (i : Nat) (v : Value), (w.setRow b cs).setCell ⟨b, i, none⟩ v = w.setRow b (cs.setIfInBounds i v) := fun cs i v => by
    rw [setCell_eq_setRow _ _ _ _ _ _ _ (setRow_heap w b _ cs T (0, 0) E), setRow_setRow]
  rw [setCell_eq_setRow w b 0 _ _ _ _ E, step, step, step, step, step, step]
  simp only [List.setIfInBounds_toArray, List.set_cons_zero, List.set_cons_succ]
set_option maxRecDepth 100000 in
set_option maxHeartbeats 4000000 in
theorem backward_any (a : Option Addr) (n cap : Nat) (w : World) : Calls Tryd.prog 79 #[.slice a n cap] w fun e w' => e = .returned (.func (.func 88) #[] #[.pointer (some ⟨w.heap.size, 0, none⟩)]) ∧ w' = w.alloc (.cells #[.slice a n cap] 23) := by
  go_enter Tryd.func79, Tryd.ntmps79
  go_wp2_with fail
  go_ret
  exact ⟨rfl, rfl⟩
set_option maxRecDepth 100000 in
set_option maxHeartbeats 4000000 in
theorem backward_in (m : Nat) (a : Option Addr) (n cap : Nat) (w : World) : CallsIn Fence.wide m Tryd.prog 79 #[.slice a n cap] w fun e w' => e = .returned (.func (.func 88) #[] #[.pointer (some ⟨w.heap.size, 0, none⟩)]) ∧ w' = w.alloc (.cells #[.slice a n cap] 23) := by
  refine callsIn_of_wp Tryd.func79 rfl trivial ?_ rfl
  simp only [Tryd.ntmps79, List.size_toArray, List.length_cons, List.length_nil, Nat.reduceAdd, Nat.reduceSub, Array.replicate_succ, Array.replicate_zero, List.push_toArray, List.append_toArray, List.nil_append, List.cons_append]
  gi_wp2
  go_ret
  exact ⟨rfl, rfl⟩
/-- the box of a result -/
theorem out_cells {w : World} {b : Nat} {a0 a1 a2 a3 a4 a5 a6 : Value} {T : TypeId} (h : w.heap[b]? = some (.cells #[a0, a1, a2, a3, a4, a5, a6] T)) : w.cell? ⟨b, 0, none⟩ = some a0 ∧ w.cell? ⟨b, 1, none⟩ = some a1 ∧ w.cell? ⟨b, 2, none⟩ = some a2 ∧ w.cell? ⟨b, 3, none⟩ = some a3 ∧ w.cell? ⟨b, 4, none⟩ = some a4 ∧ w.cell? ⟨b, 5, none⟩ = some a5 ∧ w.cell? ⟨b, 6, none⟩ = some a6 := by
  refine ⟨?_, ?_, ?_, ?_, ?_, ?_, ?_⟩ <;> (rw [cell_of_row _ _ _ _ _ _ h]; rfl)
set_option maxRecDepth 100000 in
set_option maxHeartbeats 8000000 in
theorem lastload_in (m : Nat) (hm : 4 ≤ m) (r : HRd) (ps : List PT) (w : World) (h : r.at w) (hp : PRow w r.pa ps) (hn : ps.length = r.pn) (hnl : r.pn ≤ 140737488351232) :
    CallsIn Fence.wide m Tryd.prog 52 #[.pointer (some ⟨r.rb, 0, none⟩)] w fun e W' => e = .returned (.tuple #[((lastF ps).getD PT.zero).hv, .bool (lastF ps).isSome]) ∧ Below w.heap.size w W' := by
  have h1 : 1 ≤ m := by omega
  obtain ⟨rb, k0, k1, k2, k3, ra, rm, rcap, pa, n, pc⟩ := r
  have hc5 : w.cell? ⟨rb, 5, none⟩ = some (.slice pa n pc) := by rw [h.get]; rfl
  have hrb : rb < w.heap.size := lt_of_block h
  simp only [] at hn hnl hp ⊢
  obtain ⟨w1, hw1⟩ : ∃ w1, (w.alloc (.cells zProg 37)).alloc (.cells #[.bool false] 4) = w1 := ⟨_, rfl⟩
  obtain ⟨B, hB⟩ : ∃ B, w.heap.size = B := ⟨_, rfl⟩
  have hs1 : w1.heap.size = B + 2 := by rw [← hw1, ← hB]; simp
  have hb1 : Below w.heap.size w w1 := by
    rw [← hw1]
    have h1 := (Below.refl w.heap.size w).alloc (Nat.le_refl _) (.cells zProg 37)
    exact h1.alloc h1.size _
  have x1 : w1.heap[B]? = some (.cells zProg 37) := by
    rw [← hw1, ← hB, heap_alloc_old _ _ (by simp)]
    exact heap_alloc_new _ _
  have y1 : w1.heap[B + 1]? = some (.cells #[.bool false] 4) := by
    rw [← hw1, ← hB]
    have := heap_alloc_new (w.alloc (.cells zProg 37)) (.cells #[.bool false] 4)
    rwa [World.size_alloc] at this
  obtain ⟨w2, hw2⟩ : ∃ w2, w1.alloc (.cells #[.slice pa n pc] 23) = w2 := ⟨_, rfl⟩
  have hs2 : w2.heap.size = B + 3 := by rw [← hw2]; simp [hs1]
  have hb2 : Below w.heap.size w w2 := by rw [← hw2]; exact hb1.alloc hb1.size _
  have x2 : w2.heap[B]? = some (.cells zProg 37) := by rw [← hw2, heap_alloc_old _ _ (lt_of_block x1)]; exact x1
  have y2 : w2.heap[B + 1]? = some (.cells #[.bool false] 4) := by rw [← hw2, heap_alloc_old _ _ (lt_of_block y1)]; exact y1
  have zz2 : w2.heap[B + 2]? = some (.cells #[.slice pa n pc] 23) := by
    have := heap_alloc_new w1 (.cells #[.slice pa n pc] 23)
    rwa [hs1, hw2] at this
  have z2 : w2.cell? ⟨B + 2, 0, none⟩ = some (.slice pa n pc) := by
    have := heap_alloc_new w1 (.cells #[.slice pa n pc] 23)
    rw [hs1, hw2] at this
    rw [cell_of_row _ _ 0 _ _ _ this]
    rfl
  have hc51 : w1.cell? ⟨rb, 5, none⟩ = some (.slice pa n pc) := (hb1.cell (p := ⟨rb, 5, none⟩) hrb).trans hc5
  have hpw2 : PRow w2 pa ps := fun i hi => by
    obtain ⟨q, b, o, e, hl, hcs⟩ := hp i hi
    exact ⟨q, b, o, e, Nat.lt_of_lt_of_le hl hb2.size, fun j hj => (hb2.cell (p := ⟨b, o + i * 7 + j, none⟩) hl).trans (hcs j hj)⟩
  have HST : Hid (SeqStopsK Fence.wide (m - 1) Tryd.prog 88 #[.pointer (some ⟨B + 2, 0, none⟩)] backE (Below (B + 3)) (fun ys => ys = backL ps n) (fun pre => ∃ k, k ≤ n ∧ pre = backL ps k) n w2) := Lib.hid (back_stops Fence.wide (m - 1) trivial rfl (by omega) (B + 2) (B + 3) n pc pa ps hn hnl w2 (by omega) (by omega) z2 (fun i hi => by
    obtain ⟨q, b, o, e, hl, hcs⟩ := hpw2 i hi
    exact ⟨b, o, e, by omega, hcs⟩) (by omega))
  have hz1 : (w.alloc (.cells #[.int .u32 0, .int .u32 0, .int .u64 0, .int .u64 0, .int .u64 0, .int .u64 0, .int .u64 0] 37)).alloc (.cells #[.bool false] 4) = w1 := hw1
  refine callsIn_of_wp_marks Tryd.func52 rfl trivial ?_ rfl
  simp only [Tryd.ntmps52, List.size_toArray, List.length_cons, List.length_nil, Nat.reduceAdd, Nat.reduceSub, Array.replicate_succ, Array.replicate_zero, List.push_toArray, List.append_toArray, List.nil_append, List.cons_append]
  gi_wp2_with fail
  refine ⟨trivial, ?_⟩
  refine (backward_in (m - 1) _ _ _ w1).mono ?_
  rintro e w' ⟨rfl, rfl⟩
  gi_wp2_with fail
  refine wpIn_rangeFunc_ownH rfl h1 (gf := 88) (lb := #[.pointer (some ⟨B + 2, 0, none⟩)]) rfl trivial (enters_of Tryd.func88 (by kernel_rfl) rfl)
    HST.out belowK_t (belowK_b (by omega)) (Below.refl _ _) (fun _ => rfl)
    (fun pre W => ((foundF pre = none ∧ W.heap[B]? = some (.cells zProg 37)) ∧ W.heap[B + 1]? = some (.cells #[.bool false] 4) ∧ W.heap[B + 2]? = some (.cells #[.slice pa n pc] 23)) ∧ Below w.heap.size w W)
    (fun c pre W => (∃ p, (c = .ret ∧ foundF pre = some p) ∧ W.heap[B]? = some (.cells p.cells.toArray 37) ∧ W.heap[B + 1]? = some (.cells #[.bool true] 4)) ∧ Below w.heap.size w W)
    (OwnFrom.and (OwnFrom.and (OwnFrom.and (ownFrom_pure _ _) (Own.from (row_own B _ (fun _ => zProg)) _)) (OwnFrom.and (Own.from (row_own (B + 1) _ (fun _ => #[.bool false])) _) (Own.from (row_own (B + 2) _ (fun _ => #[.slice pa n pc])) _))) (ownFrom_below (Nat.le_refl _) (by omega)))
    (fun c => OwnFrom.and (fun s X Y row hs hg hr => by
      obtain ⟨p, h1, h2, h3⟩ := hs
      exact ⟨p, h1, row_own B _ (fun (_ : Unit) => p.cells.toArray) () X Y row h2 hg (fun r e => (hr r e).2), row_own (B + 1) _ (fun (_ : Unit) => #[.bool true]) () X Y row h3 hg (fun r e => (hr r e).2)⟩) (ownFrom_below (Nat.le_refl _) (by omega)))
    ⟨⟨⟨rfl, x2⟩, y2, zz2⟩, hb2⟩
    (fun x a' W => ∃ Bx, B + 2 < Bx ∧ W.heap[Bx]? = some (.cells #[.int .u32 x.2.ty, .int .u32 x.2.flags, .int .u64 x.2.off, .int .u64 x.2.vaddr, .int .u64 x.2.filesz, .int .u64 x.2.memsz, .int .u64 x.2.align] 37) ∧ a' = { tmps := #[.pointer (some ⟨rb, 0, none⟩), undef, .pointer (some ⟨B, 0, none⟩), .pointer (some ⟨B + 1, 0, none⟩), undef, .pointer (some ⟨Bx, 0, none⟩), .pointer (some ⟨rb, 0, none⟩), .pointer (some ⟨rb, 0, none⟩), .pointer (some ⟨rb, 5, none⟩), .slice pa n pc, .func (.func 88) #[] #[.pointer (some ⟨B + 2, 0, none⟩)], .int .i64 x.1, .agg #[.int .u32 x.2.ty, .int .u32 x.2.flags, .int .u64 x.2.off, .int .u64 x.2.vaddr, .int .u64 x.2.filesz, .int .u64 x.2.memsz, .int .u64 x.2.align], undef, undef, undef, undef, undef], defers := [] })
    (fun x a' _ X Y row hs hg hr => by
      obtain ⟨Bx, h1, h2, h3⟩ := hs
      exact ⟨Bx, h1, row_own Bx _ (fun (_ : Unit) => #[.int .u32 x.2.ty, .int .u32 x.2.flags, .int .u64 x.2.off, .int .u64 x.2.vaddr, .int .u64 x.2.filesz, .int .u64 x.2.memsz, .int .u64 x.2.align]) () X Y row h2 hg (fun r e => (hr r e).2), h3⟩)
    ?assign ?body ?done ?stop
  case assign =>
    rintro l pre ⟨xi, ⟨a0, a1, a2, a3, a4, a5, a6⟩⟩ W K ⟨⟨⟨hf, hx⟩, hy, hz⟩, hB1⟩ hK
    have hBW : B + 2 < W.heap.size := lt_of_block hz
    unfold backE
    dsimp only at hK ⊢
    gi_wp2
    exact hK _ _ ((KeepsOthers.alloc _ _).from _) ((Below.refl _ W).alloc (by omega) _) ⟨⟨⟨hf, (heap_alloc_old _ _ (lt_of_block hx)).trans hx⟩, (heap_alloc_old _ _ (lt_of_block hy)).trans hy, (heap_alloc_old _ _ (lt_of_block hz)).trans hz⟩, hB1.alloc hB1.size _⟩ ⟨W.heap.size, hBW, heap_alloc_new _ _, rfl⟩
  case body =>
    rintro l pre ⟨xi, ⟨a0, a1, a2, a3, a4, a5, a6⟩⟩ a' W hl hr ⟨⟨⟨hf, hx⟩, hy, hz⟩, hB1⟩ ⟨Bx, hBx, hX, rfl⟩ hlt
    dsimp only at hX ⊢
    have h1' : 1 ≤ m - 1 - 1 := by omega
    obtain ⟨c0, c1, c2, c3, c4, c5, c6⟩ := out_cells hX
    obtain ⟨d0, d1, d2, d3, d4, d5, d6⟩ := out_cells (show W.heap[B]? = some (.cells #[.int .u32 0, .int .u32 0, .int .u64 0, .int .u64 0, .int .u64 0, .int .u64 0, .int .u64 0] 37) from hx)
    have f0 := frozen_of_row W B 0 _ _ hx
    have f1 := frozen_of_row W B 1 _ _ hx
    have f2 := frozen_of_row W B 2 _ _ hx
    have f3 := frozen_of_row W B 3 _ _ hx
    have f4 := frozen_of_row W B 4 _ _ hx
    have f5 := frozen_of_row W B 5 _ _ hx
    have f6 := frozen_of_row W B 6 _ _ hx
    have g0 := frozen_of_row W (B + 1) 0 _ _ hy
    have e0 : W.cell? ⟨B + 1, 0, none⟩ = some (.bool false) := by rw [cell_of_row _ _ 0 _ _ _ hy]; rfl
    by_cases ht : a0 = 1
    · subst ht
      have hxx : W.heap[B]? = some (.cells #[.int .u32 0, .int .u32 0, .int .u64 0, .int .u64 0, .int .u64 0, .int .u64 0, .int .u64 0] 37) := hx
      have FS := seven_stores hxx (.int .u32 1) (.int .u32 a1) (.int .u64 a2) (.int .u64 a3) (.int .u64 a4) (.int .u64 a5) (.int .u64 a6)
      have c0' : W.cell? ⟨Bx, 0, none⟩ = some (.int .u32 1) := c0
      have HFS := Lib.hid FS
      clear FS c0
      gi_wp2
      refine ⟨((((((((KeepsOthers.setCell _ _ _).trans (KeepsOthers.setCell _ _ _)).trans (KeepsOthers.setCell _ _ _)).trans (KeepsOthers.setCell _ _ _)).trans (KeepsOthers.setCell _ _ _)).trans (KeepsOthers.setCell _ _ _)).trans (KeepsOthers.setCell _ _ _)).trans (KeepsOthers.setCell _ _ _)).from _, ⟨⟨1, a1, a2, a3, a4, a5, a6⟩, ⟨rfl, by rw [foundF_snoc _ _ hf, if_pos rfl]⟩, ?_, ?_⟩, ?_⟩
      · rw [HFS.out, heap_setCell_other _ _ _ _ (show B ≠ B + 1 by omega)]
        exact setRow_heap _ _ _ _ _ _ hx
      · rw [HFS.out]
        exact heap_setCell_same _ (B + 1) 0 _ _ _ ((setRow_other _ _ _ _ (by omega)).trans hy)
      · rw [HFS.out]
        exact (below_setRow hB1 (by omega) _).setCell (p := ⟨B + 1, 0, none⟩) (by show w.heap.size ≤ B + 1; omega) _
    · have te : ((a0 : Int) == 1) = false := by rw [beq_eq_false_iff_ne]; omega
      gi_wp2
      exact ⟨KeepsFrom.refl _ _, Below.refl _ _, ⟨⟨by rw [foundF_snoc _ _ hf, if_neg ht], hx⟩, hy, hz⟩, hB1⟩
  case done =>
    rintro D xs W hD rfl ⟨⟨⟨hf, hx⟩, hy, hz⟩, hB1⟩ hK
    obtain ⟨d0, d1, d2, d3, d4, d5, d6⟩ := out_cells (show W.heap[B]? = some (.cells #[.int .u32 0, .int .u32 0, .int .u64 0, .int .u64 0, .int .u64 0, .int .u64 0, .int .u64 0] 37) from hx)
    have f0 := frozen_of_row W B 0 _ _ hx
    have f1 := frozen_of_row W B 1 _ _ hx
    have f2 := frozen_of_row W B 2 _ _ hx
    have f3 := frozen_of_row W B 3 _ _ hx
    have f4 := frozen_of_row W B 4 _ _ hx
    have f5 := frozen_of_row W B 5 _ _ hx
    have f6 := frozen_of_row W B 6 _ _ hx
    have g0 := frozen_of_row W (B + 1) 0 _ _ hy
    have e0 : W.cell? ⟨B + 1, 0, none⟩ = some (.bool false) := by rw [cell_of_row _ _ 0 _ _ _ hy]; rfl
    have HFS := Lib.hid (seven_stores (show W.heap[B]? = some (.cells #[.int .u32 0, .int .u32 0, .int .u64 0, .int .u64 0, .int .u64 0, .int .u64 0, .int .u64 0] 37) from hx) (.int .u32 0) (.int .u32 0) (.int .u64 0) (.int .u64 0) (.int .u64 0) (.int .u64 0) (.int .u64 0))
    have HZ : Hid (lastF ps = none) := Lib.hid (by rw [← found_all, hn]; exact hf)
    gi_wp2
    rw [HFS.out]
    have hsr : W.setRow B #[.int .u32 0, .int .u32 0, .int .u64 0, .int .u64 0, .int .u64 0, .int .u64 0, .int .u64 0] = W := setRow_self _ _ _ _ _ hx
    rw [hsr]
    have hy9 : (W.setCell ⟨B + 1, 0, none⟩ (.bool false)).heap[B + 1]? = some (.cells #[.bool false] 4) := heap_setCell_same _ (B + 1) 0 _ _ _ hy
    have hx9 : (W.setCell ⟨B + 1, 0, none⟩ (.bool false)).heap[B]? = some (.cells zProg 37) := (heap_setCell_other _ _ _ _ (show B ≠ B + 1 by omega)).trans hx
    have hK9 := (KeepsOthers.setCell W ⟨B + 1, 0, none⟩ (.bool false)).same D _ hK rfl
    have hB9 : Below w.heap.size w (W.setCell ⟨B + 1, 0, none⟩ (.bool false)) := hB1.setCell (p := ⟨B + 1, 0, none⟩) (by show w.heap.size ≤ B + 1; omega) _
    generalize W.setCell ⟨B + 1, 0, none⟩ (.bool false) = W9 at *
    refine ⟨by simp, .inl ⟨_, _, rfl, run_takeDeferred hK9, ?_⟩⟩
    have n1 : B ≠ D := fun e => by rw [e, hK9] at hx9; cases hx9
    have n2 : B + 1 ≠ D := fun e => by rw [e, hK9] at hy9; cases hy9
    have hxK : (W9.putObj D (.deferred none)).heap[B]? = some (.cells zProg 37) := (World.putObj_heap_other n1).trans hx9
    have hyK : (W9.putObj D (.deferred none)).heap[B + 1]? = some (.cells #[.bool false] 4) := (World.putObj_heap_other n2).trans hy9
    obtain ⟨q0, q1, q2, q3, q4, q5, q6⟩ := out_cells (show (W9.putObj D (.deferred none)).heap[B]? = some (.cells #[.int .u32 0, .int .u32 0, .int .u64 0, .int .u64 0, .int .u64 0, .int .u64 0, .int .u64 0] 37) from hxK)
    have r0 : (W9.putObj D (.deferred none)).cell? ⟨B + 1, 0, none⟩ = some (.bool false) := by rw [cell_of_row _ _ 0 _ _ _ hyK]; rfl
    refine ⟨.tuple #[.agg zProg, .bool false], ?_, ?_, hB9.trans (belowK_b (w := w) (Nat.le_refl _) W9 D _ _ (by omega) hK9 rfl rfl)⟩
    · simp [results, Tryd.f52, go_sem, q0, q1, q2, q3, q4, q5, q6, r0, zProg]
    · rw [HZ.out]
      rfl
  case stop =>
    rintro D c pre W hD ⟨k, hk, rfl⟩ ⟨⟨p, ⟨rfl, hf⟩, hx, hy⟩, hB1⟩ hK
    have HZ : Hid (lastF ps = some p) := Lib.hid (by
      have h := found_last ps k (by omega)
      rw [hf] at h
      have key : ∀ (A : List PT) (C : List PT) (q : PT), lastF C = some q → lastF (A ++ C) = some q := fun A C q hq => by
        induction A with
        | nil => exact hq
        | cons a A ih => simp only [List.cons_append, lastF, ih]
      have := key (ps.take (ps.length - k)) _ _ h
      rwa [List.take_append_drop] at this)
    gi_wp2
    refine ⟨by simp, .inl ⟨_, _, rfl, run_takeDeferred hK, ?_⟩⟩
    have n1 : B ≠ D := fun e => by rw [e, hK] at hx; cases hx
    have n2 : B + 1 ≠ D := fun e => by rw [e, hK] at hy; cases hy
    obtain ⟨a0, a1, a2, a3, a4, a5, a6⟩ := p
    have hxK : (W.putObj D (.deferred none)).heap[B]? = some (.cells #[.int .u32 a0, .int .u32 a1, .int .u64 a2, .int .u64 a3, .int .u64 a4, .int .u64 a5, .int .u64 a6] 37) := (World.putObj_heap_other n1).trans hx
    have hyK : (W.putObj D (.deferred none)).heap[B + 1]? = some (.cells #[.bool true] 4) := (World.putObj_heap_other n2).trans hy
    obtain ⟨q0, q1, q2, q3, q4, q5, q6⟩ := out_cells hxK
    have r0 : (W.putObj D (.deferred none)).cell? ⟨B + 1, 0, none⟩ = some (.bool true) := by rw [cell_of_row _ _ 0 _ _ _ hyK]; rfl
    refine ⟨.tuple #[.agg #[.int .u32 a0, .int .u32 a1, .int .u64 a2, .int .u64 a3, .int .u64 a4, .int .u64 a5, .int .u64 a6], .bool true], ?_, ?_, hB1.trans (belowK_b (w := w) (Nat.le_refl _) W D _ _ (by omega) hK rfl rfl)⟩
    · simp [results, Tryd.f52, go_sem, q0, q1, q2, q3, q4, q5, q6, r0]
    · rw [HZ.out]
      rfl
theorem lastload_any (r : HRd) (ps : List PT) (w : World) (h : r.at w) (hp : PRow w r.pa ps) (hn : ps.length = r.pn) (hnl : r.pn ≤ 140737488351232) :
    Calls Tryd.prog 52 #[.pointer (some ⟨r.rb, 0, none⟩)] w fun e W' => e = .returned (.tuple #[((lastF ps).getD PT.zero).hv, .bool (lastF ps).isSome]) ∧ Below w.heap.size w W' :=
  (callsIn_wide (n := 6)).1 (lastload_in 6 (by omega) r ps w h hp hn hnl)
end Go.Proofs.YtmjfkcclhbpclaaDoor
