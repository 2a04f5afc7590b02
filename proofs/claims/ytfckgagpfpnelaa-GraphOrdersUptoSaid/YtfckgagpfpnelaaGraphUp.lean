/- Layer 16: the examples at the head of the statements; small. -/
import Derived.Test.YtfckgagpfpnelaaGraphBegin
import Derived.Test.YtfckgagpfpnelaaGraphRefLive
namespace Go.Proofs.Ytfckgagpfpnelaa
open Go.RowKit
set_option linter.unusedVariables false
set_option linter.unusedSimpArgs false

def D4 : List (List Int) := [[1, 2], [3], [3], []]
def D2 : List (List Int) := [[1], [0]]
def D3 : List (List Int) := [[1], [], [1]]

theorem i64_small {xs : List Int} (h : ∀ x ∈ xs, 0 ≤ x ∧ x < 4) : I64s xs := fun x hx => by have := h x hx; omega

/-- a block of cells -/
def Blk (w : World) (b : Nat) (cs : Array Value) (T : TypeId) : Prop := w.heap[b]? = some (.cells cs T)
theorem Blk.new (w : World) (cs : Array Value) (T : TypeId) {b : Nat} (hb : b = w.heap.size) : Blk (w.alloc (.cells cs T)) b cs T := by subst hb; exact heap_alloc_new _ _
theorem Blk.alloc {w : World} {b : Nat} {cs : Array Value} {T : TypeId} (h : Blk w b cs T) (o : Obj) : Blk (w.alloc o) b cs T := (heap_alloc_old w o (lt_of_block h)).trans h
theorem Blk.below {w w' : World} {b : Nat} {cs : Array Value} {T : TypeId} (h : Blk w b cs T) (hb : Below w.heap.size w w') : Blk w' b cs T := (hb.block b (lt_of_block h)).trans h
theorem Blk.row {w : World} {b : Nat} {cs : Array Value} {T : TypeId} {xs : List Int} (h : Blk w b cs T) (e : cs = (xs.map (Value.int .i64)).toArray) : Row .i64 w (some ⟨b, 0, none⟩) xs := by
  subst e
  intro i hi
  refine ⟨b, 0, rfl, ?_⟩
  rw [cell_of_row w b (0 + i) _ _ _ h]
  simp [hi]
theorem Row.nil0 (w : World) : Row .i64 w none [] := fun i hi => by simp at hi
theorem drow_lit {w : World} {b : Nat} {cs : Array Value} {T : TypeId} {L : List (List Int)} (h : Blk w b cs T) (hc : ∀ i, i < L.length → ∃ ai ci, cs[i]? = some (.slice ai (L.getD i []).length ci) ∧ Row .i64 w ai (L.getD i []) ∧ I64s (L.getD i []) ∧ (L.getD i []).length ≤ 1048576) : DRow w (some ⟨b, 0, none⟩) L := by
  intro i hi
  obtain ⟨ai, ci, h1, h2, h3, h4⟩ := hc i hi
  refine ⟨b, 0, ai, ci, rfl, lt_of_block h, ?_, h2, h3, h4⟩
  rw [Nat.zero_add]
  rw [cell_of_row w b i _ _ _ h, h1]

theorem d4_row (w : World) : DRow ((((w.alloc (.cells #[.int .i64 1, .int .i64 2] 3)).alloc (.cells #[.int .i64 3] 3)).alloc (.cells #[.int .i64 3] 3)).alloc (.cells #[.slice (some ⟨w.heap.size, 0, none⟩) 2 2, .slice (some ⟨w.heap.size + 1, 0, none⟩) 1 1, .slice (some ⟨w.heap.size + 1 + 1, 0, none⟩) 1 1, .slice none 0 0] 23)) (some ⟨w.heap.size + 1 + 1 + 1, 0, none⟩) D4 := by
  refine drow_lit (Blk.new _ _ _ (by simp)) (fun i hi => ?_)
  have b0 := (((Blk.new w #[.int .i64 1, .int .i64 2] 3 rfl).alloc (.cells #[.int .i64 3] 3)).alloc (.cells #[.int .i64 3] 3)).alloc (.cells #[.slice (some ⟨w.heap.size, 0, none⟩) 2 2, .slice (some ⟨w.heap.size + 1, 0, none⟩) 1 1, .slice (some ⟨w.heap.size + 1 + 1, 0, none⟩) 1 1, .slice none 0 0] 23)
  have b1 := ((Blk.new (w.alloc (.cells #[.int .i64 1, .int .i64 2] 3)) #[.int .i64 3] 3 (b := w.heap.size + 1) (by simp)).alloc (.cells #[.int .i64 3] 3)).alloc (.cells #[.slice (some ⟨w.heap.size, 0, none⟩) 2 2, .slice (some ⟨w.heap.size + 1, 0, none⟩) 1 1, .slice (some ⟨w.heap.size + 1 + 1, 0, none⟩) 1 1, .slice none 0 0] 23)
  have b2 := (Blk.new ((w.alloc (.cells #[.int .i64 1, .int .i64 2] 3)).alloc (.cells #[.int .i64 3] 3)) #[.int .i64 3] 3 (b := w.heap.size + 1 + 1) (by simp)).alloc (.cells #[.slice (some ⟨w.heap.size, 0, none⟩) 2 2, .slice (some ⟨w.heap.size + 1, 0, none⟩) 1 1, .slice (some ⟨w.heap.size + 1 + 1, 0, none⟩) 1 1, .slice none 0 0] 23)
  match i, hi with
  | 0, _ => exact ⟨_, _, rfl, b0.row rfl, i64_small (by decide), by decide⟩
  | 1, _ => exact ⟨_, _, rfl, b1.row rfl, i64_small (by decide), by decide⟩
  | 2, _ => exact ⟨_, _, rfl, b2.row rfl, i64_small (by decide), by decide⟩
  | 3, _ => exact ⟨none, 0, rfl, Row.nil0 _, i64_small (by decide), by decide⟩
theorem d2_row (w : World) : DRow (((w.alloc (.cells #[.int .i64 1] 3)).alloc (.cells #[.int .i64 0] 3)).alloc (.cells #[.slice (some ⟨w.heap.size, 0, none⟩) 1 1, .slice (some ⟨w.heap.size + 1, 0, none⟩) 1 1] 23)) (some ⟨w.heap.size + 1 + 1, 0, none⟩) D2 := by
  refine drow_lit (Blk.new _ _ _ (by simp)) (fun i hi => ?_)
  have b0 := ((Blk.new w #[.int .i64 1] 3 rfl).alloc (.cells #[.int .i64 0] 3)).alloc (.cells #[.slice (some ⟨w.heap.size, 0, none⟩) 1 1, .slice (some ⟨w.heap.size + 1, 0, none⟩) 1 1] 23)
  have b1 := (Blk.new (w.alloc (.cells #[.int .i64 1] 3)) #[.int .i64 0] 3 (b := w.heap.size + 1) (by simp)).alloc (.cells #[.slice (some ⟨w.heap.size, 0, none⟩) 1 1, .slice (some ⟨w.heap.size + 1, 0, none⟩) 1 1] 23)
  match i, hi with
  | 0, _ => exact ⟨_, _, rfl, b0.row rfl, i64_small (by decide), by decide⟩
  | 1, _ => exact ⟨_, _, rfl, b1.row rfl, i64_small (by decide), by decide⟩
theorem d3_row (w : World) : DRow (((w.alloc (.cells #[.int .i64 1] 3)).alloc (.cells #[.int .i64 1] 3)).alloc (.cells #[.slice (some ⟨w.heap.size, 0, none⟩) 1 1, .slice none 0 0, .slice (some ⟨w.heap.size + 1, 0, none⟩) 1 1] 23)) (some ⟨w.heap.size + 1 + 1, 0, none⟩) D3 := by
  refine drow_lit (Blk.new _ _ _ (by simp)) (fun i hi => ?_)
  have b0 := ((Blk.new w #[.int .i64 1] 3 rfl).alloc (.cells #[.int .i64 1] 3)).alloc (.cells #[.slice (some ⟨w.heap.size, 0, none⟩) 1 1, .slice none 0 0, .slice (some ⟨w.heap.size + 1, 0, none⟩) 1 1] 23)
  have b1 := (Blk.new (w.alloc (.cells #[.int .i64 1] 3)) #[.int .i64 1] 3 (b := w.heap.size + 1) (by simp)).alloc (.cells #[.slice (some ⟨w.heap.size, 0, none⟩) 1 1, .slice none 0 0, .slice (some ⟨w.heap.size + 1, 0, none⟩) 1 1] 23)
  match i, hi with
  | 0, _ => exact ⟨_, _, rfl, b0.row rfl, i64_small (by decide), by decide⟩
  | 1, _ => exact ⟨none, 0, rfl, Row.nil0 _, i64_small (by decide), by decide⟩
  | 2, _ => exact ⟨_, _, rfl, b1.row rfl, i64_small (by decide), by decide⟩

/-- what a list that is answered gives to a caller who began at w0 -/
theorem ListAns.at {R : List Nat} {w0 w w' : World} {e : Ending} (h : ListAns R w e w') (hb : Below w0.heap.size w0 w) : ∃ ad c, e = .returned (.slice ad R.length c) ∧ Row .i64 w' ad (toI R) ∧ Below w0.heap.size w0 w' ∧ Below w.heap.size w w' := by
  obtain ⟨ad, c, rfl, ho, hb2⟩ := h
  have h2 := ho.at.2.1
  exact ⟨ad, c, rfl, h2, hb.trans (hb2.mono hb.size), hb2⟩


theorem up_scope (w0 w : World) (da ra : Option Addr) (h : Below w0.heap.size w0 w) (hd : DRow w da D4) (hr : Row .i64 w ra [0]) : Calls Try.prog 10 #[.slice da 4 4, .slice ra 1 1] w fun e w' =>
    ∃ ad c, e = .returned (.slice ad 4 c) ∧ Row .i64 w' ad [0, 1, 2, 3] ∧ Below w0.heap.size w0 w' ∧ Below w.heap.size w w' := by
  refine (scope_any w da 4 D4 ra 1 [0] (by decide) hd hr (i64_small (by decide)) (by decide)).mono ?_
  intro e w' ht
  rw [show scopeF D4 [0] = [0, 1, 2, 3] from by decide +kernel] at ht
  exact ht.at h
theorem up_begin (w0 w : World) (da ra : Option Addr) (h : Below w0.heap.size w0 w) (hd : DRow w da D4) (hr : Row .i64 w ra [0]) : Calls Try.prog 12 #[.slice da 4 4, .slice ra 1 1] w fun e w' =>
    ∃ ad c, e = .returned (.slice ad 4 c) ∧ Row .i64 w' ad [3, 1, 2, 0] ∧ Below w0.heap.size w0 w' ∧ Below w.heap.size w w' := by
  refine (begin_any w da 4 D4 ra 1 [0] (by decide) hd hr (i64_small (by decide)) (by decide)).mono ?_
  intro e w' ht
  rw [show beginF D4 [0] = [3, 1, 2, 0] from by decide +kernel] at ht
  exact ht.at h
theorem up_begin2 (w0 w : World) (da ra : Option Addr) (h : Below w0.heap.size w0 w) (hd : DRow w da D2) (hr : Row .i64 w ra [1]) : Calls Try.prog 12 #[.slice da 2 2, .slice ra 1 1] w fun e w' =>
    ∃ ad c, e = .returned (.slice ad 2 c) ∧ Row .i64 w' ad [0, 1] ∧ Below w0.heap.size w0 w' ∧ Below w.heap.size w w' := by
  refine (begin_any w da 2 D2 ra 1 [1] (by decide) hd hr (i64_small (by decide)) (by decide)).mono ?_
  intro e w' ht
  rw [show beginF D2 [1] = [0, 1] from by decide +kernel] at ht
  exact ht.at h
theorem up_live (w0 w : World) (da ra : Option Addr) (h : Below w0.heap.size w0 w) (hd : DRow w da D3) (hr : Row .i64 w ra [0, 0, 1]) : Calls Try.prog 14 #[.slice da 3 3, .slice ra 3 3] w fun e w' =>
    ∃ g, e = .returned (.slice (some ⟨g, 0, none⟩) 3 3) ∧ w'.cell? ⟨g, 0, none⟩ = some (.bool false) ∧ w'.cell? ⟨g, 1, none⟩ = some (.bool true) ∧ w'.cell? ⟨g, 2, none⟩ = some (.bool true) ∧ Below w0.heap.size w0 w' ∧ Below w.heap.size w w' := by
  refine (live_any w da 3 D3 ra 3 [0, 0, 1] (by decide) hd hr (i64_small (by decide)) (by decide)).mono ?_
  rintro e w' ⟨g, rfl, ho, hb⟩
  rw [show scopeF D3 (asked [0, 0, 1]) = [2, 1] from by decide +kernel] at ho
  refine ⟨g, rfl, ?_, ?_, ?_, h.trans (hb.mono h.size), hb⟩
  · exact (ho.cell (i := 0) (by decide)).trans rfl
  · exact (ho.cell (i := 1) (by decide)).trans rfl
  · exact (ho.cell (i := 2) (by decide)).trans rfl
theorem up_loop (w0 w : World) (da : Option Addr) (h : Below w0.heap.size w0 w) (hd : DRow w da D4) : Calls Try.prog 16 #[.slice da 4 4] w fun e w' => e = .returned (.bool false) ∧ Below w0.heap.size w0 w' ∧ Below w.heap.size w w' := by
  refine (loop_any w da 4 D4 (by decide) hd).mono ?_
  rintro e w' ⟨rfl, hb⟩
  rw [← ring_loopB, show (walkF D4 (allL D4.length)).ring = false from by decide +kernel]
  exact ⟨rfl, h.trans (hb.mono h.size), hb⟩
theorem up_loop2 (w0 w : World) (da : Option Addr) (h : Below w0.heap.size w0 w) (hd : DRow w da D2) : Calls Try.prog 16 #[.slice da 2 2] w fun e w' => e = .returned (.bool true) ∧ Below w0.heap.size w0 w' ∧ Below w.heap.size w w' := by
  refine (loop_any w da 2 D2 (by decide) hd).mono ?_
  rintro e w' ⟨rfl, hb⟩
  rw [← ring_loopB, show (walkF D2 (allL D2.length)).ring = true from by decide +kernel]
  exact ⟨rfl, h.trans (hb.mono h.size), hb⟩
theorem up_same (w0 w : World) (a b : Option Addr) (c d m : Nat) (xs : List Int) (h : Below w0.heap.size w0 w) (hm : xs.length = m) (hml : m ≤ 140737488351232) (ha : Row .i64 w a xs) (hb : Row .i64 w b xs) : Calls Try.prog 9 #[.slice a m c, .slice b m d] w fun e w' => e = .returned (.bool true) ∧ Below w0.heap.size w0 w' ∧ Below w.heap.size w w' := by
  refine (same_eq a b c d m xs w hm hml ha hb).mono ?_
  rintro e w' ⟨rfl, hb⟩
  exact ⟨rfl, h.trans (hb.mono h.size), hb⟩
theorem below_alloc {w0 w : World} (h : Below w0.heap.size w0 w) (o : Obj) : Below w0.heap.size w0 (w.alloc o) := h.alloc h.size o

set_option maxHeartbeats 4000000 in
theorem up_true (w : World) : Calls Try.prog 7 #[] w fun e w' => e = .returned (.bool true) ∧ Below w.heap.size w w' := by
  have H1 := Lib.hid (up_scope w)
  have H2 := Lib.hid (up_begin w)
  have H3 := Lib.hid (up_begin2 w)
  have H4 := Lib.hid (up_live w)
  have H5 := Lib.hid (up_loop w)
  have H6 := Lib.hid (up_loop2 w)
  have HS := Lib.hid (up_same w)
  have DR := Lib.hid (d4_row w)
  go_enter Try.func7, Try.ntmps7
  go_wp2_with fail
  have B1 : Hid (Below w.heap.size w ((((w.alloc (.cells #[.int .i64 1, .int .i64 2] 3)).alloc (.cells #[.int .i64 3] 3)).alloc (.cells #[.int .i64 3] 3)).alloc (.cells #[.slice (some ⟨w.heap.size, 0, none⟩) 2 2, .slice (some ⟨w.heap.size + 1, 0, none⟩) 1 1, .slice (some ⟨w.heap.size + 1 + 1, 0, none⟩) 1 1, .slice none 0 0] 23))) := Lib.hid (below_alloc (below_alloc (below_alloc (below_alloc (Below.refl _ _) _) _) _) _)
  have R0 : Hid (∀ w' : World, Row .i64 (w'.alloc (.cells #[.int .i64 0] 3)) (some ⟨w'.heap.size, 0, none⟩) [0]) := Lib.hid (fun w' => Row.new .i64 w' [0] _)
  refine (H1.out _ _ _ (below_alloc B1.out _) (DR.out.below (below_alloc (Below.refl _ _) _)) (by have := R0.out ((((w.alloc (.cells #[.int .i64 1, .int .i64 2] 3)).alloc (.cells #[.int .i64 3] 3)).alloc (.cells #[.int .i64 3] 3)).alloc (.cells #[.slice (some ⟨w.heap.size, 0, none⟩) 2 2, .slice (some ⟨w.heap.size + 1, 0, none⟩) 1 1, .slice (some ⟨w.heap.size + 1 + 1, 0, none⟩) 1 1, .slice none 0 0] 23)); simpa using this)).mono ?_
  rintro e w1 ⟨a1, c1, rfl, hr1, hb1, hs1⟩
  have RR1 := Lib.hid hr1; have BB1 := Lib.hid hb1; have DD1 := Lib.hid ((DR.out.below (below_alloc (Below.refl _ _) _)).below hs1); clear hr1 hb1 hs1 DR B1
  generalize w.heap.size + 1 + 1 + 1 = d4 at *
  go_wp2_with fail
  refine (HS.out _ _ _ _ _ 4 [0, 1, 2, 3] (below_alloc BB1.out _) rfl (by decide) (RR1.out.below (below_alloc (Below.refl _ _) _)) (Row.new .i64 w1 [0, 1, 2, 3] _)).mono ?_
  rintro e w2 ⟨rfl, hb2, hs2⟩
  have BB2 := Lib.hid hb2; have DD2 := Lib.hid (DD1.out.below (bstep (below_alloc (Below.refl _ _) _) hs2)); clear hb2 hs2 DD1 RR1 BB1
  go_wp2_with fail
  refine (H2.out _ _ _ (below_alloc BB2.out _) (DD2.out.below (below_alloc (Below.refl _ _) _)) (R0.out w2)).mono ?_
  rintro e w3 ⟨a3, c3, rfl, hr3, hb3, hs3⟩
  have RR3 := Lib.hid hr3; have BB3 := Lib.hid hb3; have DD3 := Lib.hid (DD2.out.below (bstep (below_alloc (Below.refl _ _) _) hs3)); clear hr3 hb3 hs3 DD2 BB2
  go_wp2_with fail
  refine (HS.out _ _ _ _ _ 4 [3, 1, 2, 0] (below_alloc BB3.out _) rfl (by decide) (RR3.out.below (below_alloc (Below.refl _ _) _)) (Row.new .i64 w3 [3, 1, 2, 0] _)).mono ?_
  rintro e w4 ⟨rfl, hb4, hs4⟩
  have BB4 := Lib.hid hb4; have DD4 := Lib.hid (DD3.out.below (bstep (below_alloc (Below.refl _ _) _) hs4)); clear hb4 hs4 DD3 RR3 BB3
  have E4 := Lib.hid (d2_row w4)
  go_wp2_with fail
  have BE4 := Lib.hid (below_alloc (below_alloc (below_alloc BB4.out (.cells #[.int .i64 1] 3)) (.cells #[.int .i64 0] 3)) (.cells #[.slice (some ⟨w4.heap.size, 0, none⟩) 1 1, .slice (some ⟨w4.heap.size + 1, 0, none⟩) 1 1] 23))
  have BD4 := Lib.hid (below_alloc (below_alloc (below_alloc (Below.refl w4.heap.size w4) (.cells #[.int .i64 1] 3)) (.cells #[.int .i64 0] 3)) (.cells #[.slice (some ⟨w4.heap.size, 0, none⟩) 1 1, .slice (some ⟨w4.heap.size + 1, 0, none⟩) 1 1] 23))
  refine (H3.out _ _ _ (below_alloc BE4.out _) (E4.out.below (below_alloc (Below.refl _ _) _)) (by have := Row.new .i64 (((w4.alloc (.cells #[.int .i64 1] 3)).alloc (.cells #[.int .i64 0] 3)).alloc (.cells #[.slice (some ⟨w4.heap.size, 0, none⟩) 1 1, .slice (some ⟨w4.heap.size + 1, 0, none⟩) 1 1] 23)) [1] 3; simpa using this)).mono ?_
  rintro e w5 ⟨a5, c5, rfl, hr5, hb5, hs5⟩
  have RR5 := Lib.hid hr5; have BB5 := Lib.hid hb5; have DD5 := Lib.hid (DD4.out.below (bstep (below_alloc BD4.out _) hs5)); clear hr5 hb5 hs5 DD4 BB4 E4 BE4 BD4
  go_wp2_with fail
  refine (HS.out _ _ _ _ _ 2 [0, 1] (below_alloc BB5.out _) rfl (by decide) (RR5.out.below (below_alloc (Below.refl _ _) _)) (Row.new .i64 w5 [0, 1] _)).mono ?_
  rintro e w6 ⟨rfl, hb6, hs6⟩
  have BB6 := Lib.hid hb6; have DD6 := Lib.hid (DD5.out.below (bstep (below_alloc (Below.refl _ _) _) hs6)); clear hb6 hs6 DD5 RR5 BB5
  have E6 := Lib.hid (d3_row w6)
  have BE6 := Lib.hid (below_alloc (below_alloc (below_alloc BB6.out (.cells #[.int .i64 1] 3)) (.cells #[.int .i64 1] 3)) (.cells #[.slice (some ⟨w6.heap.size, 0, none⟩) 1 1, .slice none 0 0, .slice (some ⟨w6.heap.size + 1, 0, none⟩) 1 1] 23))
  have BD6 := Lib.hid (below_alloc (below_alloc (below_alloc (Below.refl w6.heap.size w6) (.cells #[.int .i64 1] 3)) (.cells #[.int .i64 1] 3)) (.cells #[.slice (some ⟨w6.heap.size, 0, none⟩) 1 1, .slice none 0 0, .slice (some ⟨w6.heap.size + 1, 0, none⟩) 1 1] 23))
  go_wp2_with fail
  refine (H4.out _ _ _ (below_alloc BE6.out _) (E6.out.below (below_alloc (Below.refl _ _) _)) (by have := Row.new .i64 (((w6.alloc (.cells #[.int .i64 1] 3)).alloc (.cells #[.int .i64 1] 3)).alloc (.cells #[.slice (some ⟨w6.heap.size, 0, none⟩) 1 1, .slice none 0 0, .slice (some ⟨w6.heap.size + 1, 0, none⟩) 1 1] 23)) [0, 0, 1] 3; simpa using this)).mono ?_
  rintro e w7 ⟨g7, rfl, hc70, hc71, hc72, hb7, hs7⟩
  have BB7 := Lib.hid hb7; have DD7 := Lib.hid (DD6.out.below (bstep (below_alloc BD6.out _) hs7)); clear hb7 hs7 DD6 BB6 E6 BE6 BD6
  go_wp2_with fail
  refine (H5.out _ _ BB7.out DD7.out).mono ?_
  rintro e w8 ⟨rfl, hb8, hs8⟩
  have BB8 := Lib.hid hb8; clear hb8 hs8 DD7 BB7
  have E8 := Lib.hid (d2_row w8)
  have BE8 := Lib.hid (below_alloc (below_alloc (below_alloc BB8.out (.cells #[.int .i64 1] 3)) (.cells #[.int .i64 0] 3)) (.cells #[.slice (some ⟨w8.heap.size, 0, none⟩) 1 1, .slice (some ⟨w8.heap.size + 1, 0, none⟩) 1 1] 23))
  go_wp2_with fail
  refine (H6.out _ _ BE8.out E8.out).mono ?_
  rintro e w9 ⟨rfl, hb9, hs9⟩
  have BB9 := Lib.hid hb9; clear hb9 hs9 BB8 E8 BE8
  go_wp2_with fail
  go_ret
  exact ⟨rfl, BB9.out⟩
end Go.Proofs.Ytfckgagpfpnelaa
