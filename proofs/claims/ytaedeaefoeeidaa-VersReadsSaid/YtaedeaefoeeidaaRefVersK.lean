/- Layer 8, the document's own answer: the versions of a file. -/
import Derived.Test.YtaedeaefoeeidaaRefVersG
import Derived.Test.YtaedeaefoeeidaaVersReadM
namespace Go.Proofs.Ytaedeaefoeeidaa
open Go.RowKit Go.Maps
set_option linter.unusedVariables false
set_option linter.unusedSimpArgs false

/-- versions in memory that can be read -/
def RdDefs (w : World) (ds : List DefD) (rows : List (List Value)) : Prop := rows.length = ds.length ∧ ∀ i (h1 : i < ds.length) (h2 : i < rows.length), ∃ pa pc, rows[i] = [.int .i64 (ds[i].idx : Int), .bool ds[i].base, .string ds[i].name, .slice pa ds[i].parents.length pc] ∧ TRow w pa ds[i].parents
def RdNeeds (w : World) (ds : List NeedD) (rows : List (List Value)) : Prop := rows.length = ds.length ∧ ∀ i (h1 : i < ds.length) (h2 : i < rows.length), ∃ pa pc, rows[i] = [.string ds[i].file, .slice pa ds[i].aux.length pc] ∧ RowS w 3 pa (auxRows ds[i].aux)
structure VRd (X : VersD) (w : World) (oa da na : Option Addr) (drows nrows : List (List Value)) : Prop where
  of : Row .i64 w oa (toI X.of)
  ds : RowS w 4 da drows
  defs : RdDefs w X.defs drows
  ns : RowS w 2 na nrows
  needs : RdNeeds w X.needs nrows
theorem RdDefs.below {w w' : World} {ds : List DefD} {rows : List (List Value)} (h : RdDefs w ds rows) (hb : Below w.heap.size w w') : RdDefs w' ds rows :=
  ⟨h.1, fun i h1 h2 => by obtain ⟨pa, pc, e, ht⟩ := h.2 i h1 h2; exact ⟨pa, pc, e, ht.below hb⟩⟩
theorem RdNeeds.below {w w' : World} {ds : List NeedD} {rows : List (List Value)} (h : RdNeeds w ds rows) (hb : Below w.heap.size w w') : RdNeeds w' ds rows :=
  ⟨h.1, fun i h1 h2 => by obtain ⟨pa, pc, e, ht⟩ := h.2 i h1 h2; exact ⟨pa, pc, e, ht.below hb⟩⟩
theorem VRd.below {X : VersD} {w w' : World} {oa da na : Option Addr} {drows nrows : List (List Value)} (h : VRd X w oa da na drows nrows) (hb : Below w.heap.size w w') : VRd X w' oa da na drows nrows :=
  ⟨h.of.below hb, h.ds.below hb, h.defs.below hb, h.ns.below hb, h.needs.below hb⟩
theorem VRd.zero (w : World) : VRd .zero w none none none [] [] :=
  ⟨fun i hi => absurd hi (Nat.not_lt_zero _), fun i hi => absurd hi (Nat.not_lt_zero _), ⟨rfl, fun i h => absurd h (Nat.not_lt_zero _)⟩, fun i hi => absurd hi (Nat.not_lt_zero _), ⟨rfl, fun i h => absurd h (Nat.not_lt_zero _)⟩⟩
theorem RDRows.rd {w : World} {B : Nat} {ds : List DefD} {rows : List (List Value)} (h : RDRows w B ds rows) : RdDefs w ds rows := by
  refine ⟨h.len, fun i h1 h2 => ?_⟩
  obtain ⟨pa, pc, v, ns, e, ho, hp⟩ := h.at i h1 h2
  exact ⟨pa, pc, e, hp w ho⟩
theorem DefRows.rd {w : World} {B : Nat} {ds : List DefD} {rows : List (List Value)} (h : DefRows w B ds rows) : RdDefs w ds rows := by
  refine ⟨h.len, fun i h1 h2 => ?_⟩
  obtain ⟨pa, pc, e, ho⟩ := h.at i h1 h2
  exact ⟨pa, pc, e, names_trow ho⟩
theorem NeedRows.rd {w : World} {B : Nat} {ds : List NeedD} {rows : List (List Value)} (h : NeedRows w B ds rows) : RdNeeds w ds rows := by
  refine ⟨h.len, fun i h1 h2 => ?_⟩
  obtain ⟨pa, pc, e, ho⟩ := h.at i h1 h2
  exact ⟨pa, pc, e, ho.at.2.1⟩

def RVersAns (X : VersD × Nat) (w : World) (e : Ending) (w' : World) : Prop :=
  ∃ oa oc da dc drows na nc nrows, e = .returned (.tuple #[.agg #[.bool X.1.has, .slice oa X.1.of.length oc, .slice da X.1.defs.length dc, .slice na X.1.needs.length nc], .int .i64 (X.2 : Int)]) ∧ VRd X.1 w' oa da na drows nrows ∧ Below w.heap.size w w'
theorem RVersAns.no {X : VersD × Nat} {w w' : World} {c : Nat} {v : Value} (hX : X = (.zero, c)) (hb : Below w.heap.size w w') (hv : v = .agg #[.bool false, .slice none 0 0, .slice none 0 0, .slice none 0 0]) : RVersAns X w (.returned (.tuple #[v, .int .i64 (c : Int)])) w' := by
  subst hv hX
  exact ⟨none, 0, none, 0, [], none, 0, [], rfl, VRd.zero _, hb⟩

def zeroC : Array Value := #[.bool false, .slice none 0 0, .slice none 0 0, .slice none 0 0]
/-- a box of a nil answer: what it holds, and that nothing is changed where that is stored again -/
theorem zero_at {w : World} {b : Nat} {T : TypeId} (h : w.heap[b]? = some (.cells zeroC T)) :
    (w.cell? ⟨b, 0, none⟩ = some (.bool false) ∧ w.cell? ⟨b, 1, none⟩ = some (.slice none 0 0) ∧ w.cell? ⟨b, 2, none⟩ = some (.slice none 0 0) ∧ w.cell? ⟨b, 3, none⟩ = some (.slice none 0 0)) ∧
    (w.setCell ⟨b, 0, none⟩ (.bool false) = w ∧ w.setCell ⟨b, 1, none⟩ (.slice none 0 0) = w ∧ w.setCell ⟨b, 2, none⟩ (.slice none 0 0) = w ∧ w.setCell ⟨b, 3, none⟩ (.slice none 0 0) = w) ∧
    (w.frozen? ⟨b, 0, none⟩ = false ∧ w.frozen? ⟨b, 1, none⟩ = false ∧ w.frozen? ⟨b, 2, none⟩ = false ∧ w.frozen? ⟨b, 3, none⟩ = false) := by
  refine ⟨⟨?_, ?_, ?_, ?_⟩, ⟨?_, ?_, ?_, ?_⟩, ⟨frozen_of_row w b 0 _ _ h, frozen_of_row w b 1 _ _ h, frozen_of_row w b 2 _ _ h, frozen_of_row w b 3 _ _ h⟩⟩
  · rw [cell_of_row w b 0 _ _ _ h]; rfl
  · rw [cell_of_row w b 1 _ _ _ h]; rfl
  · rw [cell_of_row w b 2 _ _ _ h]; rfl
  · rw [cell_of_row w b 3 _ _ _ h]; rfl
  · rw [setCell_eq_setRow w b 0 _ _ _ _ h]; exact setRow_self w b _ _ _ h
  · rw [setCell_eq_setRow w b 1 _ _ _ _ h]; exact setRow_self w b _ _ _ h
  · rw [setCell_eq_setRow w b 2 _ _ _ _ h]; exact setRow_self w b _ _ _ h
  · rw [setCell_eq_setRow w b 3 _ _ _ _ h]; exact setRow_self w b _ _ _ h
def refRead0 (w : World) (ty en : Int) (p : Option Addr) (pl pc : Nat) (D : Array Value) : World :=
  (((w.alloc (.cells #[.int .i64 ty, .int .u64 en, .slice p pl pc] 26)).alloc (.cells D 29)).alloc (.cells zeroC 35)).alloc (.cells zeroC 35)
theorem refRead0_facts (w : World) (ty en : Int) (p : Option Addr) (pl pc : Nat) (D : Array Value) :
    Below w.heap.size w (refRead0 w ty en p pl pc D) ∧ (refRead0 w ty en p pl pc D).heap.size = w.heap.size + 4 ∧
    (refRead0 w ty en p pl pc D).heap[w.heap.size]? = some (.cells #[.int .i64 ty, .int .u64 en, .slice p pl pc] 26) ∧
    (refRead0 w ty en p pl pc D).heap[w.heap.size + 1]? = some (.cells D 29) ∧
    (refRead0 w ty en p pl pc D).heap[w.heap.size + 2]? = some (.cells zeroC 35) ∧
    (refRead0 w ty en p pl pc D).heap[w.heap.size + 3]? = some (.cells zeroC 35) := by
  unfold refRead0
  refine ⟨((((Below.refl _ _).alloc (Nat.le_refl _) _).alloc (by simp) _).alloc (by simp; omega) _).alloc (by simp; omega) _, by simp, ?_, ?_, ?_, ?_⟩
  · exact (heap_alloc_old _ _ (by simp <;> omega)).trans ((heap_alloc_old _ _ (by simp <;> omega)).trans ((heap_alloc_old _ _ (by simp)).trans (heap_alloc_new _ _)))
  · exact (heap_alloc_old _ _ (by simp <;> omega)).trans ((heap_alloc_old _ _ (by simp)).trans (by
      have := heap_alloc_new (w.alloc (.cells #[.int .i64 ty, .int .u64 en, .slice p pl pc] 26)) (.cells D 29)
      simpa using this))
  · exact (heap_alloc_old _ _ (by simp)).trans (by
      have := heap_alloc_new ((w.alloc (.cells #[.int .i64 ty, .int .u64 en, .slice p pl pc] 26)).alloc (.cells D 29)) (.cells zeroC 35)
      simpa using this)
  · have := heap_alloc_new (((w.alloc (.cells #[.int .i64 ty, .int .u64 en, .slice p pl pc] 26)).alloc (.cells D 29)).alloc (.cells zeroC 35)) (.cells zeroC 35)
    simpa using this
theorem refNW_any (a : Option Addr) (cap n : Nat) (bs : List Nat) (k : Nat) (w : World) (h : BRow w a bs) (hl : bs.length = n) (hc : n ≤ cap) (hn : n ≤ 8192) (hj : 2 * k + 2 ≤ n) :
    Calls Try.prog 18 #[.slice a n cap, .int .i64 (2 * (k : Int)), .int .i64 (2 * (k : Int) + 2)] w fun e w' => e = .returned (.int .u64 ((wordAt bs k : Nat) : Int)) ∧ w = w' := by
  have hlen : ((bs.drop (2 * k)).take 2).length = 2 := by rw [List.length_take, List.length_drop]; omega
  have HNU := refNumber_any (a.map fun x => x.add (2 * k)) (cap - 2 * k) ((bs.drop (2 * k)).take 2) w (h.cut (2 * k) 2) (by omega)
  rw [hlen] at HNU
  have HN := Lib.hid HNU
  have hci : ¬ cap = 2 * k := by omega
  unfold wordAt
  generalize numOf ((bs.drop (2 * k)).take 2) = q at *
  have e1 : (2 * (k : Int)) = ((2 * k : Nat) : Int) := by omega
  have e2 : (2 * (k : Int) + 2) = ((2 * k + 2 : Nat) : Int) := by omega
  have e3 : 2 * k + 2 - 2 * k = 2 := by omega
  rw [e2, e1]
  obtain ⟨i, hi⟩ : ∃ i, 2 * k = i := ⟨_, rfl⟩
  rw [hi] at HN hci e3 ⊢
  have hij : i + 2 ≤ n := by omega
  clear HNU h hlen e1 e2 hi hj hl
  obtain ⟨j, hj⟩ : ∃ j, i + 2 = j := ⟨_, rfl⟩
  rw [hj] at hij e3 ⊢
  have hji : i ≤ j := by omega
  clear hj
  go_enter Try.func18, Try.ntmps18
  go_wp2_with (refine HN.out.mono ?_; rintro e w1 ⟨rfl, rfl⟩)
  go_ret
  exact ⟨rfl, rfl⟩
end Go.Proofs.Ytaedeaefoeeidaa

/- Layer 8, the document's own answer: the versions of a file: its walk. -/
namespace Go.Proofs.Ytaedeaefoeeidaa
open Go.RowKit Go.Maps
set_option linter.unusedVariables false
set_option linter.unusedSimpArgs false

set_option maxRecDepth 100000 in
set_option maxHeartbeats 8000000 in
theorem rread_small (a : Option Addr) (cap : Nat) (bs : List Nat) (ty en : Int) (p : Option Addr) (pc : Nat) (ps : List PT) (d : DT) (n : Int) (w : World) (hd : d.wf) (hn1 : -9223372036854775808 ≤ n) (hn2 : n < 9223372036854775808) (hcase : n < 0 ∨ 4096 < n ∨ d.versym = 0) :
    Calls Try.prog 6 #[.slice a bs.length cap, headV ty en p ps.length pc, .agg d.cells, .int .i64 n] w (RVersAns (versF bs ps d n) w) := by
  have hD26 : d.cells[26]? = some (.int .u64 (d.versym : Int)) := rfl
  obtain ⟨X, hX⟩ : ∃ X, versF bs ps d n = X := ⟨_, rfl⟩
  have HX : Hid ((n < 0 → X = (.zero, 1)) ∧ (¬ n < 0 → 4096 < n → X = (.zero, 2)) ∧ (¬ n < 0 → ¬ 4096 < n → d.versym = 0 → X = (.zero, 0))) := Lib.hid (by
    rw [← hX]
    unfold versF
    exact ⟨fun h => by rw [if_pos h], fun h h2 => by rw [if_neg h, if_pos h2], fun h h2 h3 => by rw [if_neg h, if_neg h2, if_pos h3]⟩)
  rw [hX]
  clear hX
  generalize d.cells = D at *
  generalize d.versym = versym at *
  clear hd
  have F0 := refRead0_facts w ty en p ps.length pc D
  unfold refRead0 zeroC at F0
  obtain ⟨B0, Z0, H0, G0, V0, N0⟩ := F0
  have c26 : ((((w.alloc (.cells #[.int .i64 ty, .int .u64 en, .slice p ps.length pc] 26)).alloc (.cells D 29)).alloc (.cells #[.bool false, .slice none 0 0, .slice none 0 0, .slice none 0 0] 35)).alloc (.cells #[.bool false, .slice none 0 0, .slice none 0 0, .slice none 0 0] 35)).cell? ⟨w.heap.size + 1, 26, none⟩ = some (.int .u64 (versym : Int)) := by rw [cell_of_row _ _ 26 _ _ _ G0]; exact hD26
  have BB := Lib.hid B0
  clear hD26 B0 H0 G0 V0 N0 Z0
  unfold headV
  have HN := Lib.hid hcase
  clear hcase
  by_cases hn : n < 0
  · have HE := Lib.hid (HX.out.1 hn)
    clear HX
    go_enter Try.func6, Try.ntmps6
    go_wp2_with fail
    go_returns
    exact RVersAns.no HE.out BB.out rfl
  · by_cases hn4 : 4096 < n
    · have HE := Lib.hid (HX.out.2.1 hn hn4)
      clear HX
      go_enter Try.func6, Try.ntmps6
      go_wp2_with fail
      go_returns
      exact RVersAns.no HE.out BB.out rfl
    · have h0 : versym = 0 := by rcases HN.out with h | h | h <;> omega
      have HE := Lib.hid (HX.out.2.2 hn hn4 h0)
      subst h0
      clear HX
      go_enter Try.func6, Try.ntmps6
      go_wp2_with fail
      go_returns
      exact RVersAns.no HE.out BB.out rfl
end Go.Proofs.Ytaedeaefoeeidaa

/- Layer 8, the document's own answer: the versions of a file: what its walk needs. -/
namespace Go.Proofs.Ytaedeaefoeeidaa
open Go.RowKit Go.Maps
set_option linter.unusedVariables false
set_option linter.unusedSimpArgs false

theorem refDefs_all (r : RRef) (wc : World) (g : Nat) (told0 : List Nat) (fr0 m : Nat) (w : World) (h : St r wc g told0 w) (h1 : fr0 < 18446744073709551616) (h2 : m < 18446744073709551616) (hz : ¬ fr0 = 0) :
    Calls Try.prog 16 #[.pointer (some ⟨g, 0, none⟩), .int .u64 (fr0 : Int), .int .u64 (m : Int)] w (DsAns r wc g (defsF r.bs r.ps r.ss told0 fr0 m) w) := by
  unfold defsF
  rw [if_neg hz]
  by_cases hm : 64 < m
  · rw [if_pos hm]
    refine (refDefs_long r g fr0 m w hm h2).mono ?_
    rintro e w' ⟨rfl, rfl⟩
    exact DsAns.no (c := 2) rfl (by decide) h.bel
  · rw [if_neg hm]
    exact refDefs_any r wc g told0 fr0 m w h h1 (by omega)
theorem refNeeds_all (r : RRef) (wc : World) (g : Nat) (told0 : List Nat) (fr0 m : Nat) (w : World) (h : St r wc g told0 w) (h1 : fr0 < 18446744073709551616) (h2 : m < 18446744073709551616) (hz : ¬ fr0 = 0) :
    Calls Try.prog 17 #[.pointer (some ⟨g, 0, none⟩), .int .u64 (fr0 : Int), .int .u64 (m : Int)] w (NsAns r wc g (needsF r.bs r.ps r.ss told0 fr0 m) w) := by
  unfold needsF
  rw [if_neg hz]
  by_cases hm : 64 < m
  · rw [if_pos hm]
    refine (refNeeds_long r g fr0 m w hm h2).mono ?_
    rintro e w' ⟨rfl, rfl⟩
    exact NsAns.no (c := 2) rfl (by decide) h.bel
  · rw [if_neg hm]
    exact refNeeds_any r wc g told0 fr0 m w h h1 (by omega)
theorem St.of {r : RRef} {wc w w' : World} {g V : Nat} {told : List Nat} (h : St r wc g told w) (k : w.grownBy w' (some V)) (hV : wc.heap.size ≤ V) {cs : Array Value} {f : Nat × Nat} (hb : w.heap[V]? = some (.cells cs 35 f)) : St r wc g told w' := by
  obtain ⟨ta, tc, h1, h2⟩ := h.box
  have hne : g ≠ V := by
    intro e
    subst e
    unfold InBx at h1
    rw [h1] at hb
    simp only [Option.some.injEq, Obj.cells.injEq] at hb
    exact absurd hb.2.1 (by decide)
  refine ⟨h.good, h.bel.grown k h.bel.size (fun j hj => by simp only [Option.some.injEq] at hj; omega), h.ge, h.tol, ta, tc, h1.grown k (by simpa using Ne.symm hne), ?_⟩
  refine World.ownsRow.kept h2 k ?_
  rcases h2.2 with ⟨hv, -⟩ | ⟨g', cap, cur, hv, -, hgg, -⟩
  · left; rw [hv]; rfl
  · right
    intro e1
    rw [hv] at e1
    have : g' = V := by simpa [Value.ownBlock] using e1
    subst this
    rw [hgg] at hb
    simp only [Option.some.injEq, Obj.cells.injEq] at hb
    exact absurd hb.2.1 (by decide)
theorem ownV {w w' : World} {V B sz n : Nat} {e : TypeId} {v : Value} {xs : List Value} (h : w.ownsRow B e sz v n xs) (k : w.grownBy w' (some V)) {cs : Array Value} {f : Nat × Nat} (hb : w.heap[V]? = some (.cells cs 35 f)) (he : e ≠ 35) : w'.ownsRow B e sz v n xs := by
  refine World.ownsRow.kept h k ?_
  rcases h.2 with ⟨hv, -⟩ | ⟨g', cap, cur, hv, -, hgg, -⟩
  · left; rw [hv]; rfl
  · right
    intro e1
    rw [hv] at e1
    have : g' = V := by simpa [Value.ownBlock] using e1
    subst this
    rw [hgg] at hb
    simp only [Option.some.injEq, Obj.cells.injEq] at hb
    exact he hb.2.1

theorem OwnS.mk {w : World} {B sz : Nat} {e : TypeId} {v : Value} {rows : List (List Value)} (h : w.ownsRow B e sz v rows.length rows.flatten) (h2 : ∀ r ∈ rows, r.length = sz) : OwnS w B e sz v rows := ⟨h, h2⟩
def VB (w : World) (V : Nat) (v0 v1 v2 v3 : Value) : Prop := w.heap[V]? = some (.cells #[v0, v1, v2, v3] 35)
section
variable {w w' : World} {V : Nat} {v0 v1 v2 v3 u : Value}
theorem VB.c0 (h : VB w V v0 v1 v2 v3) : w.cell? ⟨V, 0, none⟩ = some v0 := by rw [cell_of_row w V 0 _ _ _ h]; rfl
theorem VB.c1 (h : VB w V v0 v1 v2 v3) : w.cell? ⟨V, 1, none⟩ = some v1 := by rw [cell_of_row w V 1 _ _ _ h]; rfl
theorem VB.c2 (h : VB w V v0 v1 v2 v3) : w.cell? ⟨V, 2, none⟩ = some v2 := by rw [cell_of_row w V 2 _ _ _ h]; rfl
theorem VB.c3 (h : VB w V v0 v1 v2 v3) : w.cell? ⟨V, 3, none⟩ = some v3 := by rw [cell_of_row w V 3 _ _ _ h]; rfl
theorem VB.free (h : VB w V v0 v1 v2 v3) (j : Nat) : w.frozen? ⟨V, j, none⟩ = false := frozen_of_row w V j _ _ h
theorem VB.s1 (h : VB w V v0 v1 v2 v3) (u : Value) : VB (w.setCell ⟨V, 1, none⟩ u) V v0 u v2 v3 := heap_setCell_same w V 1 _ _ u h
theorem VB.s2 (h : VB w V v0 v1 v2 v3) (u : Value) : VB (w.setCell ⟨V, 2, none⟩ u) V v0 v1 u v3 := heap_setCell_same w V 2 _ _ u h
theorem VB.s3 (h : VB w V v0 v1 v2 v3) (u : Value) : VB (w.setCell ⟨V, 3, none⟩ u) V v0 v1 v2 u := heap_setCell_same w V 3 _ _ u h
theorem VB.kt (h : VB w V v0 v1 v2 v3) (k : KT w w') : VB w' V v0 v1 v2 v3 := k.keep V _ _ _ h (by decide) (by decide)
theorem VB.apart (h : VB w V v0 v1 v2 v3) {B sz n : Nat} {e : TypeId} {x : Value} {xs : List Value} (ho : w.ownsRow B e sz x n xs) (he : e ≠ 35) : x.ownBlock ≠ some V := by
  intro e1
  rcases ho.2 with ⟨hv, -⟩ | ⟨g', cap, cur, hv, -, hgg, -⟩
  · rw [hv] at e1; cases e1
  · rw [hv] at e1
    have : g' = V := by simpa [Value.ownBlock] using e1
    subst this
    unfold VB at h
    rw [h] at hgg
    simp only [Option.some.injEq, Obj.cells.injEq] at hgg
    exact he hgg.2.1.symm
theorem VB.grew (h : VB w V v0 v1 v2 v3) {B sz n : Nat} {e : TypeId} {x : Value} {xs : List Value} (ho : w.ownsRow B e sz x n xs) (he : e ≠ 35) (o : Obj) (hg : (w.alloc o).grownBy w' x.ownBlock) : VB w' V v0 v1 v2 v3 :=
  (hg.block V (lt_of_block ((heap_alloc_old w o (lt_of_block h)).trans h)) (fun e1 => h.apart ho he e1.symm)).trans ((heap_alloc_old w o (lt_of_block h)).trans h)
theorem VB.gv (h : VB w V v0 v1 v2 v3) (q : Addr) (hq : q.block = V) (u : Value) : w.grownBy (w.setCell q u) (some V) := by subst hq; exact setCell_grown w q u
end
/-- the symbols' words that were read by now -/
def words (W : List Nat) (k : Nat) : List Nat := (List.range k).map (wordAt W)
theorem words_length (W : List Nat) (k : Nat) : (words W k).length = k := by simp [words]
theorem words_succ (W : List Nat) (k : Nat) : words W (k + 1) = words W k ++ [wordAt W k] := by simp [words, List.range_succ]
theorem ofR_yes {told W : List Nat} {m : Nat} (hl : W.length = 2 * m) (h : ∀ i, i < m → wordOk told (wordAt W i) = true) : ofF told W = (words W m, 0) := by
  unfold ofF words
  rw [show W.length / 2 = m by omega, if_pos]
  rw [List.all_eq_true]
  intro i hi
  exact h i (by simpa using hi)
theorem ofR_no {told W : List Nat} {m i : Nat} (hl : W.length = 2 * m) (hi : i < m) (h : wordOk told (wordAt W i) = false) : ofF told W = ([], 3) := by
  unfold ofF
  rw [show W.length / 2 = m by omega, if_neg]
  rw [List.all_eq_true]
  intro hh
  have := hh i (by simpa using hi)
  rw [h] at this
  cases this

end Go.Proofs.Ytaedeaefoeeidaa
