/- Slices of structs that a call makes itself, by make: what they are, and a store of one struct. Nothing of the program is named. -/
import Derived.Test.YtmnjkaimpejohaaGreatDoorGrow
import Derived.Laws.IdiomCopy
import Derived.Laws.OwnMore
namespace Go.Proofs.YtmnjkaimpejohaaGreatDoor
open Go.RowKit
set_option linter.unusedVariables false
set_option linter.unusedSimpArgs false

theorem flatten_len {sz : Nat} : ∀ (rows : List (List Value)) (h : ∀ r ∈ rows, r.length = sz), rows.flatten.length = rows.length * sz
  | [], _ => by simp
  | r :: rows, h => by
    rw [List.flatten_cons, List.length_append, h r (by simp), flatten_len rows (fun x hx => h x (by simp [hx])), List.length_cons, Nat.add_mul]
    omega
/-- every place of the cells is one of a row -/
theorem flatten_get {sz : Nat} (hs : 0 < sz) (rows : List (List Value)) (h : ∀ r ∈ rows, r.length = sz) (m : Nat) (hm : m < rows.length * sz) : ∃ (hi : m / sz < rows.length), m % sz < sz ∧ rows.flatten[m]? = rows[m / sz][m % sz]? := by
  have hi : m / sz < rows.length := (Nat.div_lt_iff_lt_mul hs).2 hm
  have hj : m % sz < sz := Nat.mod_lt _ hs
  refine ⟨hi, hj, ?_⟩
  have := flatten_at rows h (m / sz) (m % sz) hi hj
  rwa [Nat.mul_comm, Nat.div_add_mod] at this

theorem made_rows {z : List Value} {n sz : Nat} (hz : z.length = sz) (hs : 0 < sz) : (madeCells z.toArray (n * sz)).toList = (List.replicate n z).flatten := by
  apply List.ext_getElem?
  intro m
  have hr : ∀ r ∈ List.replicate n z, r.length = sz := fun r hr => by rw [(List.mem_replicate.1 hr).2]; exact hz
  by_cases hm : m < n * sz
  · obtain ⟨hi, hj, e⟩ := flatten_get hs (List.replicate n z) hr m (by simpa using hm)
    rw [e]
    simp only [List.getElem_replicate]
    simp only [madeCells, Array.toList_map, Array.toList_range, List.getElem?_map, List.getElem?_range hm, Option.map_some, List.size_toArray, hz]
    have hj' : m % sz < z.length := by omega
    simp [hj']
  · rw [List.getElem?_eq_none (by rw [Array.length_toList, size_madeCells]; omega), List.getElem?_eq_none (by rw [flatten_len _ hr]; simpa using hm)]

def setFrom : List Value → Nat → List Value → List Value
  | xs, _, [] => xs
  | xs, o, v :: vs => setFrom (xs.set o v) (o + 1) vs
theorem setFrom_length : ∀ (vs : List Value) (xs : List Value) (o : Nat), (setFrom xs o vs).length = xs.length
  | [], _, _ => rfl
  | v :: vs, xs, o => by rw [setFrom, setFrom_length vs, List.length_set]
theorem setFrom_get : ∀ (vs : List Value) (xs : List Value) (o m : Nat), m < xs.length → (setFrom xs o vs)[m]? = if o ≤ m ∧ m < o + vs.length then vs[m - o]? else xs[m]?
  | [], xs, o, m, hm => by
    rw [setFrom, if_neg (by simp)]
  | v :: vs, xs, o, m, hm => by
    rw [setFrom, setFrom_get vs (xs.set o v) (o + 1) m (by simpa using hm)]
    by_cases h1 : m = o
    · subst h1
      rw [if_neg (by omega), if_pos (by simp), List.getElem?_set_self hm]
      simp
    · rw [List.getElem?_set_ne (by omega)]
      by_cases h2 : o + 1 ≤ m ∧ m < o + 1 + vs.length
      · rw [if_pos h2, if_pos (by simp only [List.length_cons]; omega)]
        have : m - o = (m - (o + 1)) + 1 := by omega
        rw [this, List.getElem?_cons_succ]
      · rw [if_neg h2, if_neg (by simp only [List.length_cons]; omega)]
theorem setFrom_rows {sz : Nat} (hs : 0 < sz) (rows : List (List Value)) (h : ∀ r ∈ rows, r.length = sz) (k : Nat) (hk : k < rows.length) (r : List Value) (hr : r.length = sz) : setFrom rows.flatten (k * sz) r = (rows.set k r).flatten := by
  have h' : ∀ q ∈ rows.set k r, q.length = sz := fun q hq => by
    rcases List.mem_or_eq_of_mem_set hq with h1 | h1
    · exact h q h1
    · rw [h1]; exact hr
  apply List.ext_getElem?
  intro m
  by_cases hm : m < rows.length * sz
  · obtain ⟨hi, hj, e⟩ := flatten_get hs rows h m hm
    obtain ⟨hi', -, e'⟩ := flatten_get hs (rows.set k r) h' m (by simpa using hm)
    rw [setFrom_get r _ _ _ (by rw [flatten_len rows h]; exact hm), e, e']
    by_cases hmk : m / sz = k
    · have hd := Nat.div_add_mod m sz
      rw [hmk, Nat.mul_comm] at hd
      rw [if_pos (by omega)]
      have : (rows.set k r)[m / sz] = r := by
        rw [List.getElem_set]
        simp [hmk]
      rw [this, show m - k * sz = m % sz from by omega]
    · rw [if_neg (by
        intro hh
        apply hmk
        refine Nat.div_eq_of_lt_le (by omega) ?_
        rw [Nat.add_mul]
        omega)]
      have : (rows.set k r)[m / sz] = rows[m / sz] := by
        rw [List.getElem_set]
        simp [Ne.symm hmk]
      rw [this]
  · rw [List.getElem?_eq_none (by rw [setFrom_length, flatten_len rows h]; omega), List.getElem?_eq_none (by rw [flatten_len _ h']; simpa using hm)]

theorem own_setCells {B : Nat} {e : TypeId} {sz g n cap : Nat} : ∀ (vs : List Value) (o : Nat) (w : World) (xs : List Value), w.ownsRow B e sz (.slice (some ⟨g, 0, none⟩) n cap) n xs →
    (w.setCells g o vs).ownsRow B e sz (.slice (some ⟨g, 0, none⟩) n cap) n (setFrom xs o vs) ∧ w.grownBy (w.setCells g o vs) (some g)
  | [], _, w, _, h => ⟨h, ⟨rfl, rfl, rfl, Nat.le_refl _, fun _ _ _ => rfl⟩⟩
  | v :: vs, o, w, xs, h => by
    obtain ⟨h1, g1⟩ := h.stored o v
    obtain ⟨h2, g2⟩ := own_setCells vs (o + 1) _ _ h1
    exact ⟨h2, g1.trans g2⟩

section
variable {w : World} {B : Nat} {e : TypeId} {sz g n cap : Nat} {rows : List (List Value)}
theorem OwnS.putRow (h : OwnS w B e sz (.slice (some ⟨g, 0, none⟩) n cap) rows) (hs : 0 < sz) (k : Nat) (hk : k < rows.length) (r : List Value) (hr : r.length = sz) :
    OwnS (w.setCells g (k * sz) r) B e sz (.slice (some ⟨g, 0, none⟩) n cap) (rows.set k r) ∧ w.grownBy (w.setCells g (k * sz) r) (some g) := by
  have hn := h.at.1
  obtain ⟨h1, h2⟩ := h
  rw [← hn] at h1
  obtain ⟨h3, h4⟩ := own_setCells r (k * sz) w _ h1
  refine ⟨⟨?_, fun q hq => ?_⟩, h4⟩
  · rw [List.length_set, ← hn, ← setFrom_rows hs rows h2 k hk r hr]
    exact h3
  · rcases List.mem_or_eq_of_mem_set hq with h5 | h5
    · exact h2 q h5
    · rw [h5]; exact hr
theorem OwnS.cellAt (h : OwnS w B e sz (.slice (some ⟨g, 0, none⟩) n cap) rows) (k j : Nat) (hk : k < rows.length) (hj : j < sz) : w.cell? ⟨g, k * sz + j, none⟩ = rows[k][j]? := by
  obtain ⟨b, o, e, -, hc⟩ := h.at.2.1 k hk
  simp only [Option.some.injEq, Addr.mk.injEq, and_true] at e
  obtain ⟨rfl, rfl⟩ := e
  have := hc j hj
  rwa [Nat.zero_add] at this
theorem OwnS.freeAt (h : OwnS w B e sz (.slice (some ⟨g, 0, none⟩) n cap) rows) (j : Nat) : w.frozen? ⟨g, j, none⟩ = false := by
  have hn := h.at.1
  obtain ⟨h1, h2⟩ := h
  rw [← hn] at h1
  exact h1.frozenAt j
theorem OwnS.blockGe (h : OwnS w B e sz (.slice (some ⟨g, 0, none⟩) n cap) rows) : B ≤ g ∧ g < w.heap.size := World.ownsRow.lt h.1 g rfl
end

/-- make([]T, n), T a struct -/
theorem wpList_make_row {P : Program} {w : World} {ops : Array Oper} {rest : List Oper} {o : Oper} {a : Act} {Q : Exit → Act → World → Prop} (hgd : o.guard = none) (l c : Operand) {t e : TypeId} {z : Value} {sz bytes : Nat} (F : RowSlice P t e z sz bytes)
    (ho : o.op = Op.makeSlice t l c) (zr : List Value) (hzr : z.cells = zr.toArray) (B : Nat) (w0 : World) (n : Nat) (kl kc : IntKind) (L C : Int) (hl : a.eval l = .int kl L) (hc : a.eval c = .int kc C) (hL : L = (n : Int)) (hC : C = (n : Int)) (hby : bytes * n ≤ 281474976710656) (h63 : n ≤ maxLen) (bel : Below B w0 w) (hb : B ≤ w.heap.size)
    (h : ∀ g w', OwnS w' B e sz (.slice (some ⟨g, 0, none⟩) n n) (List.replicate n zr) → w.heap.size ≤ g → Below B w0 w' → Below w.heap.size w w' → wpList P ops Q rest (a.put o.dst (.slice (some ⟨g, 0, none⟩) n n)) w') : wpList P ops Q (o :: rest) a w := by
  obtain ⟨ht, hinfo, hz, hsz⟩ := F
  obtain ⟨i, hi, hz0, hz1, hz2⟩ := info_parts hinfo
  refine wpList_make_full w hgd l c t ho B e i z sz ht hi hz0 hz1 kl kc L C n hl hc hL hC (by rw [hz2]; exact hby) h63 hb ?_
  intro w' hown hgr
  have hzl : zr.length = sz := by rw [← hz, hzr]; simp
  rw [hzr, made_rows hzl hsz] at hown
  refine h w.heap.size w' ⟨by simpa using hown, fun r hr => by rw [(List.mem_replicate.1 hr).2]; exact hzl⟩ (Nat.le_refl _) (bel.grown hgr hb (fun j hj => by cases hj)) ((Below.refl _ _).grown hgr (Nat.le_refl _) (fun j hj => by cases hj))
end Go.Proofs.YtmnjkaimpejohaaGreatDoor
