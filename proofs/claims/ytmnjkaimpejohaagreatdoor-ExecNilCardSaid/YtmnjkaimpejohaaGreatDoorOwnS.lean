/- Slices of structs that a call makes itself, by append: what they are, how they grow, how they are read. Nothing of the program is named. -/
import Derived.Test.YtmnjkaimpejohaaGreatDoorKit
namespace Go.Proofs.YtmnjkaimpejohaaGreatDoor
open Go.RowKit
set_option linter.unusedVariables false
set_option linter.unusedSimpArgs false

/-- the types of a slice of structs of so many cells -/
def RowSlice (P : Program) (t e : TypeId) (z : Value) (sz bytes : Nat) : Prop :=
  P.underlying t = some (.slice e) ∧ (P.info? e).map (fun i => (i.zero, i.size, i.bytes)) = some (some z, sz, bytes) ∧ z.cells.size = sz ∧ 0 < sz

/-- a slice value that owns these structs, among the blocks from B on -/
def OwnS (w : World) (B : Nat) (e : TypeId) (sz : Nat) (v : Value) (rows : List (List Value)) : Prop := w.ownsRow B e sz v rows.length rows.flatten ∧ ∀ r ∈ rows, r.length = sz
/-- a slice of structs that can be read -/
def RowS (w : World) (sz : Nat) (a : Option Addr) (rows : List (List Value)) : Prop := ∀ i, (hi : i < rows.length) → ∃ b o, a = some ⟨b, o, none⟩ ∧ b < w.heap.size ∧ ∀ j, j < sz → w.cell? ⟨b, o + i * sz + j, none⟩ = rows[i][j]?

theorem OwnS.nil (w : World) (B : Nat) (e : TypeId) (sz : Nat) : OwnS w B e sz (.slice none 0 0) [] := ⟨World.ownsRow_nil _ _ _ _, fun r hr => by cases hr⟩

theorem flatten_at {sz : Nat} : ∀ (rows : List (List Value)) (h : ∀ r ∈ rows, r.length = sz) (i j : Nat) (hi : i < rows.length) (hj : j < sz), rows.flatten[i * sz + j]? = rows[i][j]?
  | [], _, i, _, hi, _ => by simp at hi
  | r :: rows, h, 0, j, _, hj => by
    rw [List.flatten_cons, Nat.zero_mul, Nat.zero_add, List.getElem?_append_left (by rw [h r (by simp)]; exact hj)]
    rfl
  | r :: rows, h, i + 1, j, hi, hj => by
    have hr := h r (by simp)
    rw [List.flatten_cons, List.getElem?_append_right (by rw [hr, Nat.add_mul]; omega), hr, show (i + 1) * sz + j - sz = i * sz + j from by rw [Nat.add_mul]; omega, flatten_at rows (fun x hx => h x (by simp [hx])) i j (by simpa using hi) hj]
    rfl

section
variable {w w' : World} {B B' : Nat} {e : TypeId} {sz : Nat} {v : Value} {rows : List (List Value)}

theorem OwnS.below (h : OwnS w B e sz v rows) (hb : Below w.heap.size w w') : OwnS w' B e sz v rows := by
  obtain ⟨⟨h1, h2⟩, h3⟩ := h
  refine ⟨⟨h1, ?_⟩, h3⟩
  rcases h2 with h2 | ⟨g, cap, cur, hv, hB, hg, r⟩
  · exact .inl h2
  · exact .inr ⟨g, cap, cur, hv, hB, by rw [hb.block g (lt_of_block hg)]; exact hg, r⟩
theorem OwnS.mono (h : OwnS w B e sz v rows) (hB : B' ≤ B) : OwnS w B' e sz v rows := by
  obtain ⟨⟨h1, h2⟩, h3⟩ := h
  refine ⟨⟨h1, ?_⟩, h3⟩
  rcases h2 with h2 | ⟨g, cap, cur, hv, hg, r⟩
  · exact .inl h2
  · exact .inr ⟨g, cap, cur, hv, Nat.le_trans hB hg, r⟩
theorem OwnS.row (h : OwnS w B e sz v rows) : ∃ a cap, v = .slice a rows.length cap ∧ RowS w sz a rows ∧ rows.length ≤ cap ∧ (a = none → rows.length = 0 ∧ cap = 0) := by
  obtain ⟨⟨h1, h2⟩, h3⟩ := h
  rcases h2 with ⟨rfl, h0⟩ | ⟨g, cap, cur, rfl, hB, hg, hc, hm, hs, hx⟩
  · exact ⟨none, 0, by rw [h0], fun i hi => by omega, by omega, fun _ => ⟨h0, rfl⟩⟩
  · refine ⟨some ⟨g, 0, none⟩, cap, rfl, ?_, hc, fun h => by cases h⟩
    intro i hi
    refine ⟨g, 0, rfl, lt_of_block hg, fun j hj => ?_⟩
    have hown : w.ownsRow B e sz (.slice (some ⟨g, 0, none⟩) rows.length cap) rows.length rows.flatten := ⟨h1, .inr ⟨g, cap, cur, rfl, hB, hg, hc, hm, hs, hx⟩⟩
    have hf := flatten_at rows h3 i j hi hj
    have hjl : j < rows[i].length := by rw [h3 _ (List.getElem_mem hi)]; exact hj
    rw [List.getElem?_eq_getElem hjl] at hf ⊢
    have := hown.cells (g := g) rfl (i * sz + j) _ hf
    rw [WideShapes.add_plain] at this
    rw [Nat.add_assoc]
    exact this
theorem OwnS.at {ad : Option Addr} {n cap : Nat} (h : OwnS w B e sz (.slice ad n cap) rows) : n = rows.length ∧ RowS w sz ad rows ∧ n ≤ cap ∧ (ad = none → rows.length = 0 ∧ cap = 0) := by
  obtain ⟨a, c, hv, hr, hc, hn⟩ := h.row
  simp only [Value.slice.injEq] at hv
  obtain ⟨rfl, rfl, rfl⟩ := hv
  exact ⟨rfl, hr, hc, hn⟩
theorem RowS.below {a : Option Addr} (h : RowS w sz a rows) (hb : Below w.heap.size w w') : RowS w' sz a rows := by
  intro i hi
  obtain ⟨b, o, e, hlt, hc⟩ := h i hi
  exact ⟨b, o, e, Nat.lt_of_lt_of_le hlt hb.size, fun j hj => by rw [hb.cell (p := ⟨b, o + i * sz + j, none⟩) hlt]; exact hc j hj⟩
end

section
variable {P : Program} {w : World} {ops : Array Oper} {rest : List Oper} {o : Oper} {a : Act} {Q : Exit → Act → World → Prop}

/-- out = append(out, r), r a struct -/
theorem wpList_push_row (hgd : o.guard = none) (s x : Operand) {t e : TypeId} {z : Value} {sz bytes : Nat} (F : RowSlice P t e z sz bytes)
    (ho : o.op = .call { callee := .builtin .append, args := #[s, x], argTypes := #[t, t] })
    (B : Nat) (w0 : World) (v : Value) (rows : List (List Value)) (n : Nat) (r : List Value) (hs : a.eval s = v) (hx : a.eval x = .slice (some ⟨w.heap.size, 0, none⟩) 1 1) (hn : rows.length = n) (hr : r.length = sz) (hr1 : ∀ u ∈ r, u.oneCell' = true)
    (hown : OwnS w B e sz v rows) (h63 : n + 1 ≤ maxLen) (hlen : (n + 1) * bytes ≤ 140737488355328) (bel : Below B w0 w) (hb : B ≤ w.heap.size)
    (h : ∀ ad cap w', OwnS w' B e sz (.slice ad (n + 1) cap) (rows ++ [r]) → Below B w0 w' → Kept e w w' → wpList P ops Q rest (a.put o.dst (.slice ad (n + 1) cap)) w') : wpList P ops Q (o :: rest) a (w.alloc (.cells r.toArray e)) := by
  subst hn
  obtain ⟨ht, hinfo, hz, hsz⟩ := F
  obtain ⟨i, hi, hz0, hz1, hz2⟩ := info_parts hinfo
  obtain ⟨hown1, hown2⟩ := hown
  refine wpList_append_own _ hgd s x t ho B e i z sz bytes ht hi hz0 hz1 hz2 hz hsz v rows.length rows.flatten hs (World.ownsRow.alloc hown1 _) ⟨w.heap.size, 0, none⟩ 1 1 r hx (by rw [hr, Nat.one_mul])
    (fun j u hj => by
      rw [WideShapes.add_plain, World.cell?_alloc_new]
      simpa using hj) hr1 h63 hlen (by simp; omega) ?_
  intro v' w1 hown' hgr _
  have hos : OwnS w1 B e sz v' (rows ++ [r]) := by
    refine ⟨?_, fun q hq => ?_⟩
    · rw [List.length_append, List.length_cons, List.length_nil, List.flatten_append, List.flatten_cons, List.flatten_nil, List.append_nil]
      exact hown'
    · rcases List.mem_append.1 hq with h | h
      · exact hown2 q h
      · simp only [List.mem_cons, List.not_mem_nil, or_false] at h
        subst h
        exact hr
  obtain ⟨ad, cap, hv, -⟩ := hos.row
  rw [List.length_append, List.length_cons, List.length_nil] at hv
  subst hv
  refine h ad cap w1 hos ((bel.alloc hb _).grown hgr (by simp; omega) fun j hj => (World.ownsRow.lt hown1 j hj).1) ?_
  intro B' e' k' u ys hne hu
  refine World.ownsRow.kept (World.ownsRow.alloc hu _) hgr ?_
  obtain ⟨-, hu2⟩ := hu
  obtain ⟨-, hv2⟩ := hown1
  rcases hu2 with ⟨rfl, -⟩ | ⟨g, c', cur, rfl, -, hgg, -⟩
  · left; rfl
  · rcases hv2 with ⟨rfl, -⟩ | ⟨g', c2, cur', rfl, -, hgg', -⟩
    · right; simp [Value.ownBlock]
    · right
      intro e1
      have : g = g' := by simpa [Value.ownBlock] using e1
      subst this
      rw [hgg] at hgg'
      simp only [Option.some.injEq, Obj.cells.injEq] at hgg'
      exact hne hgg'.2.1
end
end Go.Proofs.YtmnjkaimpejohaaGreatDoor
