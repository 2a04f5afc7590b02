/- Slices of structs that a call makes itself, by append: what they are, how they grow, how they are read. Nothing of the program is named. -/
import Derived.Test.YtnaejlfjlennhaaGreatDoorLittle
import Derived.Laws.OwnMore
import Derived.Laws.Rows
import Derived.OwnWalk
namespace Go.Proofs.YtnaejlfjlennhaaGreatDoor
open Go.RowKit
set_option linter.unusedVariables false
set_option linter.unusedSimpArgs false

/-- the types of a slice of structs of so many cells -/
def RowSlice (P : Program) (t e : TypeId) (z : Value) (sz bytes : Nat) : Prop :=
  P.underlying t = some (.slice e) ∧ (P.info? e).map (fun i => (i.zero, i.size, i.bytes)) = some (some z, sz, bytes) ∧ z.cells.size = sz ∧ 0 < sz

/-- a slice value that owns these structs, among the blocks from B on -/
def OwnS (w : World) (B : Nat) (e : TypeId) (sz : Nat) (v : Value) (rows : List (List Value)) : Prop := w.ownsRow B e sz v rows.length rows.flatten ∧ ∀ r ∈ rows, r.length = sz
/-- a slice of structs that can be read -/
def RowS (w : World) (sz : Nat) (a : Option Addr) (rows : List (List Value)) : Prop := ∀ i, (hi : i < rows.length) → ∃ b o, a = some ⟨b, o, none⟩ ∧ b < w.heap.size ∧ ∀ j, j < sz → w.cell? ⟨b, o + i * sz + j, none⟩ = rows[i][j]?

theorem OwnS.nil (w : World) (B : Nat) (e : TypeId) (sz : Nat) : OwnS w B e sz (.slice none 0 0) [] := ⟨World.ownsRow_nil _ _ _ _, fun r hr => by cases hr⟩

theorem flatten_at {sz : Nat} : ∀ (rows : List (List Value)) (h : ∀ r ∈ rows, r.length = sz) (i j : Nat) (hi : i < rows.length) (hj : j < sz), rows.flatten[i * sz + j]? = rows[i][j]?
  | [], _, i, _, hi, _ => by simp at hi
  | r :: rows, h, 0, j, _, hj => by
    rw [List.flatten_cons, Nat.zero_mul, Nat.zero_add, List.getElem?_append_left (by rw [h r (by simp)]; exact hj)]
    rfl
  | r :: rows, h, i + 1, j, hi, hj => by
    have hr := h r (by simp)
    rw [List.flatten_cons, List.getElem?_append_right (by rw [hr, Nat.add_mul]; omega), hr, show (i + 1) * sz + j - sz = i * sz + j from by rw [Nat.add_mul]; omega, flatten_at rows (fun x hx => h x (by simp [hx])) i j (by simpa using hi) hj]
    rfl

section
variable {w w' : World} {B B' : Nat} {e : TypeId} {sz : Nat} {v : Value} {rows : List (List Value)}

theorem OwnS.below (h : OwnS w B e sz v rows) (hb : Below w.heap.size w w') : OwnS w' B e sz v rows := by
  obtain ⟨⟨h1, h2⟩, h3⟩ := h
  refine ⟨⟨h1, ?_⟩, h3⟩
  rcases h2 with h2 | ⟨g, cap, cur, hv, hB, hg, r⟩
  · exact .inl h2
  · exact .inr ⟨g, cap, cur, hv, hB, by rw [hb.block g (lt_of_block hg)]; exact hg, r⟩
theorem OwnS.mono (h : OwnS w B e sz v rows) (hB : B' ≤ B) : OwnS w B' e sz v rows := by
  obtain ⟨⟨h1, h2⟩, h3⟩ := h
  refine ⟨⟨h1, ?_⟩, h3⟩
  rcases h2 with h2 | ⟨g, cap, cur, hv, hg, r⟩
  · exact .inl h2
  · exact .inr ⟨g, cap, cur, hv, Nat.le_trans hB hg, r⟩
theorem OwnS.row (h : OwnS w B e sz v rows) : ∃ a cap, v = .slice a rows.length cap ∧ RowS w sz a rows ∧ rows.length ≤ cap ∧ (a = none → rows.length = 0 ∧ cap = 0) := by
  obtain ⟨⟨h1, h2⟩, h3⟩ := h
  rcases h2 with ⟨rfl, h0⟩ | ⟨g, cap, cur, rfl, hB, hg, hc, hm, hs, hx⟩
  · exact ⟨none, 0, by rw [h0], fun i hi => by omega, by omega, fun _ => ⟨h0, rfl⟩⟩
  · refine ⟨some ⟨g, 0, none⟩, cap, rfl, ?_, hc, fun h => by cases h⟩
    intro i hi
    refine ⟨g, 0, rfl, lt_of_block hg, fun j hj => ?_⟩
    have hown : w.ownsRow B e sz (.slice (some ⟨g, 0, none⟩) rows.length cap) rows.length rows.flatten := ⟨h1, .inr ⟨g, cap, cur, rfl, hB, hg, hc, hm, hs, hx⟩⟩
    have hf := flatten_at rows h3 i j hi hj
    have hjl : j < rows[i].length := by rw [h3 _ (List.getElem_mem hi)]; exact hj
    rw [List.getElem?_eq_getElem hjl] at hf ⊢
    have := hown.cells (g := g) rfl (i * sz + j) _ hf
    rw [WideShapes.add_plain] at this
    rw [Nat.add_assoc]
    exact this
theorem OwnS.at {ad : Option Addr} {n cap : Nat} (h : OwnS w B e sz (.slice ad n cap) rows) : n = rows.length ∧ RowS w sz ad rows ∧ n ≤ cap ∧ (ad = none → rows.length = 0 ∧ cap = 0) := by
  obtain ⟨a, c, hv, hr, hc, hn⟩ := h.row
  simp only [Value.slice.injEq] at hv
  obtain ⟨rfl, rfl, rfl⟩ := hv
  exact ⟨rfl, hr, hc, hn⟩
theorem RowS.below {a : Option Addr} (h : RowS w sz a rows) (hb : Below w.heap.size w w') : RowS w' sz a rows := by
  intro i hi
  obtain ⟨b, o, e, hlt, hc⟩ := h i hi
  exact ⟨b, o, e, Nat.lt_of_lt_of_le hlt hb.size, fun j hj => by rw [hb.cell (p := ⟨b, o + i * sz + j, none⟩) hlt]; exact hc j hj⟩
end

section
variable {P : Program} {w : World} {ops : Array Oper} {rest : List Oper} {o : Oper} {a : Act} {Q : Exit → Act → World → Prop}

/-- out = append(out, r), r a struct -/
theorem wpList_push_row (hgd : o.guard = none) (s x : Operand) {t e : TypeId} {z : Value} {sz bytes : Nat} (F : RowSlice P t e z sz bytes)
    (ho : o.op = .call { callee := .builtin .append, args := #[s, x], argTypes := #[t, t] })
    (B : Nat) (w0 : World) (v : Value) (rows : List (List Value)) (n : Nat) (r : List Value) (hs : a.eval s = v) (hx : a.eval x = .slice (some ⟨w.heap.size, 0, none⟩) 1 1) (hn : rows.length = n) (hr : r.length = sz) (hr1 : ∀ u ∈ r, u.oneCell' = true)
    (hown : OwnS w B e sz v rows) (h63 : n + 1 ≤ maxLen) (hlen : (n + 1) * bytes ≤ 140737488355328) (bel : Below B w0 w) (hb : B ≤ w.heap.size)
    (h : ∀ ad cap w', OwnS w' B e sz (.slice ad (n + 1) cap) (rows ++ [r]) → Below B w0 w' → Kept e w w' → wpList P ops Q rest (a.put o.dst (.slice ad (n + 1) cap)) w') : wpList P ops Q (o :: rest) a (w.alloc (.cells r.toArray e)) := by
  subst hn
  obtain ⟨ht, hinfo, hz, hsz⟩ := F
  obtain ⟨i, hi, hz0, hz1, hz2⟩ := info_parts hinfo
  obtain ⟨hown1, hown2⟩ := hown
  refine wpList_append_own _ hgd s x t ho B e i z sz bytes ht hi hz0 hz1 hz2 hz hsz v rows.length rows.flatten hs (World.ownsRow.alloc hown1 _) ⟨w.heap.size, 0, none⟩ 1 1 r hx (by rw [hr, Nat.one_mul])
    (fun j u hj => by
      rw [WideShapes.add_plain, World.cell?_alloc_new]
      simpa using hj) hr1 h63 hlen (by simp; omega) ?_
  intro v' w1 hown' hgr _
  have hos : OwnS w1 B e sz v' (rows ++ [r]) := by
    refine ⟨?_, fun q hq => ?_⟩
    · rw [List.length_append, List.length_cons, List.length_nil, List.flatten_append, List.flatten_cons, List.flatten_nil, List.append_nil]
      exact hown'
    · rcases List.mem_append.1 hq with h | h
      · exact hown2 q h
      · simp only [List.mem_cons, List.not_mem_nil, or_false] at h
        subst h
        exact hr
  obtain ⟨ad, cap, hv, -⟩ := hos.row
  rw [List.length_append, List.length_cons, List.length_nil] at hv
  subst hv
  refine h ad cap w1 hos ((bel.alloc hb _).grown hgr (by simp; omega) fun j hj => (World.ownsRow.lt hown1 j hj).1) ?_
  intro B' e' k' u ys hne hu
  refine World.ownsRow.kept (World.ownsRow.alloc hu _) hgr ?_
  obtain ⟨-, hu2⟩ := hu
  obtain ⟨-, hv2⟩ := hown1
  rcases hu2 with ⟨rfl, -⟩ | ⟨g, c', cur, rfl, -, hgg, -⟩
  · left; rfl
  · rcases hv2 with ⟨rfl, -⟩ | ⟨g', c2, cur', rfl, -, hgg', -⟩
    · right; simp [Value.ownBlock]
    · right
      intro e1
      have : g = g' := by simpa [Value.ownBlock] using e1
      subst this
      rw [hgg] at hgg'
      simp only [Option.some.injEq, Obj.cells.injEq] at hgg'
      exact hne hgg'.2.1
end
end Go.Proofs.YtnaejlfjlennhaaGreatDoor
/- Slices that a call makes itself: what an append leaves as it is. Nothing of the program is named. -/
namespace Go.Proofs.YtnaejlfjlennhaaGreatDoor
open Go.RowKit
set_option linter.unusedVariables false
set_option linter.unusedSimpArgs false

theorem own_apart {w : World} {B B' : Nat} {e e' : TypeId} {sz sz' : Nat} {v v' : Value} {n n' : Nat} {xs xs' : List Value} (h : w.ownsRow B e sz v n xs) (h' : w.ownsRow B' e' sz' v' n' xs') (hne : e' ≠ e) : v'.ownBlock = none ∨ v'.ownBlock ≠ v.ownBlock := by
  rcases h'.2 with ⟨rfl, -⟩ | ⟨g, cap, cur, rfl, -, hgg, -⟩
  · left; rfl
  · rcases h.2 with ⟨rfl, -⟩ | ⟨g', cap', cur', rfl, -, hgg', -⟩
    · right; simp [Value.ownBlock]
    · right
      intro e1
      have : g = g' := by simpa [Value.ownBlock] using e1
      subst this
      rw [hgg] at hgg'
      simp only [Option.some.injEq, Obj.cells.injEq] at hgg'
      exact hne hgg'.2.1

section
variable {w w' : World} {B B' B0 : Nat} {e e' : TypeId} {k k' : IntKind} {sz sz' : Nat} {v v' : Value} {xs xs' : List Int} {rows rows' : List (List Value)} {w0 : World}

theorem OwnS.allocO (h : OwnS w B e sz v rows) (o : Obj) : OwnS (w.alloc o) B e sz v rows := ⟨World.ownsRow.alloc h.1 o, h.2⟩
theorem OwnI.allocO (h : OwnI w B e k v xs) (o : Obj) : OwnI (w.alloc o) B e k v xs := World.ownsRow.alloc h o
theorem OwnS.setO (h : OwnS w B e sz v rows) {a : Addr} (ha : v.ownBlock ≠ some a.block) (u : Value) : OwnS (w.setCell a u) B e sz v rows := ⟨ownsRow_setCell_other h.1 ha u, h.2⟩
theorem OwnI.setO (h : OwnI w B e k v xs) {a : Addr} (ha : v.ownBlock ≠ some a.block) (u : Value) : OwnI (w.setCell a u) B e k v xs := ownsRow_setCell_other h ha u
/-- what is owned stays, while something else grows -/
theorem OwnS.keepI (h : OwnS w B e sz v rows) (hg : w.grownBy w' v'.ownBlock) (ho : OwnI w B' e' k' v' xs') (hne : e ≠ e') : OwnS w' B e sz v rows := ⟨World.ownsRow.kept h.1 hg (own_apart ho h.1 hne), h.2⟩
theorem OwnI.keepI (h : OwnI w B e k v xs) (hg : w.grownBy w' v'.ownBlock) (ho : OwnI w B' e' k' v' xs') (hne : e ≠ e') : OwnI w' B e k v xs := World.ownsRow.kept h hg (own_apart ho h hne)
theorem OwnI.keepS (h : OwnI w B e k v xs) (hg : w.grownBy w' v'.ownBlock) (ho : OwnS w B' e' sz' v' rows') (hne : e ≠ e') : OwnI w' B e k v xs := World.ownsRow.kept h hg (own_apart ho.1 h hne)
theorem below_keepI (h : Below B w0 w) (hg : w.grownBy w' v'.ownBlock) (ho : OwnI w B e' k' v' xs') (hb : B ≤ w.heap.size) : Below B w0 w' := h.grown hg hb fun j hj => (World.ownsRow.lt ho j hj).1
theorem below_keepS (h : Below B w0 w) (hg : w.grownBy w' v'.ownBlock) (ho : OwnS w B e' sz' v' rows') (hb : B ≤ w.heap.size) : Below B w0 w' := h.grown hg hb fun j hj => (World.ownsRow.lt ho.1 j hj).1
/-- a slice that stands written out is owned -/
theorem OwnI.lit (w : World) (B : Nat) (e : TypeId) (k : IntKind) (xs : List Int) (cs : Array Value) (hcs : cs = (xs.map (Value.int k)).toArray) (hb : B ≤ w.heap.size) (h63 : xs.length ≤ maxLen) : OwnI (w.alloc (.cells cs e)) B e k (.slice (some ⟨w.heap.size, 0, none⟩) xs.length xs.length) xs := by
  subst hcs
  refine ⟨by simp, .inr ⟨w.heap.size, xs.length, (xs.map (Value.int k)).toArray, rfl, hb, ?_, Nat.le_refl _, h63, by simp, by rw [Nat.mul_one]; exact List.take_of_length_le (by simp)⟩⟩
  show (w.heap.push _)[w.heap.size]? = _
  simp
/-- a store into an owned slice -/
theorem OwnI.put {g n cap : Nat} (h : OwnI w B e k (.slice (some ⟨g, 0, none⟩) n cap) xs) (hn : xs.length = n) (j : Nat) (y : Int) : OwnI (w.setCell ⟨g, j, none⟩ (.int k y)) B e k (.slice (some ⟨g, 0, none⟩) n cap) (xs.set j y) := by
  subst hn
  have := (World.ownsRow.stored h j (.int k y)).1
  unfold OwnI
  rw [List.length_set, List.map_set]
  exact this
theorem OwnI.get {g n cap : Nat} (h : OwnI w B e k (.slice (some ⟨g, 0, none⟩) n cap) xs) (j : Nat) (y : Int) (hj : xs[j]? = some y) : w.cell? ⟨g, j, none⟩ = some (.int k y) := by
  have hn := h.1
  have he : n = xs.length := by
    obtain ⟨-, h2⟩ := h
    rcases h2 with ⟨h3, h4⟩ | ⟨g', cap', cur, hv, -⟩
    · simp at h3
    · simp only [Value.slice.injEq] at hv; exact hv.2.1
  subst he
  have := World.ownsRow.cells h (g := g) rfl j (.int k y) (by simp [hj])
  rw [WideShapes.add_plain] at this
  simpa using this
theorem OwnI.blockGe {g n cap : Nat} (h : OwnI w B e k (.slice (some ⟨g, 0, none⟩) n cap) xs) : B ≤ g ∧ g < w.heap.size := World.ownsRow.lt h g rfl
theorem OwnS.notNew (h : OwnS w B e sz v rows) {g : Nat} (hg : w.heap.size ≤ g) : v.ownBlock ≠ some g := fun e1 => by have := (World.ownsRow.lt h.1 g e1).2; omega
theorem OwnI.notNew (h : OwnI w B e k v xs) {g : Nat} (hg : w.heap.size ≤ g) : v.ownBlock ≠ some g := fun e1 => by have := (World.ownsRow.lt h g e1).2; omega
end

section
variable {P : Program} {w : World} {ops : Array Oper} {rest : List Oper} {o : Oper} {a : Act} {Q : Exit → Act → World → Prop}

theorem wpList_grow (hgd : o.guard = none) (s x : Operand) {t e : TypeId} {k : IntKind} {bytes : Nat} (F : IntSlice P t e k bytes)
    (ho : o.op = .call { callee := .builtin .append, args := #[s, x], argTypes := #[t, t] })
    (B : Nat) (v : Value) (xs : List Int) (n : Nat) (y : Int) (hs : a.eval s = v) (hx : a.eval x = .slice (some ⟨w.heap.size, 0, none⟩) 1 1) (hn : xs.length = n)
    (hown : OwnI w B e k v xs) (h63 : n + 1 ≤ maxLen) (hlen : (n + 1) * bytes ≤ 140737488355328) (hb : B ≤ w.heap.size)
    (h : ∀ ad cap w', OwnI w' B e k (.slice ad (n + 1) cap) (xs ++ [y]) → (w.alloc (.cells #[.int k y] e)).grownBy w' v.ownBlock → wpList P ops Q rest (a.put o.dst (.slice ad (n + 1) cap)) w') : wpList P ops Q (o :: rest) a (w.alloc (.cells #[.int k y] e)) := by
  subst hn
  obtain ⟨ht, hinfo⟩ := F
  obtain ⟨i, hi, hz0, hz1, hz2⟩ := info_parts hinfo
  refine wpList_append_own _ hgd s x t ho B e i (.int k 0) 1 bytes ht hi hz0 hz1 hz2 rfl (by decide) v xs.length (xs.map (Value.int k)) hs (World.ownsRow.alloc hown _) ⟨w.heap.size, 0, none⟩ 1 1 [.int k y] hx rfl
    (cell_one_at w (.int k y) e) (by intro u hu; simp only [List.mem_cons, List.not_mem_nil, or_false] at hu; subst hu; rfl) h63 hlen (by simp; omega) ?_
  intro v' w1 hown1 hgr _
  have ho : OwnI w1 B e k v' (xs ++ [y]) := by
    unfold OwnI
    rw [List.length_append, List.length_cons, List.length_nil, List.map_append]
    exact hown1
  obtain ⟨ad, cap, hv⟩ := ho.len_le
  rw [List.length_append, List.length_cons, List.length_nil] at hv
  subst hv
  exact h ad cap w1 ho hgr
theorem wpList_grow_row (hgd : o.guard = none) (s x : Operand) {t e : TypeId} {z : Value} {sz bytes : Nat} (F : RowSlice P t e z sz bytes)
    (ho : o.op = .call { callee := .builtin .append, args := #[s, x], argTypes := #[t, t] })
    (B : Nat) (v : Value) (rows : List (List Value)) (n : Nat) (r : List Value) (hs : a.eval s = v) (hx : a.eval x = .slice (some ⟨w.heap.size, 0, none⟩) 1 1) (hn : rows.length = n) (hr : r.length = sz) (hr1 : ∀ u ∈ r, u.oneCell' = true)
    (hown : OwnS w B e sz v rows) (h63 : n + 1 ≤ maxLen) (hlen : (n + 1) * bytes ≤ 140737488355328) (hb : B ≤ w.heap.size)
    (h : ∀ ad cap w', OwnS w' B e sz (.slice ad (n + 1) cap) (rows ++ [r]) → (w.alloc (.cells r.toArray e)).grownBy w' v.ownBlock → wpList P ops Q rest (a.put o.dst (.slice ad (n + 1) cap)) w') : wpList P ops Q (o :: rest) a (w.alloc (.cells r.toArray e)) := by
  subst hn
  obtain ⟨ht, hinfo, hz, hsz⟩ := F
  obtain ⟨i, hi, hz0, hz1, hz2⟩ := info_parts hinfo
  obtain ⟨hown1, hown2⟩ := hown
  refine wpList_append_own _ hgd s x t ho B e i z sz bytes ht hi hz0 hz1 hz2 hz hsz v rows.length rows.flatten hs (World.ownsRow.alloc hown1 _) ⟨w.heap.size, 0, none⟩ 1 1 r hx (by rw [hr, Nat.one_mul])
    (fun j u hj => by
      rw [WideShapes.add_plain, World.cell?_alloc_new]
      simpa using hj) hr1 h63 hlen (by simp; omega) ?_
  intro v' w1 hown' hgr _
  have hos : OwnS w1 B e sz v' (rows ++ [r]) := by
    refine ⟨?_, fun q hq => ?_⟩
    · rw [List.length_append, List.length_cons, List.length_nil, List.flatten_append, List.flatten_cons, List.flatten_nil, List.append_nil]
      exact hown'
    · rcases List.mem_append.1 hq with h | h
      · exact hown2 q h
      · simp only [List.mem_cons, List.not_mem_nil, or_false] at h
        subst h
        exact hr
  obtain ⟨ad, cap, hv, -⟩ := hos.row
  rw [List.length_append, List.length_cons, List.length_nil] at hv
  subst hv
  exact h ad cap w1 hos hgr
end
end Go.Proofs.YtnaejlfjlennhaaGreatDoor
/- Variables that lie in memory by themselves (captured by a function literal), and rows of truth values that a call makes. Nothing of the program is named. -/
namespace Go.Proofs.YtnaejlfjlennhaaGreatDoor
open Go.RowKit
set_option linter.unusedVariables false
set_option linter.unusedSimpArgs false

def InBox (w : World) (b : Nat) (v : Value) (T : TypeId) : Prop := w.heap[b]? = some (.cells #[v] T)
section
variable {w w' : World} {b B : Nat} {v u : Value} {T e : TypeId}
theorem InBox.lt (h : InBox w b v T) : b < w.heap.size := lt_of_block h
theorem InBox.cell (h : InBox w b v T) : w.cell? ⟨b, 0, none⟩ = some v := by rw [cell_of_row w b 0 _ _ _ h]; rfl
theorem InBox.free (h : InBox w b v T) : w.frozen? ⟨b, 0, none⟩ = false := frozen_of_row w b 0 _ _ h
theorem InBox.alloc (h : InBox w b v T) (o : Obj) : InBox (w.alloc o) b v T := (heap_alloc_old w o h.lt).trans h
theorem InBox.of_block (h : InBox w b v T) (hb : w'.heap[b]? = w.heap[b]?) : InBox w' b v T := hb.trans h
theorem InBox.setOther (h : InBox w b v T) {a : Addr} (ha : a.block ≠ b) (u : Value) : InBox (w.setCell a u) b v T := (heap_setCell_other w a b u (Ne.symm ha)).trans h
theorem InBox.set (h : InBox w b v T) (u : Value) : InBox (w.setCell ⟨b, 0, none⟩ u) b u T := by
  unfold InBox
  rw [heap_setCell_same w b 0 _ _ u h]
  rfl
theorem InBox.grown (h : InBox w b v T) {row : Option Nat} (hg : w.grownBy w' row) (hne : row ≠ some b) : InBox w' b v T := h.of_block (hg.block b h.lt (fun e => hne e.symm))
theorem InBox.below (h : InBox w b v T) (hb : Below w.heap.size w w') : InBox w' b v T := h.of_block (hb.block b h.lt)
theorem InBox.apart (h : InBox w b v T) {sz n : Nat} {x : Value} {xs : List Value} (ho : w.ownsRow B e sz x n xs) (hne : e ≠ T) : x.ownBlock ≠ some b := by
  intro e1
  obtain ⟨-, h2⟩ := ho
  rcases h2 with ⟨rfl, -⟩ | ⟨g, cap, cur, rfl, -, hg, -⟩
  · cases e1
  · simp only [Value.ownBlock, Option.some.injEq] at e1
    have : g = b := by simpa [Value.ownBlock] using e1
    subst this
    rw [h] at hg
    simp only [Option.some.injEq, Obj.cells.injEq] at hg
    exact hne hg.2.1.symm
theorem InBox.new (w : World) (v : Value) (T : TypeId) : InBox (w.alloc (.cells #[v] T)) w.heap.size v T := heap_alloc_new _ _
end

/-- of each number below n whether it is in a list -/
def marks (n : Nat) (l : List Nat) : List Value := (List.range n).map fun i => .bool (decide (i ∈ l))
theorem marks_length (n : Nat) (l : List Nat) : (marks n l).length = n := by simp [marks]
theorem marks_at {n i : Nat} (l : List Nat) (h : i < n) : (marks n l)[i]? = some (.bool (decide (i ∈ l))) := by simp [marks, h]
theorem marks_set {n i : Nat} (l : List Nat) (h : i < n) : (marks n l).set i (.bool true) = marks n (l ++ [i]) := by
  apply List.ext_getElem?
  intro j
  by_cases hj : j < n
  · rw [marks_at _ hj, List.getElem?_set]
    by_cases hij : i = j
    · subst hij
      simp [marks_length, h]
    · rw [if_neg hij, marks_at _ hj]
      have : j ≠ i := fun e => hij e.symm
      simp [this]
  · rw [List.getElem?_eq_none (by simp [marks_length]; omega), List.getElem?_eq_none (by simp [marks_length]; omega)]
theorem marks_nil (n : Nat) : marks n [] = List.replicate n (.bool false) := by
  apply List.ext_getElem?
  intro j
  by_cases hj : j < n
  · rw [marks_at _ hj]
    simp [hj]
  · rw [List.getElem?_eq_none (by simp [marks_length]; omega), List.getElem?_eq_none (by simp; omega)]

/-- a row of marks that a call made -/
def OwnB (w : World) (B : Nat) (e : TypeId) (g n : Nat) (l : List Nat) : Prop := w.ownsRow B e 1 (.slice (some ⟨g, 0, none⟩) n n) n (marks n l)
section
variable {w w' : World} {B g n : Nat} {e : TypeId} {l : List Nat}
theorem OwnB.cell (h : OwnB w B e g n l) {i : Nat} (hi : i < n) : w.cell? ⟨g, i, none⟩ = some (.bool (decide (i ∈ l))) := by
  rw [World.ownsRow.cellAt h i (by omega), marks_at l hi]
theorem OwnB.free (h : OwnB w B e g n l) (i : Nat) : w.frozen? ⟨g, i, none⟩ = false := World.ownsRow.frozenAt h i
theorem OwnB.set (h : OwnB w B e g n l) {i : Nat} (hi : i < n) : OwnB (w.setCell ⟨g, i, none⟩ (.bool true)) B e g n (l ++ [i]) := by
  have := (World.ownsRow.stored h i (.bool true)).1
  rw [marks_set l hi] at this
  exact this
theorem OwnB.alloc (h : OwnB w B e g n l) (o : Obj) : OwnB (w.alloc o) B e g n l := World.ownsRow.alloc h o
theorem OwnB.setOther (h : OwnB w B e g n l) {a : Addr} (ha : a.block ≠ g) (u : Value) : OwnB (w.setCell a u) B e g n l := ownsRow_setCell_other h (fun e1 => ha (by simpa [Value.ownBlock] using e1.symm)) u
theorem OwnB.blockGe (h : OwnB w B e g n l) : B ≤ g ∧ g < w.heap.size := World.ownsRow.lt h g rfl
theorem OwnB.grown (h : OwnB w B e g n l) {B' : Nat} {e' : TypeId} {sz m : Nat} {x : Value} {xs : List Value} (hg : w.grownBy w' x.ownBlock) (ho : w.ownsRow B' e' sz x m xs) (hne : e ≠ e') : OwnB w' B e g n l := World.ownsRow.kept h hg (own_apart ho h hne)
theorem OwnB.below (h : OwnB w B e g n l) (hb : Below w.heap.size w w') : OwnB w' B e g n l := by
  obtain ⟨h1, h2⟩ := h
  refine ⟨h1, ?_⟩
  rcases h2 with h2 | ⟨g, cap, cur, hv, hB, hg, r⟩
  · exact .inl h2
  · exact .inr ⟨g, cap, cur, hv, hB, by rw [hb.block g (lt_of_block hg)]; exact hg, r⟩
end

/-- make([]bool, n) -/
theorem wpList_make_marks {P : Program} {w : World} {ops : Array Oper} {rest : List Oper} {o : Oper} {a : Act} {Q : Exit → Act → World → Prop} (hgd : o.guard = none) (l c : Operand) {t e : TypeId}
    (ht : P.underlying t = some (.slice e)) (hinfo : (P.info? e).map (fun i => (i.zero, i.size, i.bytes)) = some (some (.bool false), 1, 1)) (ho : o.op = Op.makeSlice t l c) (B : Nat) (w0 : World) (n : Nat) (kl kc : IntKind) (L C : Int)
    (hl : a.eval l = .int kl L) (hc : a.eval c = .int kc C) (hL : L = (n : Int)) (hC : C = (n : Int)) (hn : n ≤ 1048576) (bel : Below B w0 w) (hb : B ≤ w.heap.size)
    (h : ∀ g w', OwnB w' B e g n [] → w.heap.size ≤ g → Below B w0 w' → Below w.heap.size w w' → wpList P ops Q rest (a.put o.dst (.slice (some ⟨g, 0, none⟩) n n)) w') : wpList P ops Q (o :: rest) a w := by
  obtain ⟨i, hi, hz0, hz1, hz2⟩ := info_parts hinfo
  refine wpList_make_full w hgd l c t ho B e i (.bool false) 1 ht hi hz0 hz1 kl kc L C n hl hc hL hC (by rw [hz2]; omega) (by unfold maxLen; omega) hb ?_
  intro w' hown hgr
  refine h w.heap.size w' ?_ (Nat.le_refl _) (bel.grown hgr hb (fun j hj => by cases hj)) ((Below.refl _ _).grown hgr (Nat.le_refl _) (fun j hj => by cases hj))
  unfold OwnB
  rw [marks_nil]
  have e1 : (madeCells (Value.bool false).cells (n * 1)).toList = List.replicate n (.bool false) := by
    rw [Nat.mul_one]
    exact toList_madeCells_one (.bool false) n
  rw [e1] at hown
  exact hown
end Go.Proofs.YtnaejlfjlennhaaGreatDoor
