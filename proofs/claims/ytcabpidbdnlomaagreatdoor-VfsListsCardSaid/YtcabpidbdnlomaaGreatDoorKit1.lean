/- Slices of numbers that a call makes itself, by append: what they are, how they grow, how they are read. Nothing of the program is named. -/
import Derived.Test.YtcabpidbdnlomaaGreatDoorBase
import Derived.Laws.AppendOwnNone
import Derived.OwnWalk
import Derived.Laws.OwnMore
import Derived.Laws.Rows
import Derived.Deep.AppendLies
import Derived.Deep.RegionHeld3
namespace Go.Proofs.YtcabpidbdnlomaaGreatDoor
open Go.RowKit
set_option linter.unusedVariables false
set_option linter.unusedSimpArgs false

/-- the types of a slice of numbers, as the program's table has them -/
def IntSlice (P : Program) (t e : TypeId) (k : IntKind) (bytes : Nat) : Prop :=
  P.underlying t = some (.slice e) ∧ (P.info? e).map (fun i => (i.zero, i.size, i.bytes)) = some (some (.int k 0), 1, bytes)

/-- a slice value that owns these numbers, among the blocks from B on -/
def OwnI (w : World) (B : Nat) (e : TypeId) (k : IntKind) (v : Value) (xs : List Int) : Prop := w.ownsRow B e 1 v xs.length (xs.map (Value.int k))

theorem OwnI.nil (w : World) (B : Nat) (e : TypeId) (k : IntKind) : OwnI w B e k (.slice none 0 0) [] := World.ownsRow_nil _ _ _ _

section
variable {w w' : World} {B B' : Nat} {e : TypeId} {k : IntKind} {v : Value} {xs : List Int}

theorem OwnI.below (h : OwnI w B e k v xs) (hb : Below w.heap.size w w') : OwnI w' B e k v xs := by
  obtain ⟨h1, h2⟩ := h
  refine ⟨h1, ?_⟩
  rcases h2 with h2 | ⟨g, cap, cur, hv, hB, hg, r⟩
  · exact .inl h2
  · exact .inr ⟨g, cap, cur, hv, hB, by rw [hb.block g (lt_of_block hg)]; exact hg, r⟩

theorem OwnI.mono (h : OwnI w B e k v xs) (hB : B' ≤ B) : OwnI w B' e k v xs := by
  obtain ⟨h1, h2⟩ := h
  refine ⟨h1, ?_⟩
  rcases h2 with h2 | ⟨g, cap, cur, hv, hg, r⟩
  · exact .inl h2
  · exact .inr ⟨g, cap, cur, hv, Nat.le_trans hB hg, r⟩

/-- how it is read -/
theorem OwnI.row (h : OwnI w B e k v xs) : ∃ a cap, v = .slice a xs.length cap ∧ Row k w a xs ∧ xs.length ≤ cap ∧ (a = none → xs.length = 0 ∧ cap = 0) ∧ (∀ b, a = some b → B ≤ b.block ∧ b.block < w.heap.size) := by
  obtain ⟨h1, h2⟩ := h
  rcases h2 with ⟨rfl, h0⟩ | ⟨g, cap, cur, rfl, hB, hg, hc, hm, hs, hx⟩
  · exact ⟨none, 0, by rw [h0], fun i hi => by omega, by omega, fun _ => ⟨h0, rfl⟩, fun b hb => by cases hb⟩
  · refine ⟨some ⟨g, 0, none⟩, cap, rfl, ?_, hc, (fun h => by cases h), ?_⟩
    · intro i hi
      have hown : w.ownsRow B e 1 (.slice (some ⟨g, 0, none⟩) xs.length cap) xs.length (xs.map (Value.int k)) := ⟨h1, .inr ⟨g, cap, cur, rfl, hB, hg, hc, hm, hs, hx⟩⟩
      refine ⟨g, 0, rfl, ?_⟩
      rw [Nat.zero_add, hown.cellAt i (by omega)]
      simp [hi]
    · intro b hb
      cases hb
      exact ⟨hB, lt_of_block hg⟩

theorem OwnI.len_le (h : OwnI w B e k v xs) : ∃ a cap, v = .slice a xs.length cap := by
  obtain ⟨a, cap, h, -⟩ := h.row
  exact ⟨a, cap, h⟩
end

theorem cell_one_at (w : World) (u : Value) (e : TypeId) : ∀ j y, [u][j]? = some y → (w.alloc (.cells #[u] e)).cell? ((⟨w.heap.size, 0, none⟩ : Addr).add j) = some y := by
  intro j y hj
  match j, hj with
  | 0, hj =>
    simp only [List.getElem?_cons_zero, Option.some.injEq] at hj
    subst hj
    rw [WideShapes.add_plain, World.cell?_alloc_new]
    rfl

/-- what rows of other element types are still owned -/
def Kept (e : TypeId) (w w' : World) : Prop := ∀ (B' : Nat) (e' : TypeId) (k' : IntKind) (u : Value) (ys : List Int), e' ≠ e → OwnI w B' e' k' u ys → OwnI w' B' e' k' u ys
theorem Kept.of {B : Nat} {e : TypeId} {k : IntKind} {v : Value} {xs : List Int} {w w' : World} (h : OwnI w B e k v xs) (hg : w.grownBy w' v.ownBlock) : Kept e w w' := by
  intro B' e' k' u ys hne hu
  refine World.ownsRow.kept hu hg ?_
  obtain ⟨-, hu2⟩ := hu
  obtain ⟨-, hv2⟩ := h
  rcases hu2 with ⟨rfl, -⟩ | ⟨g, cap, cur, rfl, -, hgg, -⟩
  · left; rfl
  · rcases hv2 with ⟨rfl, -⟩ | ⟨g', cap', cur', rfl, -, hgg', -⟩
    · right; simp [Value.ownBlock]
    · right
      intro e1
      simp only [Value.ownBlock, Option.some.injEq] at e1
      have : g = g' := by simpa [Value.ownBlock] using e1
      subst this
      rw [hgg] at hgg'
      simp only [Option.some.injEq, Obj.cells.injEq] at hgg'
      exact hne hgg'.2.1

section
variable {P : Program} {w : World} {ops : Array Oper} {rest : List Oper} {o : Oper} {a : Act} {Q : Exit → Act → World → Prop}

/-- out = append(out, y): and what else is owned stays -/
theorem wpList_push_k (hgd : o.guard = none) (s x : Operand) {t e : TypeId} {k : IntKind} {bytes : Nat} (F : IntSlice P t e k bytes)
    (ho : o.op = .call { callee := .builtin .append, args := #[s, x], argTypes := #[t, t] })
    (B : Nat) (w0 : World) (v : Value) (xs : List Int) (n : Nat) (y : Int) (hs : a.eval s = v) (hx : a.eval x = .slice (some ⟨w.heap.size, 0, none⟩) 1 1) (hn : xs.length = n)
    (hown : OwnI w B e k v xs) (h63 : n + 1 ≤ maxLen) (hlen : (n + 1) * bytes ≤ 140737488355328) (bel : Below B w0 w) (hb : B ≤ w.heap.size)
    (h : ∀ ad cap w', OwnI w' B e k (.slice ad (n + 1) cap) (xs ++ [y]) → Below B w0 w' → Kept e w w' → wpList P ops Q rest (a.put o.dst (.slice ad (n + 1) cap)) w') : wpList P ops Q (o :: rest) a (w.alloc (.cells #[.int k y] e)) := by
  subst hn
  obtain ⟨ht, hinfo⟩ := F
  obtain ⟨i, hi, hz0, hz1, hz2⟩ := info_parts hinfo
  refine wpList_append_own _ hgd s x t ho B e i (.int k 0) 1 bytes ht hi hz0 hz1 hz2 rfl (by decide) v xs.length (xs.map (Value.int k)) hs (World.ownsRow.alloc hown _) ⟨w.heap.size, 0, none⟩ 1 1 [.int k y] hx rfl
    (cell_one_at w (.int k y) e) (by intro u hu; simp only [List.mem_cons, List.not_mem_nil, or_false] at hu; subst hu; rfl) h63 hlen (by simp; omega) ?_
  intro v' w1 hown1 hgr _
  have ho : OwnI w1 B e k v' (xs ++ [y]) := by
    unfold OwnI
    rw [List.length_append, List.length_cons, List.length_nil, List.map_append]
    exact hown1
  obtain ⟨ad, cap, hv⟩ := ho.len_le
  rw [List.length_append, List.length_cons, List.length_nil] at hv
  subst hv
  exact h ad cap w1 ho ((bel.alloc hb _).grown hgr (by simp; omega) fun j hj => (World.ownsRow.lt hown j hj).1) fun B' e' k' u ys hne hu => Kept.of (w := w.alloc _) (World.ownsRow.alloc hown _) hgr B' e' k' u ys hne (World.ownsRow.alloc hu _)

/-- out = append(out, y) -/
theorem wpList_push (hgd : o.guard = none) (s x : Operand) {t e : TypeId} {k : IntKind} {bytes : Nat} (F : IntSlice P t e k bytes)
    (ho : o.op = .call { callee := .builtin .append, args := #[s, x], argTypes := #[t, t] })
    (B : Nat) (w0 : World) (v : Value) (xs : List Int) (n : Nat) (y : Int) (hs : a.eval s = v) (hx : a.eval x = .slice (some ⟨w.heap.size, 0, none⟩) 1 1) (hn : xs.length = n)
    (hown : OwnI w B e k v xs) (h63 : n + 1 ≤ maxLen) (hlen : (n + 1) * bytes ≤ 140737488355328) (bel : Below B w0 w) (hb : B ≤ w.heap.size)
    (h : ∀ ad cap w', OwnI w' B e k (.slice ad (n + 1) cap) (xs ++ [y]) → Below B w0 w' → wpList P ops Q rest (a.put o.dst (.slice ad (n + 1) cap)) w') : wpList P ops Q (o :: rest) a (w.alloc (.cells #[.int k y] e)) := by
  subst hn
  obtain ⟨ht, hinfo⟩ := F
  obtain ⟨i, hi, hz0, hz1, hz2⟩ := info_parts hinfo
  refine wpList_append_own _ hgd s x t ho B e i (.int k 0) 1 bytes ht hi hz0 hz1 hz2 rfl (by decide) v xs.length (xs.map (Value.int k)) hs (World.ownsRow.alloc hown _) ⟨w.heap.size, 0, none⟩ 1 1 [.int k y] hx rfl
    (cell_one_at w (.int k y) e) (by intro u hu; simp only [List.mem_cons, List.not_mem_nil, or_false] at hu; subst hu; rfl) h63 hlen (by simp; omega) ?_
  intro v' w1 hown1 hgr _
  have ho : OwnI w1 B e k v' (xs ++ [y]) := by
    unfold OwnI
    rw [List.length_append, List.length_cons, List.length_nil, List.map_append]
    exact hown1
  obtain ⟨ad, cap, hv⟩ := ho.len_le
  rw [List.length_append, List.length_cons, List.length_nil] at hv
  subst hv
  exact h ad cap w1 ho ((bel.alloc hb _).grown hgr (by simp; omega) fun j hj => (World.ownsRow.lt hown j hj).1)

/-- out = append(out, l...), whatever l is -/
theorem wpList_pushes (hgd : o.guard = none) (s x : Operand) {t e : TypeId} {k : IntKind} {bytes : Nat} (F : IntSlice P t e k bytes)
    (ho : o.op = .call { callee := .builtin .append, args := #[s, x], argTypes := #[t, t] })
    (B : Nat) (w0 : World) (v : Value) (xs : List Int) (n : Nat) (ad : Option Addr) (cap len : Nat) (ys : List Int) (hs : a.eval s = v) (hx : a.eval x = .slice ad len cap) (hn0 : xs.length = n) (hl : ys.length = len) (hrow : Row k w ad ys) (hn : ad = none → ys.length = 0 ∧ cap = 0)
    (hown : OwnI w B e k v xs) (h63 : n + len ≤ maxLen) (hlen : (n + len) * bytes ≤ 140737488355328) (bel : Below B w0 w) (hb : B ≤ w.heap.size)
    (h : ∀ ad' cap' w', OwnI w' B e k (.slice ad' (n + len) cap') (xs ++ ys) → Below B w0 w' → wpList P ops Q rest (a.put o.dst (.slice ad' (n + len) cap')) w') : wpList P ops Q (o :: rest) a w := by
  subst hl hn0
  have h' : ∀ v' w', OwnI w' B e k v' (xs ++ ys) → Below B w0 w' → wpList P ops Q rest (a.put o.dst v') w' := by
    intro v' w1 ho hb1
    obtain ⟨ad', cap', hv⟩ := ho.len_le
    rw [List.length_append] at hv
    subst hv
    exact h ad' cap' w1 ho hb1
  clear h
  obtain ⟨ht, hinfo⟩ := F
  obtain ⟨i, hi, hz0, hz1, hz2⟩ := info_parts hinfo
  cases ad with
  | none =>
    obtain ⟨h0, rfl⟩ := hn rfl
    obtain rfl : ys = [] := List.length_eq_zero_iff.1 h0
    refine wpList_append_own_none hgd s x t ho B e i 1 ht hi v xs.length (xs.map (Value.int k)) hs hown hx ?_
    rw [List.append_nil] at h'
    exact h' _ _ hown bel
  | some ad =>
    refine wpList_append_own _ hgd s x t ho B e i (.int k 0) 1 bytes ht hi hz0 hz1 hz2 rfl (by decide) v xs.length (xs.map (Value.int k)) hs hown ad ys.length cap (ys.map (Value.int k)) hx (by simp) ?_
      (ints_oneCell k ys) h63 hlen hb ?_
    · intro j u hj
      have hl : j < ys.length := by
        have := (List.getElem?_eq_some_iff.1 hj).1
        simpa using this
      obtain ⟨b', o', e', hc⟩ := hrow j hl
      simp only [Option.some.injEq] at e'
      subst e'
      rw [WideShapes.add_plain, hc]
      rw [List.getElem?_map, List.getElem?_eq_getElem hl] at hj
      simp only [Option.map_some, Option.some.injEq] at hj
      rw [← hj]
      simp [List.getD, hl]
    · intro v' w1 hown1 hgr _
      refine h' v' w1 ?_ (bel.grown hgr hb ?_)
      · unfold OwnI
        rw [List.length_append, List.map_append]
        exact hown1
      · intro j hj
        exact (World.ownsRow.lt hown j hj).1
end

/-- so many of a list, from a place on -/
def cutOf (xs : List Int) (off n : Nat) : List Int := (xs.drop off).take n
theorem cutOf_length {xs : List Int} {off n : Nat} (h : n ≤ xs.length - off) : (cutOf xs off n).length = n := by simp [cutOf]; omega
theorem Row.cut {k : IntKind} {w : World} {a : Option Addr} {xs : List Int} (h : Row k w a xs) (off n : Nat) : Row k w (a.map (·.add off)) (cutOf xs off n) := by
  intro i hi
  simp only [cutOf, List.length_take, List.length_drop] at hi
  obtain ⟨b, o, rfl, hc⟩ := h (off + i) (by omega)
  refine ⟨b, o + off, by simp [WideShapes.add_plain], ?_⟩
  rw [Nat.add_assoc, hc]
  simp [cutOf, List.getD, List.getElem?_take, show i < n from by omega]

theorem Row.there {k : IntKind} {w : World} {a : Option Addr} {xs : List Int} (h : Row k w a xs) (h0 : 0 < xs.length) : ∃ b o, a = some ⟨b, o, none⟩ := by
  obtain ⟨b, o, rfl, -⟩ := h 0 h0
  exact ⟨b, o, rfl⟩
/-- what is done behind one step and behind the next -/
theorem bstep {a b c : World} (h : Below a.heap.size a b) (k : Below b.heap.size b c) : Below a.heap.size a c := h.trans (k.mono h.size)

theorem OwnI.at {w : World} {B : Nat} {e : TypeId} {k : IntKind} {ad : Option Addr} {n cap : Nat} {xs : List Int} (h : OwnI w B e k (.slice ad n cap) xs) : n = xs.length ∧ Row k w ad xs ∧ (ad = none → xs.length = 0 ∧ cap = 0) := by
  obtain ⟨a, c, hv, hr, -, hn, -⟩ := h.row
  cases hv
  exact ⟨rfl, hr, hn⟩

theorem OwnI.fit {w : World} {B : Nat} {e : TypeId} {k : IntKind} {ad : Option Addr} {n cap : Nat} {xs : List Int} (h : OwnI w B e k (.slice ad n cap) xs) : n ≤ cap ∧ xs.length ≤ cap := by
  obtain ⟨a, c, hv, -, hle, -⟩ := h.row
  simp only [Value.slice.injEq] at hv
  obtain ⟨-, rfl, rfl⟩ := hv
  exact ⟨hle, hle⟩

/-- lists, from their end -/
@[elab_as_elim] theorem snocInd {α : Type} {motive : List α → Prop} (nil : motive []) (snoc : ∀ xs x, motive xs → motive (xs ++ [x])) (xs : List α) : motive xs := by
  rw [← List.reverse_reverse xs]
  induction xs.reverse with
  | nil => exact nil
  | cons x l ih => rw [List.reverse_cons]; exact snoc _ _ ih

/-- numbers without a sign, as a list of naturals -/
def toI (ys : List Nat) : List Int := ys.map fun (y : Nat) => (y : Int)
theorem toI_length (ys : List Nat) : (toI ys).length = ys.length := by simp [toI]
theorem toI_append (xs ys : List Nat) : toI (xs ++ ys) = toI xs ++ toI ys := by simp [toI]
theorem toI_getD (ys : List Nat) (i : Nat) : (toI ys).getD i 0 = ((ys.getD i 0 : Nat) : Int) := by
  simp only [toI, List.getD, List.getElem?_map]
  cases ys[i]? <;> rfl
theorem toI_nats {xs : List Int} (h : ∀ x ∈ xs, 0 ≤ x) : ∃ ys : List Nat, xs = toI ys := by
  refine ⟨xs.map Int.toNat, ?_⟩
  simp only [toI, List.map_map]
  apply List.ext_getElem (by simp)
  intro i h1 h2
  have := h xs[i] (List.getElem_mem h1)
  simp
  omega

/-- a slice of naturals, and that all of them have room -/
def NRow (w : World) (a : Option Addr) (ys : List Nat) : Prop := Row .u64 w a (toI ys) ∧ ∀ y ∈ ys, y < 18446744073709551616
theorem NRow.at {w : World} {a : Option Addr} {ys : List Nat} (h : NRow w a ys) {i : Nat} (hi : i < ys.length) : ∃ b off, a = some ⟨b, off, none⟩ ∧ b < w.heap.size ∧ w.cell? ⟨b, off + i, none⟩ = some (.int .u64 ((ys.getD i 0 : Nat) : Int)) ∧ ys.getD i 0 < 18446744073709551616 := by
  obtain ⟨b, off, e, hc⟩ := h.1 i (by rw [toI_length]; exact hi)
  rw [toI_getD] at hc
  refine ⟨b, off, e, by simpa using World.block_lt_of_cell? w _ hc, hc, ?_⟩
  refine h.2 _ ?_
  simp [List.getD, hi]
theorem NRow.below {w w' : World} {a : Option Addr} {ys : List Nat} (h : NRow w a ys) (hb : Below w.heap.size w w') : NRow w' a ys := ⟨h.1.below hb, h.2⟩
theorem NRow.of {w : World} {a : Option Addr} {xs : List Int} (h : Row .u64 w a xs) (hw : ∀ n ∈ xs, (Lit.int .u64 n).wf = true) : ∃ ys, xs = toI ys ∧ ys.length = xs.length ∧ NRow w a ys := by
  obtain ⟨ys, rfl⟩ := toI_nats (xs := xs) fun x hx => (wf_u64_bounds (hw x hx)).1
  refine ⟨ys, rfl, (toI_length ys).symm, h, fun y hy => ?_⟩
  have := (wf_u64_bounds (hw (y : Int) (List.mem_map.2 ⟨y, hy, rfl⟩))).2
  rw [M64_eq] at this
  omega
theorem getD_getElem {ys : List Nat} {i : Nat} (h : i < ys.length) : ys.getD i 0 = ys[i] := by simp [List.getD, h]

end Go.Proofs.YtcabpidbdnlomaaGreatDoor
/- Slices of structs that a call makes itself, by append: what they are, how they grow, how they are read. Nothing of the program is named. -/
namespace Go.Proofs.YtcabpidbdnlomaaGreatDoor
open Go.RowKit
set_option linter.unusedVariables false
set_option linter.unusedSimpArgs false

/-- the types of a slice of structs of so many cells -/
def RowSlice (P : Program) (t e : TypeId) (z : Value) (sz bytes : Nat) : Prop :=
  P.underlying t = some (.slice e) ∧ (P.info? e).map (fun i => (i.zero, i.size, i.bytes)) = some (some z, sz, bytes) ∧ z.cells.size = sz ∧ 0 < sz

/-- a slice value that owns these structs, among the blocks from B on -/
def OwnS (w : World) (B : Nat) (e : TypeId) (sz : Nat) (v : Value) (rows : List (List Value)) : Prop := w.ownsRow B e sz v rows.length rows.flatten ∧ ∀ r ∈ rows, r.length = sz
/-- a slice of structs that can be read -/
def RowS (w : World) (sz : Nat) (a : Option Addr) (rows : List (List Value)) : Prop := ∀ i, (hi : i < rows.length) → ∃ b o, a = some ⟨b, o, none⟩ ∧ b < w.heap.size ∧ ∀ j, j < sz → w.cell? ⟨b, o + i * sz + j, none⟩ = rows[i][j]?

theorem OwnS.nil (w : World) (B : Nat) (e : TypeId) (sz : Nat) : OwnS w B e sz (.slice none 0 0) [] := ⟨World.ownsRow_nil _ _ _ _, fun r hr => by cases hr⟩

theorem flatten_at {sz : Nat} : ∀ (rows : List (List Value)) (h : ∀ r ∈ rows, r.length = sz) (i j : Nat) (hi : i < rows.length) (hj : j < sz), rows.flatten[i * sz + j]? = rows[i][j]?
  | [], _, i, _, hi, _ => by simp at hi
  | r :: rows, h, 0, j, _, hj => by
    rw [List.flatten_cons, Nat.zero_mul, Nat.zero_add, List.getElem?_append_left (by rw [h r (by simp)]; exact hj)]
    rfl
  | r :: rows, h, i + 1, j, hi, hj => by
    have hr := h r (by simp)
    rw [List.flatten_cons, List.getElem?_append_right (by rw [hr, Nat.add_mul]; omega), hr, show (i + 1) * sz + j - sz = i * sz + j from by rw [Nat.add_mul]; omega, flatten_at rows (fun x hx => h x (by simp [hx])) i j (by simpa using hi) hj]
    rfl

section
variable {w w' : World} {B B' : Nat} {e : TypeId} {sz : Nat} {v : Value} {rows : List (List Value)}

theorem OwnS.below (h : OwnS w B e sz v rows) (hb : Below w.heap.size w w') : OwnS w' B e sz v rows := by
  obtain ⟨⟨h1, h2⟩, h3⟩ := h
  refine ⟨⟨h1, ?_⟩, h3⟩
  rcases h2 with h2 | ⟨g, cap, cur, hv, hB, hg, r⟩
  · exact .inl h2
  · exact .inr ⟨g, cap, cur, hv, hB, by rw [hb.block g (lt_of_block hg)]; exact hg, r⟩
theorem OwnS.mono (h : OwnS w B e sz v rows) (hB : B' ≤ B) : OwnS w B' e sz v rows := by
  obtain ⟨⟨h1, h2⟩, h3⟩ := h
  refine ⟨⟨h1, ?_⟩, h3⟩
  rcases h2 with h2 | ⟨g, cap, cur, hv, hg, r⟩
  · exact .inl h2
  · exact .inr ⟨g, cap, cur, hv, Nat.le_trans hB hg, r⟩
theorem OwnS.row (h : OwnS w B e sz v rows) : ∃ a cap, v = .slice a rows.length cap ∧ RowS w sz a rows ∧ rows.length ≤ cap ∧ (a = none → rows.length = 0 ∧ cap = 0) := by
  obtain ⟨⟨h1, h2⟩, h3⟩ := h
  rcases h2 with ⟨rfl, h0⟩ | ⟨g, cap, cur, rfl, hB, hg, hc, hm, hs, hx⟩
  · exact ⟨none, 0, by rw [h0], fun i hi => by omega, by omega, fun _ => ⟨h0, rfl⟩⟩
  · refine ⟨some ⟨g, 0, none⟩, cap, rfl, ?_, hc, fun h => by cases h⟩
    intro i hi
    refine ⟨g, 0, rfl, lt_of_block hg, fun j hj => ?_⟩
    have hown : w.ownsRow B e sz (.slice (some ⟨g, 0, none⟩) rows.length cap) rows.length rows.flatten := ⟨h1, .inr ⟨g, cap, cur, rfl, hB, hg, hc, hm, hs, hx⟩⟩
    have hf := flatten_at rows h3 i j hi hj
    have hjl : j < rows[i].length := by rw [h3 _ (List.getElem_mem hi)]; exact hj
    rw [List.getElem?_eq_getElem hjl] at hf ⊢
    have := hown.cells (g := g) rfl (i * sz + j) _ hf
    rw [WideShapes.add_plain] at this
    rw [Nat.add_assoc]
    exact this
theorem OwnS.at {ad : Option Addr} {n cap : Nat} (h : OwnS w B e sz (.slice ad n cap) rows) : n = rows.length ∧ RowS w sz ad rows ∧ n ≤ cap ∧ (ad = none → rows.length = 0 ∧ cap = 0) := by
  obtain ⟨a, c, hv, hr, hc, hn⟩ := h.row
  simp only [Value.slice.injEq] at hv
  obtain ⟨rfl, rfl, rfl⟩ := hv
  exact ⟨rfl, hr, hc, hn⟩
theorem RowS.below {a : Option Addr} (h : RowS w sz a rows) (hb : Below w.heap.size w w') : RowS w' sz a rows := by
  intro i hi
  obtain ⟨b, o, e, hlt, hc⟩ := h i hi
  exact ⟨b, o, e, Nat.lt_of_lt_of_le hlt hb.size, fun j hj => by rw [hb.cell (p := ⟨b, o + i * sz + j, none⟩) hlt]; exact hc j hj⟩
end

section
variable {P : Program} {w : World} {ops : Array Oper} {rest : List Oper} {o : Oper} {a : Act} {Q : Exit → Act → World → Prop}

/-- out = append(out, r), r a struct -/
theorem wpList_push_row (hgd : o.guard = none) (s x : Operand) {t e : TypeId} {z : Value} {sz bytes : Nat} (F : RowSlice P t e z sz bytes)
    (ho : o.op = .call { callee := .builtin .append, args := #[s, x], argTypes := #[t, t] })
    (B : Nat) (w0 : World) (v : Value) (rows : List (List Value)) (n : Nat) (r : List Value) (hs : a.eval s = v) (hx : a.eval x = .slice (some ⟨w.heap.size, 0, none⟩) 1 1) (hn : rows.length = n) (hr : r.length = sz) (hr1 : ∀ u ∈ r, u.oneCell' = true)
    (hown : OwnS w B e sz v rows) (h63 : n + 1 ≤ maxLen) (hlen : (n + 1) * bytes ≤ 140737488355328) (bel : Below B w0 w) (hb : B ≤ w.heap.size)
    (h : ∀ ad cap w', OwnS w' B e sz (.slice ad (n + 1) cap) (rows ++ [r]) → Below B w0 w' → Kept e w w' → wpList P ops Q rest (a.put o.dst (.slice ad (n + 1) cap)) w') : wpList P ops Q (o :: rest) a (w.alloc (.cells r.toArray e)) := by
  subst hn
  obtain ⟨ht, hinfo, hz, hsz⟩ := F
  obtain ⟨i, hi, hz0, hz1, hz2⟩ := info_parts hinfo
  obtain ⟨hown1, hown2⟩ := hown
  refine wpList_append_own _ hgd s x t ho B e i z sz bytes ht hi hz0 hz1 hz2 hz hsz v rows.length rows.flatten hs (World.ownsRow.alloc hown1 _) ⟨w.heap.size, 0, none⟩ 1 1 r hx (by rw [hr, Nat.one_mul])
    (fun j u hj => by
      rw [WideShapes.add_plain, World.cell?_alloc_new]
      simpa using hj) hr1 h63 hlen (by simp; omega) ?_
  intro v' w1 hown' hgr _
  have hos : OwnS w1 B e sz v' (rows ++ [r]) := by
    refine ⟨?_, fun q hq => ?_⟩
    · rw [List.length_append, List.length_cons, List.length_nil, List.flatten_append, List.flatten_cons, List.flatten_nil, List.append_nil]
      exact hown'
    · rcases List.mem_append.1 hq with h | h
      · exact hown2 q h
      · simp only [List.mem_cons, List.not_mem_nil, or_false] at h
        subst h
        exact hr
  obtain ⟨ad, cap, hv, -⟩ := hos.row
  rw [List.length_append, List.length_cons, List.length_nil] at hv
  subst hv
  refine h ad cap w1 hos ((bel.alloc hb _).grown hgr (by simp; omega) fun j hj => (World.ownsRow.lt hown1 j hj).1) ?_
  intro B' e' k' u ys hne hu
  refine World.ownsRow.kept (World.ownsRow.alloc hu _) hgr ?_
  obtain ⟨-, hu2⟩ := hu
  obtain ⟨-, hv2⟩ := hown1
  rcases hu2 with ⟨rfl, -⟩ | ⟨g, c', cur, rfl, -, hgg, -⟩
  · left; rfl
  · rcases hv2 with ⟨rfl, -⟩ | ⟨g', c2, cur', rfl, -, hgg', -⟩
    · right; simp [Value.ownBlock]
    · right
      intro e1
      have : g = g' := by simpa [Value.ownBlock] using e1
      subst this
      rw [hgg] at hgg'
      simp only [Option.some.injEq, Obj.cells.injEq] at hgg'
      exact hne hgg'.2.1
end
end Go.Proofs.YtcabpidbdnlomaaGreatDoor
/- Slices that a call makes itself: what an append leaves as it is. Nothing of the program is named. -/
namespace Go.Proofs.YtcabpidbdnlomaaGreatDoor
open Go.RowKit
set_option linter.unusedVariables false
set_option linter.unusedSimpArgs false

theorem own_apart {w : World} {B B' : Nat} {e e' : TypeId} {sz sz' : Nat} {v v' : Value} {n n' : Nat} {xs xs' : List Value} (h : w.ownsRow B e sz v n xs) (h' : w.ownsRow B' e' sz' v' n' xs') (hne : e' ≠ e) : v'.ownBlock = none ∨ v'.ownBlock ≠ v.ownBlock := by
  rcases h'.2 with ⟨rfl, -⟩ | ⟨g, cap, cur, rfl, -, hgg, -⟩
  · left; rfl
  · rcases h.2 with ⟨rfl, -⟩ | ⟨g', cap', cur', rfl, -, hgg', -⟩
    · right; simp [Value.ownBlock]
    · right
      intro e1
      have : g = g' := by simpa [Value.ownBlock] using e1
      subst this
      rw [hgg] at hgg'
      simp only [Option.some.injEq, Obj.cells.injEq] at hgg'
      exact hne hgg'.2.1

section
variable {w w' : World} {B B' B0 : Nat} {e e' : TypeId} {k k' : IntKind} {sz sz' : Nat} {v v' : Value} {xs xs' : List Int} {rows rows' : List (List Value)} {w0 : World}

theorem OwnS.allocO (h : OwnS w B e sz v rows) (o : Obj) : OwnS (w.alloc o) B e sz v rows := ⟨World.ownsRow.alloc h.1 o, h.2⟩
theorem OwnI.allocO (h : OwnI w B e k v xs) (o : Obj) : OwnI (w.alloc o) B e k v xs := World.ownsRow.alloc h o
theorem OwnS.setO (h : OwnS w B e sz v rows) {a : Addr} (ha : v.ownBlock ≠ some a.block) (u : Value) : OwnS (w.setCell a u) B e sz v rows := ⟨ownsRow_setCell_other h.1 ha u, h.2⟩
theorem OwnI.setO (h : OwnI w B e k v xs) {a : Addr} (ha : v.ownBlock ≠ some a.block) (u : Value) : OwnI (w.setCell a u) B e k v xs := ownsRow_setCell_other h ha u
/-- what is owned stays, while something else grows -/
theorem OwnS.keepI (h : OwnS w B e sz v rows) (hg : w.grownBy w' v'.ownBlock) (ho : OwnI w B' e' k' v' xs') (hne : e ≠ e') : OwnS w' B e sz v rows := ⟨World.ownsRow.kept h.1 hg (own_apart ho h.1 hne), h.2⟩
theorem OwnI.keepI (h : OwnI w B e k v xs) (hg : w.grownBy w' v'.ownBlock) (ho : OwnI w B' e' k' v' xs') (hne : e ≠ e') : OwnI w' B e k v xs := World.ownsRow.kept h hg (own_apart ho h hne)
theorem OwnI.keepS (h : OwnI w B e k v xs) (hg : w.grownBy w' v'.ownBlock) (ho : OwnS w B' e' sz' v' rows') (hne : e ≠ e') : OwnI w' B e k v xs := World.ownsRow.kept h hg (own_apart ho.1 h hne)
theorem below_keepI (h : Below B w0 w) (hg : w.grownBy w' v'.ownBlock) (ho : OwnI w B e' k' v' xs') (hb : B ≤ w.heap.size) : Below B w0 w' := h.grown hg hb fun j hj => (World.ownsRow.lt ho j hj).1
theorem below_keepS (h : Below B w0 w) (hg : w.grownBy w' v'.ownBlock) (ho : OwnS w B e' sz' v' rows') (hb : B ≤ w.heap.size) : Below B w0 w' := h.grown hg hb fun j hj => (World.ownsRow.lt ho.1 j hj).1
/-- a slice that stands written out is owned -/
theorem OwnI.lit (w : World) (B : Nat) (e : TypeId) (k : IntKind) (xs : List Int) (cs : Array Value) (hcs : cs = (xs.map (Value.int k)).toArray) (hb : B ≤ w.heap.size) (h63 : xs.length ≤ maxLen) : OwnI (w.alloc (.cells cs e)) B e k (.slice (some ⟨w.heap.size, 0, none⟩) xs.length xs.length) xs := by
  subst hcs
  refine ⟨by simp, .inr ⟨w.heap.size, xs.length, (xs.map (Value.int k)).toArray, rfl, hb, ?_, Nat.le_refl _, h63, by simp, by rw [Nat.mul_one]; exact List.take_of_length_le (by simp)⟩⟩
  show (w.heap.push _)[w.heap.size]? = _
  simp
/-- a store into an owned slice -/
theorem OwnI.put {g n cap : Nat} (h : OwnI w B e k (.slice (some ⟨g, 0, none⟩) n cap) xs) (hn : xs.length = n) (j : Nat) (y : Int) : OwnI (w.setCell ⟨g, j, none⟩ (.int k y)) B e k (.slice (some ⟨g, 0, none⟩) n cap) (xs.set j y) := by
  subst hn
  have := (World.ownsRow.stored h j (.int k y)).1
  unfold OwnI
  rw [List.length_set, List.map_set]
  exact this
theorem OwnI.get {g n cap : Nat} (h : OwnI w B e k (.slice (some ⟨g, 0, none⟩) n cap) xs) (j : Nat) (y : Int) (hj : xs[j]? = some y) : w.cell? ⟨g, j, none⟩ = some (.int k y) := by
  have hn := h.1
  have he : n = xs.length := by
    obtain ⟨-, h2⟩ := h
    rcases h2 with ⟨h3, h4⟩ | ⟨g', cap', cur, hv, -⟩
    · simp at h3
    · simp only [Value.slice.injEq] at hv; exact hv.2.1
  subst he
  have := World.ownsRow.cells h (g := g) rfl j (.int k y) (by simp [hj])
  rw [WideShapes.add_plain] at this
  simpa using this
theorem OwnI.blockGe {g n cap : Nat} (h : OwnI w B e k (.slice (some ⟨g, 0, none⟩) n cap) xs) : B ≤ g ∧ g < w.heap.size := World.ownsRow.lt h g rfl
theorem OwnS.notNew (h : OwnS w B e sz v rows) {g : Nat} (hg : w.heap.size ≤ g) : v.ownBlock ≠ some g := fun e1 => by have := (World.ownsRow.lt h.1 g e1).2; omega
theorem OwnI.notNew (h : OwnI w B e k v xs) {g : Nat} (hg : w.heap.size ≤ g) : v.ownBlock ≠ some g := fun e1 => by have := (World.ownsRow.lt h g e1).2; omega
end

section
variable {P : Program} {w : World} {ops : Array Oper} {rest : List Oper} {o : Oper} {a : Act} {Q : Exit → Act → World → Prop}

theorem wpList_grow (hgd : o.guard = none) (s x : Operand) {t e : TypeId} {k : IntKind} {bytes : Nat} (F : IntSlice P t e k bytes)
    (ho : o.op = .call { callee := .builtin .append, args := #[s, x], argTypes := #[t, t] })
    (B : Nat) (v : Value) (xs : List Int) (n : Nat) (y : Int) (hs : a.eval s = v) (hx : a.eval x = .slice (some ⟨w.heap.size, 0, none⟩) 1 1) (hn : xs.length = n)
    (hown : OwnI w B e k v xs) (h63 : n + 1 ≤ maxLen) (hlen : (n + 1) * bytes ≤ 140737488355328) (hb : B ≤ w.heap.size)
    (h : ∀ ad cap w', OwnI w' B e k (.slice ad (n + 1) cap) (xs ++ [y]) → (w.alloc (.cells #[.int k y] e)).grownBy w' v.ownBlock → wpList P ops Q rest (a.put o.dst (.slice ad (n + 1) cap)) w') : wpList P ops Q (o :: rest) a (w.alloc (.cells #[.int k y] e)) := by
  subst hn
  obtain ⟨ht, hinfo⟩ := F
  obtain ⟨i, hi, hz0, hz1, hz2⟩ := info_parts hinfo
  refine wpList_append_own _ hgd s x t ho B e i (.int k 0) 1 bytes ht hi hz0 hz1 hz2 rfl (by decide) v xs.length (xs.map (Value.int k)) hs (World.ownsRow.alloc hown _) ⟨w.heap.size, 0, none⟩ 1 1 [.int k y] hx rfl
    (cell_one_at w (.int k y) e) (by intro u hu; simp only [List.mem_cons, List.not_mem_nil, or_false] at hu; subst hu; rfl) h63 hlen (by simp; omega) ?_
  intro v' w1 hown1 hgr _
  have ho : OwnI w1 B e k v' (xs ++ [y]) := by
    unfold OwnI
    rw [List.length_append, List.length_cons, List.length_nil, List.map_append]
    exact hown1
  obtain ⟨ad, cap, hv⟩ := ho.len_le
  rw [List.length_append, List.length_cons, List.length_nil] at hv
  subst hv
  exact h ad cap w1 ho hgr
theorem wpList_grow_row (hgd : o.guard = none) (s x : Operand) {t e : TypeId} {z : Value} {sz bytes : Nat} (F : RowSlice P t e z sz bytes)
    (ho : o.op = .call { callee := .builtin .append, args := #[s, x], argTypes := #[t, t] })
    (B : Nat) (v : Value) (rows : List (List Value)) (n : Nat) (r : List Value) (hs : a.eval s = v) (hx : a.eval x = .slice (some ⟨w.heap.size, 0, none⟩) 1 1) (hn : rows.length = n) (hr : r.length = sz) (hr1 : ∀ u ∈ r, u.oneCell' = true)
    (hown : OwnS w B e sz v rows) (h63 : n + 1 ≤ maxLen) (hlen : (n + 1) * bytes ≤ 140737488355328) (hb : B ≤ w.heap.size)
    (h : ∀ ad cap w', OwnS w' B e sz (.slice ad (n + 1) cap) (rows ++ [r]) → (w.alloc (.cells r.toArray e)).grownBy w' v.ownBlock → wpList P ops Q rest (a.put o.dst (.slice ad (n + 1) cap)) w') : wpList P ops Q (o :: rest) a (w.alloc (.cells r.toArray e)) := by
  subst hn
  obtain ⟨ht, hinfo, hz, hsz⟩ := F
  obtain ⟨i, hi, hz0, hz1, hz2⟩ := info_parts hinfo
  obtain ⟨hown1, hown2⟩ := hown
  refine wpList_append_own _ hgd s x t ho B e i z sz bytes ht hi hz0 hz1 hz2 hz hsz v rows.length rows.flatten hs (World.ownsRow.alloc hown1 _) ⟨w.heap.size, 0, none⟩ 1 1 r hx (by rw [hr, Nat.one_mul])
    (fun j u hj => by
      rw [WideShapes.add_plain, World.cell?_alloc_new]
      simpa using hj) hr1 h63 hlen (by simp; omega) ?_
  intro v' w1 hown' hgr _
  have hos : OwnS w1 B e sz v' (rows ++ [r]) := by
    refine ⟨?_, fun q hq => ?_⟩
    · rw [List.length_append, List.length_cons, List.length_nil, List.flatten_append, List.flatten_cons, List.flatten_nil, List.append_nil]
      exact hown'
    · rcases List.mem_append.1 hq with h | h
      · exact hown2 q h
      · simp only [List.mem_cons, List.not_mem_nil, or_false] at h
        subst h
        exact hr
  obtain ⟨ad, cap, hv, -⟩ := hos.row
  rw [List.length_append, List.length_cons, List.length_nil] at hv
  subst hv
  exact h ad cap w1 hos hgr
end
end Go.Proofs.YtcabpidbdnlomaaGreatDoor
/- Slices of texts: as they come in, and such as a call makes itself. -/
namespace Go.Proofs.YtcabpidbdnlomaaGreatDoor
open Go.RowKit
set_option linter.unusedVariables false
set_option linter.unusedSimpArgs false

/-- a slice of texts that can be read -/
def TRow (w : World) (a : Option Addr) (T : List ByteArray) : Prop := ∀ i, i < T.length → ∃ b off, a = some ⟨b, off, none⟩ ∧ b < w.heap.size ∧ w.cell? ⟨b, off + i, none⟩ = some (.string (T.getD i .empty))
theorem TRow.below {w w' : World} {a : Option Addr} {T : List ByteArray} (h : TRow w a T) (hb : Below w.heap.size w w') : TRow w' a T := by
  intro i hi
  obtain ⟨b, off, e, hlt, hc⟩ := h i hi
  exact ⟨b, off, e, Nat.lt_of_lt_of_le hlt hb.size, by rw [hb.cell (p := ⟨b, off + i, none⟩) hlt]; exact hc⟩

/-- a slice of texts that a call made -/
def OwnT (w : World) (B : Nat) (e : TypeId) (v : Value) (T : List ByteArray) : Prop := w.ownsRow B e 1 v T.length (T.map Value.string)
theorem OwnT.lit (w : World) (B : Nat) (e : TypeId) (T : List ByteArray) (cs : Array Value) (hcs : cs = (T.map Value.string).toArray) (hb : B ≤ w.heap.size) (h63 : T.length ≤ maxLen) : OwnT (w.alloc (.cells cs e)) B e (.slice (some ⟨w.heap.size, 0, none⟩) T.length T.length) T := by
  subst hcs
  refine ⟨by simp, .inr ⟨w.heap.size, T.length, (T.map Value.string).toArray, rfl, hb, ?_, Nat.le_refl _, h63, by simp, by rw [Nat.mul_one]; exact List.take_of_length_le (by simp)⟩⟩
  show (w.heap.push _)[w.heap.size]? = _
  simp
theorem OwnT.row {w : World} {B n cap : Nat} {e : TypeId} {ad : Option Addr} {T : List ByteArray} (h : OwnT w B e (.slice ad n cap) T) : TRow w ad T ∧ n = T.length ∧ n ≤ cap := by
  obtain ⟨h1, h2⟩ := h
  rcases h2 with ⟨hv, h0⟩ | ⟨g, cp, cur, hv, hB, hg, hc, hm, hs, hx⟩
  · simp only [Value.slice.injEq] at hv
    obtain ⟨rfl, rfl, rfl⟩ := hv
    exact ⟨fun i hi => by omega, h0.symm, Nat.le_refl _⟩
  · simp only [Value.slice.injEq] at hv
    obtain ⟨rfl, rfl, rfl⟩ := hv
    refine ⟨fun i hi => ⟨g, 0, rfl, lt_of_block hg, ?_⟩, rfl, hc⟩
    have hown : w.ownsRow B e 1 (.slice (some ⟨g, 0, none⟩) T.length cap) T.length (T.map Value.string) := ⟨h1, .inr ⟨g, cap, cur, rfl, hB, hg, hc, hm, hs, hx⟩⟩
    rw [Nat.zero_add, hown.cellAt i (by omega)]
    simp [hi]
theorem texts_one (T : List ByteArray) : ∀ u ∈ T.map Value.string, u.oneCell' = true := by
  intro u hu
  obtain ⟨t, -, rfl⟩ := List.mem_map.1 hu
  rfl

section
variable {P : Program} {w : World} {ops : Array Oper} {rest : List Oper} {o : Oper} {a : Act} {Q : Exit → Act → World → Prop}
/-- out = append(out, l...), texts -/
theorem wpList_texts (hgd : o.guard = none) (s x : Operand) {t e : TypeId} (ht : P.underlying t = some (.slice e)) (hinfo : (P.info? e).map (fun i => (i.zero, i.size, i.bytes)) = some (some (.string .empty), 1, 16))
    (ho : o.op = .call { callee := .builtin .append, args := #[s, x], argTypes := #[t, t] })
    (B : Nat) (w0 : World) (v : Value) (T : List ByteArray) (n : Nat) (ad : Option Addr) (cap len : Nat) (ys : List ByteArray) (hs : a.eval s = v) (hx : a.eval x = .slice ad len cap) (hn0 : T.length = n) (hl : ys.length = len) (hrow : TRow w ad ys) (hn : ad = none → ys.length = 0 ∧ cap = 0)
    (hown : OwnT w B e v T) (h63 : n + len ≤ maxLen) (hlen : (n + len) * 16 ≤ 140737488355328) (bel : Below B w0 w) (hb : B ≤ w.heap.size)
    (h : ∀ v' w', OwnT w' B e v' (T ++ ys) → Below B w0 w' → wpList P ops Q rest (a.put o.dst v') w') : wpList P ops Q (o :: rest) a w := by
  subst hl hn0
  obtain ⟨i, hi, hz0, hz1, hz2⟩ := info_parts hinfo
  cases ad with
  | none =>
    obtain ⟨h0, rfl⟩ := hn rfl
    obtain rfl : ys = [] := List.length_eq_zero_iff.1 h0
    refine wpList_append_own_none hgd s x t ho B e i 1 ht hi v T.length (T.map Value.string) hs hown hx ?_
    rw [List.append_nil] at h
    exact h _ _ hown bel
  | some ad =>
    refine wpList_append_own _ hgd s x t ho B e i (.string .empty) 1 16 ht hi hz0 hz1 hz2 rfl (by decide) v T.length (T.map Value.string) hs hown ad ys.length cap (ys.map Value.string) hx (by simp) ?_
      (texts_one ys) h63 hlen hb ?_
    · intro j u hj
      have hl : j < ys.length := by
        have := (List.getElem?_eq_some_iff.1 hj).1
        simpa using this
      obtain ⟨b', o', e', -, hc⟩ := hrow j hl
      simp only [Option.some.injEq] at e'
      subst e'
      rw [WideShapes.add_plain, hc]
      rw [List.getElem?_map, List.getElem?_eq_getElem hl] at hj
      simp only [Option.map_some, Option.some.injEq] at hj
      rw [← hj]
      simp [List.getD, hl]
    · intro v' w1 hown1 hgr _
      refine h v' w1 ?_ (bel.grown hgr hb ?_)
      · unfold OwnT
        rw [List.length_append, List.map_append]
        exact hown1
      · intro j hj
        exact (World.ownsRow.lt hown j hj).1
end
theorem texts_t : Tryz.prog.underlying 23 = some (.slice 9) := Tryz.underlying23
theorem text_info : (Tryz.prog.info? 9).map (fun i => (i.zero, i.size, i.bytes)) = some (some (.string .empty), 1, 16) := by kernel_rfl

theorem OwnT.allocT {w : World} {B : Nat} {e : TypeId} {v : Value} {T : List ByteArray} (h : OwnT w B e v T) (o : Obj) : OwnT (w.alloc o) B e v T := World.ownsRow.alloc h o
theorem text_row (w : World) (t : ByteArray) (T : TypeId) : TRow (w.alloc (.cells #[.string t] T)) (some ⟨w.heap.size, 0, none⟩) [t] := by
  intro i hi
  have hi0 : i = 0 := by simpa using hi
  subst hi0
  exact ⟨w.heap.size, 0, rfl, by simp, by rw [World.cell?_alloc_new]; rfl⟩
theorem OwnT.form {w : World} {B : Nat} {e : TypeId} {v : Value} {T : List ByteArray} (h : OwnT w B e v T) : ∃ ad c, v = .slice ad T.length c := by
  rcases h.2 with ⟨rfl, h0⟩ | ⟨g, c, cur, rfl, -⟩
  · exact ⟨none, 0, by rw [h0]⟩
  · exact ⟨_, c, rfl⟩
theorem text_ne {x y : ByteArray} (h : ¬ x = y) : (x.toList == y.toList) = false := by
  rw [beq_eq_false_iff_ne, ByteArray.toList_eq, ByteArray.toList_eq]
  intro e
  exact h (ByteArray.ext (Array.ext' e))
theorem OwnT.below {w w' : World} {B : Nat} {e : TypeId} {v : Value} {T : List ByteArray} (h : OwnT w B e v T) (hb : Below w.heap.size w w') : OwnT w' B e v T := by
  obtain ⟨h1, h2⟩ := h
  refine ⟨h1, ?_⟩
  rcases h2 with h2 | ⟨g, cap, cur, hv, hB, hg, r⟩
  · exact .inl h2
  · exact .inr ⟨g, cap, cur, hv, hB, by rw [hb.block g (lt_of_block hg)]; exact hg, r⟩
theorem OwnT.mono {w : World} {B B' : Nat} {e : TypeId} {v : Value} {T : List ByteArray} (h : OwnT w B e v T) (hB : B' ≤ B) : OwnT w B' e v T := by
  obtain ⟨h1, h2⟩ := h
  refine ⟨h1, ?_⟩
  rcases h2 with h2 | ⟨g, cap, cur, hv, hg, r⟩
  · exact .inl h2
  · exact .inr ⟨g, cap, cur, hv, Nat.le_trans hB hg, r⟩
theorem OwnT.nil (w : World) (B : Nat) (e : TypeId) : OwnT w B e (.slice none 0 0) [] := World.ownsRow_nil _ _ _ _
end Go.Proofs.YtcabpidbdnlomaaGreatDoor
/- Variables that lie in memory by themselves (captured by a function literal), and rows of truth values that a call makes. Nothing of the program is named. -/
namespace Go.Proofs.YtcabpidbdnlomaaGreatDoor
open Go.RowKit
set_option linter.unusedVariables false
set_option linter.unusedSimpArgs false

def InBox (w : World) (b : Nat) (v : Value) (T : TypeId) : Prop := w.heap[b]? = some (.cells #[v] T)
section
variable {w w' : World} {b B : Nat} {v u : Value} {T e : TypeId}
theorem InBox.lt (h : InBox w b v T) : b < w.heap.size := lt_of_block h
theorem InBox.cell (h : InBox w b v T) : w.cell? ⟨b, 0, none⟩ = some v := by rw [cell_of_row w b 0 _ _ _ h]; rfl
theorem InBox.free (h : InBox w b v T) : w.frozen? ⟨b, 0, none⟩ = false := frozen_of_row w b 0 _ _ h
theorem InBox.alloc (h : InBox w b v T) (o : Obj) : InBox (w.alloc o) b v T := (heap_alloc_old w o h.lt).trans h
theorem InBox.of_block (h : InBox w b v T) (hb : w'.heap[b]? = w.heap[b]?) : InBox w' b v T := hb.trans h
theorem InBox.setOther (h : InBox w b v T) {a : Addr} (ha : a.block ≠ b) (u : Value) : InBox (w.setCell a u) b v T := (heap_setCell_other w a b u (Ne.symm ha)).trans h
theorem InBox.set (h : InBox w b v T) (u : Value) : InBox (w.setCell ⟨b, 0, none⟩ u) b u T := by
  unfold InBox
  rw [heap_setCell_same w b 0 _ _ u h]
  rfl
theorem InBox.grown (h : InBox w b v T) {row : Option Nat} (hg : w.grownBy w' row) (hne : row ≠ some b) : InBox w' b v T := h.of_block (hg.block b h.lt (fun e => hne e.symm))
theorem InBox.below (h : InBox w b v T) (hb : Below w.heap.size w w') : InBox w' b v T := h.of_block (hb.block b h.lt)
theorem InBox.apart (h : InBox w b v T) {sz n : Nat} {x : Value} {xs : List Value} (ho : w.ownsRow B e sz x n xs) (hne : e ≠ T) : x.ownBlock ≠ some b := by
  intro e1
  obtain ⟨-, h2⟩ := ho
  rcases h2 with ⟨rfl, -⟩ | ⟨g, cap, cur, rfl, -, hg, -⟩
  · cases e1
  · simp only [Value.ownBlock, Option.some.injEq] at e1
    have : g = b := by simpa [Value.ownBlock] using e1
    subst this
    rw [h] at hg
    simp only [Option.some.injEq, Obj.cells.injEq] at hg
    exact hne hg.2.1.symm
theorem InBox.new (w : World) (v : Value) (T : TypeId) : InBox (w.alloc (.cells #[v] T)) w.heap.size v T := heap_alloc_new _ _
end

/-- of each number below n whether it is in a list -/
def marks (n : Nat) (l : List Nat) : List Value := (List.range n).map fun i => .bool (decide (i ∈ l))
theorem marks_length (n : Nat) (l : List Nat) : (marks n l).length = n := by simp [marks]
theorem marks_at {n i : Nat} (l : List Nat) (h : i < n) : (marks n l)[i]? = some (.bool (decide (i ∈ l))) := by simp [marks, h]
theorem marks_set {n i : Nat} (l : List Nat) (h : i < n) : (marks n l).set i (.bool true) = marks n (l ++ [i]) := by
  apply List.ext_getElem?
  intro j
  by_cases hj : j < n
  · rw [marks_at _ hj, List.getElem?_set]
    by_cases hij : i = j
    · subst hij
      simp [marks_length, h]
    · rw [if_neg hij, marks_at _ hj]
      have : j ≠ i := fun e => hij e.symm
      simp [this]
  · rw [List.getElem?_eq_none (by simp [marks_length]; omega), List.getElem?_eq_none (by simp [marks_length]; omega)]
theorem marks_nil (n : Nat) : marks n [] = List.replicate n (.bool false) := by
  apply List.ext_getElem?
  intro j
  by_cases hj : j < n
  · rw [marks_at _ hj]
    simp [hj]
  · rw [List.getElem?_eq_none (by simp [marks_length]; omega), List.getElem?_eq_none (by simp; omega)]

/-- a row of marks that a call made -/
def OwnB (w : World) (B : Nat) (e : TypeId) (g n : Nat) (l : List Nat) : Prop := w.ownsRow B e 1 (.slice (some ⟨g, 0, none⟩) n n) n (marks n l)
section
variable {w w' : World} {B g n : Nat} {e : TypeId} {l : List Nat}
theorem OwnB.cell (h : OwnB w B e g n l) {i : Nat} (hi : i < n) : w.cell? ⟨g, i, none⟩ = some (.bool (decide (i ∈ l))) := by
  rw [World.ownsRow.cellAt h i (by omega), marks_at l hi]
theorem OwnB.free (h : OwnB w B e g n l) (i : Nat) : w.frozen? ⟨g, i, none⟩ = false := World.ownsRow.frozenAt h i
theorem OwnB.set (h : OwnB w B e g n l) {i : Nat} (hi : i < n) : OwnB (w.setCell ⟨g, i, none⟩ (.bool true)) B e g n (l ++ [i]) := by
  have := (World.ownsRow.stored h i (.bool true)).1
  rw [marks_set l hi] at this
  exact this
theorem OwnB.alloc (h : OwnB w B e g n l) (o : Obj) : OwnB (w.alloc o) B e g n l := World.ownsRow.alloc h o
theorem OwnB.setOther (h : OwnB w B e g n l) {a : Addr} (ha : a.block ≠ g) (u : Value) : OwnB (w.setCell a u) B e g n l := ownsRow_setCell_other h (fun e1 => ha (by simpa [Value.ownBlock] using e1.symm)) u
theorem OwnB.blockGe (h : OwnB w B e g n l) : B ≤ g ∧ g < w.heap.size := World.ownsRow.lt h g rfl
theorem OwnB.grown (h : OwnB w B e g n l) {B' : Nat} {e' : TypeId} {sz m : Nat} {x : Value} {xs : List Value} (hg : w.grownBy w' x.ownBlock) (ho : w.ownsRow B' e' sz x m xs) (hne : e ≠ e') : OwnB w' B e g n l := World.ownsRow.kept h hg (own_apart ho h hne)
theorem OwnB.below (h : OwnB w B e g n l) (hb : Below w.heap.size w w') : OwnB w' B e g n l := by
  obtain ⟨h1, h2⟩ := h
  refine ⟨h1, ?_⟩
  rcases h2 with h2 | ⟨g, cap, cur, hv, hB, hg, r⟩
  · exact .inl h2
  · exact .inr ⟨g, cap, cur, hv, hB, by rw [hb.block g (lt_of_block hg)]; exact hg, r⟩
end

/-- make([]bool, n) -/
theorem wpList_make_marks {P : Program} {w : World} {ops : Array Oper} {rest : List Oper} {o : Oper} {a : Act} {Q : Exit → Act → World → Prop} (hgd : o.guard = none) (l c : Operand) {t e : TypeId}
    (ht : P.underlying t = some (.slice e)) (hinfo : (P.info? e).map (fun i => (i.zero, i.size, i.bytes)) = some (some (.bool false), 1, 1)) (ho : o.op = Op.makeSlice t l c) (B : Nat) (w0 : World) (n : Nat) (kl kc : IntKind) (L C : Int)
    (hl : a.eval l = .int kl L) (hc : a.eval c = .int kc C) (hL : L = (n : Int)) (hC : C = (n : Int)) (hn : n ≤ 1048576) (bel : Below B w0 w) (hb : B ≤ w.heap.size)
    (h : ∀ g w', OwnB w' B e g n [] → w.heap.size ≤ g → Below B w0 w' → Below w.heap.size w w' → wpList P ops Q rest (a.put o.dst (.slice (some ⟨g, 0, none⟩) n n)) w') : wpList P ops Q (o :: rest) a w := by
  obtain ⟨i, hi, hz0, hz1, hz2⟩ := info_parts hinfo
  refine wpList_make_full w hgd l c t ho B e i (.bool false) 1 ht hi hz0 hz1 kl kc L C n hl hc hL hC (by rw [hz2]; omega) (by unfold maxLen; omega) hb ?_
  intro w' hown hgr
  refine h w.heap.size w' ?_ (Nat.le_refl _) (bel.grown hgr hb (fun j hj => by cases hj)) ((Below.refl _ _).grown hgr (Nat.le_refl _) (fun j hj => by cases hj))
  unfold OwnB
  rw [marks_nil]
  have e1 : (madeCells (Value.bool false).cells (n * 1)).toList = List.replicate n (.bool false) := by
    rw [Nat.mul_one]
    exact toList_madeCells_one (.bool false) n
  rw [e1] at hown
  exact hown
end Go.Proofs.YtcabpidbdnlomaaGreatDoor
/- append of a struct to a slice of structs that a call makes itself, as one step of a statement whose order is left open. Nothing of the program is named. -/
namespace Go.Proofs.YtcabpidbdnlomaaGreatDoor
open Go.RowKit
set_option linter.unusedVariables false
set_option linter.unusedSimpArgs false

theorem step_push_row {P : Program} {w : World} {ops : Array Oper} {o : Oper} {a : Act} {K : Act → World → Prop} {Q : Exit → Act → World → Prop} {E : Prop} (hgd : o.guard = none) (s x : Operand) {t e : TypeId} {z : Value} {sz bytes : Nat} (F : RowSlice P t e z sz bytes)
    (ho : o.op = .call { callee := .builtin .append, args := #[s, x], argTypes := #[t, t] })
    (B : Nat) (w0 : World) (v : Value) (rows : List (List Value)) (n : Nat) (r : List Value) (hs : a.eval s = v) (ad : Addr) (c : Nat) (hx : a.eval x = .slice (some ad) 1 c) (hnews : ∀ j u, r[j]? = some u → w.cell? (ad.add j) = some u)
    (hn : rows.length = n) (hr : r.length = sz) (hr1 : ∀ u ∈ r, u.oneCell' = true)
    (hown : OwnS w B e sz v rows) (h63 : n + 1 ≤ maxLen) (hlen : (n + 1) * bytes ≤ 140737488355328) (bel : Below B w0 w) (hb : B ≤ w.heap.size)
    (h : ∀ ad' cap w', OwnS w' B e sz (.slice ad' (n + 1) cap) (rows ++ [r]) → Below B w0 w' → K (a.put o.dst (.slice ad' (n + 1) cap)) w') :
    if Region.wanted o (yielded ops a.tmps) = true then Oper.wp P o a w K Q else E := by
  subst hn
  obtain ⟨ht, hinfo, hz, hsz⟩ := F
  obtain ⟨i, hi, hz0, hz1, hz2⟩ := info_parts hinfo
  obtain ⟨hown1, hown2⟩ := hown
  refine step_append_lies _ hgd s x t ho B e i z sz bytes ht hi hz0 hz1 hz2 hz hsz v rows.length rows.flatten hs hown1 ad 1 c r hx (by rw [hr, Nat.one_mul]) hnews hr1 (by omega) h63 hlen hb _ rfl ?_
  intro g cap w1 hown' hgr _ _
  refine h (some ⟨g, 0, none⟩) cap w1 ⟨?_, fun q hq => ?_⟩ (bel.grown hgr hb fun j hj => (World.ownsRow.lt hown1 j hj).1)
  · rw [List.length_append, List.length_cons, List.length_nil, List.flatten_append, List.flatten_cons, List.flatten_nil, List.append_nil]
    exact hown'
  · rcases List.mem_append.1 hq with h | h
    · exact hown2 q h
    · simp only [List.mem_cons, List.not_mem_nil, or_false] at h
      subst h
      exact hr
theorem step_grow_row {P : Program} {w : World} {ops : Array Oper} {o : Oper} {a : Act} {K : Act → World → Prop} {Q : Exit → Act → World → Prop} {E : Prop} (hgd : o.guard = none) (s x : Operand) {t e : TypeId} {z : Value} {sz bytes : Nat} (F : RowSlice P t e z sz bytes)
    (ho : o.op = .call { callee := .builtin .append, args := #[s, x], argTypes := #[t, t] })
    (B : Nat) (v : Value) (rows : List (List Value)) (n : Nat) (r : List Value) (hs : a.eval s = v) (ad : Addr) (c : Nat) (hx : a.eval x = .slice (some ad) 1 c) (hnews : ∀ j u, r[j]? = some u → w.cell? (ad.add j) = some u)
    (hn : rows.length = n) (hr : r.length = sz) (hr1 : ∀ u ∈ r, u.oneCell' = true)
    (hown : OwnS w B e sz v rows) (h63 : n + 1 ≤ maxLen) (hlen : (n + 1) * bytes ≤ 140737488355328) (hb : B ≤ w.heap.size)
    (h : ∀ ad' cap w', OwnS w' B e sz (.slice ad' (n + 1) cap) (rows ++ [r]) → w.grownBy w' v.ownBlock → K (a.put o.dst (.slice ad' (n + 1) cap)) w') :
    if Region.wanted o (yielded ops a.tmps) = true then Oper.wp P o a w K Q else E := by
  subst hn
  obtain ⟨ht, hinfo, hz, hsz⟩ := F
  obtain ⟨i, hi, hz0, hz1, hz2⟩ := info_parts hinfo
  obtain ⟨hown1, hown2⟩ := hown
  refine step_append_lies _ hgd s x t ho B e i z sz bytes ht hi hz0 hz1 hz2 hz hsz v rows.length rows.flatten hs hown1 ad 1 c r hx (by rw [hr, Nat.one_mul]) hnews hr1 (by omega) h63 hlen hb _ rfl ?_
  intro g cap w1 hown' hgr _ _
  refine h (some ⟨g, 0, none⟩) cap w1 ⟨?_, fun q hq => ?_⟩ hgr
  · rw [List.length_append, List.length_cons, List.length_nil, List.flatten_append, List.flatten_cons, List.flatten_nil, List.append_nil]
    exact hown'
  · rcases List.mem_append.1 hq with h | h
    · exact hown2 q h
    · simp only [List.mem_cons, List.not_mem_nil, or_false] at h
      subst h
      exact hr
theorem news_alloc (w : World) (r : List Value) (T : TypeId) : ∀ j u, r[j]? = some u → (w.alloc (.cells r.toArray T)).cell? ((⟨w.heap.size, 0, none⟩ : Addr).add j) = some u := fun j u hu => by
  rw [WideShapes.add_plain, World.cell?_alloc_new]
  simpa using hu
end Go.Proofs.YtcabpidbdnlomaaGreatDoor
