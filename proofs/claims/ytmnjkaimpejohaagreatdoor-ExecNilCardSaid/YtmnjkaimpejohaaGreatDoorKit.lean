/- Slices of numbers that a call makes itself, by append: what they are, how they grow, how they are read. Nothing of the program is named. -/
import Derived.Test.YtmnjkaimpejohaaGreatDoorBase
import Derived.Laws.AppendOwnNone
namespace Go.Proofs.YtmnjkaimpejohaaGreatDoor
open Go.RowKit
set_option linter.unusedVariables false
set_option linter.unusedSimpArgs false

/-- the types of a slice of numbers, as the program's table has them -/
def IntSlice (P : Program) (t e : TypeId) (k : IntKind) (bytes : Nat) : Prop :=
  P.underlying t = some (.slice e) ∧ (P.info? e).map (fun i => (i.zero, i.size, i.bytes)) = some (some (.int k 0), 1, bytes)

/-- a slice value that owns these numbers, among the blocks from B on -/
def OwnI (w : World) (B : Nat) (e : TypeId) (k : IntKind) (v : Value) (xs : List Int) : Prop := w.ownsRow B e 1 v xs.length (xs.map (Value.int k))

theorem OwnI.nil (w : World) (B : Nat) (e : TypeId) (k : IntKind) : OwnI w B e k (.slice none 0 0) [] := World.ownsRow_nil _ _ _ _

section
variable {w w' : World} {B B' : Nat} {e : TypeId} {k : IntKind} {v : Value} {xs : List Int}

theorem OwnI.below (h : OwnI w B e k v xs) (hb : Below w.heap.size w w') : OwnI w' B e k v xs := by
  obtain ⟨h1, h2⟩ := h
  refine ⟨h1, ?_⟩
  rcases h2 with h2 | ⟨g, cap, cur, hv, hB, hg, r⟩
  · exact .inl h2
  · exact .inr ⟨g, cap, cur, hv, hB, by rw [hb.block g (lt_of_block hg)]; exact hg, r⟩

theorem OwnI.mono (h : OwnI w B e k v xs) (hB : B' ≤ B) : OwnI w B' e k v xs := by
  obtain ⟨h1, h2⟩ := h
  refine ⟨h1, ?_⟩
  rcases h2 with h2 | ⟨g, cap, cur, hv, hg, r⟩
  · exact .inl h2
  · exact .inr ⟨g, cap, cur, hv, Nat.le_trans hB hg, r⟩

/-- how it is read -/
theorem OwnI.row (h : OwnI w B e k v xs) : ∃ a cap, v = .slice a xs.length cap ∧ Row k w a xs ∧ xs.length ≤ cap ∧ (a = none → xs.length = 0 ∧ cap = 0) ∧ (∀ b, a = some b → B ≤ b.block ∧ b.block < w.heap.size) := by
  obtain ⟨h1, h2⟩ := h
  rcases h2 with ⟨rfl, h0⟩ | ⟨g, cap, cur, rfl, hB, hg, hc, hm, hs, hx⟩
  · exact ⟨none, 0, by rw [h0], fun i hi => by omega, by omega, fun _ => ⟨h0, rfl⟩, fun b hb => by cases hb⟩
  · refine ⟨some ⟨g, 0, none⟩, cap, rfl, ?_, hc, (fun h => by cases h), ?_⟩
    · intro i hi
      have hown : w.ownsRow B e 1 (.slice (some ⟨g, 0, none⟩) xs.length cap) xs.length (xs.map (Value.int k)) := ⟨h1, .inr ⟨g, cap, cur, rfl, hB, hg, hc, hm, hs, hx⟩⟩
      refine ⟨g, 0, rfl, ?_⟩
      rw [Nat.zero_add, hown.cellAt i (by omega)]
      simp [hi]
    · intro b hb
      cases hb
      exact ⟨hB, lt_of_block hg⟩

theorem OwnI.len_le (h : OwnI w B e k v xs) : ∃ a cap, v = .slice a xs.length cap := by
  obtain ⟨a, cap, h, -⟩ := h.row
  exact ⟨a, cap, h⟩
end

theorem cell_one_at (w : World) (u : Value) (e : TypeId) : ∀ j y, [u][j]? = some y → (w.alloc (.cells #[u] e)).cell? ((⟨w.heap.size, 0, none⟩ : Addr).add j) = some y := by
  intro j y hj
  match j, hj with
  | 0, hj =>
    simp only [List.getElem?_cons_zero, Option.some.injEq] at hj
    subst hj
    rw [WideShapes.add_plain, World.cell?_alloc_new]
    rfl

/-- what rows of other element types are still owned -/
def Kept (e : TypeId) (w w' : World) : Prop := ∀ (B' : Nat) (e' : TypeId) (k' : IntKind) (u : Value) (ys : List Int), e' ≠ e → OwnI w B' e' k' u ys → OwnI w' B' e' k' u ys
theorem Kept.of {B : Nat} {e : TypeId} {k : IntKind} {v : Value} {xs : List Int} {w w' : World} (h : OwnI w B e k v xs) (hg : w.grownBy w' v.ownBlock) : Kept e w w' := by
  intro B' e' k' u ys hne hu
  refine World.ownsRow.kept hu hg ?_
  obtain ⟨-, hu2⟩ := hu
  obtain ⟨-, hv2⟩ := h
  rcases hu2 with ⟨rfl, -⟩ | ⟨g, cap, cur, rfl, -, hgg, -⟩
  · left; rfl
  · rcases hv2 with ⟨rfl, -⟩ | ⟨g', cap', cur', rfl, -, hgg', -⟩
    · right; simp [Value.ownBlock]
    · right
      intro e1
      simp only [Value.ownBlock, Option.some.injEq] at e1
      have : g = g' := by simpa [Value.ownBlock] using e1
      subst this
      rw [hgg] at hgg'
      simp only [Option.some.injEq, Obj.cells.injEq] at hgg'
      exact hne hgg'.2.1

section
variable {P : Program} {w : World} {ops : Array Oper} {rest : List Oper} {o : Oper} {a : Act} {Q : Exit → Act → World → Prop}

/-- out = append(out, y): and what else is owned stays -/
theorem wpList_push_k (hgd : o.guard = none) (s x : Operand) {t e : TypeId} {k : IntKind} {bytes : Nat} (F : IntSlice P t e k bytes)
    (ho : o.op = .call { callee := .builtin .append, args := #[s, x], argTypes := #[t, t] })
    (B : Nat) (w0 : World) (v : Value) (xs : List Int) (n : Nat) (y : Int) (hs : a.eval s = v) (hx : a.eval x = .slice (some ⟨w.heap.size, 0, none⟩) 1 1) (hn : xs.length = n)
    (hown : OwnI w B e k v xs) (h63 : n + 1 ≤ maxLen) (hlen : (n + 1) * bytes ≤ 140737488355328) (bel : Below B w0 w) (hb : B ≤ w.heap.size)
    (h : ∀ ad cap w', OwnI w' B e k (.slice ad (n + 1) cap) (xs ++ [y]) → Below B w0 w' → Kept e w w' → wpList P ops Q rest (a.put o.dst (.slice ad (n + 1) cap)) w') : wpList P ops Q (o :: rest) a (w.alloc (.cells #[.int k y] e)) := by
  subst hn
  obtain ⟨ht, hinfo⟩ := F
  obtain ⟨i, hi, hz0, hz1, hz2⟩ := info_parts hinfo
  refine wpList_append_own _ hgd s x t ho B e i (.int k 0) 1 bytes ht hi hz0 hz1 hz2 rfl (by decide) v xs.length (xs.map (Value.int k)) hs (World.ownsRow.alloc hown _) ⟨w.heap.size, 0, none⟩ 1 1 [.int k y] hx rfl
    (cell_one_at w (.int k y) e) (by intro u hu; simp only [List.mem_cons, List.not_mem_nil, or_false] at hu; subst hu; rfl) h63 hlen (by simp; omega) ?_
  intro v' w1 hown1 hgr _
  have ho : OwnI w1 B e k v' (xs ++ [y]) := by
    unfold OwnI
    rw [List.length_append, List.length_cons, List.length_nil, List.map_append]
    exact hown1
  obtain ⟨ad, cap, hv⟩ := ho.len_le
  rw [List.length_append, List.length_cons, List.length_nil] at hv
  subst hv
  exact h ad cap w1 ho ((bel.alloc hb _).grown hgr (by simp; omega) fun j hj => (World.ownsRow.lt hown j hj).1) fun B' e' k' u ys hne hu => Kept.of (w := w.alloc _) (World.ownsRow.alloc hown _) hgr B' e' k' u ys hne (World.ownsRow.alloc hu _)

/-- out = append(out, y) -/
theorem wpList_push (hgd : o.guard = none) (s x : Operand) {t e : TypeId} {k : IntKind} {bytes : Nat} (F : IntSlice P t e k bytes)
    (ho : o.op = .call { callee := .builtin .append, args := #[s, x], argTypes := #[t, t] })
    (B : Nat) (w0 : World) (v : Value) (xs : List Int) (n : Nat) (y : Int) (hs : a.eval s = v) (hx : a.eval x = .slice (some ⟨w.heap.size, 0, none⟩) 1 1) (hn : xs.length = n)
    (hown : OwnI w B e k v xs) (h63 : n + 1 ≤ maxLen) (hlen : (n + 1) * bytes ≤ 140737488355328) (bel : Below B w0 w) (hb : B ≤ w.heap.size)
    (h : ∀ ad cap w', OwnI w' B e k (.slice ad (n + 1) cap) (xs ++ [y]) → Below B w0 w' → wpList P ops Q rest (a.put o.dst (.slice ad (n + 1) cap)) w') : wpList P ops Q (o :: rest) a (w.alloc (.cells #[.int k y] e)) := by
  subst hn
  obtain ⟨ht, hinfo⟩ := F
  obtain ⟨i, hi, hz0, hz1, hz2⟩ := info_parts hinfo
  refine wpList_append_own _ hgd s x t ho B e i (.int k 0) 1 bytes ht hi hz0 hz1 hz2 rfl (by decide) v xs.length (xs.map (Value.int k)) hs (World.ownsRow.alloc hown _) ⟨w.heap.size, 0, none⟩ 1 1 [.int k y] hx rfl
    (cell_one_at w (.int k y) e) (by intro u hu; simp only [List.mem_cons, List.not_mem_nil, or_false] at hu; subst hu; rfl) h63 hlen (by simp; omega) ?_
  intro v' w1 hown1 hgr _
  have ho : OwnI w1 B e k v' (xs ++ [y]) := by
    unfold OwnI
    rw [List.length_append, List.length_cons, List.length_nil, List.map_append]
    exact hown1
  obtain ⟨ad, cap, hv⟩ := ho.len_le
  rw [List.length_append, List.length_cons, List.length_nil] at hv
  subst hv
  exact h ad cap w1 ho ((bel.alloc hb _).grown hgr (by simp; omega) fun j hj => (World.ownsRow.lt hown j hj).1)

/-- out = append(out, l...), whatever l is -/
theorem wpList_pushes (hgd : o.guard = none) (s x : Operand) {t e : TypeId} {k : IntKind} {bytes : Nat} (F : IntSlice P t e k bytes)
    (ho : o.op = .call { callee := .builtin .append, args := #[s, x], argTypes := #[t, t] })
    (B : Nat) (w0 : World) (v : Value) (xs : List Int) (n : Nat) (ad : Option Addr) (cap len : Nat) (ys : List Int) (hs : a.eval s = v) (hx : a.eval x = .slice ad len cap) (hn0 : xs.length = n) (hl : ys.length = len) (hrow : Row k w ad ys) (hn : ad = none → ys.length = 0 ∧ cap = 0)
    (hown : OwnI w B e k v xs) (h63 : n + len ≤ maxLen) (hlen : (n + len) * bytes ≤ 140737488355328) (bel : Below B w0 w) (hb : B ≤ w.heap.size)
    (h : ∀ ad' cap' w', OwnI w' B e k (.slice ad' (n + len) cap') (xs ++ ys) → Below B w0 w' → wpList P ops Q rest (a.put o.dst (.slice ad' (n + len) cap')) w') : wpList P ops Q (o :: rest) a w := by
  subst hl hn0
  have h' : ∀ v' w', OwnI w' B e k v' (xs ++ ys) → Below B w0 w' → wpList P ops Q rest (a.put o.dst v') w' := by
    intro v' w1 ho hb1
    obtain ⟨ad', cap', hv⟩ := ho.len_le
    rw [List.length_append] at hv
    subst hv
    exact h ad' cap' w1 ho hb1
  clear h
  obtain ⟨ht, hinfo⟩ := F
  obtain ⟨i, hi, hz0, hz1, hz2⟩ := info_parts hinfo
  cases ad with
  | none =>
    obtain ⟨h0, rfl⟩ := hn rfl
    obtain rfl : ys = [] := List.length_eq_zero_iff.1 h0
    refine wpList_append_own_none hgd s x t ho B e i 1 ht hi v xs.length (xs.map (Value.int k)) hs hown hx ?_
    rw [List.append_nil] at h'
    exact h' _ _ hown bel
  | some ad =>
    refine wpList_append_own _ hgd s x t ho B e i (.int k 0) 1 bytes ht hi hz0 hz1 hz2 rfl (by decide) v xs.length (xs.map (Value.int k)) hs hown ad ys.length cap (ys.map (Value.int k)) hx (by simp) ?_
      (ints_oneCell k ys) h63 hlen hb ?_
    · intro j u hj
      have hl : j < ys.length := by
        have := (List.getElem?_eq_some_iff.1 hj).1
        simpa using this
      obtain ⟨b', o', e', hc⟩ := hrow j hl
      simp only [Option.some.injEq] at e'
      subst e'
      rw [WideShapes.add_plain, hc]
      rw [List.getElem?_map, List.getElem?_eq_getElem hl] at hj
      simp only [Option.map_some, Option.some.injEq] at hj
      rw [← hj]
      simp [List.getD, hl]
    · intro v' w1 hown1 hgr _
      refine h' v' w1 ?_ (bel.grown hgr hb ?_)
      · unfold OwnI
        rw [List.length_append, List.map_append]
        exact hown1
      · intro j hj
        exact (World.ownsRow.lt hown j hj).1
end

/-- so many of a list, from a place on -/
def cutOf (xs : List Int) (off n : Nat) : List Int := (xs.drop off).take n
theorem cutOf_length {xs : List Int} {off n : Nat} (h : n ≤ xs.length - off) : (cutOf xs off n).length = n := by simp [cutOf]; omega
theorem Row.cut {k : IntKind} {w : World} {a : Option Addr} {xs : List Int} (h : Row k w a xs) (off n : Nat) : Row k w (a.map (·.add off)) (cutOf xs off n) := by
  intro i hi
  simp only [cutOf, List.length_take, List.length_drop] at hi
  obtain ⟨b, o, rfl, hc⟩ := h (off + i) (by omega)
  refine ⟨b, o + off, by simp [WideShapes.add_plain], ?_⟩
  rw [Nat.add_assoc, hc]
  simp [cutOf, List.getD, List.getElem?_take, show i < n from by omega]

theorem Row.there {k : IntKind} {w : World} {a : Option Addr} {xs : List Int} (h : Row k w a xs) (h0 : 0 < xs.length) : ∃ b o, a = some ⟨b, o, none⟩ := by
  obtain ⟨b, o, rfl, -⟩ := h 0 h0
  exact ⟨b, o, rfl⟩
/-- what is done behind one step and behind the next -/
theorem bstep {a b c : World} (h : Below a.heap.size a b) (k : Below b.heap.size b c) : Below a.heap.size a c := h.trans (k.mono h.size)

theorem OwnI.at {w : World} {B : Nat} {e : TypeId} {k : IntKind} {ad : Option Addr} {n cap : Nat} {xs : List Int} (h : OwnI w B e k (.slice ad n cap) xs) : n = xs.length ∧ Row k w ad xs ∧ (ad = none → xs.length = 0 ∧ cap = 0) := by
  obtain ⟨a, c, hv, hr, -, hn, -⟩ := h.row
  cases hv
  exact ⟨rfl, hr, hn⟩

theorem OwnI.fit {w : World} {B : Nat} {e : TypeId} {k : IntKind} {ad : Option Addr} {n cap : Nat} {xs : List Int} (h : OwnI w B e k (.slice ad n cap) xs) : n ≤ cap ∧ xs.length ≤ cap := by
  obtain ⟨a, c, hv, -, hle, -⟩ := h.row
  simp only [Value.slice.injEq] at hv
  obtain ⟨-, rfl, rfl⟩ := hv
  exact ⟨hle, hle⟩

/-- lists, from their end -/
@[elab_as_elim] theorem snocInd {α : Type} {motive : List α → Prop} (nil : motive []) (snoc : ∀ xs x, motive xs → motive (xs ++ [x])) (xs : List α) : motive xs := by
  rw [← List.reverse_reverse xs]
  induction xs.reverse with
  | nil => exact nil
  | cons x l ih => rw [List.reverse_cons]; exact snoc _ _ ih

/-- numbers without a sign, as a list of naturals -/
def toI (ys : List Nat) : List Int := ys.map fun (y : Nat) => (y : Int)
theorem toI_length (ys : List Nat) : (toI ys).length = ys.length := by simp [toI]
theorem toI_append (xs ys : List Nat) : toI (xs ++ ys) = toI xs ++ toI ys := by simp [toI]
theorem toI_getD (ys : List Nat) (i : Nat) : (toI ys).getD i 0 = ((ys.getD i 0 : Nat) : Int) := by
  simp only [toI, List.getD, List.getElem?_map]
  cases ys[i]? <;> rfl
theorem toI_nats {xs : List Int} (h : ∀ x ∈ xs, 0 ≤ x) : ∃ ys : List Nat, xs = toI ys := by
  refine ⟨xs.map Int.toNat, ?_⟩
  simp only [toI, List.map_map]
  apply List.ext_getElem (by simp)
  intro i h1 h2
  have := h xs[i] (List.getElem_mem h1)
  simp
  omega

/-- a slice of naturals, and that all of them have room -/
def NRow (w : World) (a : Option Addr) (ys : List Nat) : Prop := Row .u64 w a (toI ys) ∧ ∀ y ∈ ys, y < 18446744073709551616
theorem NRow.at {w : World} {a : Option Addr} {ys : List Nat} (h : NRow w a ys) {i : Nat} (hi : i < ys.length) : ∃ b off, a = some ⟨b, off, none⟩ ∧ b < w.heap.size ∧ w.cell? ⟨b, off + i, none⟩ = some (.int .u64 ((ys.getD i 0 : Nat) : Int)) ∧ ys.getD i 0 < 18446744073709551616 := by
  obtain ⟨b, off, e, hc⟩ := h.1 i (by rw [toI_length]; exact hi)
  rw [toI_getD] at hc
  refine ⟨b, off, e, by simpa using World.block_lt_of_cell? w _ hc, hc, ?_⟩
  refine h.2 _ ?_
  simp [List.getD, hi]
theorem NRow.below {w w' : World} {a : Option Addr} {ys : List Nat} (h : NRow w a ys) (hb : Below w.heap.size w w') : NRow w' a ys := ⟨h.1.below hb, h.2⟩
theorem NRow.of {w : World} {a : Option Addr} {xs : List Int} (h : Row .u64 w a xs) (hw : ∀ n ∈ xs, (Lit.int .u64 n).wf = true) : ∃ ys, xs = toI ys ∧ ys.length = xs.length ∧ NRow w a ys := by
  obtain ⟨ys, rfl⟩ := toI_nats (xs := xs) fun x hx => (wf_u64_bounds (hw x hx)).1
  refine ⟨ys, rfl, (toI_length ys).symm, h, fun y hy => ?_⟩
  have := (wf_u64_bounds (hw (y : Int) (List.mem_map.2 ⟨y, hy, rfl⟩))).2
  rw [M64_eq] at this
  omega
theorem getD_getElem {ys : List Nat} {i : Nat} (h : i < ys.length) : ys.getD i 0 = ys[i] := by simp [List.getD, h]

end Go.Proofs.YtmnjkaimpejohaaGreatDoor
