/- Slices that a call makes itself: what an append leaves as it is. Nothing of the program is named. -/
import Derived.Test.YtmnjkaimpejohaaGreatDoorOwnS
namespace Go.Proofs.YtmnjkaimpejohaaGreatDoor
open Go.RowKit
set_option linter.unusedVariables false
set_option linter.unusedSimpArgs false

theorem own_apart {w : World} {B B' : Nat} {e e' : TypeId} {sz sz' : Nat} {v v' : Value} {n n' : Nat} {xs xs' : List Value} (h : w.ownsRow B e sz v n xs) (h' : w.ownsRow B' e' sz' v' n' xs') (hne : e' ≠ e) : v'.ownBlock = none ∨ v'.ownBlock ≠ v.ownBlock := by
  rcases h'.2 with ⟨rfl, -⟩ | ⟨g, cap, cur, rfl, -, hgg, -⟩
  · left; rfl
  · rcases h.2 with ⟨rfl, -⟩ | ⟨g', cap', cur', rfl, -, hgg', -⟩
    · right; simp [Value.ownBlock]
    · right
      intro e1
      have : g = g' := by simpa [Value.ownBlock] using e1
      subst this
      rw [hgg] at hgg'
      simp only [Option.some.injEq, Obj.cells.injEq] at hgg'
      exact hne hgg'.2.1

section
variable {w w' : World} {B B' B0 : Nat} {e e' : TypeId} {k k' : IntKind} {sz sz' : Nat} {v v' : Value} {xs xs' : List Int} {rows rows' : List (List Value)} {w0 : World}

theorem OwnS.allocO (h : OwnS w B e sz v rows) (o : Obj) : OwnS (w.alloc o) B e sz v rows := ⟨World.ownsRow.alloc h.1 o, h.2⟩
theorem OwnI.allocO (h : OwnI w B e k v xs) (o : Obj) : OwnI (w.alloc o) B e k v xs := World.ownsRow.alloc h o
theorem OwnS.setO (h : OwnS w B e sz v rows) {a : Addr} (ha : v.ownBlock ≠ some a.block) (u : Value) : OwnS (w.setCell a u) B e sz v rows := ⟨ownsRow_setCell_other h.1 ha u, h.2⟩
theorem OwnI.setO (h : OwnI w B e k v xs) {a : Addr} (ha : v.ownBlock ≠ some a.block) (u : Value) : OwnI (w.setCell a u) B e k v xs := ownsRow_setCell_other h ha u
/-- what is owned stays, while something else grows -/
theorem OwnS.keepI (h : OwnS w B e sz v rows) (hg : w.grownBy w' v'.ownBlock) (ho : OwnI w B' e' k' v' xs') (hne : e ≠ e') : OwnS w' B e sz v rows := ⟨World.ownsRow.kept h.1 hg (own_apart ho h.1 hne), h.2⟩
theorem OwnI.keepI (h : OwnI w B e k v xs) (hg : w.grownBy w' v'.ownBlock) (ho : OwnI w B' e' k' v' xs') (hne : e ≠ e') : OwnI w' B e k v xs := World.ownsRow.kept h hg (own_apart ho h hne)
theorem OwnI.keepS (h : OwnI w B e k v xs) (hg : w.grownBy w' v'.ownBlock) (ho : OwnS w B' e' sz' v' rows') (hne : e ≠ e') : OwnI w' B e k v xs := World.ownsRow.kept h hg (own_apart ho.1 h hne)
theorem below_keepI (h : Below B w0 w) (hg : w.grownBy w' v'.ownBlock) (ho : OwnI w B e' k' v' xs') (hb : B ≤ w.heap.size) : Below B w0 w' := h.grown hg hb fun j hj => (World.ownsRow.lt ho j hj).1
theorem below_keepS (h : Below B w0 w) (hg : w.grownBy w' v'.ownBlock) (ho : OwnS w B e' sz' v' rows') (hb : B ≤ w.heap.size) : Below B w0 w' := h.grown hg hb fun j hj => (World.ownsRow.lt ho.1 j hj).1
/-- a slice that stands written out is owned -/
theorem OwnI.lit (w : World) (B : Nat) (e : TypeId) (k : IntKind) (xs : List Int) (cs : Array Value) (hcs : cs = (xs.map (Value.int k)).toArray) (hb : B ≤ w.heap.size) (h63 : xs.length ≤ maxLen) : OwnI (w.alloc (.cells cs e)) B e k (.slice (some ⟨w.heap.size, 0, none⟩) xs.length xs.length) xs := by
  subst hcs
  refine ⟨by simp, .inr ⟨w.heap.size, xs.length, (xs.map (Value.int k)).toArray, rfl, hb, ?_, Nat.le_refl _, h63, by simp, by rw [Nat.mul_one]; exact List.take_of_length_le (by simp)⟩⟩
  show (w.heap.push _)[w.heap.size]? = _
  simp
/-- a store into an owned slice -/
theorem OwnI.put {g n cap : Nat} (h : OwnI w B e k (.slice (some ⟨g, 0, none⟩) n cap) xs) (hn : xs.length = n) (j : Nat) (y : Int) : OwnI (w.setCell ⟨g, j, none⟩ (.int k y)) B e k (.slice (some ⟨g, 0, none⟩) n cap) (xs.set j y) := by
  subst hn
  have := (World.ownsRow.stored h j (.int k y)).1
  unfold OwnI
  rw [List.length_set, List.map_set]
  exact this
theorem OwnI.get {g n cap : Nat} (h : OwnI w B e k (.slice (some ⟨g, 0, none⟩) n cap) xs) (j : Nat) (y : Int) (hj : xs[j]? = some y) : w.cell? ⟨g, j, none⟩ = some (.int k y) := by
  have hn := h.1
  have he : n = xs.length := by
    obtain ⟨-, h2⟩ := h
    rcases h2 with ⟨h3, h4⟩ | ⟨g', cap', cur, hv, -⟩
    · simp at h3
    · simp only [Value.slice.injEq] at hv; exact hv.2.1
  subst he
  have := World.ownsRow.cells h (g := g) rfl j (.int k y) (by simp [hj])
  rw [WideShapes.add_plain] at this
  simpa using this
theorem OwnI.blockGe {g n cap : Nat} (h : OwnI w B e k (.slice (some ⟨g, 0, none⟩) n cap) xs) : B ≤ g ∧ g < w.heap.size := World.ownsRow.lt h g rfl
theorem OwnS.notNew (h : OwnS w B e sz v rows) {g : Nat} (hg : w.heap.size ≤ g) : v.ownBlock ≠ some g := fun e1 => by have := (World.ownsRow.lt h.1 g e1).2; omega
theorem OwnI.notNew (h : OwnI w B e k v xs) {g : Nat} (hg : w.heap.size ≤ g) : v.ownBlock ≠ some g := fun e1 => by have := (World.ownsRow.lt h g e1).2; omega
end

section
variable {P : Program} {w : World} {ops : Array Oper} {rest : List Oper} {o : Oper} {a : Act} {Q : Exit → Act → World → Prop}

theorem wpList_grow (hgd : o.guard = none) (s x : Operand) {t e : TypeId} {k : IntKind} {bytes : Nat} (F : IntSlice P t e k bytes)
    (ho : o.op = .call { callee := .builtin .append, args := #[s, x], argTypes := #[t, t] })
    (B : Nat) (v : Value) (xs : List Int) (n : Nat) (y : Int) (hs : a.eval s = v) (hx : a.eval x = .slice (some ⟨w.heap.size, 0, none⟩) 1 1) (hn : xs.length = n)
    (hown : OwnI w B e k v xs) (h63 : n + 1 ≤ maxLen) (hlen : (n + 1) * bytes ≤ 140737488355328) (hb : B ≤ w.heap.size)
    (h : ∀ ad cap w', OwnI w' B e k (.slice ad (n + 1) cap) (xs ++ [y]) → (w.alloc (.cells #[.int k y] e)).grownBy w' v.ownBlock → wpList P ops Q rest (a.put o.dst (.slice ad (n + 1) cap)) w') : wpList P ops Q (o :: rest) a (w.alloc (.cells #[.int k y] e)) := by
  subst hn
  obtain ⟨ht, hinfo⟩ := F
  obtain ⟨i, hi, hz0, hz1, hz2⟩ := info_parts hinfo
  refine wpList_append_own _ hgd s x t ho B e i (.int k 0) 1 bytes ht hi hz0 hz1 hz2 rfl (by decide) v xs.length (xs.map (Value.int k)) hs (World.ownsRow.alloc hown _) ⟨w.heap.size, 0, none⟩ 1 1 [.int k y] hx rfl
    (cell_one_at w (.int k y) e) (by intro u hu; simp only [List.mem_cons, List.not_mem_nil, or_false] at hu; subst hu; rfl) h63 hlen (by simp; omega) ?_
  intro v' w1 hown1 hgr _
  have ho : OwnI w1 B e k v' (xs ++ [y]) := by
    unfold OwnI
    rw [List.length_append, List.length_cons, List.length_nil, List.map_append]
    exact hown1
  obtain ⟨ad, cap, hv⟩ := ho.len_le
  rw [List.length_append, List.length_cons, List.length_nil] at hv
  subst hv
  exact h ad cap w1 ho hgr
theorem wpList_grow_row (hgd : o.guard = none) (s x : Operand) {t e : TypeId} {z : Value} {sz bytes : Nat} (F : RowSlice P t e z sz bytes)
    (ho : o.op = .call { callee := .builtin .append, args := #[s, x], argTypes := #[t, t] })
    (B : Nat) (v : Value) (rows : List (List Value)) (n : Nat) (r : List Value) (hs : a.eval s = v) (hx : a.eval x = .slice (some ⟨w.heap.size, 0, none⟩) 1 1) (hn : rows.length = n) (hr : r.length = sz) (hr1 : ∀ u ∈ r, u.oneCell' = true)
    (hown : OwnS w B e sz v rows) (h63 : n + 1 ≤ maxLen) (hlen : (n + 1) * bytes ≤ 140737488355328) (hb : B ≤ w.heap.size)
    (h : ∀ ad cap w', OwnS w' B e sz (.slice ad (n + 1) cap) (rows ++ [r]) → (w.alloc (.cells r.toArray e)).grownBy w' v.ownBlock → wpList P ops Q rest (a.put o.dst (.slice ad (n + 1) cap)) w') : wpList P ops Q (o :: rest) a (w.alloc (.cells r.toArray e)) := by
  subst hn
  obtain ⟨ht, hinfo, hz, hsz⟩ := F
  obtain ⟨i, hi, hz0, hz1, hz2⟩ := info_parts hinfo
  obtain ⟨hown1, hown2⟩ := hown
  refine wpList_append_own _ hgd s x t ho B e i z sz bytes ht hi hz0 hz1 hz2 hz hsz v rows.length rows.flatten hs (World.ownsRow.alloc hown1 _) ⟨w.heap.size, 0, none⟩ 1 1 r hx (by rw [hr, Nat.one_mul])
    (fun j u hj => by
      rw [WideShapes.add_plain, World.cell?_alloc_new]
      simpa using hj) hr1 h63 hlen (by simp; omega) ?_
  intro v' w1 hown' hgr _
  have hos : OwnS w1 B e sz v' (rows ++ [r]) := by
    refine ⟨?_, fun q hq => ?_⟩
    · rw [List.length_append, List.length_cons, List.length_nil, List.flatten_append, List.flatten_cons, List.flatten_nil, List.append_nil]
      exact hown'
    · rcases List.mem_append.1 hq with h | h
      · exact hown2 q h
      · simp only [List.mem_cons, List.not_mem_nil, or_false] at h
        subst h
        exact hr
  obtain ⟨ad, cap, hv, -⟩ := hos.row
  rw [List.length_append, List.length_cons, List.length_nil] at hv
  subst hv
  exact h ad cap w1 hos hgr
end
end Go.Proofs.YtmnjkaimpejohaaGreatDoor
