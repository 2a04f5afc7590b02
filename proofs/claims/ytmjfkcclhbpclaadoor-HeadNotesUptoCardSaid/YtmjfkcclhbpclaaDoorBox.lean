/- Variables that lie in memory by themselves (captured by a function literal), and rows of truth values that a call makes. Nothing of the program is named. -/
import Derived.Test.YtmjfkcclhbpclaaDoorGrow
import Derived.Laws.OwnMore
import Derived.Laws.Rows
import Derived.OwnWalk
namespace Go.Proofs.YtmjfkcclhbpclaaDoor
open Go.RowKit
set_option linter.unusedVariables false
set_option linter.unusedSimpArgs false

def InBox (w : World) (b : Nat) (v : Value) (T : TypeId) : Prop := w.heap[b]? = some (.cells #[v] T)
section
variable {w w' : World} {b B : Nat} {v u : Value} {T e : TypeId}
theorem InBox.lt (h : InBox w b v T) : b < w.heap.size := lt_of_block h
theorem InBox.cell (h : InBox w b v T) : w.cell? ⟨b, 0, none⟩ = some v := by rw [cell_of_row w b 0 _ _ _ h]; rfl
theorem InBox.free (h : InBox w b v T) : w.frozen? ⟨b, 0, none⟩ = false := frozen_of_row w b 0 _ _ h
theorem InBox.alloc (h : InBox w b v T) (o : Obj) : InBox (w.alloc o) b v T := (heap_alloc_old w o h.lt).trans h
theorem InBox.of_block (h : InBox w b v T) (hb : w'.heap[b]? = w.heap[b]?) : InBox w' b v T := hb.trans h
theorem InBox.setOther (h : InBox w b v T) {a : Addr} (ha : a.block ≠ b) (u : Value) : InBox (w.setCell a u) b v T := (heap_setCell_other w a b u (Ne.symm ha)).trans h
theorem InBox.set (h : InBox w b v T) (u : Value) : InBox (w.setCell ⟨b, 0, none⟩ u) b u T := by
  unfold InBox
  rw [heap_setCell_same w b 0 _ _ u h]
  rfl
theorem InBox.grown (h : InBox w b v T) {row : Option Nat} (hg : w.grownBy w' row) (hne : row ≠ some b) : InBox w' b v T := h.of_block (hg.block b h.lt (fun e => hne e.symm))
theorem InBox.below (h : InBox w b v T) (hb : Below w.heap.size w w') : InBox w' b v T := h.of_block (hb.block b h.lt)
theorem InBox.apart (h : InBox w b v T) {sz n : Nat} {x : Value} {xs : List Value} (ho : w.ownsRow B e sz x n xs) (hne : e ≠ T) : x.ownBlock ≠ some b := by
  intro e1
  obtain ⟨-, h2⟩ := ho
  rcases h2 with ⟨rfl, -⟩ | ⟨g, cap, cur, rfl, -, hg, -⟩
  · cases e1
  · simp only [Value.ownBlock, Option.some.injEq] at e1
    have : g = b := by simpa [Value.ownBlock] using e1
    subst this
    rw [h] at hg
    simp only [Option.some.injEq, Obj.cells.injEq] at hg
    exact hne hg.2.1.symm
theorem InBox.new (w : World) (v : Value) (T : TypeId) : InBox (w.alloc (.cells #[v] T)) w.heap.size v T := heap_alloc_new _ _
end

/-- of each number below n whether it is in a list -/
def marks (n : Nat) (l : List Nat) : List Value := (List.range n).map fun i => .bool (decide (i ∈ l))
theorem marks_length (n : Nat) (l : List Nat) : (marks n l).length = n := by simp [marks]
theorem marks_at {n i : Nat} (l : List Nat) (h : i < n) : (marks n l)[i]? = some (.bool (decide (i ∈ l))) := by simp [marks, h]
theorem marks_set {n i : Nat} (l : List Nat) (h : i < n) : (marks n l).set i (.bool true) = marks n (l ++ [i]) := by
  apply List.ext_getElem?
  intro j
  by_cases hj : j < n
  · rw [marks_at _ hj, List.getElem?_set]
    by_cases hij : i = j
    · subst hij
      simp [marks_length, h]
    · rw [if_neg hij, marks_at _ hj]
      have : j ≠ i := fun e => hij e.symm
      simp [this]
  · rw [List.getElem?_eq_none (by simp [marks_length]; omega), List.getElem?_eq_none (by simp [marks_length]; omega)]
theorem marks_nil (n : Nat) : marks n [] = List.replicate n (.bool false) := by
  apply List.ext_getElem?
  intro j
  by_cases hj : j < n
  · rw [marks_at _ hj]
    simp [hj]
  · rw [List.getElem?_eq_none (by simp [marks_length]; omega), List.getElem?_eq_none (by simp; omega)]

/-- a row of marks that a call made -/
def OwnB (w : World) (B : Nat) (e : TypeId) (g n : Nat) (l : List Nat) : Prop := w.ownsRow B e 1 (.slice (some ⟨g, 0, none⟩) n n) n (marks n l)
section
variable {w w' : World} {B g n : Nat} {e : TypeId} {l : List Nat}
theorem OwnB.cell (h : OwnB w B e g n l) {i : Nat} (hi : i < n) : w.cell? ⟨g, i, none⟩ = some (.bool (decide (i ∈ l))) := by
  rw [World.ownsRow.cellAt h i (by omega), marks_at l hi]
theorem OwnB.free (h : OwnB w B e g n l) (i : Nat) : w.frozen? ⟨g, i, none⟩ = false := World.ownsRow.frozenAt h i
theorem OwnB.set (h : OwnB w B e g n l) {i : Nat} (hi : i < n) : OwnB (w.setCell ⟨g, i, none⟩ (.bool true)) B e g n (l ++ [i]) := by
  have := (World.ownsRow.stored h i (.bool true)).1
  rw [marks_set l hi] at this
  exact this
theorem OwnB.alloc (h : OwnB w B e g n l) (o : Obj) : OwnB (w.alloc o) B e g n l := World.ownsRow.alloc h o
theorem OwnB.setOther (h : OwnB w B e g n l) {a : Addr} (ha : a.block ≠ g) (u : Value) : OwnB (w.setCell a u) B e g n l := ownsRow_setCell_other h (fun e1 => ha (by simpa [Value.ownBlock] using e1.symm)) u
theorem OwnB.blockGe (h : OwnB w B e g n l) : B ≤ g ∧ g < w.heap.size := World.ownsRow.lt h g rfl
theorem OwnB.grown (h : OwnB w B e g n l) {B' : Nat} {e' : TypeId} {sz m : Nat} {x : Value} {xs : List Value} (hg : w.grownBy w' x.ownBlock) (ho : w.ownsRow B' e' sz x m xs) (hne : e ≠ e') : OwnB w' B e g n l := World.ownsRow.kept h hg (own_apart ho h hne)
theorem OwnB.below (h : OwnB w B e g n l) (hb : Below w.heap.size w w') : OwnB w' B e g n l := by
  obtain ⟨h1, h2⟩ := h
  refine ⟨h1, ?_⟩
  rcases h2 with h2 | ⟨g, cap, cur, hv, hB, hg, r⟩
  · exact .inl h2
  · exact .inr ⟨g, cap, cur, hv, hB, by rw [hb.block g (lt_of_block hg)]; exact hg, r⟩
end

/-- make([]bool, n) -/
theorem wpList_make_marks {P : Program} {w : World} {ops : Array Oper} {rest : List Oper} {o : Oper} {a : Act} {Q : Exit → Act → World → Prop} (hgd : o.guard = none) (l c : Operand) {t e : TypeId}
    (ht : P.underlying t = some (.slice e)) (hinfo : (P.info? e).map (fun i => (i.zero, i.size, i.bytes)) = some (some (.bool false), 1, 1)) (ho : o.op = Op.makeSlice t l c) (B : Nat) (w0 : World) (n : Nat) (kl kc : IntKind) (L C : Int)
    (hl : a.eval l = .int kl L) (hc : a.eval c = .int kc C) (hL : L = (n : Int)) (hC : C = (n : Int)) (hn : n ≤ 1048576) (bel : Below B w0 w) (hb : B ≤ w.heap.size)
    (h : ∀ g w', OwnB w' B e g n [] → w.heap.size ≤ g → Below B w0 w' → Below w.heap.size w w' → wpList P ops Q rest (a.put o.dst (.slice (some ⟨g, 0, none⟩) n n)) w') : wpList P ops Q (o :: rest) a w := by
  obtain ⟨i, hi, hz0, hz1, hz2⟩ := info_parts hinfo
  refine wpList_make_full w hgd l c t ho B e i (.bool false) 1 ht hi hz0 hz1 kl kc L C n hl hc hL hC (by rw [hz2]; omega) (by unfold maxLen; omega) hb ?_
  intro w' hown hgr
  refine h w.heap.size w' ?_ (Nat.le_refl _) (bel.grown hgr hb (fun j hj => by cases hj)) ((Below.refl _ _).grown hgr (Nat.le_refl _) (fun j hj => by cases hj))
  unfold OwnB
  rw [marks_nil]
  have e1 : (madeCells (Value.bool false).cells (n * 1)).toList = List.replicate n (.bool false) := by
    rw [Nat.mul_one]
    exact toList_madeCells_one (.bool false) n
  rw [e1] at hown
  exact hown
end Go.Proofs.YtmjfkcclhbpclaaDoor
