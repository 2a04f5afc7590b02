/- make([]T, n) of numbers; a row of which the first are written. Nothing of the program is named. -/
import Derived.Test.YtmnjkaimpejohaaGreatDoorKit
import Derived.Laws.OwnMore
import Derived.OwnWalk
namespace Go.Proofs.YtmnjkaimpejohaaGreatDoor
open Go.RowKit
set_option linter.unusedVariables false
set_option linter.unusedSimpArgs false
/-- make([]T, n), T a kind of numbers -/
theorem wpList_make_nums {P : Program} {w : World} {ops : Array Oper} {rest : List Oper} {o : Oper} {a : Act} {Q : Exit → Act → World → Prop} (hgd : o.guard = none) (l c : Operand) {t e : TypeId} {k : IntKind} {bytes : Nat}
    (F : IntSlice P t e k bytes) (ho : o.op = Op.makeSlice t l c) (B : Nat) (w0 : World) (n : Nat) (kl kc : IntKind) (L C : Int)
    (hl : a.eval l = .int kl L) (hc : a.eval c = .int kc C) (hL : L = (n : Int)) (hC : C = (n : Int)) (hn : n * bytes ≤ 140737488355328) (hm : n ≤ maxLen) (bel : Below B w0 w) (hb : B ≤ w.heap.size)
    (h : ∀ g w', OwnI w' B e k (.slice (some ⟨g, 0, none⟩) n n) (List.replicate n 0) → w.heap.size ≤ g → Below B w0 w' → Below w.heap.size w w' → wpList P ops Q rest (a.put o.dst (.slice (some ⟨g, 0, none⟩) n n)) w') : wpList P ops Q (o :: rest) a w := by
  obtain ⟨ht, hinfo⟩ := F
  obtain ⟨i, hi, hz0, hz1, hz2⟩ := info_parts hinfo
  refine wpList_make_full w hgd l c t ho B e i (.int k 0) 1 ht hi hz0 hz1 kl kc L C n hl hc hL hC (by rw [hz2]; rw [Nat.mul_comm]; omega) hm hb ?_
  intro w' hown hgr
  refine h w.heap.size w' ?_ (Nat.le_refl _) (bel.grown hgr hb (fun j hj => by cases hj)) ((Below.refl _ _).grown hgr (Nat.le_refl _) (fun j hj => by cases hj))
  unfold OwnI
  rw [List.length_replicate, List.map_replicate]
  have e1 : (madeCells (Value.int k 0).cells (n * 1)).toList = List.replicate n (.int k 0) := by
    rw [Nat.mul_one]
    exact toList_madeCells_one (.int k 0) n
  rw [e1] at hown
  exact hown

/-- a row of which the first are written -/
def laidTo (f : Nat → Nat) (n k : Nat) : List Int := (List.range n).map fun (i : Nat) => if i < k then (f i : Int) else 0
theorem laidTo_length (f : Nat → Nat) (n k : Nat) : (laidTo f n k).length = n := by simp [laidTo]
theorem laidTo_zero (f : Nat → Nat) (n : Nat) : laidTo f n 0 = List.replicate n 0 := by
  apply List.ext_getElem?
  intro j
  by_cases hj : j < n
  · simp [laidTo, hj]
  · rw [List.getElem?_eq_none (by rw [laidTo_length]; omega), List.getElem?_eq_none (by simp; omega)]
theorem laidTo_all (f : Nat → Nat) (n : Nat) : laidTo f n n = toI ((List.range n).map f) := by
  unfold laidTo toI
  rw [List.map_map]
  apply List.map_congr_left
  intro i hi
  rw [if_pos (List.mem_range.1 hi)]
  rfl
theorem laidTo_set {f : Nat → Nat} {n k : Nat} (h : k < n) : (laidTo f n k).set k (f k : Int) = laidTo f n (k + 1) := by
  apply List.ext_getElem?
  intro j
  rw [List.getElem?_set]
  by_cases hj : j < n
  · by_cases hjk : k = j
    · subst hjk
      rw [if_pos rfl, if_pos (by rw [laidTo_length]; exact hj)]
      simp [laidTo, hj]
    · rw [if_neg hjk]
      simp only [laidTo, List.getElem?_map, List.getElem?_range hj, Option.map_some]
      by_cases h1 : j < k
      · rw [if_pos h1, if_pos (by omega)]
      · rw [if_neg h1, if_neg (by omega)]
  · have hkj : k ≠ j := by omega
    rw [if_neg hkj, List.getElem?_eq_none (by rw [laidTo_length]; omega), List.getElem?_eq_none (by rw [laidTo_length]; omega)]
theorem laidTo_get {f : Nat → Nat} {n k : Nat} (h : k < n) : (laidTo f n k)[k]? = some 0 := by simp [laidTo, h]

theorem OwnI.put2 {w : World} {B g n cap : Nat} {e : TypeId} {k : IntKind} {xs : List Int} (h : OwnI w B e k (.slice (some ⟨g, 0, none⟩) n cap) xs) (hn : xs.length = n) (j : Nat) (y : Int) : OwnI (w.setCell ⟨g, j, none⟩ (.int k y)) B e k (.slice (some ⟨g, 0, none⟩) n cap) (xs.set j y) := by
  subst hn
  have := (World.ownsRow.stored h j (.int k y)).1
  unfold OwnI
  rw [List.length_set, List.map_set]
  exact this
theorem OwnI.len {w : World} {B n cap : Nat} {e : TypeId} {k : IntKind} {ad : Option Addr} {xs : List Int} (h : OwnI w B e k (.slice ad n cap) xs) : n = xs.length := by
  obtain ⟨a, c, hv, -⟩ := h.row
  simp only [Value.slice.injEq] at hv
  exact hv.2.1
theorem OwnI.get2 {w : World} {B g n cap : Nat} {e : TypeId} {k : IntKind} {xs : List Int} (h : OwnI w B e k (.slice (some ⟨g, 0, none⟩) n cap) xs) (j : Nat) (y : Int) (hj : xs[j]? = some y) : w.cell? ⟨g, j, none⟩ = some (.int k y) := by
  have he := h.len
  subst he
  have := World.ownsRow.cells h (g := g) rfl j (.int k y) (by simp [hj])
  rw [WideShapes.add_plain] at this
  simpa using this
theorem OwnI.free2 {w : World} {B g m cap : Nat} {e : TypeId} {k : IntKind} {xs : List Int} (h : OwnI w B e k (.slice (some ⟨g, 0, none⟩) m cap) xs) (j : Nat) : w.frozen? ⟨g, j, none⟩ = false := by
  have hn := h.len
  subst hn
  exact World.ownsRow.frozenAt h j
theorem OwnI.ge2 {w : World} {B g n cap : Nat} {e : TypeId} {k : IntKind} {xs : List Int} (h : OwnI w B e k (.slice (some ⟨g, 0, none⟩) n cap) xs) : B ≤ g ∧ g < w.heap.size := World.ownsRow.lt h g rfl
end Go.Proofs.YtmnjkaimpejohaaGreatDoor
