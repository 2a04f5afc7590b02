/- Layer 8: for the answer of a definition: the names of it, the place of the answer. -/
import Derived.Test.YtikpkblemegggaaVersNeedsW
import Derived.Tactics
namespace Go.Proofs.Ytikpkblemegggaa
open Go.RowKit Go.Maps
set_option linter.unusedVariables false
set_option linter.unusedSimpArgs false

theorem nameStep_len {ss : List Nat} {bs : List Nat} {ps : List PT} {size : Nat} : ∀ (n fr step : Nat) (l : List ByteArray), (chainV (nameStep ss) bs ps size n fr step l).2 = 0 → (chainV (nameStep ss) bs ps size n fr step l).1.length = l.length + n
  | 0, _, _, l, _ => rfl
  | n + 1, fr, step, l, h => by
    rw [chainV] at h ⊢
    by_cases h1 : (itemF bs ps fr step size).2.2 = 0
    · rw [if_neg (by simpa using h1)] at h ⊢
      by_cases h2 : (nameStep ss l (itemF bs ps fr step size).1 (itemF bs ps fr step size).2.1).2 = 0
      · rw [if_neg (by simpa using h2)] at h ⊢
        by_cases h3 : numOf ((itemF bs ps fr step size).1.drop (size - 4)) = 0 ∧ 0 < n
        · rw [if_pos h3] at h
          exact absurd (show (3 : Nat) = 0 from h) (by decide)
        · rw [if_neg h3] at h ⊢
          rw [nameStep_len n _ _ _ h]
          simp [nameStep]
          omega
      · rw [if_pos (by simpa using h2)] at h
        exact absurd h h2
    · rw [if_pos (by simpa using h1)] at h
      exact absurd h h1
theorem nameStep_size {ss : List Nat} {bs : List Nat} {ps : List PT} {size : Nat} : ∀ (n fr step : Nat) (l : List ByteArray), (∀ t ∈ l, t.size ≤ 255) → ∀ t ∈ (chainV (nameStep ss) bs ps size n fr step l).1, t.size ≤ 255
  | 0, _, _, l, h => h
  | n + 1, fr, step, l, h => by
    have hs : ∀ b, ∀ t ∈ l ++ [(textF ss (numOf (b : List Nat))).1], t.size ≤ 255 := by
      intro b t ht
      rcases List.mem_append.1 ht with h1 | h1
      · exact h t h1
      · simp only [List.mem_singleton] at h1
        subst h1
        exact textF_size _ _
    rw [chainV]
    split
    · exact h
    · split
      · exact hs _
      · split
        · exact hs _
        · exact nameStep_size n _ _ _ (hs _)

/-- the block of the answer, whatever stands there -/
def Box4 (w : World) (V : Nat) (T : TypeId) : Prop := ∃ u0 u1 u2 u3, w.heap[V]? = some (.cells #[u0, u1, u2, u3] T)
/-- from a world on nothing is changed but the place of the answer -/
def SS (V : Nat) (T : TypeId) (w5 w' : World) : Prop := w5.grownBy w' (some V) ∧ Box4 w' V T
theorem SS.below {V : Nat} {T : TypeId} {w5 w' w6 : World} (h : SS V T w5 w') (hb : Below w'.heap.size w' w6) : SS V T w5 w6 := by
  obtain ⟨h1, u0, u1, u2, u3, h2⟩ := h
  exact ⟨World.grownBy.trans h1 ⟨hb.os, hb.tape, hb.output, hb.size, fun i hi _ => hb.block i hi⟩, u0, u1, u2, u3, (hb.block V (lt_of_block h2)).trans h2⟩
theorem SS.set {V : Nat} {T : TypeId} {w5 w' : World} (h : SS V T w5 w') (v0 v1 v2 v3 : Value) : SS V T w5 (w'.setRow V #[v0, v1, v2, v3]) := by
  obtain ⟨h1, u0, u1, u2, u3, h2⟩ := h
  exact ⟨World.grownBy.trans h1 (setRow_grown _ _ _), v0, v1, v2, v3, setRow_heap _ _ _ _ _ _ h2⟩
theorem SS.cell {V : Nat} {T : TypeId} {w5 w' : World} (h : SS V T w5 w') {b o : Nat} {v : Value} (hc : w5.cell? ⟨b, o, none⟩ = some v) (hb : b ≠ V) : w'.cell? ⟨b, o, none⟩ = some v := h.1.cell hc (by simpa using hb)

theorem step_store4 {w : World} {ops : Array Oper} {o : Oper} {a : Act} {K : Act → World → Prop} {Q : Exit → Act → World → Prop} {E : Prop} (hgd : o.guard = none) (p x : Operand) (ho : o.op = .store 42 p x) (hdst : o.dst = none)
    (V : Nat) {T : TypeId} (y0 : Int) (y1 : Bool) (y2 : ByteArray) (y3 : Option Addr) (y4 y5 : Nat) (hp : a.eval p = .pointer (some ⟨V, 0, none⟩)) (hx : a.eval x = .agg #[.int .i64 y0, .bool y1, .string y2, .slice y3 y4 y5]) (hbox : Hid (Box4 w V T))
    (h : K a (w.setRow V #[.int .i64 y0, .bool y1, .string y2, .slice y3 y4 y5])) :
    if Region.wanted o (yielded ops a.tmps) = true then Oper.wp Try.prog o a w K Q else E := by
  have hw : Region.wanted o (yielded ops a.tmps) = true := by simp [Region.wanted, hgd]
  rw [if_pos hw]
  obtain ⟨u0, u1, u2, u3, hb⟩ := hbox.out
  have f := fun j => frozen_of_row w V j _ _ hb
  have c0 : w.cell? ⟨V, 0, none⟩ = some u0 := by rw [cell_of_row w V 0 _ _ _ hb]; rfl
  have c1 : w.cell? ⟨V, 1, none⟩ = some u1 := by rw [cell_of_row w V 1 _ _ _ hb]; rfl
  have c2 : w.cell? ⟨V, 2, none⟩ = some u2 := by rw [cell_of_row w V 2 _ _ _ hb]; rfl
  have c3 : w.cell? ⟨V, 3, none⟩ = some u3 := by rw [cell_of_row w V 3 _ _ _ hb]; rfl
  have f0 := f 0
  have f1 := f 1
  have f2 := f 2
  have f3 := f 3
  have FS := four_stores hb (.int .i64 y0) (.bool y1) (.string y2) (.slice y3 y4 y5)
  rw [← FS] at h
  have HH := Lib.hid h
  clear hb hbox f FS hw h
  unfold Oper.wp execOp
  simp only [ho, hp, hx, hdst]
  go_simp
  exact HH.out
/-- what stands in the place of the answer -/
def oldCell (w : World) (V j : Nat) : Value := (w.cell? ⟨V, j, none⟩).getD (.int .i64 0)
def Old4 (w : World) (V : Nat) : Prop := (w.cell? ⟨V, 0, none⟩ = some (oldCell w V 0) ∧ w.cell? ⟨V, 1, none⟩ = some (oldCell w V 1) ∧ w.cell? ⟨V, 2, none⟩ = some (oldCell w V 2) ∧ w.cell? ⟨V, 3, none⟩ = some (oldCell w V 3)) ∧
  w.frozen? ⟨V, 0, none⟩ = false ∧ w.frozen? ⟨V, 1, none⟩ = false ∧ w.frozen? ⟨V, 2, none⟩ = false ∧ w.frozen? ⟨V, 3, none⟩ = false
theorem Box4.old {w : World} {V : Nat} {T : TypeId} (h : Box4 w V T) : Old4 w V := by
  obtain ⟨u0, u1, u2, u3, hb⟩ := h
  have c := fun j => cell_of_row w V j _ _ _ hb
  have f := fun j => frozen_of_row w V j _ _ hb
  refine ⟨⟨?_, ?_, ?_, ?_⟩, f 0, f 1, f 2, f 3⟩
  all_goals
    unfold oldCell
    rw [c]
    rfl
theorem SS.stores {V : Nat} {T : TypeId} {w5 w' : World} (h : SS V T w5 w') (v0 v1 v2 v3 : Value) : SS V T w5 ((((w'.setCell ⟨V, 0, none⟩ v0).setCell ⟨V, 1, none⟩ v1).setCell ⟨V, 2, none⟩ v2).setCell ⟨V, 3, none⟩ v3) := by
  have h2 := h.set v0 v1 v2 v3
  obtain ⟨u0, u1, u2, u3, hb⟩ := h.2
  rw [four_stores hb]
  exact h2
theorem flat_names (l : List ByteArray) : (nameRows l).flatten = l.map Value.string := by
  induction l with
  | nil => rfl
  | cons a l ih => simp [nameRows] at ih ⊢; exact ih
theorem OwnT.asS {w : World} {B : Nat} {e : TypeId} {v : Value} {T : List ByteArray} (h : OwnT w B e v T) : OwnS w B e 1 v (nameRows T) := by
  refine ⟨?_, fun r hr => by obtain ⟨t, -, rfl⟩ := List.mem_map.1 hr; rfl⟩
  rw [nameRows_length, flat_names]
  exact h
end Go.Proofs.Ytikpkblemegggaa
