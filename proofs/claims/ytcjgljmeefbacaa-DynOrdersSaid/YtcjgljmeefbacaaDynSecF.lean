/- Layer 5 as mathematics: the bytes of some entries are read as these. -/
import Derived.Test.YtcjgljmeefbacaaDynF
import Derived.Test.YtcjgljmeefbacaaDynOrd
namespace Go.Proofs.Ytcjgljmeefbacaa
open Go.RowKit
set_option linter.unusedVariables false
set_option linter.unusedSimpArgs false

/-- the k lowest bytes of a number -/
def dgs (v k : Nat) : List Nat := (List.range k).map fun j => v / 256 ^ j % 256
theorem dgs_length (v k : Nat) : (dgs v k).length = k := by simp [dgs]
theorem dgs_succ (v k : Nat) : dgs v (k + 1) = dgs v k ++ [v / 256 ^ k % 256] := by simp [dgs, List.range_succ]
theorem dgs_lt (v k : Nat) : ∀ b ∈ dgs v k, b < 256 := by
  intro b hb
  simp only [dgs, List.mem_map] at hb
  obtain ⟨j, -, rfl⟩ := hb
  omega
theorem numOf_dgs (v k : Nat) : numOf (dgs v k) = v % 256 ^ k := by
  induction k with
  | zero => simp [dgs, numOf, Nat.mod_one]
  | succ k ih => rw [dgs_succ, numOf_snoc, ih, dgs_length, Nat.pow_succ, Nat.mod_mul]
theorem numOf_dgs8 {v : Nat} (h : v < 18446744073709551616) : numOf (dgs v 8) = v := by
  rw [numOf_dgs, show (256 : Nat) ^ 8 = 18446744073709551616 by decide, Nat.mod_eq_of_lt h]
/-- an entry's bytes; those of some entries -/
def entB (e : Nat × Nat) : List Nat := dgs e.1 8 ++ dgs e.2 8
theorem entB_length (e : Nat × Nat) : (entB e).length = 16 := by simp [entB, dgs_length]
def secB (l : List (Nat × Nat)) : List Nat := (l.map entB).flatten
theorem secB_cons (e : Nat × Nat) (l : List (Nat × Nat)) : secB (e :: l) = entB e ++ secB l := rfl
theorem secB_snoc (e : Nat × Nat) (l : List (Nat × Nat)) : secB (l ++ [e]) = secB l ++ entB e := by simp [secB]
theorem secB_length (l : List (Nat × Nat)) : (secB l).length = 16 * l.length := by
  induction l with
  | nil => rfl
  | cons e l ih => rw [secB_cons, List.length_append, entB_length, ih, List.length_cons]; omega
theorem secB_lt (l : List (Nat × Nat)) : ∀ b ∈ secB l, b < 256 := by
  intro b hb
  unfold secB at hb
  rw [List.mem_flatten] at hb
  obtain ⟨x, hx, hb⟩ := hb
  obtain ⟨e, -, rfl⟩ := List.mem_map.1 hx
  rcases List.mem_append.1 hb with h | h
  · exact dgs_lt _ _ b h
  · exact dgs_lt _ _ b h
def U64P (e : Nat × Nat) : Prop := e.1 < 18446744073709551616 ∧ e.2 < 18446744073709551616
theorem at_entry {bs : List Nat} {i : Nat} {e : Nat × Nat} {r : List Nat} (h : bs.drop (16 * i) = entB e ++ r) (he : U64P e) : 16 * (i + 1) ≤ bs.length ∧ tagAt bs i = e.1 ∧ valAt bs i = e.2 ∧ bs.drop (16 * (i + 1)) = r := by
  have hl := congrArg List.length h
  rw [List.length_drop, List.length_append, entB_length] at hl
  refine ⟨by omega, ?_, ?_, ?_⟩
  · unfold tagAt
    rw [h]
    unfold entB
    rw [List.append_assoc, List.take_left' (dgs_length _ _), numOf_dgs8 he.1]
  · unfold valAt
    rw [show 16 * i + 8 = 16 * i + 8 from rfl, ← List.drop_drop, h]
    unfold entB
    rw [List.append_assoc, List.drop_left' (dgs_length _ _), List.take_left' (dgs_length _ _), numOf_dgs8 he.2]
  · rw [show 16 * (i + 1) = 16 * i + 16 by omega, ← List.drop_drop, h, List.drop_left' (entB_length _)]
theorem ent_scan (rest : List Nat) (bs : List Nat) : ∀ (l : List (Nat × Nat)) (f i : Nat) (ns : List Nat) (m : Nat → Option Nat), (∀ e ∈ l, U64P e ∧ e.1 ≠ 0) → l.length < f → i + l.length ≤ 255 → bs.drop (16 * i) = secB (l ++ [(0, 0)]) ++ rest →
    entGo bs f i ns m = match scanF knF l ns m with
      | some r => .ok r
      | none => .error 5
  | [], f, i, ns, m, hl, hf, hi, hb => by
    obtain ⟨g, rfl⟩ : ∃ g, f = g + 1 := ⟨f - 1, by simp at hf; omega⟩
    rw [List.nil_append, secB_cons, List.append_assoc] at hb
    obtain ⟨h1, h2, -, -⟩ := at_entry hb ⟨by decide, by decide⟩
    rw [entGo, if_neg (by omega), if_pos h2]
    rfl
  | e :: l, f, i, ns, m, hl, hf, hi, hb => by
    obtain ⟨g, rfl⟩ : ∃ g, f = g + 1 := ⟨f - 1, by simp at hf; omega⟩
    rw [List.cons_append, secB_cons, List.append_assoc] at hb
    obtain ⟨he, he0⟩ := hl e (by simp)
    obtain ⟨h1, h2, h3, h4⟩ := at_entry hb he
    simp only [List.length_cons] at hf hi
    rw [entGo, if_neg (by omega), h2, h3, if_neg he0, if_neg (by omega), scanF]
    by_cases t1 : e.1 = 1
    · rw [if_pos t1, if_pos t1]
      exact ent_scan rest bs l g (i + 1) _ m (fun x hx => hl x (by simp [hx])) (by omega) (by omega) h4
    · rw [if_neg t1, if_neg t1]
      by_cases tk : (m e.1).isSome = true ∧ knF e.1 = true
      · rw [if_pos tk, if_pos tk]
      · rw [if_neg tk, if_neg tk]
        exact ent_scan rest bs l g (i + 1) ns _ (fun x hx => hl x (by simp [hx])) (by omega) (by omega) h4
/-- what is read of entries, with whatever behind -/
theorem ent_sec (l : List (Nat × Nat)) (rest : List Nat) (hl : ∀ e ∈ l, U64P e ∧ e.1 ≠ 0) (hn : l.length ≤ 200) :
    entF (secB (l ++ [(0, 0)]) ++ rest) = match scanF knF l [] (fun _ => none) with
      | some r => .ok r
      | none => .error 5 := by
  unfold entF
  refine ent_scan rest _ l _ 0 _ _ hl ?_ (by omega) rfl
  rw [List.length_append, secB_length, List.length_append]
  simp only [List.length_cons, List.length_nil]
  omega

theorem gv_congr {m m' : Nat → Option Nat} {t : Nat} (h : m t = m' t) : gv m t = gv m' t := by unfold gv; rw [h]
theorem fitF_congr {m m' : Nat → Option Nat} (h : ∀ t, knF t = true → t ≠ 1 → m t = m' t) : fitF m = fitF m' := by
  have k := fun t (h1 : knF t = true) (h2 : t ≠ 1) => gv_congr (h t h1 h2)
  unfold fitF
  simp only [List.all_cons, List.all_nil]
  rw [h 20 (by decide) (by decide), h 9 (by decide) (by decide), h 11 (by decide) (by decide), h 37 (by decide) (by decide),
    k 20 (by decide) (by decide), k 9 (by decide) (by decide), k 11 (by decide) (by decide), k 37 (by decide) (by decide),
    k 5 (by decide) (by decide), k 10 (by decide) (by decide), k 6 (by decide) (by decide), k 4 (by decide) (by decide), k 1879047925 (by decide) (by decide),
    k 7 (by decide) (by decide), k 8 (by decide) (by decide), k 23 (by decide) (by decide), k 2 (by decide) (by decide), k 36 (by decide) (by decide), k 35 (by decide) (by decide),
    k 25 (by decide) (by decide), k 27 (by decide) (by decide), k 26 (by decide) (by decide), k 28 (by decide) (by decide), k 1879048188 (by decide) (by decide), k 1879048189 (by decide) (by decide),
    k 1879048190 (by decide) (by decide), k 1879048191 (by decide) (by decide), k 1879048176 (by decide) (by decide)]
end Go.Proofs.Ytcjgljmeefbacaa
