/- Layer 5: what is read of two orders of the same entries is the same. -/
import Derived.Test.YtcjgljmeefbacaaDynRead
import Derived.Test.YtcjgljmeefbacaaDynSecF
namespace Go.Proofs.Ytcjgljmeefbacaa
open Go.RowKit
set_option linter.unusedVariables false
set_option linter.unusedSimpArgs false

def dt0 : DT := ⟨none, 0, 0, 0, 0, 0, 0, 0, 0, 0, 0, 0, 0, 0, 0, 0, false, false, false, 0, 0, 0, 0, 0, 0, 0, 0, 0, 0, 0, 0, 0, 0, 0, false, false, false, false, false⟩
theorem dt0_cells : dt0.cells = dyn0 := rfl
/-- what is told, without the needed; is it there; the error's number; how many are needed -/
def outF : Except Nat (Option (List Nat × (Nat → Option Nat))) → DT × Bool × Nat × Nat
  | .error n => (dt0, false, n, 0)
  | .ok none => (dt0, false, 0, 0)
  | .ok (some (ns, m)) => (toldF none 0 0 m, true, 0, ns.length)
/-- a DT but for what is needed -/
def bare (d : DT) : DT := { d with na := none, nl := 0, nc := 0 }
theorem bare_told (ad : Option Addr) (n c : Nat) (m : Nat → Option Nat) : bare (toldF ad n c m) = toldF none 0 0 m := rfl
theorem bare_cells (d : DT) : d.cells.setIfInBounds 0 (.slice none 0 0) = (bare d).cells := rfl
theorem cells_zero (d : DT) : d.cells[0]? = some (.slice d.na d.nl d.nc) := rfl
theorem out_post {B : Nat} {w' : World} {e : Ending} {r : Except Nat (Option (List Nat × (Nat → Option Nat)))} (h : DynPost B w' e r) :
    ∃ d : DT, e = .returned (.tuple #[.agg d.cells, .bool (outF r).2.1, errV ((outF r).2.2.1 : Int)]) ∧ bare d = (outF r).1 ∧ d.nl = (outF r).2.2.2 := by
  match r, h with
  | .error n, h => exact ⟨dt0, h, rfl, rfl⟩
  | .ok none, h => exact ⟨dt0, h, rfl, rfl⟩
  | .ok (some (ns, m)), ⟨ad, n, c, h, _, hn⟩ => exact ⟨toldF ad n c m, h, bare_told _ _ _ _, hn⟩

theorem orF_congr {m m' : Nat → Option Nat} {t f : Nat} {b : Int} (h1 : m t = m' t) (h2 : m f = m' f) : orF m t f b = orF m' t f b := by unfold orF; rw [h1, gv_congr h2]
theorem told_congr {m m' : Nat → Option Nat} (h : ∀ t, knF t = true → t ≠ 1 → m t = m' t) : toldF none 0 0 m = toldF none 0 0 m' := by
  have k := fun t (h1 : knF t = true) (h2 : t ≠ 1) => gv_congr (h t h1 h2)
  unfold toldF
  rw [h 14 (by decide) (by decide), h 15 (by decide) (by decide), h 29 (by decide) (by decide), h 12 (by decide) (by decide), h 13 (by decide) (by decide),
    orF_congr (h 16 (by decide) (by decide)) (h 30 (by decide) (by decide)), orF_congr (h 24 (by decide) (by decide)) (h 30 (by decide) (by decide)), orF_congr (h 22 (by decide) (by decide)) (h 30 (by decide) (by decide)),
    k 2 (by decide) (by decide), k 3 (by decide) (by decide), k 4 (by decide) (by decide), k 5 (by decide) (by decide), k 6 (by decide) (by decide), k 7 (by decide) (by decide), k 8 (by decide) (by decide), k 10 (by decide) (by decide),
    k 12 (by decide) (by decide), k 13 (by decide) (by decide), k 14 (by decide) (by decide), k 15 (by decide) (by decide), k 29 (by decide) (by decide), k 23 (by decide) (by decide), k 25 (by decide) (by decide), k 26 (by decide) (by decide),
    k 27 (by decide) (by decide), k 28 (by decide) (by decide), k 30 (by decide) (by decide), k 36 (by decide) (by decide), k 35 (by decide) (by decide), k 1879047925 (by decide) (by decide), k 1879048176 (by decide) (by decide),
    k 1879048187 (by decide) (by decide), k 1879048188 (by decide) (by decide), k 1879048189 (by decide) (by decide), k 1879048190 (by decide) (by decide), k 1879048191 (by decide) (by decide)]

def onePs (n : Nat) : List PT := [⟨2, 0, 0, 0, n, 0, 0⟩]
theorem read_one (bs : List Nat) (n : Nat) (hn : n = bs.length) : dynRF bs (onePs n) = match entF bs with
    | .error n => .error n
    | .ok (ns, m) => if fitF m = true then .ok (some (ns, m)) else .error 3 := by
  subst hn
  unfold dynRF
  have e : pidx 2 0 (onePs bs.length) = some 0 := rfl
  have e2 : (onePs bs.length).getD 0 PT.zero = ⟨2, 0, 0, 0, bs.length, 0, 0⟩ := rfl
  rw [e]
  simp only [e2]
  rw [if_pos ⟨by omega, by omega⟩, List.drop_zero, List.take_of_length_le (Nat.le_refl _)]
  cases entF bs with
  | error n => rfl
  | ok x => rfl
theorem out_same (l l' : List (Nat × Nat)) (hp : l.Perm l') (h : ∀ e ∈ l, U64P e ∧ e.1 ≠ 0) (hn : l.length ≤ 200) (rest : List Nat) (n n' : Nat) (h1 : n = (secB (l ++ [(0, 0)])).length) (h2 : n' = (secB (l' ++ [(0, 0)]) ++ rest).length) :
    outF (dynRF (secB (l ++ [(0, 0)])) (onePs n)) = outF (dynRF (secB (l' ++ [(0, 0)]) ++ rest) (onePs n')) ∧ (outF (dynRF (secB (l ++ [(0, 0)])) (onePs n))).2.2.1 ≤ 30 := by
  rw [read_one _ _ h1, read_one _ _ h2]
  have e1 := ent_sec l [] h hn
  rw [List.append_nil] at e1
  have e2 := ent_sec l' rest (fun e he => h e (hp.mem_iff.2 he)) (by rw [← hp.length_eq]; exact hn)
  rw [e1, e2]
  rcases scan_perm (kn := knF) hp with ⟨a, b⟩ | ⟨ns, m, ns', m', a, b, hl, hm⟩
  · rw [a, b]
    exact ⟨rfl, by decide⟩
  · rw [a, b]
    have hf := fitF_congr hm
    show outF (if fitF m = true then .ok (some (ns, m)) else .error 3) = outF (if fitF m' = true then .ok (some (ns', m')) else .error 3) ∧ (outF (if fitF m = true then .ok (some (ns, m)) else .error 3)).2.2.1 ≤ 30
    by_cases hft : fitF m = true
    · have hft' : fitF m' = true := by rw [← hf]; exact hft
      rw [if_pos hft, if_pos hft']
      refine ⟨?_, by show (0 : Nat) ≤ 30; decide⟩
      unfold outF
      simp only []
      rw [told_congr hm, hl]
    · have hft' : ¬ fitF m' = true := by rw [← hf]; exact hft
      rw [if_neg hft, if_neg hft']
      exact ⟨rfl, by show (3 : Nat) ≤ 30; decide⟩
end Go.Proofs.Ytcjgljmeefbacaa
