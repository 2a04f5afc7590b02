/- Layer 5: does what a section tells go together? -/
import Derived.Test.YtcjgljmeefbacaaDynF
import Derived.Test.YtcjgljmeefbacaaUMap
import Derived.Deep.LoopGhost
import Derived.WalkMore
import Derived.Carry
namespace Go.Proofs.Ytcjgljmeefbacaa
open Go.RowKit
open Go.Maps (Keyed)
set_option linter.unusedVariables false
set_option linter.unusedSimpArgs false

/-- an entry that comes up while a map is gone through -/
theorem um_entry {P : Program} {K : TypeId} {F : Nat → Option Nat} {D : DataW Unit} (hK : P.underlying K = some (.int .u64)) (hD : ∀ k, k < 18446744073709551616 → D.atKey (nk k) (numD none) = numD (F k) ∧ Maps.has D (nk k) = (F k).isSome)
    {x o : Int} {kl : Lit} {y : DataW Unit × List MemPlace} (hkey : keyOf P K (.int .u64 x) = some kl) (hRy : numR (.int .u64 o) = some y) (hat : ∀ zd, D.atKey kl zd = y.1) : ∃ k v : Nat, x = (k : Int) ∧ o = (v : Int) ∧ kl = nk k ∧ k < 18446744073709551616 ∧ F k = some v := by
  obtain ⟨x', ex, rfl, hwx⟩ := Maps.keyOf_int_inv hK hkey
  cases ex
  have hbx := wf_u64_bounds hwx
  obtain ⟨k, rfl⟩ : ∃ k : Nat, x = (k : Int) := ⟨x.toNat, by omega⟩
  have hk64 : k < 18446744073709551616 := by unfold M64 at hbx; omega
  obtain ⟨h1, h2⟩ := hD k hk64
  have h3 : Maps.has D (nk k) = true := Maps.has_true_of_atKey hat
  rw [h3] at h2
  cases hf : F k with
  | none => rw [hf] at h2; cases h2
  | some v =>
    have h4 := hat (numD none)
    rw [show (Lit.int .u64 (k : Int)) = nk k from rfl, h1, hf] at h4
    unfold numR at hRy
    simp only [Option.some.injEq] at hRy
    rw [← hRy] at h4
    simp only [numD, Option.getD_some, DataW.lit.injEq, Lit.int.injEq, true_and] at h4
    exact ⟨k, v, rfl, h4.symm, rfl, hk64, hf⟩

/-- those that have come up are fine -/
def Passed (F : Nat → Option Nat) (left : Lit → Bool) (ok : Nat → Nat → Prop) : Prop := ∀ k v, F k = some v → left (nk k) = false → ok k v
theorem Passed.start {F : Nat → Option Nat} {D : DataW Unit} {ok : Nat → Nat → Prop} (hD : ∀ k, k < 18446744073709551616 → D.atKey (nk k) (numD none) = numD (F k) ∧ Maps.has D (nk k) = (F k).isSome) (hF : ∀ k v, F k = some v → k < 18446744073709551616) : Passed F (Maps.has D) ok := by
  intro k v h1 h2
  rw [(hD k (hF k v h1)).2, h1] at h2
  cases h2
theorem Passed.step {F : Nat → Option Nat} {left : Lit → Bool} {ok : Nat → Nat → Prop} (h : Passed F left ok) {k v : Nat} (hF : F k = some v) (hok : ok k v) : Passed F (fun z => left z && !z.sameKey (nk k)) ok := by
  intro j u h1 h2
  by_cases e : j = k
  · subst e
    rw [hF] at h1
    cases h1
    exact hok
  · refine h j u h1 ?_
    have h3 : (left (nk j) && !(nk j).sameKey (nk k)) = false := h2
    rw [Maps.sameKey_ne (fun e2 => e (nk_inj e2))] at h3
    simpa using h3
theorem Passed.done {F : Nat → Option Nat} {left : Lit → Bool} {ok : Nat → Nat → Prop} (h : Passed F left ok) (hl : ∀ kl, left kl = false) : ∀ k v, F k = some v → ok k v := fun k v h1 => h k v h1 (hl _)

def fitA : Nat → Option Nat := upd (upd (upd (upd (fun _ => none) 20 (some 7)) 9 (some 24)) 11 (some 24)) 37 (some 8)
def fitB : Nat → Option Nat := upd (upd (upd (upd (upd (upd (upd (fun _ => none) 7 (some 8)) 23 (some 2)) 36 (some 35)) 25 (some 27)) 26 (some 28)) 1879048188 (some 1879048189)) 1879048190 (some 1879048191)
theorem fitA_iff {k v : Nat} : fitA k = some v ↔ (k, v) ∈ ([(20, 7), (9, 24), (11, 24), (37, 8)] : List (Nat × Nat)) := by
  simp only [fitA, upd, List.mem_cons, List.not_mem_nil, or_false, Prod.mk.injEq]
  constructor
  · intro h
    repeat' split at h
    all_goals (first | (cases h; done) | (simp only [Option.some.injEq] at h; omega))
  · rintro (⟨rfl, rfl⟩ | ⟨rfl, rfl⟩ | ⟨rfl, rfl⟩ | ⟨rfl, rfl⟩) <;> rfl
theorem fitB_iff {k v : Nat} : fitB k = some v ↔ (k, v) ∈ ([(7, 8), (23, 2), (36, 35), (25, 27), (26, 28), (1879048188, 1879048189), (1879048190, 1879048191)] : List (Nat × Nat)) := by
  simp only [fitB, upd, List.mem_cons, List.not_mem_nil, or_false, Prod.mk.injEq]
  constructor
  · intro h
    repeat' split at h
    all_goals (first | (cases h; done) | (simp only [Option.some.injEq] at h; omega))
  · rintro (⟨rfl, rfl⟩ | ⟨rfl, rfl⟩ | ⟨rfl, rfl⟩ | ⟨rfl, rfl⟩ | ⟨rfl, rfl⟩ | ⟨rfl, rfl⟩ | ⟨rfl, rfl⟩) <;> rfl

theorem fitF_iff (m : Nat → Option Nat) : fitF m = true ↔ (∀ k v, fitA k = some v → ((m k).isSome = true → gv m k = v)) ∧ ¬ (gv m 5 = 0 ∨ gv m 10 = 0 ∨ gv m 6 = 0 ∨ (gv m 4 = 0 ∧ gv m 1879047925 = 0)) ∧
    (∀ k v, fitB k = some v → (gv m k = 0 ↔ gv m v = 0)) ∧ ((gv m 1879048188 = 0 ∧ gv m 1879048190 = 0) ∨ gv m 1879048176 ≠ 0) := by
  unfold fitF
  rw [Bool.and_eq_true, Bool.and_eq_true, Bool.and_eq_true, List.all_eq_true, List.all_eq_true, decide_eq_true_eq, Bool.not_eq_true', decide_eq_false_iff_not]
  have hA : (∀ x, x ∈ ([(20, 7), (9, 24), (11, 24), (37, 8)] : List (Nat × Nat)) → (!(m x.1).isSome || decide (gv m x.1 = x.2)) = true) ↔ (∀ k v, fitA k = some v → ((m k).isSome = true → gv m k = v)) := by
    constructor
    · intro h k v h1 h2
      have h3 := h (k, v) (fitA_iff.1 h1)
      simp only [h2, Bool.not_true, Bool.false_or, decide_eq_true_eq] at h3
      exact h3
    · rintro h ⟨k, v⟩ h1
      cases h2 : (m k).isSome with
      | false => simp [h2]
      | true => simp [h2, h k v (fitA_iff.2 h1) h2]
  have hB : (∀ x, x ∈ ([(7, 8), (23, 2), (36, 35), (25, 27), (26, 28), (1879048188, 1879048189), (1879048190, 1879048191)] : List (Nat × Nat)) → (decide (gv m x.1 = 0) == decide (gv m x.2 = 0)) = true) ↔ (∀ k v, fitB k = some v → (gv m k = 0 ↔ gv m v = 0)) := by
    constructor
    · intro h k v h1
      have h3 := h (k, v) (fitB_iff.1 h1)
      rw [beq_iff_eq, decide_eq_decide] at h3
      exact h3
    · rintro h ⟨k, v⟩ h1
      rw [beq_iff_eq, decide_eq_decide]
      exact h k v (fitB_iff.2 h1)
  rw [hA, hB]
end Go.Proofs.Ytcjgljmeefbacaa
