/- A map of numbers to numbers, in memory: what is read, stored. Nothing of the program is named. -/
import Derived.Test.YtcjgljmeefbacaaPMap
namespace Go.Proofs.Ytcjgljmeefbacaa
open Go.RowKit
open Go.Maps (Keyed)
set_option linter.unusedVariables false
set_option linter.unusedSimpArgs false

/-- how a number reads -/
def numR : Value → Option (DataW Unit × List MemPlace)
  | .int .u64 n => some (.lit (.int .u64 n), [])
  | _ => none
theorem numR_inv {v : Value} {n : Int} {ps : List MemPlace} (h : numR v = some (.lit (.int .u64 n), ps)) : v = .int .u64 n := by
  unfold numR at h
  split at h
  · simp only [Option.some.injEq, Prod.mk.injEq, DataW.lit.injEq, Lit.int.injEq, true_and] at h
    rw [h.1]
  · cases h
def numD (o : Option Nat) : DataW Unit := .lit (.int .u64 ((o.getD 0 : Nat) : Int))
/-- block g is a map of at most c numbers to numbers: F -/
def UM (w : World) (P : Program) (K : TypeId) (g : Nat) (F : Nat → Option Nat) (c : Nat) : Prop :=
  ∃ D : DataW Unit, w.ownsMap P K numR g c D ∧ ∀ k, k < 18446744073709551616 → D.atKey (nk k) (numD none) = numD (F k) ∧ Maps.has D (nk k) = (F k).isSome

section
variable {P : Program} {T K E : TypeId} {w : World} {g : Nat} {F : Nat → Option Nat} {c : Nat}

theorem UM.lt (h : UM w P K g F c) : g < w.heap.size := by
  obtain ⟨D, h, -⟩ := h
  exact h.lt
theorem UM.of_block {w' : World} (h : UM w P K g F c) (hb : w'.heap[g]? = w.heap[g]?) : UM w' P K g F c := by
  obtain ⟨D, ⟨es, cl, h1, h2, h3, h4⟩, h5⟩ := h
  exact ⟨D, ⟨es, cl, hb.trans h1, h2, h3, h4⟩, h5⟩
theorem UM.made (w : World) (P : Program) (K : TypeId) : UM (w.alloc (.map #[] 0)) P K w.heap.size (fun _ => none) 0 :=
  ⟨.map [], World.ownsMap_made w P K numR, fun k _ => ⟨rfl, rfl⟩⟩
/-- m[k] -/
theorem UM.look (h : UM w P K g F c) (hK : P.underlying K = some (.int .u64)) (hT : P.underlying T = some (.map K E)) (hz : (zeroValue E).run P w = .ok (.int .u64 0) w) {k : Nat} (hk : k < 18446744073709551616) :
    (Instr.lookup T (.map (some g)) (.int .u64 (k : Int)) false).run P w = .ok (.int .u64 (((F k).getD 0 : Nat) : Int)) w := by
  obtain ⟨D, h1, h3⟩ := h
  obtain ⟨v, ps, hr, hv⟩ := h1.lookup (Maps.int_keyed hK) hT hz (show numR (.int .u64 0) = some (numD none, []) from rfl) (Maps.keyOf_int_mk hK (nk_wf hk))
  have h4 := (h3 k hk).1
  rw [show (Lit.int .u64 (k : Int)) = nk k from rfl, h4] at hv
  rw [hr, numR_inv hv]
/-- v, ok := m[k] -/
theorem UM.look_ok (h : UM w P K g F c) (hK : P.underlying K = some (.int .u64)) (hT : P.underlying T = some (.map K E)) (hz : (zeroValue E).run P w = .ok (.int .u64 0) w) {k : Nat} (hk : k < 18446744073709551616) :
    (Instr.lookup T (.map (some g)) (.int .u64 (k : Int)) true).run P w = .ok (.tuple #[.int .u64 (((F k).getD 0 : Nat) : Int), .bool (F k).isSome]) w := by
  obtain ⟨D, h1, h3⟩ := h
  obtain ⟨v, ps, hr, hv⟩ := h1.look_ok (Maps.int_keyed hK) hT hz (show numR (.int .u64 0) = some (numD none, []) from rfl) (Maps.keyOf_int_mk hK (nk_wf hk))
  obtain ⟨h4, h5⟩ := h3 k hk
  rw [show (Lit.int .u64 (k : Int)) = nk k from rfl] at hv hr
  rw [h4] at hv
  rw [hr, h5, numR_inv hv]
/-- m[k] = v -/
theorem UM.put (h : UM w P K g F c) (hK : P.underlying K = some (.int .u64)) (hT : P.underlying T = some (.map K E)) {k v : Nat} (hk : k < 18446744073709551616) (hc : c < maxLen) :
    ∃ w', (Instr.mapUpdate T (.map (some g)) (.int .u64 (k : Int)) (.int .u64 (v : Int))).run P w = .ok () w' ∧ UM w' P K g (upd F k (some v)) (c + 1) ∧ w.grownBy w' (some g) := by
  obtain ⟨D, h1, h3⟩ := h
  obtain ⟨w', hr, h4, h5⟩ := h1.update (Maps.int_keyed hK) hT hc (Maps.keyOf_int_mk hK (nk_wf hk)) (show numR (.int .u64 (v : Int)) = some (numD (some v), []) from rfl)
  have hkey : WideAt.IsKeyLit (nk k) := (Maps.int_keyed hK).key (Maps.keyOf_int_mk hK (nk_wf hk))
  refine ⟨w', hr, ⟨_, h4, ?_⟩, h5⟩
  intro j hj
  by_cases e : j = k
  · subst e
    rw [upd_same]
    exact ⟨Maps.atKey_put_same h1.isMap hkey _ _, Maps.has_put_same h1.isMap hkey _⟩
  · rw [upd_other e]
    have hne : nk j ≠ nk k := fun h => e (nk_inj h)
    exact ⟨(Maps.atKey_put_other hne _ _).trans (h3 j hj).1, (Maps.has_put_other hne _).trans (h3 j hj).2⟩
end
end Go.Proofs.Ytcjgljmeefbacaa
