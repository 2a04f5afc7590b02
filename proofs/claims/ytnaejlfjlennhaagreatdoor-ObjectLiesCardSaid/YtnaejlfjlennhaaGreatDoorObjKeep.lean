/- Layer 10: what an object leads to stands when another object's block is written. -/
import Derived.Test.YtnaejlfjlennhaaGreatDoorObjDyn
namespace Go.Proofs.YtnaejlfjlennhaaGreatDoor
open Go.RowKit
set_option linter.unusedVariables false
set_option linter.unusedSimpArgs false

theorem DynOk.near {bo rb : Nat} {C C0 : Array Value} {s : List Nat} {d : DT} {ns : List Nat} {Y : List (List Value)} {V : VersD} {Q : List (List Value) × List (List Value) × List Nat} {B : Nat} {w w' : World} (h : DynOk bo C s d ns Y V Q B w) (hne : bo ≠ rb) (hr : w.heap[rb]? = some (.cells C0 40)) (hn : Near rb w w') : DynOk bo C s d ns Y V Q B w' := by
  obtain ⟨C', h1, h2, h3, h4, ⟨an, cn, h5, h6⟩, ⟨ay, cy, h7, h8⟩, ⟨oa, oc, da, dc, drows, na, nc, nrows, k1, k2, k3, k4, o1, o2, o3, o4, o5⟩, a1, n1, c1, a2, n2, c2, a3, n3, c3, l1, l2, l3, q1, q2, q3⟩ := h
  exact ⟨C', (hn.block (lt_of_block h1) hne).trans h1, h2, h3, h4, ⟨an, cn, h5, h6.near hr (by decide) hn⟩, ⟨ay, cy, h7, h8.near hr (by decide) hn⟩,
    ⟨oa, oc, da, dc, drows, na, nc, nrows, k1, k2, k3, k4, o1.near hr (by decide) hn, o2.near hr (by decide) hn, DefRows.near hr hn o3, o4.near hr (by decide) hn, NeedRows.near hr hn o5⟩,
    a1, n1, c1, a2, n2, c2, a3, n3, c3, l1, l2, l3, q1.near hr (by decide) hn, q2.near hr (by decide) hn, q3.near hr (by decide) hn⟩
theorem DynOk.mono {bo : Nat} {C : Array Value} {s : List Nat} {d : DT} {ns : List Nat} {Y : List (List Value)} {V : VersD} {Q : List (List Value) × List (List Value) × List Nat} {B B' : Nat} {w : World} (h : DynOk bo C s d ns Y V Q B w) (hB : B' ≤ B) : DynOk bo C s d ns Y V Q B' w := by
  obtain ⟨C', h1, h2, h3, h4, ⟨an, cn, h5, h6⟩, ⟨ay, cy, h7, h8⟩, ⟨oa, oc, da, dc, drows, na, nc, nrows, k1, k2, k3, k4, o1, o2, o3, o4, o5⟩, a1, n1, c1, a2, n2, c2, a3, n3, c3, l1, l2, l3, q1, q2, q3⟩ := h
  exact ⟨C', h1, h2, h3, h4, ⟨an, cn, h5, h6.mono hB⟩, ⟨ay, cy, h7, h8.mono hB⟩,
    ⟨oa, oc, da, dc, drows, na, nc, nrows, k1, k2, k3, k4, o1.mono hB, o2.mono hB, DefRows.monoO hB o3, o4.mono hB, NeedRows.monoO hB o5⟩,
    a1, n1, c1, a2, n2, c2, a3, n3, c3, l1, l2, l3, q1.mono hB, q2.mono hB, q3.mono hB⟩
theorem DynOk.one {bo : Nat} {C CO : Array Value} {s : List Nat} {d : DT} {ns : List Nat} {Y : List (List Value)} {V : VersD} {Q : List (List Value) × List (List Value) × List Nat} {B : Nat} {w : World} (h : DynOk bo C s d ns Y V Q B w) (hco : w.heap[bo]? = some (.cells CO 40)) (hC : C.all (·.oneCell') = true) :
    CO.all (·.oneCell') = true ∧ CO.size = 54 ∧ ∀ j, (j < 41 ∨ j = 53) → CO[j]? = C[j]? := by
  obtain ⟨C', h1, h2, h3, h4, ⟨an, cn, h5, -⟩, ⟨ay, cy, h7, -⟩, ⟨oa, oc, da, dc, drows, na, nc, nrows, k1, k2, k3, k4, -⟩, a1, n1, c1, a2, n2, c2, a3, n3, c3, l1, l2, l3, -⟩ := h
  have he : CO = C' := by
    rw [hco] at h1
    simpa using h1
  subst he
  refine ⟨Array.all_eq_true.2 fun i hi => ?_, h2, h3⟩
  have key : ∀ v, CO[i]? = some v → v.oneCell' = true → CO[i].oneCell' = true := fun v h hv => by
    rw [Array.getElem?_eq_getElem hi] at h
    rw [Option.some.inj h]
    exact hv
  by_cases h0 : i < 41 ∨ i = 53
  · have := h3 i h0
    rw [Array.getElem?_eq_getElem hi] at this
    obtain ⟨hi2, h6⟩ := Array.getElem?_eq_some_iff.1 this.symm
    rw [← h6]
    exact Array.all_eq_true.1 hC i hi2
  · have hcase : i = 41 + 0 ∨ i = 41 + 1 ∨ i = 41 + 2 ∨ i = 44 ∨ i = 45 ∨ i = 46 ∨ i = 47 ∨ i = 48 ∨ i = 49 ∨ i = 50 ∨ i = 51 ∨ i = 52 := by omega
    rcases hcase with e | e | e | e | e | e | e | e | e | e | e | e
    · exact key _ (by rw [e]; exact h4 0 (by omega)) rfl
    · exact key _ (by rw [e]; exact h4 1 (by omega)) rfl
    · exact key _ (by rw [e]; exact h4 2 (by omega)) rfl
    · exact key _ (by rw [e]; exact h5) rfl
    · exact key _ (by rw [e]; exact h7) rfl
    · exact key _ (by rw [e]; exact k1) rfl
    · exact key _ (by rw [e]; exact k2) rfl
    · exact key _ (by rw [e]; exact k3) rfl
    · exact key _ (by rw [e]; exact k4) rfl
    · exact key _ (by rw [e]; exact l1) rfl
    · exact key _ (by rw [e]; exact l2) rfl
    · exact key _ (by rw [e]; exact l3) rfl
end Go.Proofs.YtnaejlfjlennhaaGreatDoor
