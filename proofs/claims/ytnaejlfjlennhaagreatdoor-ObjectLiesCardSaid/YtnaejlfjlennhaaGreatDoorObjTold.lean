/- Layer 10: the numbers that a dynamic section tells are 64 bits wide. -/
import Derived.Test.YtnaejlfjlennhaaGreatDoorDynRead
namespace Go.Proofs.YtnaejlfjlennhaaGreatDoor
open Go.RowKit
set_option linter.unusedVariables false
set_option linter.unusedSimpArgs false

theorem valAt_lt {bs : List Nat} (hb : ∀ b ∈ bs, b < 256) (i : Nat) : valAt bs i < 18446744073709551616 := by
  unfold valAt
  have h1 := numOf_lt ((bs.drop (16 * i + 8)).take 8) (fun x hx => hb x (List.mem_of_mem_drop (List.mem_of_mem_take hx)))
  have h2 : ((bs.drop (16 * i + 8)).take 8).length ≤ 8 := by simp; omega
  have h3 : (256 : Nat) ^ ((bs.drop (16 * i + 8)).take 8).length ≤ 256 ^ 8 := Nat.pow_le_pow_right (by omega) h2
  have h5 : (256 : Nat) ^ 8 = 18446744073709551616 := by decide
  omega
theorem entGo_names {bs : List Nat} (hb : ∀ b ∈ bs, b < 256) : ∀ {f i : Nat} {ns : List Nat} {m : Nat → Option Nat} {ns' : List Nat} {m' : Nat → Option Nat}, (∀ x ∈ ns, x < 18446744073709551616) → entGo bs f i ns m = .ok (ns', m') → ∀ x ∈ ns', x < 18446744073709551616
  | 0, i, ns, m, ns', m', hm, h => by
    unfold entGo at h
    cases h
  | f + 1, i, ns, m, ns', m', hm, h => by
    unfold entGo at h
    split at h
    · cases h
    split at h
    · cases h; exact hm
    split at h
    · cases h
    split at h
    · refine entGo_names hb ?_ h
      intro x hx
      rcases List.mem_append.1 hx with hx | hx
      · exact hm x hx
      · rw [List.mem_singleton] at hx
        rw [hx]
        exact valAt_lt hb i
    split at h
    · cases h
    · exact entGo_names hb hm h
theorem dynRF_told {bs : List Nat} (hb : ∀ b ∈ bs, b < 256) {ps : List PT} {ns : List Nat} {m : Nat → Option Nat} (h : dynRF bs ps = .ok (some (ns, m))) : (∀ x ∈ ns, x < 18446744073709551616) ∧ ∀ k v, m k = some v → v < 18446744073709551616 := by
  unfold dynRF at h
  split at h
  · cases h
  split at h
  · split at h
    · cases h
    · rename_i ns' m' he
      split at h
      · cases h
        have hc : ∀ o n, ∀ b ∈ (bs.drop o).take n, b < 256 := fun o n b hx => hb b (List.mem_of_mem_drop (List.mem_of_mem_take hx))
        unfold entF at he
        exact ⟨entGo_names (hc _ _) (fun x hx => by cases hx) he, entGo_bound (hc _ _) (fun k v hk => by cases hk) he⟩
      · cases h
  · cases h
theorem told_wf {m : Nat → Option Nat} (h : ∀ k v, m k = some v → v < 18446744073709551616) (ad : Option Addr) (n c : Nat) : (toldF ad n c m).wf := by
  have hg : ∀ k, gv m k < 18446744073709551616 := fun k => by
    unfold gv
    cases hk : m k with
    | none => show (0 : Nat) < _; omega
    | some v => exact h k v hk
  unfold DT.wf toldF
  refine ⟨?_, ?_, ?_, ?_, ?_, ?_, ?_, ?_, ?_, ?_, ?_, ?_, ?_, ?_, ?_, ?_, ?_, ?_, ?_, ?_, ?_, ?_, ?_, ?_, ?_, ?_, ?_, ?_⟩ <;> exact hg _
end Go.Proofs.YtnaejlfjlennhaaGreatDoor
