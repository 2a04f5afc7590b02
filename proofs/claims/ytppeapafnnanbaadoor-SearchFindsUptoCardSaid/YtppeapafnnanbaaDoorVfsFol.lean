/- Layer 3 as mathematics: what a tree holds; where a path ends. -/
import Derived.Test.YtppeapafnnanbaaDoorVfsClean
import Derived.Test.YtppeapafnnanbaaDoorPMap
namespace Go.Proofs.YtppeapafnnanbaaDoor
open Go.RowKit
set_option linter.unusedVariables false
set_option linter.unusedSimpArgs false

/-- where a path ends, from a directory on, by its parts; an error's number -/
def goFol (F : ByteArray → Option Ent) : Nat → ByteArray → List ByteArray → Nat → Except Nat ByteArray
  | _, at', [], _ => .ok at'
  | 0, _, _ :: _, _ => .error 0
  | f + 1, at', p :: ps, h =>
    if ((F at').getD Ent.zero).kind ≠ 1 then .error 16
    else if p = ⟨#[]⟩ ∨ p = ⟨#[46]⟩ then goFol F f at' ps h
    else if p = ⟨#[46, 46]⟩ then goFol F f (parentF at') ps h
    else match F (joinF at' p) with
      | none => .error 6
      | some e =>
        if e.kind ≠ 2 then goFol F f (joinF at' p) ps h
        else if 8 < h + 1 then .error 15
        else if e.to.get! 0 = 47 then goFol F f slash (slashF (restF e.to) ++ ps) (h + 1)
        else goFol F f at' (slashF e.to ++ ps) (h + 1)
def folF (F : ByteArray → Option Ent) (path : ByteArray) : Except Nat ByteArray :=
  if withinF path 4096 = true ∧ path.get! 0 = 47 then goFol F 50000 slash (slashF (restF path)) 0 else .error 30
/-- what holds of every tree -/
structure TreeOk (F : ByteArray → Option Ent) : Prop where
  root : ∃ e, F slash = some e ∧ e.kind = 1
  keys : ∀ k e, F k = some e → 1 ≤ k.size ∧ k.size ≤ 4096
  links : ∀ k e, F k = some e → e.kind = 2 → 1 ≤ e.to.size ∧ e.to.size ≤ 4096

theorem parent_size (s : ByteArray) (h : 1 ≤ s.size) : 1 ≤ (parentF s).size ∧ (parentF s).size ≤ s.size := by
  unfold parentF
  have h2 : ∃ m : Nat, (max 1 (Lib.lastIndexByte s 47)).toNat = m ∧ 1 ≤ m ∧ m ≤ s.size := by
    rcases Lib.lastIndexByte_spec s 47 with ⟨h2, -⟩ | ⟨i, hi, h2, -, -⟩
    · exact ⟨1, by rw [h2]; rfl, by omega, h⟩
    · exact ⟨max 1 i, by rw [h2]; omega, by omega, by omega⟩
  obtain ⟨m, hm, h3, h4⟩ := h2
  rw [hm, ByteArray.size_extract]
  omega
theorem split_sizes (sep : ByteArray) (save : Nat) (h0 : save = 0) : ∀ (k : Nat) (s x : ByteArray), x ∈ Lib.splitB sep save k s → x.size ≤ s.size
  | 0, s, x, h => by
    rw [Lib.splitB_zero, List.mem_singleton] at h
    subst h
    exact Nat.le_refl _
  | k + 1, s, x, h => by
    unfold Lib.splitB at h
    split at h
    · rw [List.mem_singleton] at h
      subst h
      exact Nat.le_refl _
    · rcases List.mem_cons.1 h with h | h
      · subst h
        rw [ByteArray.size_extract]
        omega
      · have := split_sizes sep save h0 k _ x h
        rw [ByteArray.size_extract] at this
        omega
theorem slashF_mem {s x : ByteArray} (h : x ∈ slashF s) : x.size ≤ s.size := split_sizes slash 0 rfl _ s x h
theorem restF_size (s : ByteArray) : (restF s).size ≤ s.size := by unfold restF; rw [ByteArray.size_extract]; omega
theorem slash_one : slash.size = 1 := rfl
theorem join_size (a b : ByteArray) : (joinF a b).size ≤ a.size + b.size + 1 := by
  unfold joinF
  split
  · rename_i h
    subst h
    rw [ByteArray.size_append, slash_one]
    omega
  · rw [ByteArray.size_append, ByteArray.size_append, slash_one]
    omega
theorem goFol_cons (F : ByteArray → Option Ent) (f : Nat) (at' p : ByteArray) (ps : List ByteArray) (h : Nat) : goFol F (f + 1) at' (p :: ps) h =
    if ((F at').getD Ent.zero).kind ≠ 1 then .error 16
    else if p = ⟨#[]⟩ ∨ p = ⟨#[46]⟩ then goFol F f at' ps h
    else if p = ⟨#[46, 46]⟩ then goFol F f (parentF at') ps h
    else match F (joinF at' p) with
      | none => .error 6
      | some e =>
        if e.kind ≠ 2 then goFol F f (joinF at' p) ps h
        else if 8 < h + 1 then .error 15
        else if e.to.get! 0 = 47 then goFol F f slash (slashF (restF e.to) ++ ps) (h + 1)
        else goFol F f at' (slashF e.to ++ ps) (h + 1) := rfl
theorem goFol_nil (F : ByteArray → Option Ent) (f : Nat) (a : ByteArray) (h : Nat) : goFol F f a [] h = .ok a := by cases f <;> rfl
end Go.Proofs.YtppeapafnnanbaaDoor
