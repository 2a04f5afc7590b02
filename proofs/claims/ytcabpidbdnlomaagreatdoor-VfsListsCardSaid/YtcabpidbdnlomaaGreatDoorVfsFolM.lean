/- Layer 3 as mathematics: where a path ends is there and is no link; which errors there are. -/
import Derived.Test.YtcabpidbdnlomaaGreatDoorVfsNewF
namespace Go.Proofs.YtcabpidbdnlomaaGreatDoor
open Go.RowKit
set_option linter.unusedVariables false
set_option linter.unusedSimpArgs false

theorem goFol_err {F : ByteArray → Option Ent} (hF : TreeOk F) : ∀ (g : Nat) (at' : ByteArray) (L : List ByteArray) (hops n : Nat), L.length + (8 - hops) * 5000 + 1 ≤ g → hops ≤ 8 → goFol F g at' L hops = .error n → n = 16 ∨ n = 6 ∨ n = 15
  | g, at', [], hops, n, hg, hh, h => by rw [goFol_nil] at h; cases h
  | 0, at', p :: ps, hops, n, hg, hh, h => by omega
  | g + 1, at', p :: ps, hops, n, hg, hh, h => by
    rw [goFol_cons] at h
    simp only [List.length_cons] at hg
    split at h
    · cases h; exact .inl rfl
    · split at h
      · exact goFol_err hF g _ ps hops n (by omega) hh h
      · split at h
        · exact goFol_err hF g _ ps hops n (by omega) hh h
        · split at h
          · cases h; exact .inr (.inl rfl)
          · rename_i e he
            split at h
            · exact goFol_err hF g _ ps hops n (by omega) hh h
            · rename_i hk
              have hk2 : e.kind = 2 := by simpa using hk
              have hs := hF.links _ _ he hk2
              split at h
              · cases h; exact .inr (.inr rfl)
              · have h1 := slashF_le e.to
                have h2 := slashF_le (restF e.to)
                have h3 := restF_size e.to
                split at h
                · exact goFol_err hF g _ _ _ n (by rw [List.length_append]; omega) (by omega) h
                · exact goFol_err hF g _ _ _ n (by rw [List.length_append]; omega) (by omega) h
theorem folF_err {F : ByteArray → Option Ent} (hF : TreeOk F) {path : ByteArray} {n : Nat} (h : folF F path = .error n) : n = 30 ∨ n = 16 ∨ n = 6 ∨ n = 15 := by
  unfold folF at h
  split at h
  · rename_i hw
    have h1 := slashF_le (restF path)
    have h2 := restF_size path
    have h3 := within_size hw.1
    exact .inr (goFol_err hF _ _ _ _ _ (by omega) (by omega) h)
  · cases h; exact .inl rfl
theorem slash_parent : parentF slash = slash := by decide +kernel
theorem goFol_end {F : ByteArray → Option Ent} (hF : TreeIn F) : ∀ (g : Nat) (at' : ByteArray) (L : List ByteArray) (hops : Nat) (p : ByteArray), (∃ x, F at' = some x ∧ x.kind ≠ 2) → goFol F g at' L hops = .ok p → ∃ x, F p = some x ∧ x.kind ≠ 2
  | g, at', [], hops, p, ha, h => by rw [goFol_nil] at h; cases h; exact ha
  | 0, at', q :: ps, hops, p, ha, h => by cases h
  | g + 1, at', q :: ps, hops, p, ha, h => by
    rw [goFol_cons] at h
    have hroot : ∃ x, F slash = some x ∧ x.kind ≠ 2 := by
      obtain ⟨r, hr, h1⟩ := hF.ok.root
      exact ⟨r, hr, by omega⟩
    split at h
    · cases h
    · split at h
      · exact goFol_end hF g _ ps hops p ha h
      · split at h
        · refine goFol_end hF g _ ps hops p ?_ h
          by_cases hs : at' = slash
          · rw [hs, slash_parent]; exact hroot
          · obtain ⟨x, hx, -⟩ := ha
            obtain ⟨d, hd, h1⟩ := hF.up _ _ hx hs
            exact ⟨d, hd, by omega⟩
        · split at h
          · cases h
          · rename_i e he
            split at h
            · rename_i hk
              exact goFol_end hF g _ ps hops p ⟨e, he, hk⟩ h
            · split at h
              · cases h
              · split at h
                · exact goFol_end hF g _ _ _ p hroot h
                · exact goFol_end hF g _ _ _ p ha h
theorem folF_end {F : ByteArray → Option Ent} (hF : TreeIn F) {path p : ByteArray} (h : folF F path = .ok p) : ∃ x, F p = some x ∧ (x.kind = 0 ∨ x.kind = 1) := by
  unfold folF at h
  split at h
  · obtain ⟨r, hr, h1⟩ := hF.ok.root
    obtain ⟨x, hx, h2⟩ := goFol_end hF _ _ _ _ _ ⟨r, hr, by omega⟩ h
    rcases hF.kinds _ _ hx with q | q | q
    · exact ⟨x, hx, .inl q⟩
    · exact ⟨x, hx, .inr q⟩
    · exact absurd q h2
  · cases h
/-- what is shared, by the block: the file's number, may it be run as another user, its bytes -/
abbrev Shares := Nat → Int × Bool × List Nat
/-- the file at a path, or an error's number -/
def openF (F : ByteArray → Option Ent) (S : Shares) (path : ByteArray) : Except Nat (ByteArray × Int × Bool × List Nat) := match folF F path with
  | .error n => .error n
  | .ok p => if ((F p).getD Ent.zero).kind = 1 then .error 16 else .ok (p, S (((F p).getD Ent.zero).sh.getD 0))
theorem openF_err {F : ByteArray → Option Ent} (hF : TreeOk F) {S : Shares} {path : ByteArray} {n : Nat} (h : openF F S path = .error n) : n = 30 ∨ n = 16 ∨ n = 6 ∨ n = 15 := by
  unfold openF at h
  split at h
  · rename_i m hm
    cases h
    exact folF_err hF hm
  · split at h
    · cases h; exact .inr (.inl rfl)
    · cases h
end Go.Proofs.YtcabpidbdnlomaaGreatDoor
