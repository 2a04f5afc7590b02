/- tls: what a store's blocks are, and what leaves it as it stands. -/
import Derived.Test.YtbppajfpjhmcgaaTlsPtr
import Derived.Test.YtbppajfpjhmcgaaVm
namespace Go.Proofs.Ytbppajfpjhmcgaa
open Go.RowKit
set_option linter.unusedVariables false
set_option linter.unusedSimpArgs false

theorem OwnS.of_block {w w' : World} {B : Nat} {e : TypeId} {sz : Nat} {v : Value} {rows : List (List Value)} (h : OwnS w B e sz v rows) (hb : ∀ b, v.ownBlock = some b → w'.heap[b]? = w.heap[b]?) : OwnS w' B e sz v rows := by
  obtain ⟨⟨h1, h2⟩, h3⟩ := h
  refine ⟨⟨h1, ?_⟩, h3⟩
  rcases h2 with h2 | ⟨g, cap, cur, hv, hB, hg, r⟩
  · exact .inl h2
  · exact .inr ⟨g, cap, cur, hv, hB, by rw [hb g (by rw [hv]; rfl)]; exact hg, r⟩
/-- a store's own blocks -/
def stD (sb : Nat) (ma ta : Option Addr) : Nat → Prop := fun k => k = sb ∨ (∃ o, ma = some ⟨k, o, none⟩) ∨ ∃ o, ta = some ⟨k, o, none⟩
theorem slice_own {a : Option Addr} {n c b : Nat} (h : (Value.slice a n c).ownBlock = some b) : ∃ o p, a = some ⟨b, o, p⟩ := by
  cases a with
  | none => simp [Value.ownBlock] at h
  | some x =>
    obtain ⟨g, o, p⟩ := x
    have : g = b := by simpa [Value.ownBlock] using h
    subst this
    exact ⟨o, p, rfl⟩
section
variable {sb st last gr : Nat} {ms : List TM} {ts : List (Nat × Nat)} {ma ta : Option Addr} {mc tc : Nat} {w w' : World}
theorem own_plain {B : Nat} {e : TypeId} {sz : Nat} {a : Option Addr} {n c : Nat} {rows : List (List Value)} (h : OwnS w B e sz (.slice a n c) rows) : a = none ∨ ∃ b, a = some ⟨b, 0, none⟩ ∧ B ≤ b ∧ b < w.heap.size := by
  obtain ⟨⟨h1, h2⟩, h3⟩ := h
  rcases h2 with ⟨h2, -⟩ | ⟨g, cap, cur, hv, hB, hg, r⟩
  · left
    simp only [Value.slice.injEq] at h2
    exact h2.1
  · right
    simp only [Value.slice.injEq] at hv
    exact ⟨g, hv.1, hB, lt_of_block hg⟩
theorem StAt.blk (h : StAt w sb st last gr ms ts ma mc ta tc) {k : Nat} (hk : stD sb ma ta k) : sb ≤ k ∧ k < w.heap.size := by
  rcases hk with rfl | ⟨o, rfl⟩ | ⟨o, rfl⟩
  · exact ⟨Nat.le_refl _, lt_of_block h.box⟩
  · rcases own_plain h.mods with h1 | ⟨b, h1, h2, h3⟩
    · cases h1
    · simp only [Option.some.injEq, Addr.mk.injEq] at h1
      obtain ⟨rfl, -⟩ := h1
      omega
  · rcases own_plain h.thr with h1 | ⟨b, h1, h2, h3⟩
    · cases h1
    · simp only [Option.some.injEq, Addr.mk.injEq] at h1
      obtain ⟨rfl, -⟩ := h1
      omega
theorem StAt.same (h : StAt w sb st last gr ms ts ma mc ta tc) (hs : ∀ k, stD sb ma ta k → w'.heap[k]? = w.heap[k]?) : StAt w' sb st last gr ms ts ma mc ta tc where
  box := (hs sb (.inl rfl)).trans h.box
  mods := h.mods.of_block (fun b hb => by
    rcases own_plain h.mods with h1 | ⟨b', h1, -⟩
    · rw [h1] at hb; simp [Value.ownBlock] at hb
    · rw [h1] at hb
      have : b' = b := by simpa [Value.ownBlock] using hb
      subst this
      exact hs _ (.inr (.inl ⟨0, h1⟩)))
  thr := h.thr.of_block (fun b hb => by
    rcases own_plain h.thr with h1 | ⟨b', h1, -⟩
    · rw [h1] at hb; simp [Value.ownBlock] at hb
    · rw [h1] at hb
      have : b' = b := by simpa [Value.ownBlock] using hb
      subst this
      exact hs _ (.inr (.inr ⟨0, h1⟩)))
theorem StAt.kept {S : Nat → Prop} (h : StAt w sb st last gr ms ts ma mc ta tc) (hv : VKept S w w') (hd : ∀ k, stD sb ma ta k → ¬ S k) : StAt w' sb st last gr ms ts ma mc ta tc :=
  h.same (fun k hk => hv.block k (h.blk hk).2 (hd k hk))
end
end Go.Proofs.Ytbppajfpjhmcgaa
