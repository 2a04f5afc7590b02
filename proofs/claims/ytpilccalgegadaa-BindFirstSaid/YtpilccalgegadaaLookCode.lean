/- Layer 7: what Look tells: a code and nothing, or symbols that there are. Nothing of the program is named. -/
import Derived.Test.YtpilccalgegadaaBloomS
namespace Go.Proofs.Ytpilccalgegadaa
open Go.RowKit
set_option linter.unusedVariables false

/-- a code and nothing, or symbols that there are -/
def ToldIn (n : Nat) (F : List Nat × Nat) : Prop := (F.2 = 0 ∧ ∀ x ∈ F.1, x < n) ∨ (F.1 = [] ∧ (F.2 = 2 ∨ F.2 = 3 ∨ F.2 = 4))

theorem blookGo_in (bs : List Nat) (ps : List PT) (t : BT) (names : List ByteArray) (name : ByteArray) (k f i : Nat) (told : List Nat) (hf : f ≤ names.length - i) (ht : ∀ x ∈ told, x < names.length) : ToldIn names.length (blookGo bs ps t names name k f i told) := by
  induction f generalizing i told with
  | zero => exact .inr ⟨rfl, by simp [blookGo]⟩
  | succ f ih =>
    have hin : ∀ x ∈ (if (linkF bs ps t i).1 / 2 = k / 2 ∧ names.getD i .empty = name then told ++ [i] else told), x < names.length := by
      intro x hx
      split at hx
      · rcases List.mem_append.1 hx with h | h
        · exact ht x h
        · obtain rfl := List.mem_singleton.1 h; omega
      · exact ht x hx
    rw [blookGo]
    split
    · split
      · exact .inl ⟨rfl, hin⟩
      · exact ih (i + 1) _ (by omega) hin
    · exact .inr ⟨rfl, by simp⟩
theorem blookF_in (bs : List Nat) (ps : List PT) (t : BT) (names : List ByteArray) (name : ByteArray) (k : Nat) : ToldIn names.length (blookF bs ps t names name k) := by
  unfold blookF
  split
  · exact .inl ⟨rfl, fun x hx => by cases hx⟩
  · exact blookGo_in _ _ _ _ _ _ _ _ _ (Nat.le_refl _) (fun x hx => by cases hx)
theorem chainGo_in (ch : List Nat) (names : List ByteArray) (name : ByteArray) (f i : Nat) (told : List Nat) (ht : ∀ x ∈ told, x < names.length) : ToldIn names.length (chainGo ch names name f i told) := by
  induction f generalizing i told with
  | zero =>
    unfold chainGo
    split
    · exact .inl ⟨rfl, ht⟩
    · split
      · exact .inr ⟨rfl, by simp⟩
      · exact .inr ⟨rfl, by simp⟩
  | succ f ih =>
    by_cases h0 : i = 0
    · subst h0; rw [chainGo_end]; exact .inl ⟨rfl, ht⟩
    · by_cases h : i ≥ ch.length ∨ i ≥ names.length
      · rw [chainGo_out h0 h]; exact .inr ⟨rfl, by simp⟩
      · rw [chainGo_next h0 h]
        refine ih _ _ (fun x hx => ?_)
        split at hx
        · rcases List.mem_append.1 hx with h3 | h3
          · exact ht x h3
          · obtain rfl := List.mem_singleton.1 h3; omega
        · exact ht x hx
/-- whatever tables there are -/
theorem lookAF_in (bs : List Nat) (ps : List PT) (hash gnu : Nat) (names : List ByteArray) (name : ByteArray) (hb : ∀ b ∈ bs, b < 256) : ToldIn names.length (lookAF bs ps hash gnu names name) := by
  have code : ∀ c, (c = 2 ∨ c = 3 ∨ c = 4) → ToldIn names.length ([], c) := fun c h => .inr ⟨rfl, h⟩
  have cc : (chainsF bs ps hash).2 ≠ 0 → ((chainsF bs ps hash).2 = 2 ∨ (chainsF bs ps hash).2 = 3 ∨ (chainsF bs ps hash).2 = 4) := fun h => by
    rcases chainsF_alt (bs := bs) (ps := ps) (addr := hash) with ⟨t, ht⟩ | ⟨c, ht, hc⟩
    · rw [ht] at h; exact absurd rfl h
    · rw [ht]; exact hc
  unfold lookAF
  split
  · split
    · exact .inl ⟨rfl, fun x hx => by cases hx⟩
    · split
      · exact chainGo_in _ _ _ _ _ _ (fun x hx => by cases hx)
      · rename_i h; exact code _ (cc h)
  · split
    · rename_i h; exact code _ (cc h.2)
    · split
      · split
        · exact blookF_in _ _ _ _ _ _
        · rename_i h
          rcases bcountF_code bs ps (bloomF bs ps gnu).1 with h1 | h1 | h1
          · exact absurd h1 h
          · rw [h1]; exact code _ (by simp)
          · rw [h1]; exact code _ (by simp)
      · rename_i h
        rcases bloomF_alt (bs := bs) (ps := ps) (addr := gnu) hb with ⟨t, ht, -⟩ | ⟨c, ht, hc⟩
        · rw [ht] at h; exact absurd rfl h
        · rw [ht]; exact code _ hc
theorem blookGo_len (bs : List Nat) (ps : List PT) (t : BT) (names : List ByteArray) (name : ByteArray) (k f i : Nat) (told : List Nat) : (blookGo bs ps t names name k f i told).1.length ≤ told.length + f := by
  induction f generalizing i told with
  | zero => simp [blookGo]
  | succ f ih =>
    have hl : (if (linkF bs ps t i).1 / 2 = k / 2 ∧ names.getD i .empty = name then told ++ [i] else told).length ≤ told.length + 1 := by split <;> simp
    rw [blookGo]
    split
    · split
      · show (if (linkF bs ps t i).1 / 2 = k / 2 ∧ names.getD i .empty = name then told ++ [i] else told).length ≤ _
        omega
      · have := ih (i + 1) (if (linkF bs ps t i).1 / 2 = k / 2 ∧ names.getD i .empty = name then told ++ [i] else told)
        omega
    · simp
theorem chainGo_len (ch : List Nat) (names : List ByteArray) (name : ByteArray) (f i : Nat) (told : List Nat) : (chainGo ch names name f i told).1.length ≤ told.length + f := by
  induction f generalizing i told with
  | zero =>
    unfold chainGo
    split
    · simp
    · split <;> simp
  | succ f ih =>
    by_cases h0 : i = 0
    · subst h0; rw [chainGo_end]; show told.length ≤ _; omega
    · by_cases h : i ≥ ch.length ∨ i ≥ names.length
      · rw [chainGo_out h0 h]; simp
      · rw [chainGo_next h0 h]
        have hl : (if names.getD i .empty = name then told ++ [i] else told).length ≤ told.length + 1 := by split <;> simp
        have := ih (ch.getD i 0) (if names.getD i .empty = name then told ++ [i] else told)
        omega
theorem lookAF_len (bs : List Nat) (ps : List PT) (hash gnu : Nat) (names : List ByteArray) (name : ByteArray) (hb : ∀ b ∈ bs, b < 256) : (lookAF bs ps hash gnu names name).1.length ≤ 4096 + names.length := by
  unfold lookAF
  split
  · split
    · simp
    · split
      · rename_i h
        obtain ⟨t, ht⟩ : ∃ t, chainsF bs ps hash = (t, 0) := ⟨_, Prod.ext rfl h⟩
        have hs := (chainsF_shape hb ht).2.2.2.1
        rw [ht]
        have := chainGo_len t.2 names name t.2.length (t.1.getD (sysOf name.data.toList % t.1.length) 0) []
        unfold lookF
        simp only [List.length_nil] at this
        show (chainGo t.2 names name t.2.length (t.1.getD (sysOf name.data.toList % t.1.length) 0) []).1.length ≤ _
        omega
      · simp
  · split
    · simp
    · split
      · split
        · unfold blookF
          split
          · simp
          · have := blookGo_len bs ps (bloomF bs ps gnu).1 names name (gnuN name.data.toList) (names.length - (bloomF bs ps gnu).1.buckets.getD (gnuN name.data.toList % (bloomF bs ps gnu).1.buckets.length) 0) ((bloomF bs ps gnu).1.buckets.getD (gnuN name.data.toList % (bloomF bs ps gnu).1.buckets.length) 0) []
            simp only [List.length_nil] at this
            omega
        · simp
      · simp
end Go.Proofs.Ytpilccalgegadaa
