/- Layer 7: what a table of the second kind that was read is like; and what Look answers, whatever tables there are. Nothing of the program is named. -/
import Derived.Test.YtpilccalgegadaaBloomRd
namespace Go.Proofs.Ytpilccalgegadaa
open Go.RowKit
set_option linter.unusedVariables false
set_option linter.unusedSimpArgs false

theorem sliceF_mem {bs : List Nat} {ps : List PT} {addr size : Nat} (hb : ∀ b ∈ bs, b < 256) : ∀ x ∈ (sliceF bs ps addr size).1, x < 256 := by
  intro x hx
  unfold sliceF at hx
  split at hx
  · exact hb x (List.mem_of_mem_drop (List.mem_of_mem_take hx))
  · cases hx
theorem onesF_zero : ¬ onesF 0 = 1 := by decide +kernel

structure BTok (t : BT) : Prop where
  first : t.first < 4294967296
  shift : t.shift < 32
  base : t.base < 18446744073709551616
  bu0 : 0 < t.buckets.length
  bul : t.buckets.length ≤ 4096
  but : ∀ x ∈ t.buckets, x < 4294967296
  bl0 : 0 < t.bloom.length
  bll : t.bloom.length ≤ 4096
  blt : ∀ x ∈ t.bloom, x < 18446744073709551616

theorem bloomF_alt {bs : List Nat} {ps : List PT} {addr : Nat} (hb : ∀ b ∈ bs, b < 256) : (∃ t, bloomF bs ps addr = (t, 0) ∧ BTok t) ∨ (∃ c, bloomF bs ps addr = (.nil, c) ∧ (c = 2 ∨ c = 3 ∨ c = 4)) := by
  rcases wordsF_alt bs ps addr 4 with ⟨f, hf, hfl⟩ | hf
  · match f, hfl with
    | [nb, fi, wd, sh], _ =>
      by_cases h0 : nb = 0 ∨ ¬ onesF wd = 1 ∨ 31 < sh
      · exact .inr ⟨3, bloomF_form hf h0, by simp⟩
      · by_cases h1 : 4096 < nb ∨ 4096 < fi ∨ 4096 < wd
        · exact .inr ⟨2, bloomF_long hf h0 h1, by simp⟩
        · rcases sliceF_code bs ps addr (16 + 8 * wd + 4 * nb) with hc | hc
          · obtain ⟨all, hall⟩ : ∃ all, sliceF bs ps addr (16 + 8 * wd + 4 * nb) = (all, 0) := ⟨(sliceF bs ps addr (16 + 8 * wd + 4 * nb)).1, by rw [← hc]⟩
            have hal := sliceF_len bs ps addr (16 + 8 * wd + 4 * nb) hc
            have hab := sliceF_mem (ps := ps) (addr := addr) (size := 16 + 8 * wd + 4 * nb) hb
            rw [hall] at hal hab
            simp only at hal hab
            cases hl : (splitF (all.drop (16 + 8 * wd))).any (lowB fi) with
            | true => exact .inr ⟨3, bloomF_low hf h0 h1 hall hl, by simp⟩
            | false =>
              refine .inl ⟨_, bloomF_yes hf h0 h1 hall hl, ?_⟩
              have hw0 : ¬ wd = 0 := fun e => by subst e; exact h0 (.inr (.inl onesF_zero))
              have hlen : (splitF (all.drop (16 + 8 * wd))).length = nb := by rw [splitF_length, List.length_drop, hal]; omega
              refine ⟨?_, ?_, ?_, ?_, ?_, ?_, ?_, ?_, ?_⟩
              · show fi < 4294967296; omega
              · show sh < 32; omega
              · show (addr + (16 + 8 * wd + 4 * nb)) % 18446744073709551616 < 18446744073709551616; omega
              · show 0 < (splitF (all.drop (16 + 8 * wd))).length; rw [hlen]; omega
              · show (splitF (all.drop (16 + 8 * wd))).length ≤ 4096; rw [hlen]; omega
              · exact splitF_lt (fun x hx => hab x (List.mem_of_mem_drop hx))
              · show 0 < ((List.range wd).map (eightAt all)).length; simp; omega
              · show ((List.range wd).map (eightAt all)).length ≤ 4096; simp; omega
              · intro x hx
                obtain ⟨i, -, rfl⟩ := List.mem_map.1 hx
                exact eightAt_lt hab i
          · exact .inr ⟨4, bloomF_out hf h0 h1 hc, by simp⟩
  · exact .inr ⟨4, bloomF_no hf, by simp⟩

theorem maxF_lt {l : List Nat} {n : Nat} (h0 : 0 < n) (h : ∀ x ∈ l, x < n) : maxF l < n := by
  induction l using snocInd with
  | nil => simpa [maxF] using h0
  | snoc l x ih =>
    rw [maxF_snoc]
    have h1 := ih (fun y hy => h y (List.mem_append_left _ hy))
    have h2 := h x (by simp)
    show max (maxF l) x < n
    omega

/-- what Look answers -/
def lookAF (bs : List Nat) (ps : List PT) (hash gnu : Nat) (names : List ByteArray) (name : ByteArray) : List Nat × Nat :=
  if gnu = 0 then (if hash = 0 then ([], 0) else if (chainsF bs ps hash).2 = 0 then lookF (chainsF bs ps hash).1 names name (sysOf name.data.toList) else ([], (chainsF bs ps hash).2))
  else if hash ≠ 0 ∧ (chainsF bs ps hash).2 ≠ 0 then ([], (chainsF bs ps hash).2)
  else if (bloomF bs ps gnu).2 = 0 then (if (bcountF bs ps (bloomF bs ps gnu).1).2 = 0 then blookF bs ps (bloomF bs ps gnu).1 names name (gnuN name.data.toList) else ([], (bcountF bs ps (bloomF bs ps gnu).1).2))
  else ([], (bloomF bs ps gnu).2)
/-- what Count answers -/
def countAF (bs : List Nat) (ps : List PT) (hash gnu : Nat) : Nat × Nat :=
  if hash = 0 then (if gnu = 0 then (0, 0) else if (bloomF bs ps gnu).2 = 0 then bcountF bs ps (bloomF bs ps gnu).1 else (0, (bloomF bs ps gnu).2))
  else ((chainsF bs ps hash).1.2.length, (chainsF bs ps hash).2)
theorem countGo_code (bs : List Nat) (ps : List PT) (t : BT) (f i : Nat) : (countGo bs ps t f i).2 = 0 ∨ (countGo bs ps t f i) = (0, 2) ∨ (countGo bs ps t f i) = (0, 4) := by
  induction f generalizing i with
  | zero => exact .inr (.inl rfl)
  | succ f ih =>
    rcases wordF_alt bs ps (linkAt t i) with h | h
    · by_cases h1 : (linkF bs ps t i).1 % 2 = 1
      · rw [countGo_end h h1]; exact .inl rfl
      · rw [countGo_next h h1]; exact ih _
    · rw [countGo_bad h]; exact .inr (.inr rfl)
theorem bcountF_code (bs : List Nat) (ps : List PT) (t : BT) : (bcountF bs ps t).2 = 0 ∨ (bcountF bs ps t) = (0, 2) ∨ (bcountF bs ps t) = (0, 4) := by
  unfold bcountF
  split
  · exact .inl rfl
  · exact countGo_code _ _ _ _ _
theorem chainsF_alt {bs : List Nat} {ps : List PT} {addr : Nat} : (∃ t, chainsF bs ps addr = (t, 0)) ∨ (∃ c, chainsF bs ps addr = (([], []), c) ∧ (c = 2 ∨ c = 3 ∨ c = 4)) := by
  rcases wordsF_alt bs ps addr 2 with ⟨f, hf, hfl⟩ | hf
  · match f, hfl with
    | [nb, ns], _ =>
      by_cases h0 : nb = 0 ∨ ns = 0
      · exact .inr ⟨3, chainsF_zero hf h0, by simp⟩
      · by_cases h1 : 4096 < nb ∨ 4096 < ns
        · exact .inr ⟨2, chainsF_long hf h0 h1, by simp⟩
        · rcases wordsF_alt bs ps addr (2 + nb + ns) with ⟨all, hall, hl⟩ | hall
          · exact .inl ⟨_, chainsF_yes hf h0 h1 hall⟩
          · exact .inr ⟨4, chainsF_out hf h0 h1 hall, by simp⟩
  · exact .inr ⟨4, chainsF_no hf, by simp⟩
end Go.Proofs.Ytpilccalgegadaa
