/- Layer 8: what the indices of versions keep: none is told twice. -/
import Derived.Test.YtaedeaefoeeidaaVersReadM
namespace Go.Proofs.Ytaedeaefoeeidaa
open Go.RowKit Go.Maps
set_option linter.unusedVariables false
set_option linter.unusedSimpArgs false

theorem chainV_inv {σ : Type} {f : σ → List Nat → Nat → σ × Nat} {bs : List Nat} {ps : List PT} {size : Nat} (P : σ → Prop) (hP : ∀ s b a, P s → (f s b a).2 = 0 → P (f s b a).1) :
    ∀ (n fr step : Nat) (s : σ), P s → (chainV f bs ps size n fr step s).2 = 0 → P (chainV f bs ps size n fr step s).1
  | 0, _, _, s, h, _ => h
  | n + 1, fr, step, s, h, h0 => by
    rw [chainV] at h0 ⊢
    by_cases h1 : (itemF bs ps fr step size).2.2 = 0
    · rw [if_neg (by simpa using h1)] at h0 ⊢
      by_cases h2 : (f s (itemF bs ps fr step size).1 (itemF bs ps fr step size).2.1).2 = 0
      · rw [if_neg (by simpa using h2)] at h0 ⊢
        by_cases h3 : numOf ((itemF bs ps fr step size).1.drop (size - 4)) = 0 ∧ 0 < n
        · rw [if_pos h3] at h0
          exact absurd (show (3 : Nat) = 0 from h0) (by decide)
        · rw [if_neg h3] at h0 ⊢
          exact chainV_inv P hP n _ _ _ (hP _ _ _ h h2) h0
      · rw [if_pos (by simpa using h2)] at h0
        exact absurd h0 h2
    · rw [if_pos (by simpa using h1)] at h0
      exact absurd h0 h1

theorem defF_told {bs : List Nat} {ps : List PT} {ss told b : List Nat} {a : Nat} (h : (defF bs ps ss told b a).2.2 = 0) : (defF bs ps ss told b a).1 = told ++ [(defF bs ps ss told b a).2.1.idx] ∧ (defF bs ps ss told b a).2.1.idx ∉ told ∧ 1 ≤ (defF bs ps ss told b a).2.1.idx ∧ (defF bs ps ss told b a).2.1.idx < 32768 := by
  unfold defF at h ⊢
  by_cases h1 : numOf (b.take 2) ≠ 1 ∨ numOf ((b.drop 4).take 2) % 32768 = 0 ∨ numOf ((b.drop 6).take 2) = 0
  · rw [if_pos h1] at h; exact absurd (show (3 : Nat) = 0 from h) (by decide)
  · rw [if_neg h1] at h ⊢
    by_cases h2 : numOf ((b.drop 4).take 2) % 32768 ∈ told
    · rw [if_pos h2] at h; exact absurd (show (5 : Nat) = 0 from h) (by decide)
    · rw [if_neg h2] at h ⊢
      by_cases h3 : 64 < numOf ((b.drop 6).take 2)
      · rw [if_pos h3] at h; exact absurd (show (2 : Nat) = 0 from h) (by decide)
      · rw [if_neg h3] at h ⊢
        by_cases h4 : (chainV (nameStep ss) bs ps 8 (numOf ((b.drop 6).take 2)) a (numOf ((b.drop 12).take 4)) []).2 ≠ 0
        · rw [if_pos h4] at h; exact absurd h h4
        · rw [if_neg h4] at h ⊢
          by_cases h5 : sysOf ((chainV (nameStep ss) bs ps 8 (numOf ((b.drop 6).take 2)) a (numOf ((b.drop 12).take 4)) []).1.getD 0 .empty).data.toList ≠ numOf ((b.drop 8).take 4)
          · rw [if_pos h5] at h; exact absurd (show (3 : Nat) = 0 from h) (by decide)
          · rw [if_neg h5]
            exact ⟨rfl, h2, by show 1 ≤ _ % 32768; omega, by show _ % 32768 < 32768; omega⟩
theorem auxF_told {ss told b : List Nat} (h : (auxF ss told b).2.2 = 0) : (auxF ss told b).1 = told ++ [(auxF ss told b).2.1.idx] ∧ (auxF ss told b).2.1.idx ∉ told ∧ 1 ≤ (auxF ss told b).2.1.idx ∧ (auxF ss told b).2.1.idx < 32768 := by
  unfold auxF at h ⊢
  by_cases h1 : (textF ss (numOf ((b.drop 8).take 4))).2 ≠ 0
  · rw [if_pos h1] at h; exact absurd h h1
  · rw [if_neg h1] at h ⊢
    by_cases h2 : sysOf (textF ss (numOf ((b.drop 8).take 4))).1.data.toList ≠ numOf (b.take 4) ∨ numOf ((b.drop 6).take 2) % 32768 < 2
    · rw [if_pos h2] at h; exact absurd (show (3 : Nat) = 0 from h) (by decide)
    · rw [if_neg h2] at h ⊢
      by_cases h3 : numOf ((b.drop 6).take 2) % 32768 ∈ told
      · rw [if_pos h3] at h; exact absurd (show (5 : Nat) = 0 from h) (by decide)
      · rw [if_neg h3]
        exact ⟨rfl, h3, by show 1 ≤ _ % 32768; omega, by show _ % 32768 < 32768; omega⟩

theorem defsF_told {bs : List Nat} {ps : List PT} {ss : List Nat} {x y : Nat} (h : (defsF bs ps ss [] x y).2 = 0) : (defsF bs ps ss [] x y).1.1 = (defsF bs ps ss [] x y).1.2.map DefD.idx ∧ ToldOk (defsF bs ps ss [] x y).1.1 := by
  unfold defsF at h ⊢
  split
  · exact ⟨rfl, ToldOk.nil⟩
  · rename_i hx
    rw [if_neg hx] at h
    split
    · exact ⟨rfl, ToldOk.nil⟩
    · rename_i hy
      rw [if_neg hy] at h
      refine chainV_inv (fun s => s.1 = s.2.map DefD.idx ∧ ToldOk s.1) ?_ _ _ _ _ ⟨rfl, ToldOk.nil⟩ h
      rintro ⟨told, l⟩ b a ⟨h1, h2⟩ h3
      simp only [defStep] at h1 h2 h3 ⊢
      obtain ⟨e, q1, q2, q3⟩ := defF_told h3
      rw [e]
      refine ⟨?_, h2.snoc q1 q2 q3⟩
      rw [List.map_append, ← h1]
      rfl
def auxIdx (l : List NeedD) : List Nat := (l.map fun d => d.aux.map AuxD.idx).flatten
theorem auxIdx_snoc (l : List NeedD) (d : NeedD) : auxIdx (l ++ [d]) = auxIdx l ++ d.aux.map AuxD.idx := by simp [auxIdx]
theorem needF_told {bs : List Nat} {ps : List PT} {ss told b : List Nat} {a : Nat} (h : (needF bs ps ss told b a).2.2 = 0) (ht : ToldOk told) : (needF bs ps ss told b a).1 = told ++ (needF bs ps ss told b a).2.1.aux.map AuxD.idx ∧ ToldOk (needF bs ps ss told b a).1 := by
  unfold needF at h ⊢
  by_cases h1 : numOf (b.take 2) ≠ 1 ∨ numOf ((b.drop 2).take 2) = 0
  · rw [if_pos h1] at h; exact absurd (show (3 : Nat) = 0 from h) (by decide)
  · rw [if_neg h1] at h ⊢
    by_cases h2 : 64 < numOf ((b.drop 2).take 2)
    · rw [if_pos h2] at h; exact absurd (show (2 : Nat) = 0 from h) (by decide)
    · rw [if_neg h2] at h ⊢
      by_cases h3 : (textF ss (numOf ((b.drop 4).take 4))).2 ≠ 0
      · rw [if_pos h3] at h; exact absurd h h3
      · rw [if_neg h3] at h ⊢
        refine chainV_inv (fun s => s.1 = told ++ s.2.map AuxD.idx ∧ ToldOk s.1) ?_ _ _ _ _ ⟨by simp, ht⟩ h
        rintro ⟨told2, l⟩ b2 a2 ⟨q1, q2⟩ q3
        simp only [auxStep] at q1 q2 q3 ⊢
        obtain ⟨e, r1, r2, r3⟩ := auxF_told q3
        rw [e]
        refine ⟨?_, q2.snoc r1 r2 r3⟩
        rw [List.map_append, ← List.append_assoc, ← q1]
        rfl
theorem needsF_told {bs : List Nat} {ps : List PT} {ss told : List Nat} {x y : Nat} (h : (needsF bs ps ss told x y).2 = 0) (ht : ToldOk told) : (needsF bs ps ss told x y).1.1 = told ++ auxIdx (needsF bs ps ss told x y).1.2 ∧ ToldOk (needsF bs ps ss told x y).1.1 := by
  unfold needsF at h ⊢
  split
  · exact ⟨by simp [auxIdx], ht⟩
  · rename_i hx
    rw [if_neg hx] at h
    split
    · exact ⟨by simp [auxIdx], ht⟩
    · rename_i hy
      rw [if_neg hy] at h
      refine chainV_inv (fun s => s.1 = told ++ auxIdx s.2 ∧ ToldOk s.1) ?_ _ _ _ _ ⟨by simp [auxIdx], ht⟩ h
      rintro ⟨told2, l⟩ b a ⟨q1, q2⟩ q3
      simp only [needStep] at q1 q2 q3 ⊢
      obtain ⟨e, r1⟩ := needF_told q3 q2
      refine ⟨?_, r1⟩
      rw [e, auxIdx_snoc, ← List.append_assoc, ← q1]
/-- all that is told of a file's versions, in its order -/
def toldV (X : VersD) : List Nat := X.defs.map DefD.idx ++ auxIdx X.needs
theorem ofF_words {told words : List Nat} (hw : ∀ z ∈ words, z < 256) (h : (ofF told words).2 = 0) : (ofF told words).1.length = words.length / 2 ∧ ∀ x ∈ (ofF told words).1, wordOk told x = true ∧ x < 65536 := by
  unfold ofF at h ⊢
  split
  · rename_i hall
    refine ⟨by simp, fun x hx => ?_⟩
    obtain ⟨i, hi, rfl⟩ := List.mem_map.1 hx
    exact ⟨List.all_eq_true.1 hall i hi, numOf_two words hw (2 * i)⟩
  · rename_i hall
    rw [if_neg hall] at h
    exact absurd (show (3 : Nat) = 0 from h) (by decide)
theorem versF_once {bs : List Nat} {ps : List PT} {d : DT} {n : Int} (hb : ∀ z ∈ bs, z < 256) : ((versF bs ps d n).2 ≠ 0 → (versF bs ps d n).1 = .zero) ∧ ((versF bs ps d n).1.has = false → (versF bs ps d n).1 = .zero) ∧
    ((versF bs ps d n).2 = 0 → (versF bs ps d n).1.has = true → 0 ≤ n ∧ n ≤ 4096 ∧ ToldOk (toldV (versF bs ps d n).1) ∧ (∀ x ∈ (versF bs ps d n).1.of, wordOk (toldV (versF bs ps d n).1) x = true ∧ x < 65536) ∧ ((versF bs ps d n).1.of.length : Int) = n) := by
  have zero : ∀ c : Nat, ((VersD.zero, c).2 ≠ 0 → (VersD.zero, c).1 = .zero) ∧ ((VersD.zero, c).1.has = false → (VersD.zero, c).1 = .zero) ∧ ((VersD.zero, c).2 = 0 → (VersD.zero, c).1.has = true → 0 ≤ n ∧ n ≤ 4096 ∧ ToldOk (toldV (VersD.zero, c).1) ∧ (∀ x ∈ (VersD.zero, c).1.of, wordOk (toldV (VersD.zero, c).1) x = true ∧ x < 65536) ∧ ((VersD.zero, c).1.of.length : Int) = n) := fun c => ⟨fun _ => rfl, fun _ => rfl, fun _ h2 => by cases h2⟩
  unfold versF
  by_cases h1 : n < 0
  · rw [if_pos h1]; exact zero 1
  rw [if_neg h1]
  by_cases h2 : 4096 < n
  · rw [if_pos h2]; exact zero 2
  rw [if_neg h2]
  by_cases h3 : d.versym = 0
  · rw [if_pos h3]; exact zero 0
  rw [if_neg h3]
  by_cases h4 : (strF bs ps d.strtab d.strsz).2 ≠ 0
  · rw [if_pos h4]; exact zero _
  rw [if_neg h4]
  generalize (strF bs ps d.strtab d.strsz).1 = S at *
  by_cases h5 : (sliceF bs ps d.versym (2 * n.toNat)).2 ≠ 0
  · rw [if_pos h5]; exact zero _
  rw [if_neg h5]
  have hT : (sliceF bs ps d.versym (2 * n.toNat)).1.length = 2 * n.toNat ∧ ∀ z ∈ (sliceF bs ps d.versym (2 * n.toNat)).1, z < 256 := by
    refine ⟨?_, fun z hz => ?_⟩
    · rcases sliceF_two bs ps d.versym (2 * n.toNat) with ⟨t, e, hl⟩ | e
      · rw [e]; exact hl
      · rw [e] at h5; exact absurd (show ¬ (4 : Nat) = 0 by decide) (by simp at h5)
    · unfold sliceF at hz
      split at hz
      · exact hb z (List.mem_of_mem_drop (List.mem_of_mem_take hz))
      · cases hz
  generalize (sliceF bs ps d.versym (2 * n.toNat)).1 = T at *
  by_cases h6 : (defsF bs ps S [] d.verdef d.verdefnum).2 ≠ 0
  · rw [if_pos h6]; exact zero _
  rw [if_neg h6]
  have hD := defsF_told (bs := bs) (ps := ps) (ss := S) (x := d.verdef) (y := d.verdefnum) (by simpa using h6)
  generalize defsF bs ps S [] d.verdef d.verdefnum = DX at *
  by_cases h7 : (needsF bs ps S DX.1.1 d.verneed d.verneednum).2 ≠ 0
  · rw [if_pos h7]; exact zero _
  rw [if_neg h7]
  have hN := needsF_told (bs := bs) (ps := ps) (ss := S) (told := DX.1.1) (x := d.verneed) (y := d.verneednum) (by simpa using h7) hD.2
  generalize needsF bs ps S DX.1.1 d.verneed d.verneednum = NX at *
  by_cases h8 : (ofF NX.1.1 T).2 ≠ 0
  · rw [if_pos h8]; exact zero _
  rw [if_neg h8]
  have hO := ofF_words (told := NX.1.1) (words := T) hT.2 (by simpa using h8)
  have htold : toldV ⟨true, (ofF NX.1.1 T).1, DX.1.2, NX.1.2⟩ = NX.1.1 := by
    unfold toldV
    rw [hN.1, hD.1]
  refine ⟨fun h => absurd rfl h, (fun h => by cases h), fun _ _ => ⟨by omega, by omega, ?_, ?_, ?_⟩⟩
  · rw [htold]; exact hN.2
  · rw [htold]; exact hO.2
  · show ((ofF NX.1.1 T).1.length : Int) = n
    rw [hO.1, hT.1]
    omega
end Go.Proofs.Ytaedeaefoeeidaa
