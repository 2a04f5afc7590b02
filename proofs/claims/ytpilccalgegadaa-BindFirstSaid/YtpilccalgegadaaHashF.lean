/- Layer 7: tables of the first kind, as lists. Nothing of the program is named. -/
import Derived.Test.YtpilccalgegadaaDynSlice
namespace Go.Proofs.Ytpilccalgegadaa
set_option linter.unusedVariables false
set_option linter.unusedSimpArgs false

/-- the numbers of 4 bytes -/
def quadAt (bs : List Nat) (i : Nat) : Nat := numOf ((bs.drop (4 * i)).take 4)
def splitF (bs : List Nat) : List Nat := (List.range (bs.length / 4)).map (quadAt bs)
theorem splitF_length (bs : List Nat) : (splitF bs).length = bs.length / 4 := by simp [splitF]
theorem splitF_at {bs : List Nat} {i : Nat} (h : i < bs.length / 4) : (splitF bs)[i]? = some (quadAt bs i) := by simp [splitF, h]
theorem quadAt_lt {bs : List Nat} (h : ∀ b ∈ bs, b < 256) (i : Nat) : quadAt bs i < 4294967296 := by
  have h1 := numOf_lt ((bs.drop (4 * i)).take 4) (fun b hb => h b (List.mem_of_mem_drop (List.mem_of_mem_take hb)))
  have h2 : 256 ^ ((bs.drop (4 * i)).take 4).length ≤ 256 ^ 4 := Nat.pow_le_pow_right (by omega) (by simp; omega)
  unfold quadAt
  omega
theorem splitF_lt {bs : List Nat} (h : ∀ b ∈ bs, b < 256) : ∀ x ∈ splitF bs, x < 4294967296 := by
  intro x hx
  obtain ⟨i, -, rfl⟩ := List.mem_map.1 hx
  exact quadAt_lt h i

/-- n numbers of 4 bytes at an address; an error's number behind -/
def wordsF (bs : List Nat) (ps : List PT) (addr n : Nat) : List Nat × Nat :=
  if (sliceF bs ps addr (4 * n)).2 = 0 then (splitF (sliceF bs ps addr (4 * n)).1, 0) else ([], 4)
theorem sliceF_code (bs : List Nat) (ps : List PT) (addr size : Nat) : (sliceF bs ps addr size).2 = 0 ∨ sliceF bs ps addr size = ([], 4) := by
  unfold sliceF
  split
  · left; rfl
  · right; rfl
theorem sliceF_len (bs : List Nat) (ps : List PT) (addr size : Nat) : (sliceF bs ps addr size).2 = 0 → (sliceF bs ps addr size).1.length = size := by
  unfold sliceF
  split
  · rename_i h
    intro _
    simp
    omega
  · intro h; simp at h
theorem wordsF_yes {bs : List Nat} {ps : List PT} {addr n : Nat} {s : List Nat} (h : sliceF bs ps addr (4 * n) = (s, 0)) : wordsF bs ps addr n = (splitF s, 0) := by
  unfold wordsF
  rw [h, if_pos rfl]
theorem wordsF_no {bs : List Nat} {ps : List PT} {addr n : Nat} (h : sliceF bs ps addr (4 * n) = ([], 4)) : wordsF bs ps addr n = ([], 4) := by
  unfold wordsF
  rw [h, if_neg (by simp)]
theorem wordsF_len {bs : List Nat} {ps : List PT} {addr n : Nat} (h : (wordsF bs ps addr n).2 = 0) : (wordsF bs ps addr n).1.length = n := by
  rcases sliceF_code bs ps addr (4 * n) with h1 | h1
  · have h2 := sliceF_len _ _ _ _ h1
    unfold wordsF
    rw [if_pos h1]
    rw [splitF_length, h2]
    omega
  · rw [wordsF_no h1] at h
    simp at h
theorem wordsF_code (bs : List Nat) (ps : List PT) (addr n : Nat) : (wordsF bs ps addr n).2 = 0 ∨ wordsF bs ps addr n = ([], 4) := by
  rcases sliceF_code bs ps addr (4 * n) with h1 | h1
  · left
    unfold wordsF
    rw [if_pos h1]
  · right
    exact wordsF_no h1

/-- a table of the first kind: its buckets and its chains; an error's number behind -/
def chainsF (bs : List Nat) (ps : List PT) (addr : Nat) : (List Nat × List Nat) × Nat :=
  match wordsF bs ps addr 2 with
  | (f, 0) =>
    if f.getD 0 0 = 0 ∨ f.getD 1 0 = 0 then (([], []), 3)
    else if 4096 < f.getD 0 0 ∨ 4096 < f.getD 1 0 then (([], []), 2)
    else match wordsF bs ps addr (2 + f.getD 0 0 + f.getD 1 0) with
      | (all, 0) => (((all.take (2 + f.getD 0 0)).drop 2, all.drop (2 + f.getD 0 0)), 0)
      | (_, c) => (([], []), c)
  | (_, c) => (([], []), c)

/-- a chain is gone through: so many rounds at most; what was told, or an error's number -/
def chainGo (ch : List Nat) (names : List ByteArray) (name : ByteArray) : Nat → Nat → List Nat → List Nat × Nat
  | 0, i, told => if i = 0 then (told, 0) else if i ≥ ch.length ∨ i ≥ names.length then ([], 4) else ([], 3)
  | f + 1, i, told => if i = 0 then (told, 0) else if i ≥ ch.length ∨ i ≥ names.length then ([], 4)
      else chainGo ch names name f (ch.getD i 0) (if names.getD i .empty = name then told ++ [i] else told)

theorem chainGo_end {ch : List Nat} {names : List ByteArray} {name : ByteArray} {f : Nat} {told : List Nat} : chainGo ch names name f 0 told = (told, 0) := by
  cases f <;> simp [chainGo]
theorem chainGo_out {ch : List Nat} {names : List ByteArray} {name : ByteArray} {f i : Nat} {told : List Nat} (h0 : ¬ i = 0) (h : i ≥ ch.length ∨ i ≥ names.length) : chainGo ch names name f i told = ([], 4) := by
  cases f <;> simp [chainGo, h0, h]
theorem chainGo_many {ch : List Nat} {names : List ByteArray} {name : ByteArray} {i : Nat} {told : List Nat} (h0 : ¬ i = 0) (h : ¬ (i ≥ ch.length ∨ i ≥ names.length)) : chainGo ch names name 0 i told = ([], 3) := by
  simp [chainGo, h0, h]
theorem chainGo_next {ch : List Nat} {names : List ByteArray} {name : ByteArray} {f i : Nat} {told : List Nat} (h0 : ¬ i = 0) (h : ¬ (i ≥ ch.length ∨ i ≥ names.length)) :
    chainGo ch names name (f + 1) i told = chainGo ch names name f (ch.getD i 0) (if names.getD i .empty = name then told ++ [i] else told) := by
  conv => lhs; unfold chainGo
  rw [if_neg h0, if_neg h]
/-- the symbols of a name by a table of the first kind -/
def lookF (t : List Nat × List Nat) (names : List ByteArray) (name : ByteArray) (k : Nat) : List Nat × Nat := chainGo t.2 names name t.2.length (t.1.getD (k % t.1.length) 0) []
end Go.Proofs.Ytpilccalgegadaa
