/- Layer 7: tables of the second kind, as lists. Nothing of the program is named. -/
import Derived.Test.YtpilccalgegadaaHashMath
namespace Go.Proofs.Ytpilccalgegadaa
set_option linter.unusedVariables false
set_option linter.unusedSimpArgs false

/-- the number of 4 bytes at an address; an error's number behind -/
def wordF (bs : List Nat) (ps : List PT) (addr : Nat) : Nat × Nat :=
  if (offF ps addr 4).2 = 0 ∧ (offF ps addr 4).1 ≤ bs.length ∧ 4 ≤ bs.length - (offF ps addr 4).1 then (numOf ((bs.drop (offF ps addr 4).1).take 4), 0) else (0, 4)
theorem wordF_yes {bs : List Nat} {ps : List PT} {addr o : Nat} (h : offF ps addr 4 = (o, 0)) (h1 : o ≤ bs.length) (h2 : 4 ≤ bs.length - o) : wordF bs ps addr = (numOf ((bs.drop o).take 4), 0) := by
  unfold wordF
  rw [h, if_pos ⟨rfl, h1, h2⟩]
theorem wordF_off {bs : List Nat} {ps : List PT} {addr : Nat} (h : offF ps addr 4 = (0, 4)) : wordF bs ps addr = (0, 4) := by
  unfold wordF
  rw [h, if_neg (fun h => by have := h.1; simp at this)]
theorem wordF_out {bs : List Nat} {ps : List PT} {addr o : Nat} (h : offF ps addr 4 = (o, 0)) (h1 : ¬ (o ≤ bs.length ∧ 4 ≤ bs.length - o)) : wordF bs ps addr = (0, 4) := by
  unfold wordF
  rw [h, if_neg (fun h => h1 h.2)]
theorem wordF_alt (bs : List Nat) (ps : List PT) (addr : Nat) : (wordF bs ps addr).2 = 0 ∨ wordF bs ps addr = (0, 4) := by
  unfold wordF
  split
  · exact .inl rfl
  · exact .inr rfl
theorem wordF_lt {bs : List Nat} (hb : ∀ b ∈ bs, b < 256) (ps : List PT) (addr : Nat) : (wordF bs ps addr).1 < 4294967296 := by
  unfold wordF
  split
  · have h1 := numOf_lt ((bs.drop (offF ps addr 4).1).take 4) (fun b h => hb b (List.mem_of_mem_drop (List.mem_of_mem_take h)))
    have h2 : 256 ^ ((bs.drop (offF ps addr 4).1).take 4).length ≤ 256 ^ 4 := Nat.pow_le_pow_right (by omega) (by simp; omega)
    have h3 : (256 : Nat) ^ 4 = 4294967296 := by decide
    simp only
    omega
  · decide

/-- a table of the second kind, up to its last bucket, and where its chains begin -/
structure BT where
  first : Nat
  shift : Nat
  bloom : List Nat
  buckets : List Nat
  base : Nat
def BT.nil : BT := ⟨0, 0, [], [], 0⟩

/-- where a symbol's chain word lies -/
def linkAt (t : BT) (i : Nat) : Nat := (t.base + 4 * ((i + 4294967296 - t.first) % 4294967296)) % 18446744073709551616
def linkF (bs : List Nat) (ps : List PT) (t : BT) (i : Nat) : Nat × Nat := wordF bs ps (linkAt t i)

/-- from a symbol on to the end of its chain: so many rounds at most -/
def countGo (bs : List Nat) (ps : List PT) (t : BT) : Nat → Nat → Nat × Nat
  | 0, _ => (0, 2)
  | f + 1, i => if (linkF bs ps t i).2 = 0 then (if (linkF bs ps t i).1 % 2 = 1 then (i + 1, 0) else countGo bs ps t f (i + 1)) else (0, 4)
theorem countGo_bad {bs : List Nat} {ps : List PT} {t : BT} {f i : Nat} (h : linkF bs ps t i = (0, 4)) : countGo bs ps t (f + 1) i = (0, 4) := by
  rw [countGo, h, if_neg (by simp)]
theorem countGo_end {bs : List Nat} {ps : List PT} {t : BT} {f i : Nat} (h : (linkF bs ps t i).2 = 0) (h1 : (linkF bs ps t i).1 % 2 = 1) : countGo bs ps t (f + 1) i = (i + 1, 0) := by
  rw [countGo, if_pos h, if_pos h1]
theorem countGo_next {bs : List Nat} {ps : List PT} {t : BT} {f i : Nat} (h : (linkF bs ps t i).2 = 0) (h1 : ¬ (linkF bs ps t i).1 % 2 = 1) : countGo bs ps t (f + 1) i = countGo bs ps t f (i + 1) := by
  rw [countGo, if_pos h, if_neg h1]
def maxF (l : List Nat) : Nat := l.foldl Nat.max 0
theorem maxF_snoc (l : List Nat) (x : Nat) : maxF (l ++ [x]) = Nat.max (maxF l) x := by simp [maxF]
def bcountF (bs : List Nat) (ps : List PT) (t : BT) : Nat × Nat := if maxF t.buckets = 0 then (t.first, 0) else countGo bs ps t (4096 - maxF t.buckets) (maxF t.buckets)

/-- do the bloom words let a hash through? -/
def mayF (t : BT) (k : Nat) : Bool :=
  decide (t.bloom.getD (k / 64 % t.bloom.length) 0 / 2 ^ (k % 64) % 2 = 1) && decide (t.bloom.getD (k / 64 % t.bloom.length) 0 / 2 ^ (k / 2 ^ t.shift % 64) % 2 = 1)

/-- the symbols of a name, from one of a chain on -/
def blookGo (bs : List Nat) (ps : List PT) (t : BT) (names : List ByteArray) (name : ByteArray) (k : Nat) : Nat → Nat → List Nat → List Nat × Nat
  | 0, _, _ => ([], 4)
  | f + 1, i, told =>
    if (linkF bs ps t i).2 = 0 then
      (if (linkF bs ps t i).1 % 2 = 1 then ((if (linkF bs ps t i).1 / 2 = k / 2 ∧ names.getD i .empty = name then told ++ [i] else told), 0)
       else blookGo bs ps t names name k f (i + 1) (if (linkF bs ps t i).1 / 2 = k / 2 ∧ names.getD i .empty = name then told ++ [i] else told))
    else ([], 4)
section
variable {bs : List Nat} {ps : List PT} {t : BT} {names : List ByteArray} {name : ByteArray} {k f i : Nat} {told : List Nat}
theorem blookGo_bad (h : linkF bs ps t i = (0, 4)) : blookGo bs ps t names name k (f + 1) i told = ([], 4) := by
  rw [blookGo, h, if_neg (by simp)]
theorem blookGo_end (h : (linkF bs ps t i).2 = 0) (h1 : (linkF bs ps t i).1 % 2 = 1) : blookGo bs ps t names name k (f + 1) i told = ((if (linkF bs ps t i).1 / 2 = k / 2 ∧ names.getD i .empty = name then told ++ [i] else told), 0) := by
  rw [blookGo, if_pos h, if_pos h1]
theorem blookGo_next (h : (linkF bs ps t i).2 = 0) (h1 : ¬ (linkF bs ps t i).1 % 2 = 1) : blookGo bs ps t names name k (f + 1) i told = blookGo bs ps t names name k f (i + 1) (if (linkF bs ps t i).1 / 2 = k / 2 ∧ names.getD i .empty = name then told ++ [i] else told) := by
  conv => lhs; unfold blookGo
  rw [if_pos h, if_neg h1]
end
def blookF (bs : List Nat) (ps : List PT) (t : BT) (names : List ByteArray) (name : ByteArray) (k : Nat) : List Nat × Nat :=
  if t.buckets.getD (k % t.buckets.length) 0 = 0 ∨ mayF t k = false then ([], 0) else blookGo bs ps t names name k (names.length - t.buckets.getD (k % t.buckets.length) 0) (t.buckets.getD (k % t.buckets.length) 0) []
end Go.Proofs.Ytpilccalgegadaa
