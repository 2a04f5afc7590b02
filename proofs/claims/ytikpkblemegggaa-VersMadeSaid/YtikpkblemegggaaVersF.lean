/- Layer 8: what the tables of versions of a file tell, as lists (plain functions). -/
import Derived.Test.YtikpkblemegggaaSymStrs
import Derived.Test.YtikpkblemegggaaSysv
import Derived.Test.YtikpkblemegggaaTexts
import Derived.Test.YtikpkblemegggaaBox
import Derived.Maps.OwnSet
namespace Go.Proofs.Ytikpkblemegggaa
open Go.RowKit
set_option linter.unusedVariables false
set_option linter.unusedSimpArgs false

/-- the bytes a step above an address, where that is, an error's number -/
def itemF (bs : List Nat) (ps : List PT) (fr step size : Nat) : List Nat × Nat × Nat :=
  if 18446744073709551616 ≤ fr + step then ([], 0, 4) else ((sliceF bs ps (fr + step) size).1, fr + step, (sliceF bs ps (fr + step) size).2)
theorem itemF_beyond {bs : List Nat} {ps : List PT} {fr step size : Nat} (h : 18446744073709551616 ≤ fr + step) : itemF bs ps fr step size = ([], 0, 4) := by rw [itemF, if_pos h]
theorem itemF_in {bs : List Nat} {ps : List PT} {fr step size : Nat} (h : fr + step < 18446744073709551616) : itemF bs ps fr step size = ((sliceF bs ps (fr + step) size).1, fr + step, (sliceF bs ps (fr + step) size).2) := by rw [itemF, if_neg (by omega)]

/-- a chain of n things: what its steps leave, an error's number -/
def chainV {σ : Type} (f : σ → List Nat → Nat → σ × Nat) (bs : List Nat) (ps : List PT) (size : Nat) : Nat → Nat → Nat → σ → σ × Nat
  | 0, _, _, s => (s, 0)
  | n + 1, fr, step, s =>
    if (itemF bs ps fr step size).2.2 ≠ 0 then (s, (itemF bs ps fr step size).2.2)
    else if (f s (itemF bs ps fr step size).1 (itemF bs ps fr step size).2.1).2 ≠ 0 then f s (itemF bs ps fr step size).1 (itemF bs ps fr step size).2.1
    else if numOf ((itemF bs ps fr step size).1.drop (size - 4)) = 0 ∧ 0 < n then ((f s (itemF bs ps fr step size).1 (itemF bs ps fr step size).2.1).1, 3)
    else chainV f bs ps size n (itemF bs ps fr step size).2.1 (numOf ((itemF bs ps fr step size).1.drop (size - 4))) (f s (itemF bs ps fr step size).1 (itemF bs ps fr step size).2.1).1

section
variable {σ : Type} {f : σ → List Nat → Nat → σ × Nat} {bs : List Nat} {ps : List PT} {size n fr step : Nat} {s s' : σ} {b : List Nat} {at_ c : Nat}
theorem chainV_zero : chainV f bs ps size 0 fr step s = (s, 0) := rfl
theorem chainV_item (h : itemF bs ps fr step size = (b, at_, c)) (hc : c ≠ 0) : chainV f bs ps size (n + 1) fr step s = (s, c) := by
  rw [chainV, h, if_pos (by simpa using hc)]
theorem chainV_read (h : itemF bs ps fr step size = (b, at_, 0)) (hf : f s b at_ = (s', c)) (hc : c ≠ 0) : chainV f bs ps size (n + 1) fr step s = (s', c) := by
  rw [chainV, h, if_neg (by simp)]
  simp only
  rw [hf, if_pos (by simpa using hc)]
theorem chainV_form (h : itemF bs ps fr step size = (b, at_, 0)) (hf : f s b at_ = (s', 0)) (hz : numOf (b.drop (size - 4)) = 0) (hn : 0 < n) : chainV f bs ps size (n + 1) fr step s = (s', 3) := by
  rw [chainV, h, if_neg (by simp)]
  simp only
  rw [hf, if_neg (by simp), if_pos ⟨hz, hn⟩]
theorem chainV_on (h : itemF bs ps fr step size = (b, at_, 0)) (hf : f s b at_ = (s', 0)) (hz : ¬ (numOf (b.drop (size - 4)) = 0 ∧ 0 < n)) : chainV f bs ps size (n + 1) fr step s = chainV f bs ps size n at_ (numOf (b.drop (size - 4))) s' := by
  rw [chainV, h, if_neg (by simp)]
  simp only
  rw [hf, if_neg (by simp), if_neg hz]
end

/-- a name of a definition -/
def nameStep (ss : List Nat) (l : List ByteArray) (b : List Nat) (_ : Nat) : List ByteArray × Nat :=
  (l ++ [(textF ss (numOf (b.take 4))).1], (textF ss (numOf (b.take 4))).2)

/-- a definition -/
structure DefD where
  idx : Nat
  base : Bool
  name : ByteArray
  parents : List ByteArray
def DefD.zero : DefD := ⟨0, false, .empty, []⟩
/-- a definition: what was told by now, the definition, an error's number -/
def defF (bs : List Nat) (ps : List PT) (ss : List Nat) (told : List Nat) (b : List Nat) (at_ : Nat) : List Nat × DefD × Nat :=
  if numOf (b.take 2) ≠ 1 ∨ numOf ((b.drop 4).take 2) % 32768 = 0 ∨ numOf ((b.drop 6).take 2) = 0 then (told, .zero, 3)
  else if numOf ((b.drop 4).take 2) % 32768 ∈ told then (told, .zero, 5)
  else if 64 < numOf ((b.drop 6).take 2) then (told ++ [numOf ((b.drop 4).take 2) % 32768], .zero, 2)
  else if (chainV (nameStep ss) bs ps 8 (numOf ((b.drop 6).take 2)) at_ (numOf ((b.drop 12).take 4)) []).2 ≠ 0 then
    (told ++ [numOf ((b.drop 4).take 2) % 32768], .zero, (chainV (nameStep ss) bs ps 8 (numOf ((b.drop 6).take 2)) at_ (numOf ((b.drop 12).take 4)) []).2)
  else if sysOf ((chainV (nameStep ss) bs ps 8 (numOf ((b.drop 6).take 2)) at_ (numOf ((b.drop 12).take 4)) []).1.getD 0 .empty).data.toList ≠ numOf ((b.drop 8).take 4) then
    (told ++ [numOf ((b.drop 4).take 2) % 32768], .zero, 3)
  else (told ++ [numOf ((b.drop 4).take 2) % 32768], ⟨numOf ((b.drop 4).take 2) % 32768, decide (numOf ((b.drop 2).take 2) % 2 = 1), (chainV (nameStep ss) bs ps 8 (numOf ((b.drop 6).take 2)) at_ (numOf ((b.drop 12).take 4)) []).1.getD 0 .empty, (chainV (nameStep ss) bs ps 8 (numOf ((b.drop 6).take 2)) at_ (numOf ((b.drop 12).take 4)) []).1.drop 1⟩, 0)
def defStep (bs : List Nat) (ps : List PT) (ss : List Nat) (s : List Nat × List DefD) (b : List Nat) (at_ : Nat) : (List Nat × List DefD) × Nat :=
  (((defF bs ps ss s.1 b at_).1, s.2 ++ [(defF bs ps ss s.1 b at_).2.1]), (defF bs ps ss s.1 b at_).2.2)
/-- the definitions -/
def defsF (bs : List Nat) (ps : List PT) (ss : List Nat) (told : List Nat) (verdef verdefnum : Nat) : (List Nat × List DefD) × Nat :=
  if verdef = 0 then ((told, []), 0) else if 64 < verdefnum then ((told, []), 2) else chainV (defStep bs ps ss) bs ps 20 verdefnum verdef 0 (told, [])

/-- a version that is needed -/
structure AuxD where
  idx : Nat
  weak : Bool
  name : ByteArray
def AuxD.zero : AuxD := ⟨0, false, .empty⟩
def auxF (ss : List Nat) (told : List Nat) (b : List Nat) : List Nat × AuxD × Nat :=
  if (textF ss (numOf ((b.drop 8).take 4))).2 ≠ 0 then (told, .zero, (textF ss (numOf ((b.drop 8).take 4))).2)
  else if sysOf (textF ss (numOf ((b.drop 8).take 4))).1.data.toList ≠ numOf (b.take 4) ∨ numOf ((b.drop 6).take 2) % 32768 < 2 then (told, .zero, 3)
  else if numOf ((b.drop 6).take 2) % 32768 ∈ told then (told, .zero, 5)
  else (told ++ [numOf ((b.drop 6).take 2) % 32768], ⟨numOf ((b.drop 6).take 2) % 32768, decide (numOf ((b.drop 4).take 2) / 2 % 2 = 1), (textF ss (numOf ((b.drop 8).take 4))).1⟩, 0)
def auxStep (ss : List Nat) (s : List Nat × List AuxD) (b : List Nat) (_ : Nat) : (List Nat × List AuxD) × Nat :=
  (((auxF ss s.1 b).1, s.2 ++ [(auxF ss s.1 b).2.1]), (auxF ss s.1 b).2.2)
/-- what is needed of one object -/
structure NeedD where
  file : ByteArray
  aux : List AuxD
def NeedD.zero : NeedD := ⟨.empty, []⟩
def needF (bs : List Nat) (ps : List PT) (ss : List Nat) (told : List Nat) (b : List Nat) (at_ : Nat) : List Nat × NeedD × Nat :=
  if numOf (b.take 2) ≠ 1 ∨ numOf ((b.drop 2).take 2) = 0 then (told, .zero, 3)
  else if 64 < numOf ((b.drop 2).take 2) then (told, .zero, 2)
  else if (textF ss (numOf ((b.drop 4).take 4))).2 ≠ 0 then (told, .zero, (textF ss (numOf ((b.drop 4).take 4))).2)
  else ((chainV (auxStep ss) bs ps 16 (numOf ((b.drop 2).take 2)) at_ (numOf ((b.drop 8).take 4)) (told, [])).1.1, ⟨(textF ss (numOf ((b.drop 4).take 4))).1, (chainV (auxStep ss) bs ps 16 (numOf ((b.drop 2).take 2)) at_ (numOf ((b.drop 8).take 4)) (told, [])).1.2⟩, (chainV (auxStep ss) bs ps 16 (numOf ((b.drop 2).take 2)) at_ (numOf ((b.drop 8).take 4)) (told, [])).2)
def needStep (bs : List Nat) (ps : List PT) (ss : List Nat) (s : List Nat × List NeedD) (b : List Nat) (at_ : Nat) : (List Nat × List NeedD) × Nat :=
  (((needF bs ps ss s.1 b at_).1, s.2 ++ [(needF bs ps ss s.1 b at_).2.1]), (needF bs ps ss s.1 b at_).2.2)
def needsF (bs : List Nat) (ps : List PT) (ss : List Nat) (told : List Nat) (verneed verneednum : Nat) : (List Nat × List NeedD) × Nat :=
  if verneed = 0 then ((told, []), 0) else if 64 < verneednum then ((told, []), 2) else chainV (needStep bs ps ss) bs ps 16 verneednum verneed 0 (told, [])
/-- the symbols' words, from the first n on -/
def wordAt (words : List Nat) (i : Nat) : Nat := numOf ((words.drop (2 * i)).take 2)
def wordOk (told : List Nat) (v : Nat) : Bool := decide (v % 32768 ≤ 1 ∨ v % 32768 ∈ told)
def ofF (told : List Nat) (words : List Nat) : List Nat × Nat :=
  if (List.range (words.length / 2)).all (fun i => wordOk told (wordAt words i)) then ((List.range (words.length / 2)).map (wordAt words), 0) else ([], 3)

/-- what is told: no number twice, each of 15 bits, none 0 -/
def ToldOk (l : List Nat) : Prop := l.Nodup ∧ ∀ x ∈ l, 1 ≤ x ∧ x < 32768
theorem ToldOk.nil : ToldOk [] := ⟨List.nodup_nil, fun x hx => by cases hx⟩
theorem ToldOk.snoc {l : List Nat} {x : Nat} (h : ToldOk l) (hx : x ∉ l) (h1 : 1 ≤ x) (h2 : x < 32768) : ToldOk (l ++ [x]) := by
  refine ⟨?_, ?_⟩
  · rw [List.nodup_append]
    refine ⟨h.1, by simp, ?_⟩
    intro a ha b hb e
    simp only [List.mem_singleton] at hb
    subst hb e
    exact hx ha
  · intro y hy
    rcases List.mem_append.1 hy with hy | hy
    · exact h.2 y hy
    · simp only [List.mem_singleton] at hy
      subst hy
      exact ⟨h1, h2⟩
theorem nodup_len : ∀ (n : Nat) (l : List Nat), l.Nodup → (∀ x ∈ l, x < n) → l.length ≤ n
  | 0, l, _, h => by
    cases l with
    | nil => simp
    | cons a l => exact absurd (h a (by simp)) (by omega)
  | n + 1, l, hd, h => by
    have h1 := nodup_len n (l.erase n) (hd.sublist List.erase_sublist) (fun x hx => by
      have h2 := h x (List.mem_of_mem_erase hx)
      have h3 : x ≠ n := fun e => by subst e; exact absurd hx (List.Nodup.not_mem_erase hd)
      omega)
    have h4 := List.length_erase (a := n) (l := l)
    split at h4 <;> omega
theorem ToldOk.len {l : List Nat} (h : ToldOk l) : l.length ≤ 32768 := nodup_len _ _ h.1 (fun x hx => (h.2 x hx).2)
end Go.Proofs.Ytikpkblemegggaa
