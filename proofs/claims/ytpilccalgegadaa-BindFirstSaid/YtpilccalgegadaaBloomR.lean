/- Layer 7: a table of the second kind is read: what is answered, as lists. -/
import Derived.Test.YtpilccalgegadaaBloomL
namespace Go.Proofs.Ytpilccalgegadaa
open Go.RowKit
set_option linter.unusedVariables false
set_option linter.unusedSimpArgs false

/-- the number of 8 bytes at a place of the bloom words -/
def eightAt (all : List Nat) (i : Nat) : Nat := numOf ((all.drop (16 + 8 * i)).take 8)
theorem eightAt_lt {all : List Nat} (h : ∀ b ∈ all, b < 256) (i : Nat) : eightAt all i < 18446744073709551616 := by
  have h1 := numOf_lt ((all.drop (16 + 8 * i)).take 8) (fun b hb => h b (List.mem_of_mem_drop (List.mem_of_mem_take hb)))
  have h2 : 256 ^ ((all.drop (16 + 8 * i)).take 8).length ≤ 256 ^ 8 := Nat.pow_le_pow_right (by omega) (by simp; omega)
  have h3 : (256 : Nat) ^ 8 = 18446744073709551616 := by decide
  unfold eightAt
  omega
/-- the table that lies in so many bytes -/
def bloomT (all : List Nat) (addr nb fi wd sh : Nat) : BT := ⟨fi, sh, (List.range wd).map (eightAt all), splitF (all.drop (16 + 8 * wd)), (addr + (16 + 8 * wd + 4 * nb)) % 18446744073709551616⟩
/-- a table of the second kind at an address; an error's number behind -/
def bloomF (bs : List Nat) (ps : List PT) (addr : Nat) : BT × Nat :=
  if (wordsF bs ps addr 4).2 = 0 then
    (if (wordsF bs ps addr 4).1.getD 0 0 = 0 ∨ ¬ onesF ((wordsF bs ps addr 4).1.getD 2 0) = 1 ∨ 31 < (wordsF bs ps addr 4).1.getD 3 0 then (.nil, 3)
     else if 4096 < (wordsF bs ps addr 4).1.getD 0 0 ∨ 4096 < (wordsF bs ps addr 4).1.getD 1 0 ∨ 4096 < (wordsF bs ps addr 4).1.getD 2 0 then (.nil, 2)
     else if (sliceF bs ps addr (16 + 8 * (wordsF bs ps addr 4).1.getD 2 0 + 4 * (wordsF bs ps addr 4).1.getD 0 0)).2 = 0 then
       (if (splitF ((sliceF bs ps addr (16 + 8 * (wordsF bs ps addr 4).1.getD 2 0 + 4 * (wordsF bs ps addr 4).1.getD 0 0)).1.drop (16 + 8 * (wordsF bs ps addr 4).1.getD 2 0))).any (lowB ((wordsF bs ps addr 4).1.getD 1 0)) then (.nil, 3)
        else (bloomT (sliceF bs ps addr (16 + 8 * (wordsF bs ps addr 4).1.getD 2 0 + 4 * (wordsF bs ps addr 4).1.getD 0 0)).1 addr ((wordsF bs ps addr 4).1.getD 0 0) ((wordsF bs ps addr 4).1.getD 1 0) ((wordsF bs ps addr 4).1.getD 2 0) ((wordsF bs ps addr 4).1.getD 3 0), 0))
     else (.nil, 4))
  else (.nil, 4)
section
variable {bs : List Nat} {ps : List PT} {addr nb fi wd sh : Nat} {all : List Nat}
theorem bloomF_no (h : wordsF bs ps addr 4 = ([], 4)) : bloomF bs ps addr = (.nil, 4) := by
  unfold bloomF
  rw [h, if_neg (by simp)]
theorem bloomF_form (h : wordsF bs ps addr 4 = ([nb, fi, wd, sh], 0)) (h0 : nb = 0 ∨ ¬ onesF wd = 1 ∨ 31 < sh) : bloomF bs ps addr = (.nil, 3) := by
  unfold bloomF
  rw [h, if_pos rfl]
  simp only [List.getD_cons_zero, List.getD_cons_succ]
  rw [if_pos h0]
theorem bloomF_long (h : wordsF bs ps addr 4 = ([nb, fi, wd, sh], 0)) (h0 : ¬ (nb = 0 ∨ ¬ onesF wd = 1 ∨ 31 < sh)) (h1 : 4096 < nb ∨ 4096 < fi ∨ 4096 < wd) : bloomF bs ps addr = (.nil, 2) := by
  unfold bloomF
  rw [h, if_pos rfl]
  simp only [List.getD_cons_zero, List.getD_cons_succ]
  rw [if_neg h0, if_pos h1]
theorem bloomF_out (h : wordsF bs ps addr 4 = ([nb, fi, wd, sh], 0)) (h0 : ¬ (nb = 0 ∨ ¬ onesF wd = 1 ∨ 31 < sh)) (h1 : ¬ (4096 < nb ∨ 4096 < fi ∨ 4096 < wd)) (h2 : sliceF bs ps addr (16 + 8 * wd + 4 * nb) = ([], 4)) : bloomF bs ps addr = (.nil, 4) := by
  unfold bloomF
  rw [h, if_pos rfl]
  simp only [List.getD_cons_zero, List.getD_cons_succ]
  rw [if_neg h0, if_neg h1, h2, if_neg (by simp)]
theorem bloomF_low (h : wordsF bs ps addr 4 = ([nb, fi, wd, sh], 0)) (h0 : ¬ (nb = 0 ∨ ¬ onesF wd = 1 ∨ 31 < sh)) (h1 : ¬ (4096 < nb ∨ 4096 < fi ∨ 4096 < wd)) (h2 : sliceF bs ps addr (16 + 8 * wd + 4 * nb) = (all, 0)) (h3 : (splitF (all.drop (16 + 8 * wd))).any (lowB fi) = true) : bloomF bs ps addr = (.nil, 3) := by
  unfold bloomF
  rw [h, if_pos rfl]
  simp only [List.getD_cons_zero, List.getD_cons_succ]
  rw [if_neg h0, if_neg h1, h2, if_pos rfl, if_pos h3]
theorem bloomF_yes (h : wordsF bs ps addr 4 = ([nb, fi, wd, sh], 0)) (h0 : ¬ (nb = 0 ∨ ¬ onesF wd = 1 ∨ 31 < sh)) (h1 : ¬ (4096 < nb ∨ 4096 < fi ∨ 4096 < wd)) (h2 : sliceF bs ps addr (16 + 8 * wd + 4 * nb) = (all, 0)) (h3 : (splitF (all.drop (16 + 8 * wd))).any (lowB fi) = false) : bloomF bs ps addr = (bloomT all addr nb fi wd sh, 0) := by
  unfold bloomF
  rw [h, if_pos rfl]
  simp only [List.getD_cons_zero, List.getD_cons_succ]
  rw [if_neg h0, if_neg h1, h2, if_pos rfl, if_neg (by rw [h3]; simp)]
end
end Go.Proofs.Ytpilccalgegadaa
