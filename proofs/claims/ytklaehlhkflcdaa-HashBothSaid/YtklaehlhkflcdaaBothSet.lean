/- Layer 7: a table of the second kind is made: what one name changes. -/
import Derived.Test.YtklaehlhkflcdaaBothRead
import Derived.Test.YtklaehlhkflcdaaHashMade
namespace Go.Proofs.Ytklaehlhkflcdaa
open Go.RowKit
set_option linter.unusedVariables false
set_option linter.unusedSimpArgs false

def blL (hk : Nat → Nat) (sh s : Nat) : List Nat := (List.range 4).map fun j => blAt hk sh j s
def fiL (hb : Nat → Nat) (n s : Nat) : List Nat := (List.range n).map fun b => fiAt hb b s
def chL (hk hb : Nat → Nat) (N s : Nat) : List Nat := (List.range N).map fun x => if 0 < x ∧ x < s then chW hk hb N x else 0
section
variable {hk hb : Nat → Nat} {n N sh s : Nat}
theorem blL_length : (blL hk sh s).length = 4 := rfl
theorem fiL_length : (fiL hb n s).length = n := by simp [fiL]
theorem chL_length : (chL hk hb N s).length = N := by simp [chL]
theorem map_set {f g : Nat → Nat} {m q : Nat} (hq : q < m) (h : ∀ x, x < m → ¬ x = q → f x = g x) : ((List.range m).map f).set q (g q) = (List.range m).map g := by
  apply List.ext_getElem?
  intro x
  rw [List.getElem?_set]
  by_cases hx : x < m
  · by_cases e : q = x
    · subst e
      rw [if_pos rfl, if_pos (by simpa using hq)]
      simp [hq]
    · rw [if_neg e]
      simp [hx, h x hx (fun e2 => e e2.symm)]
  · rw [if_neg (by omega), List.getElem?_eq_none (by simp; omega), List.getElem?_eq_none (by simp; omega)]
theorem blL_set (h0 : 0 < s) : (blL hk sh s).set (hk s / 64 % 4) (blAt hk sh (hk s / 64 % 4) s ||| 2 ^ (hk s % 64) ||| 2 ^ (hk s / 2 ^ sh % 64)) = blL hk sh (s + 1) := by
  have e : blAt hk sh (hk s / 64 % 4) s ||| 2 ^ (hk s % 64) ||| 2 ^ (hk s / 2 ^ sh % 64) = blAt hk sh (hk s / 64 % 4) (s + 1) := by
    conv => rhs; rw [blAt, if_neg (by omega), if_pos rfl]
  rw [e]
  refine map_set (f := fun j => blAt hk sh j s) (g := fun j => blAt hk sh j (s + 1)) (m := 4) (Nat.mod_lt _ (by omega)) (fun x hx hne => ?_)
  show blAt hk sh x s = blAt hk sh x (s + 1)
  conv => rhs; rw [blAt, if_neg (by omega), if_neg (fun e => hne e.symm)]
theorem fiL_set (h0 : 0 < s) (hbs : hb s < n) (hz : fiAt hb (hb s) s = 0) : (fiL hb n s).set (hb s) s = fiL hb n (s + 1) := by
  have e : s = fiAt hb (hb s) (s + 1) := by rw [fiAt, if_neg (by omega), if_pos ⟨hz, rfl⟩]
  conv => lhs; arg 3; rw [e]
  refine map_set (f := fun b => fiAt hb b s) (g := fun b => fiAt hb b (s + 1)) hbs (fun x hx hne => ?_)
  show fiAt hb x s = fiAt hb x (s + 1)
  conv => rhs; rw [fiAt, if_neg (by omega), if_neg (fun e => hne e.2.symm)]
theorem fiL_same (h0 : 0 < s) (hz : ¬ fiAt hb (hb s) s = 0) : fiL hb n s = fiL hb n (s + 1) := by
  apply List.map_congr_left
  intro b hb'
  conv => rhs; rw [fiAt, if_neg (by omega), if_neg (fun e => hz (by rw [e.2]; exact e.1))]
theorem chL_set (h0 : 0 < s) (hs : s < N) : (chL hk hb N s).set s (chW hk hb N s) = chL hk hb N (s + 1) := by
  have e : chW hk hb N s = (fun x => if 0 < x ∧ x < s + 1 then chW hk hb N x else 0) s := by simp [h0]
  rw [e]
  refine map_set (f := fun x => if 0 < x ∧ x < s then chW hk hb N x else 0) (g := fun x => if 0 < x ∧ x < s + 1 then chW hk hb N x else 0) hs (fun x hx hne => ?_)
  show (if 0 < x ∧ x < s then chW hk hb N x else 0) = (if 0 < x ∧ x < s + 1 then chW hk hb N x else 0)
  by_cases h1 : 0 < x ∧ x < s
  · rw [if_pos h1, if_pos (by omega)]
  · rw [if_neg h1, if_neg (by omega)]
theorem blL_one : blL hk sh 1 = [0, 0, 0, 0] := rfl
theorem fiL_one : fiL hb n 1 = List.replicate n 0 := by
  apply List.ext_getElem?
  intro j
  by_cases h : j < n
  · simp [fiL, h, fiAt_one]
  · rw [List.getElem?_eq_none (by rw [fiL_length]; omega), List.getElem?_eq_none (by simp; omega)]
theorem chL_one : chL hk hb N 1 = List.replicate N 0 := by
  apply List.ext_getElem?
  intro j
  by_cases h : j < N
  · have h2 : ¬ (0 < j ∧ j < 1) := by omega
    have e : (if 0 < j ∧ j < 1 then chW hk hb N j else 0) = 0 := if_neg h2
    simp only [chL, List.getElem?_map, List.getElem?_range h, Option.map_some, e]
    simp [h]
  · rw [List.getElem?_eq_none (by rw [chL_length]; omega), List.getElem?_eq_none (by simp; omega)]
theorem blL_get {q : Nat} (h : q < 4) : (blL hk sh s)[q]? = some (blAt hk sh q s) := by simp [blL, h]
theorem fiL_get {b : Nat} (h : b < n) : (fiL hb n s)[b]? = some (fiAt hb b s) := by simp [fiL, h]
theorem chL_get (h : s < N) : (chL hk hb N s)[s]? = some 0 := by simp [chL, h]
/-- the chain without its head -/
theorem chL_tail : (chL hk hb N N).drop 1 = (List.range (N - 1)).map fun x => chW hk hb N (x + 1) := by
  apply List.ext_getElem?
  intro x
  rw [List.getElem?_drop]
  by_cases h : x < N - 1
  · have e : (if 0 < 1 + x ∧ 1 + x < N then chW hk hb N (1 + x) else 0) = chW hk hb N (1 + x) := if_pos (by omega)
    simp only [chL, List.getElem?_map, List.getElem?_range (show 1 + x < N by omega), List.getElem?_range h, Option.map_some, e]
    rw [Nat.add_comm 1 x]
  · rw [List.getElem?_eq_none (by rw [chL_length]; omega), List.getElem?_eq_none (by simp; omega)]
theorem bothW_parts : bothW hk hb n N sh = [n, 1, 4, sh] ++ bloomW hk sh N 4 ++ fiL hb n N ++ (chL hk hb N N).drop 1 := by
  rw [chL_tail]; rfl
theorem or64 (a b : Nat) (ha : a < 18446744073709551616) (hb : b < 18446744073709551616) : bits .or .u64 (a : Int) (b : Int) = ((a ||| b : Nat) : Int) := by
  have h0 : (0 : Int) ≤ (a : Int) := by omega
  have h1 : (a : Int) < 18446744073709551616 := by omega
  have h2 : (0 : Int) ≤ (b : Int) := by omega
  have h3 : (b : Int) < 18446744073709551616 := by omega
  have h4 : a = (a : Int).toNat := rfl
  have h5 : b = (b : Int).toNat := rfl
  generalize (a : Int) = z at *
  generalize (b : Int) = y at *
  subst h4 h5
  go_bits2
theorem pow_lt64 {e : Nat} (h : e < 64) : 2 ^ e < 18446744073709551616 := by
  have : (18446744073709551616 : Nat) = 2 ^ 64 := by decide
  rw [this]
  exact Nat.pow_lt_pow_right (by omega) h
theorem chW_same {x : Nat} (h1 : ¬ x = N - 1) (h2 : hb (x + 1) = hb x) : chW hk hb N x = hk x / 2 * 2 := by
  unfold chW
  rw [if_neg (fun h => h.elim h1 (fun h => h h2))]
  rfl
theorem chW_diff {x : Nat} (h : x = N - 1 ∨ ¬ hb (x + 1) = hb x) : chW hk hb N x = hk x / 2 * 2 + 1 := by
  unfold chW
  rw [if_pos h]
theorem wrap_pow {e : Nat} (h : e < 64) : IntKind.u64.wrap ((2 : Int) ^ e) = ((2 ^ e : Nat) : Int) := by
  have h1 : ((2 ^ e : Nat) : Int) = (2 : Int) ^ e := by rw [Int.natCast_pow]; rfl
  have h2 := pow_lt64 h
  rw [← h1]
  generalize 2 ^ e = p at *
  rw [IntKind.wrap_u64]
  omega
end
end Go.Proofs.Ytklaehlhkflcdaa
