/- Numbers in bytes, the lowest first: the program's answer and the document's. -/
import Derived.Test.YtmnjkaimpejohaaGreatDoorKit
import Derived.Deep.LoopGhost
import Derived.Laws.BitsAllLaws
namespace Go.Proofs.YtmnjkaimpejohaaGreatDoor
open Go.RowKit
set_option linter.unusedVariables false
set_option linter.unusedSimpArgs false

/-- the number that bytes tell -/
def numOf : List Nat → Nat
  | [] => 0
  | b :: bs => b + 256 * numOf bs
theorem numOf_lt (bs : List Nat) (h : ∀ b ∈ bs, b < 256) : numOf bs < 256 ^ bs.length := by
  induction bs with
  | nil => exact Nat.one_pos
  | cons b bs ih =>
    have h1 := ih (fun x hx => h x (by simp [hx]))
    have h2 := h b (by simp)
    simp only [numOf, List.length_cons, Nat.pow_succ]
    omega
theorem numOf_snoc (bs : List Nat) (b : Nat) : numOf (bs ++ [b]) = numOf bs + 256 ^ bs.length * b := by
  induction bs with
  | nil => simp [numOf]
  | cons x bs ih =>
    simp only [List.cons_append, numOf, ih, List.length_cons, Nat.pow_succ]
    rw [Nat.mul_add, ← Nat.mul_assoc, Nat.mul_comm 256 (256 ^ bs.length)]
    omega

/-- a slice of bytes, as naturals -/
def BRow (w : World) (a : Option Addr) (bs : List Nat) : Prop := Row .u8 w a (toI bs) ∧ ∀ b ∈ bs, b < 256
theorem BRow.at {w : World} {a : Option Addr} {bs : List Nat} (h : BRow w a bs) {i : Nat} (hi : i < bs.length) : ∃ b off, a = some ⟨b, off, none⟩ ∧ b < w.heap.size ∧ w.cell? ⟨b, off + i, none⟩ = some (.int .u8 ((bs.getD i 0 : Nat) : Int)) ∧ bs.getD i 0 < 256 := by
  obtain ⟨b, off, e, hc⟩ := h.1 i (by rw [toI_length]; exact hi)
  rw [toI_getD] at hc
  refine ⟨b, off, e, by simpa using World.block_lt_of_cell? w _ hc, hc, ?_⟩
  refine h.2 _ ?_
  simp [List.getD, hi]
theorem BRow.below {w w' : World} {a : Option Addr} {bs : List Nat} (h : BRow w a bs) (hb : Below w.heap.size w w') : BRow w' a bs := ⟨h.1.below hb, h.2⟩

theorem pow256 (k : Nat) (h : k < 8) : (256 : Nat) ^ k = 2 ^ (8 * k) ∧ 8 * k < 64 := ⟨by rw [Nat.pow_mul], by omega⟩
theorem num_take {bs : List Nat} {k : Nat} (hk : k < bs.length) : numOf (bs.take (k + 1)) = numOf (bs.take k) + 256 ^ k * bs.getD k 0 := by
  rw [List.take_succ_eq_append_getElem hk, numOf_snoc, List.length_take, Nat.min_eq_left (by omega), getD_getElem hk]

/-- v | c << 8k -/
theorem or_byte (v c k : Nat) (hk : k < 8) (hv : v < 256 ^ k) (hc : c < 256) : bits .or .u64 (v : Int) (IntKind.u64.wrap ((c : Int) * 2 ^ (8 * k))) = ((v + 256 ^ k * c : Nat) : Int) := by
  obtain ⟨h1, h2⟩ := pow256 k hk
  have hp : 256 ^ k * c < 18446744073709551616 := by
    have : 256 ^ k * c < 256 ^ k * 256 := (Nat.mul_lt_mul_left (by exact Nat.pow_pos (by omega))).2 hc
    have h3 : 256 ^ k * 256 = 256 ^ (k + 1) := (Nat.pow_succ 256 k).symm
    have h4 : 256 ^ (k + 1) ≤ 256 ^ 8 := Nat.pow_le_pow_right (by omega) (by omega)
    have h5 : (256 : Nat) ^ 8 = 18446744073709551616 := by decide
    omega
  have e : (c : Int) * 2 ^ (8 * k) = ((256 ^ k * c : Nat) : Int) := by
    rw [Int.natCast_mul, h1, Int.natCast_pow, Int.mul_comm]
    rfl
  have hw : IntKind.u64.wrap ((c : Int) * 2 ^ (8 * k)) = ((256 ^ k * c : Nat) : Int) := by
    rw [e, IntKind.wrap_u64]
    generalize 256 ^ k * c = z at *
    omega
  have hv2 : v < 18446744073709551616 := by
    have h4 : 256 ^ k ≤ 256 ^ 8 := Nat.pow_le_pow_right (by omega) (by omega)
    have h5 : (256 : Nat) ^ 8 = 18446744073709551616 := by decide
    omega
  rw [hw, u64_or_nat v _ hv2 hp]
  have := Nat.two_pow_add_eq_or_of_lt (i := 8 * k) (by rw [← h1]; exact hv) c
  rw [h1, Nat.or_comm, ← this, Nat.add_comm]








































end Go.Proofs.YtmnjkaimpejohaaGreatDoor
