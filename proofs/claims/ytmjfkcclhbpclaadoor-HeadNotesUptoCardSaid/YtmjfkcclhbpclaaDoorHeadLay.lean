/- Layer 4: a number is laid into bytes, the lowest first. -/
import Derived.Test.YtmjfkcclhbpclaaDoorHeadReadA
namespace Go.Proofs.YtmjfkcclhbpclaaDoor
open Go.RowKit
set_option linter.unusedVariables false
set_option linter.unusedSimpArgs false

/-- bytes in a block -/
def u8c (xs : List Nat) : Array Value := (xs.map fun x : Nat => Value.int .u8 (x : Int)).toArray
theorem u8c_set (xs : List Nat) (i x : Nat) : (u8c xs).setIfInBounds i (.int .u8 (x : Int)) = u8c (xs.set i x) := by
  unfold u8c
  rw [List.setIfInBounds_toArray, List.map_set]
/-- so many bytes of a number, the lowest first, over what lies at a place -/
def putF (xs : List Nat) (p : Nat) : Nat → Nat → List Nat
  | 0, _ => xs
  | n + 1, v => (putF xs p n v).set (p + n) (v / 256 ^ n % 256)
theorem putF_len (xs : List Nat) (p : Nat) : ∀ n v, (putF xs p n v).length = xs.length
  | 0, v => rfl
  | n + 1, v => by rw [putF, List.length_set, putF_len xs p n v]
/-- one block alone has changed -/
structure Only (g : Nat) (w w' : World) : Prop where
  blw : ∀ n, n ≤ g → Below n w w'
  oth : ∀ j, j ≠ g → w'.heap[j]? = w.heap[j]?
  size : w'.heap.size = w.heap.size
theorem Only.refl (g : Nat) (w : World) : Only g w w := ⟨fun n _ => Below.refl _ _, fun j _ => rfl, rfl⟩
theorem Only.trans {g : Nat} {w w' w'' : World} (h : Only g w w') (h' : Only g w' w'') : Only g w w'' := ⟨fun n hn => (h.blw n hn).trans (h'.blw n hn), fun j hj => (h'.oth j hj).trans (h.oth j hj), h'.size.trans h.size⟩
theorem Only.set (g : Nat) (w : World) (i : Nat) (v : Value) : Only g w (w.setCell ⟨g, i, none⟩ v) := ⟨fun n hn => (Below.refl n w).setCell (p := ⟨g, i, none⟩) hn v, fun j hj => heap_setCell_other w _ j v hj, by simp [World.setCell]⟩

theorem shr_nat (v k : Nat) : (v : Int) / 2 ^ (8 * k) % 256 = ((v / 256 ^ k % 256 : Nat) : Int) := by
  rw [show (256 : Nat) ^ k = 2 ^ (8 * k) by rw [show (256 : Nat) = 2 ^ 8 by decide, ← Nat.pow_mul]]
  rw [Int.natCast_emod, Int.natCast_ediv, Int.natCast_pow]
  rfl
set_option maxRecDepth 100000 in
set_option maxHeartbeats 8000000 in
theorem lay_any (g off m cap at_ n v : Nat) (xs : List Nat) (w : World) (hb : w.heap[g]? = some (.cells (u8c xs) 5)) (h1 : at_ + n ≤ m) (h2 : off + m ≤ xs.length) (hm : m ≤ 1048576) (hc : m ≤ cap) (h8 : n ≤ 8) (hv : v < 18446744073709551616) :
    Calls Tryd.prog 19 #[.slice (some ⟨g, off, none⟩) m cap, .int .i64 (at_ : Int), .int .i64 (n : Int), .int .u64 (v : Int)] w fun e w' => e = .returned (.tuple #[]) ∧ w'.heap[g]? = some (.cells (u8c (putF xs (off + at_) n v)) 5) ∧ Only g w w' := by
  have HB := Lib.hid hb
  have HM : Hid (at_ + n ≤ m ∧ off + m ≤ xs.length) := Lib.hid ⟨h1, h2⟩
  have hat : at_ ≤ 1048576 := by omega
  have hn8 : (n : Int) ≤ 8 := by omega
  clear hb h1 h2 hc
  go_enter Tryd.func19, Tryd.ntmps19
  go_wp2_with fail
  go_loopg [10] n (fun g2 iv wr => ∃ k : Nat, k + g2 = n ∧ iv = .int .i64 (k : Int) ∧ Hid (wr.heap[g]? = some (.cells (u8c (putF xs (off + at_) k v)) 5)) ∧ Hid (Only g w wr))
  case atStart => exact ⟨0, by omega, rfl, HB, Lib.hid (Only.refl _ _)⟩
  case round =>
    obtain ⟨k, hk, rfl, HR, HO⟩ := hrel
    cases gk with
    | zero =>
      have hkn : k = n := by omega
      subst hkn
      clear hk
      go_wp2_with fail
      go_returns
      exact ⟨rfl, HR.out, HO.out⟩
    | succ g2 =>
      have hlt : k < n := by omega
      have HK := Lib.hid hk
      have i1 : (k : Int) < (n : Int) := by omega
      have w1 : IntKind.i64.wrap ((at_ : Int) + (k : Int)) = (at_ : Int) + (k : Int) := by rw [IntKind.wrap_i64]; omega
      have w2 : IntKind.i64.wrap ((8 : Int) * (k : Int)) = 8 * (k : Int) := by rw [IntKind.wrap_i64]; omega
      have j0 : (0 : Int) ≤ (at_ : Int) + (k : Int) := by omega
      have j1 : (at_ : Int) + (k : Int) < (m : Int) := by have := HM.out; omega
      have hlen := putF_len xs (off + at_) k v
      have q0 : wr.cell? ⟨g, off + (at_ + k), none⟩ = some (.int .u8 (((putF xs (off + at_) k v)[off + (at_ + k)]'(by have := HM.out; omega) : Nat) : Int)) := by
        rw [cell_of_row _ _ _ _ _ _ HR.out]
        unfold u8c
        have hl2 : off + (at_ + k) < (putF xs (off + at_) k v).length := by have := HM.out; omega
        simp [hl2]
      have f0 : wr.frozen? ⟨g, off + (at_ + k), none⟩ = false := frozen_of_row _ _ _ _ _ HR.out
      clear hk
      go_wp2_with fail
      have S : Hid ((wr.setCell ⟨g, off + (at_ + k), none⟩ (.int .u8 ((v : Int) / 2 ^ (8 * k) % 256))).heap[g]? = some (.cells (u8c (putF xs (off + at_) (k + 1) v)) 5) ∧ Only g w (wr.setCell ⟨g, off + (at_ + k), none⟩ (.int .u8 ((v : Int) / 2 ^ (8 * k) % 256)))) := Lib.hid (by
        refine ⟨?_, HO.out.trans (Only.set _ _ _ _)⟩
        rw [heap_setCell_same _ _ _ _ _ _ HR.out, shr_nat, u8c_set, putF, show off + at_ + k = off + (at_ + k) by omega])
      go_roundg g2
      case measure => have := HK.out; omega
      case rel => exact ⟨k + 1, by have := HK.out; omega, by go_num, Lib.hid S.out.1, Lib.hid S.out.2⟩
end Go.Proofs.YtmjfkcclhbpclaaDoor
