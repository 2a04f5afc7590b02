/- Layer 7: both hashes of a name. -/
import Derived.Test.YtnaejlfjlennhaaGreatDoorBase
import Derived.Laws.BitsAllLaws
namespace Go.Proofs.YtnaejlfjlennhaaGreatDoor
open Go.RowKit
set_option linter.unusedVariables false
set_option linter.unusedSimpArgs false

def gnuOf (l : List UInt8) : Int := l.foldl (fun h b => (h * 33 + (b.toNat : Int)) % 4294967296) 5381
theorem gnuOf_snoc (l : List UInt8) (b : UInt8) : gnuOf (l ++ [b]) = (gnuOf l * 33 + (b.toNat : Int)) % 4294967296 := by simp [gnuOf]
theorem gnuOf_bounds (l : List UInt8) : 0 ≤ gnuOf l ∧ gnuOf l < 4294967296 := by
  rcases List.eq_nil_or_concat l with rfl | ⟨xs, b, rfl⟩
  · exact ⟨by decide, by decide⟩
  · rw [List.concat_eq_append, gnuOf_snoc]; omega

theorem take_bytes (s : ByteArray) (k : Nat) (h : k < s.size) : s.data.toList.take (k + 1) = s.data.toList.take k ++ [s[k]] := by
  rw [List.take_succ_eq_append_getElem (by simpa using h)]
  rfl

def sysStep (h b : Nat) : Nat := ((h * 16 + b) % 4294967296 ^^^ ((h * 16 + b) % 4294967296 / 268435456 * 16)) % 268435456
def sysOf (l : List UInt8) : Nat := l.foldl (fun h b => sysStep h b.toNat) 0
theorem sysOf_snoc (l : List UInt8) (b : UInt8) : sysOf (l ++ [b]) = sysStep (sysOf l) b.toNat := by simp [sysOf]
theorem bit_hi (a j : Nat) : (a / 268435456 * 268435456).testBit j = (decide (28 ≤ j) && a.testBit j) := by
  have e : a / 268435456 * 268435456 = (a >>> 28) <<< 28 := by rw [Nat.shiftLeft_eq, Nat.shiftRight_eq_div_pow]
  rw [e, Nat.testBit_shiftLeft, Nat.testBit_shiftRight]
  by_cases h : 28 ≤ j
  · simp [h]
  · simp [h]
theorem bit_top {a j n : Nat} (h : a < 2 ^ n) (hj : n ≤ j) : a.testBit j = false :=
  Nat.testBit_lt_two_pow (Nat.lt_of_lt_of_le h (Nat.pow_le_pow_right (by omega) hj))
theorem hi_mask (a : Nat) (h : a < 4294967296) : a &&& 4026531840 = a / 268435456 * 268435456 := by
  apply Nat.eq_of_testBit_eq
  intro j
  rw [bit_hi, Nat.testBit_and, show (4026531840 : Nat) = 15 <<< 28 from rfl, Nat.testBit_shiftLeft]
  by_cases h1 : 28 ≤ j
  · by_cases h2 : j < 32
    · have : j = 28 ∨ j = 29 ∨ j = 30 ∨ j = 31 := by omega
      rcases this with rfl | rfl | rfl | rfl <;> simp [show Nat.testBit 15 0 = true from rfl, show Nat.testBit 15 1 = true from rfl, show Nat.testBit 15 2 = true from rfl, show Nat.testBit 15 3 = true from rfl]
    · rw [bit_top (n := 32) (by omega) (by omega : 32 ≤ j)]
      simp
  · simp [h1]
theorem clear_hi (a y : Nat) (h : a < 4294967296) (hy : y < 268435456) : (a ^^^ y) &&& (4294967295 - a / 268435456 * 268435456) = (a ^^^ y) % 268435456 := by
  apply Nat.eq_of_testBit_eq
  intro j
  have hg : a / 268435456 * 268435456 < 2 ^ 32 := by omega
  have e : 4294967295 - a / 268435456 * 268435456 = 2 ^ 32 - (a / 268435456 * 268435456 + 1) := by omega
  rw [Nat.testBit_and, e, Nat.testBit_two_pow_sub_succ hg, bit_hi, show (268435456 : Nat) = 2 ^ 28 from rfl, Nat.testBit_mod_two_pow, Nat.testBit_xor]
  by_cases h1 : 28 ≤ j
  · rw [bit_top (a := y) (n := 28) (by omega) h1]
    have : ¬ j < 28 := by omega
    cases a.testBit j <;> simp [h1, this]
  · have h2 : j < 28 := by omega
    have h3 : j < 32 := by omega
    simp [h1, h2, h3]

theorem sys_go (t c : Nat) (ht : t < 268435456) (hc : c < 256) :
    bits .andNot .u32 (bits .xor .u32 (((t : Int) * 16 + (c : Int)) % 4294967296) (bits .and .u32 (((t : Int) * 16 + (c : Int)) % 4294967296) 4026531840 / 16777216)) (bits .and .u32 (((t : Int) * 16 + (c : Int)) % 4294967296) 4026531840) = ((sysStep t c : Nat) : Int) := by
  have ha : (t * 16 + c) % 4294967296 < 4294967296 := by omega
  have e : ((t : Int) * 16 + (c : Int)) % 4294967296 = (((t * 16 + c) % 4294967296 : Nat) : Int) := by omega
  unfold sysStep
  rw [e]
  generalize (t * 16 + c) % 4294967296 = a at *
  have e1 : bits .and .u32 (a : Int) 4026531840 = ((a / 268435456 * 268435456 : Nat) : Int) := by
    rw [show (4026531840 : Int) = ((4026531840 : Nat) : Int) from rfl, u32_and_nat a _ ha (by omega), hi_mask a ha]
  have e2 : ((a / 268435456 * 268435456 : Nat) : Int) / 16777216 = ((a / 268435456 * 16 : Nat) : Int) := by omega
  rw [e1, e2, u32_xor_nat a _ ha (by omega), u32_andNot_nat _ _ (Nat.xor_lt_two_pow (n := 32) (by omega) (by omega)) (by omega), clear_hi a _ ha (by omega)]

theorem sys_ref (t c : Nat) (ht : t < 268435456) (hc : c < 256) :
    (bits .xor .u32 ((16 * (t : Int) + (c : Int)) % 4294967296) ((16 * (t : Int) + (c : Int)) % 4294967296 / 268435456 * 16)).tmod 268435456 = ((sysStep t c : Nat) : Int) := by
  have ha : (t * 16 + c) % 4294967296 < 4294967296 := by omega
  have e : (16 * (t : Int) + (c : Int)) % 4294967296 = (((t * 16 + c) % 4294967296 : Nat) : Int) := by omega
  unfold sysStep
  rw [e]
  generalize (t * 16 + c) % 4294967296 = a at *
  have e2 : ((a : Nat) : Int) / 268435456 * 16 = ((a / 268435456 * 16 : Nat) : Int) := by omega
  rw [e2, u32_xor_nat a _ ha (by omega)]
  rfl

theorem sysStep_lt (h b : Nat) : sysStep h b < 268435456 := Nat.mod_lt _ (by decide)














































set_option maxHeartbeats 1000000 in
theorem sysv_any (s : ByteArray) (w : World) (hs : s.size ≤ 9223372036854775807) :
    Calls Tryz.prog 110 #[.string s] w fun e w' => e = .returned (.int .u32 (sysOf s.data.toList)) ∧ w = w' := by
  go_enter Tryz.func110, Tryz.ntmps110
  go_wp2
  go_loop [3, 5, 8] (fun v g i => ∃ (k t : Nat), k ≤ s.size ∧ i = .int .i64 k ∧ v = .int .u32 t ∧ Hid (t = sysOf (s.data.toList.take k)) ∧ t < 268435456) (fun _ _ i => s.size - (intOf i).toNat)
  case atStart => exact ⟨0, 0, Nat.zero_le _, rfl, rfl, Lib.hid rfl, by omega⟩
  case round =>
    obtain ⟨k, t, hk, rfl, rfl, ht, ht1⟩ := hrel
    by_cases hlt : k < s.size
    · have HS := Lib.hid (show sysOf (s.data.toList.take (k + 1)) = sysStep t s[k].toNat from by rw [take_bytes s k hlt, sysOf_snoc, ht.out])
      have hb : s[k].toNat < 256 := s[k].toNat_lt
      go_wp2
      go_round
      case rel => exact ⟨k + 1, sysStep t s[k].toNat, by omega, by go_num, vint (sys_go t s[k].toNat ht1 hb), Lib.hid HS.out.symm, sysStep_lt _ _⟩
      case measure => simp [intOf]; omega
    · have hk' : k = s.size := by omega
      have HK := Lib.hid hk'; clear hk'
      go_wp2
      go_ret
      exact ⟨ret1 (vint (by rw [ht.out, HK.out, List.take_of_length_le (by simp)])), rfl⟩

























end Go.Proofs.YtnaejlfjlennhaaGreatDoor
/- Layer 7: the examples at the head of the statements. -/
namespace Go.Proofs.YtnaejlfjlennhaaGreatDoor
open Go.RowKit
set_option linter.unusedVariables false
set_option linter.unusedSimpArgs false

theorem sys_lit : ((sysOf (⟨#[112, 114, 105, 110, 116, 102]⟩ : ByteArray).data.toList : Nat) : Int) = 125371814 := by decide +kernel
theorem gnu_lit : gnuOf (⟨#[112, 114, 105, 110, 116, 102]⟩ : ByteArray).data.toList = 359345080 := by decide +kernel































end Go.Proofs.YtnaejlfjlennhaaGreatDoor
