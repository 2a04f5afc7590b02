/- Layer 7, the document's own answer: the hash of a name of the first kind. -/
import Derived.Test.YtikpkblemegggaaSysv
namespace Go.Proofs.Ytikpkblemegggaa
open Go.RowKit
set_option linter.unusedVariables false
set_option linter.unusedSimpArgs false

theorem sys_ref (t c : Nat) (ht : t < 268435456) (hc : c < 256) :
    (bits .xor .u32 ((16 * (t : Int) + (c : Int)) % 4294967296) ((16 * (t : Int) + (c : Int)) % 4294967296 / 268435456 * 16)).tmod 268435456 = ((sysStep t c : Nat) : Int) := by
  have ha : (t * 16 + c) % 4294967296 < 4294967296 := by omega
  have e : (16 * (t : Int) + (c : Int)) % 4294967296 = (((t * 16 + c) % 4294967296 : Nat) : Int) := by omega
  unfold sysStep
  rw [e]
  generalize (t * 16 + c) % 4294967296 = a at *
  have e2 : ((a : Nat) : Int) / 268435456 * 16 = ((a / 268435456 * 16 : Nat) : Int) := by omega
  rw [e2, u32_xor_nat a _ ha (by omega)]
  rfl

set_option maxHeartbeats 1000000 in
theorem refSysv (s : ByteArray) (w : World) (hs : s.size ≤ 9223372036854775807) :
    Calls Try.prog 41 #[.string s] w fun e w' => e = .returned (.int .u32 (sysOf s.data.toList)) ∧ w = w' := by
  go_enter Try.func41, Try.ntmps41
  go_wp2
  go_loop [3, 4, 5] (fun v i g => ∃ (k t : Nat), k ≤ s.size ∧ i = .int .i64 k ∧ v = .int .u32 t ∧ Hid (t = sysOf (s.data.toList.take k)) ∧ t < 268435456) (fun _ i _ => s.size - (intOf i).toNat)
  case atStart => exact ⟨0, 0, Nat.zero_le _, rfl, rfl, Lib.hid rfl, by omega⟩
  case round =>
    obtain ⟨k, t, hk, rfl, rfl, ht, ht1⟩ := hrel
    by_cases hlt : k < s.size
    · have HS := Lib.hid (show sysOf (s.data.toList.take (k + 1)) = sysStep t s[k].toNat from by rw [take_bytes s k hlt, sysOf_snoc, ht.out])
      have hb : s[k].toNat < 256 := s[k].toNat_lt
      go_wp2
      go_round
      case rel => exact ⟨k + 1, sysStep t s[k].toNat, by omega, by go_num, vint (sys_ref t s[k].toNat ht1 hb), Lib.hid HS.out.symm, sysStep_lt _ _⟩
      case measure => simp [intOf]; omega
    · have hk' : k = s.size := by omega
      have HK := Lib.hid hk'; clear hk'
      go_wp2
      go_ret
      exact ⟨ret1 (vint (by rw [ht.out, HK.out, List.take_of_length_le (by simp)])), rfl⟩
theorem sysOf_lt (l : List UInt8) : sysOf l < 268435456 := by
  rcases List.eq_nil_or_concat l with rfl | ⟨xs, b, rfl⟩
  · decide
  · rw [List.concat_eq_append, sysOf_snoc]; exact sysStep_lt _ _
end Go.Proofs.Ytikpkblemegggaa
