/- Layer 7: how many bits of a word are 1. -/
import Derived.Test.YtpilccalgegadaaHashFirst
import Derived.BigQuiet
import Derived.Lib.Tables
namespace Go.Proofs.Ytpilccalgegadaa
open Go.RowKit
set_option linter.unusedVariables false
set_option linter.unusedSimpArgs false

/-- the bits of a word that are 1, by a table of bytes -/
def onesF (x : Nat) : Int := Lib.pop8 ((x : Int) / 16777216) + Lib.pop8 ((x : Int) / 65536 % 256) + Lib.pop8 ((x : Int) / 256 % 256) + Lib.pop8 ((x : Int) % 256)
theorem and_low8 (z : Int) (h0 : 0 ≤ z) (h1 : z < 4294967296) : bits .and .u32 z 255 = z % 256 := by go_bits2
theorem pop8_le (z : Int) : 0 ≤ Lib.pop8 (z % 256) ∧ Lib.pop8 (z % 256) ≤ 8 := by
  have all : ∀ j : Fin 256, 0 ≤ Lib.pop8 ((j.val : Nat) : Int) ∧ Lib.pop8 ((j.val : Nat) : Int) ≤ 8 := by decide +kernel
  have h := all ⟨(z % 256).toNat, by omega⟩
  simp only at h
  rwa [Int.toNat_of_nonneg (by omega)] at h

set_option maxRecDepth 100000 in
set_option maxHeartbeats 4000000 in
theorem ones_any (x : Nat) (hx : x < 4294967296) (w : World) : Calls Try.prog 24 #[.int .u32 (x : Int)] w fun e w' => e = .returned (.int .i64 (onesF x)) ∧ Below w.heap.size w w' := by
  have h0 : (0 : Int) ≤ (x : Int) / 16777216 := by omega
  have h1 : (x : Int) / 16777216 ≤ 255 := by omega
  have e1 := and_low8 ((x : Int) / 65536) (by omega) (by omega)
  have e2 := and_low8 ((x : Int) / 256) (by omega) (by omega)
  have e3 := and_low8 (x : Int) (by omega) (by omega)
  have p0 := pop8_le ((x : Int) / 16777216)
  rw [Int.emod_eq_of_lt h0 (by omega)] at p0
  have P0 := Lib.hid p0
  have P1 := Lib.hid (pop8_le ((x : Int) / 65536))
  have P2 := Lib.hid (pop8_le ((x : Int) / 256))
  have P3 := Lib.hid (pop8_le (x : Int))
  clear hx p0
  go_enter Try.func24, Try.ntmps24
  generalize hT : ByteArray.mk _ = T
  obtain rfl : T = Lib.pop8tab := by rw [← hT]; rfl
  clear hT
  go_wp2
  go_quiet (fail)
  go_wp2
  go_ret
  obtain ⟨a1, a2⟩ := P0.out
  obtain ⟨a3, a4⟩ := P1.out
  obtain ⟨a5, a6⟩ := P2.out
  obtain ⟨a7, a8⟩ := P3.out
  have hs : (Lib.pop8 ((x : Int) / 16777216) + Lib.pop8 ((x : Int) / 65536 % 256) + Lib.pop8 ((x : Int) / 256 % 256) + Lib.pop8 ((x : Int) % 256)) % 256 = onesF x := by
    clear e1 e2 e3 h0 h1
    unfold onesF
    omega
  exact ⟨by rw [← hs]; rfl, below_drewN (Below.refl _ _) _⟩
theorem ones_four : onesF 4 = 1 := by decide +kernel
end Go.Proofs.Ytpilccalgegadaa
