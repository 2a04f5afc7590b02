/- Layer 7: do the bloom words let a hash through? -/
import Derived.Test.YtpilccalgegadaaBloomN
namespace Go.Proofs.Ytpilccalgegadaa
open Go.RowKit
set_option linter.unusedVariables false
set_option linter.unusedSimpArgs false

theorem and_one64 (x e : Nat) (h : x < 18446744073709551616) : bits .and .u64 ((x : Int) / 2 ^ e) 1 = ((x / 2 ^ e % 2 : Nat) : Int) := by
  have h2 : (x : Int) / 2 ^ e = ((x / 2 ^ e : Nat) : Int) := by rw [Int.natCast_ediv, Int.natCast_pow]; rfl
  rw [h2]
  have h3 : x / 2 ^ e ≤ x := Nat.div_le_self _ _
  generalize x / 2 ^ e = y at *
  have := show bits .and .u64 (y : Int) 1 = (y : Int) % 2 from by
    have h0 : (0 : Int) ≤ (y : Int) := by omega
    have h1 : (y : Int) < 18446744073709551616 := by omega
    generalize (y : Int) = z at *
    go_bits2
  rw [this]
  omega

set_option maxRecDepth 100000 in
set_option maxHeartbeats 4000000 in
theorem may_any (a : Option Addr) (len cap : Nat) (ty en : Int) (p : Option Addr) (n pc : Nat) (t : BT) (ba : Option Addr) (bc : Nat) (ua : Option Addr) (uc : Nat) (k : Nat) (w : World) (hk : k < 4294967296) (hs : t.shift < 32)
    (hr : Row .u64 w ba (toI t.bloom)) (hlt : ∀ x ∈ t.bloom, x < 18446744073709551616) (hb0 : 0 < t.bloom.length) (hbl : t.bloom.length ≤ 4096) :
    Calls Try.prog 33 #[bloomV a len cap ty en p n pc t ba bc ua uc, .int .u32 (k : Int)] w fun e w' => e = .returned (.bool (mayF t k)) ∧ Below w.heap.size w w' := by
  obtain ⟨R, hR⟩ : ∃ R, mayF t k = R := ⟨_, rfl⟩
  rw [hR]
  have HR := Lib.hid hR
  unfold mayF at HR
  have hqlt : k / 64 % t.bloom.length < t.bloom.length := Nat.mod_lt _ hb0
  obtain ⟨b, o, rfl, hc⟩ := hr (k / 64 % t.bloom.length) (by rw [toI_length]; exact hqlt)
  rw [toI_getD] at hc
  have hblt : b < w.heap.size := by simpa using World.block_lt_of_cell? w _ hc
  have hvl : t.bloom.getD (k / 64 % t.bloom.length) 0 < 18446744073709551616 := by
    refine hlt _ ?_
    rw [List.getD, List.getElem?_eq_getElem hqlt]
    exact List.getElem_mem _
  unfold bloomV
  obtain ⟨fi, hfi⟩ : ∃ fi, t.first = fi := ⟨_, rfl⟩
  obtain ⟨ul, hul0⟩ : ∃ ul, t.buckets.length = ul := ⟨_, rfl⟩
  obtain ⟨ba0, hba0⟩ : ∃ ba0, t.base = ba0 := ⟨_, rfl⟩
  rw [hfi, hul0, hba0]
  clear hfi hul0 hba0 hR hr hlt
  have e1 : (k : Int).tdiv 64 = ((k / 64 : Nat) : Int) := by rw [Int.tdiv_eq_ediv_of_nonneg (by omega)]; omega
  have e2 : wrap64 ((k / 64 : Nat) : Int) = ((k / 64 : Nat) : Int) := wrap_word (by omega)
  have e6 : IntKind.u32.wrap ((k / 64 : Nat) : Int) = ((k / 64 : Nat) : Int) := by rw [IntKind.wrap_u32]; omega
  have e7 : IntKind.i64.wrap ((k / 64 : Nat) : Int) = ((k / 64 : Nat) : Int) := by rw [IntKind.wrap_i64]; omega
  have e3 : ((k / 64 : Nat) : Int).tmod (t.bloom.length : Int) = ((k / 64 % t.bloom.length : Nat) : Int) := by rw [Int.tmod_eq_emod_of_nonneg (by omega)]; omega
  have e4 : (k : Int).tmod 64 = ((k % 64 : Nat) : Int) := by rw [Int.tmod_eq_emod_of_nonneg (by omega)]; omega
  have e5 : ¬ t.bloom.length = 0 := by omega
  have HK1 : Hid (k % 64 < 64) := Lib.hid (Nat.mod_lt _ (by omega))
  have HK2 : Hid (k / 2 ^ t.shift % 64 < 64) := Lib.hid (Nat.mod_lt _ (by omega))
  generalize t.bloom.getD (k / 64 % t.bloom.length) 0 = v at *
  generalize t.bloom.length = bl at *
  generalize k / 64 % bl = q at *
  generalize k / 64 = kq at *
  have hqi : (q : Int) < (bl : Int) := by omega
  have hq0 : (0 : Int) ≤ (q : Int) := by omega
  generalize hsh : t.shift = sh at *
  go_enter Try.func33, Try.ntmps33
  go_wp2
  go_quiet (fail)
  have b1 := and_one64 v (k % 64) hvl
  have hm1 : v / 2 ^ (k % 64) % 2 = 0 ∨ v / 2 ^ (k % 64) % 2 = 1 := by omega
  rcases hm1 with h1 | h1
  · rw [h1] at b1 HR
    have HE : Hid (R = false) := Lib.hid (by rw [← HR.out]; rfl)
    clear h1 HR
    go_wp2_with fail
    go_ret
    exact ⟨by rw [HE.out]; rfl, below_drewN ((Below.refl _ _).alloc (Nat.le_refl _) _) _⟩
  · rw [h1] at b1 HR
    have e8 : ((k : Int) / 2 ^ sh).tmod 64 = ((k / 2 ^ sh % 64 : Nat) : Int) := by
      have h2 : (k : Int) / 2 ^ sh = ((k / 2 ^ sh : Nat) : Int) := by rw [Int.natCast_ediv, Int.natCast_pow]; rfl
      rw [h2]
      generalize k / 2 ^ sh = z
      rw [Int.tmod_eq_emod_of_nonneg (Int.natCast_nonneg _)]
      omega
    generalize k / 2 ^ sh % 64 = m2 at *
    have b2 := and_one64 v m2 hvl
    have hm2 : v / 2 ^ m2 % 2 = 0 ∨ v / 2 ^ m2 % 2 = 1 := by omega
    have hm3 := HK2.out
    rcases hm2 with h2 | h2
    · rw [h2] at b2 HR
      have HE : Hid (R = false) := Lib.hid (by rw [← HR.out]; rfl)
      clear h1 h2 HR
      go_wp2_with fail
      go_ret
      exact ⟨by rw [HE.out]; rfl, below_drewN ((Below.refl _ _).alloc (Nat.le_refl _) _) _⟩
    · rw [h2] at b2 HR
      have HE : Hid (R = true) := Lib.hid (by rw [← HR.out]; rfl)
      clear h1 h2 HR
      go_wp2_with fail
      go_ret
      exact ⟨by rw [HE.out]; rfl, below_drewN ((Below.refl _ _).alloc (Nat.le_refl _) _) _⟩
end Go.Proofs.Ytpilccalgegadaa
