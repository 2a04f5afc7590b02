/- Layer 19: what a relocation writes, as numbers; the program's own answer. -/
import Derived.Test.YtodondhlicedoaaErrs
import Derived.BigQuiet
import Derived.WalkSmall
import Derived.Laws.BitsAllLaws
namespace Go.Proofs.Ytodondhlicedoaa
open Go.RowKit
set_option linter.unusedVariables false
set_option linter.unusedSimpArgs false

/-- what comes in -/
structure Inp where
  off : Int
  ty : Int
  sym : Int
  add : Int
  base : Int
  addr : Int
  size : Int
  module : Int
  offset : Int
  static : Bool
  below : Int

def W64 (x : Int) : Int := IntKind.u64.wrap x
theorem W64_eq (x : Int) : W64 x = x % 18446744073709551616 := by unfold W64; rw [IntKind.wrap_u64]

def Inp.relV (i : Inp) : Value := .agg #[.int .u64 i.off, .int .i64 i.ty, .int .i64 i.sym, .int .i64 i.add]
def Inp.boundV (i : Inp) : Value := .agg #[.int .u64 i.addr, .int .u64 i.size, .int .i64 i.module, .int .u64 i.offset, .bool i.static, .int .u64 i.below]

def sg (v : Int) : Int × Int × Int := if v < 2147483648 ∨ 18446744071562067968 ≤ v then (v % 4294967296, 4, 0) else (0, 0, 20)
def un (v : Int) : Int × Int × Int := if v < 4294967296 then (v, 4, 0) else (0, 0, 20)

def answer (e : Ending) (f : Int → Value) (r : Int × Int × Int) : Prop := e = .returned (.tuple #[.int .u64 r.1, .int .i64 r.2.1, f r.2.2])

theorem and_low (n : Nat) (h : n < 18446744073709551616) : bits .and .u64 (n : Int) 4294967295 = ((n % 4294967296 : Nat) : Int) := by
  have := u64_and_nat n 4294967295 h (by omega)
  rw [show ((4294967295 : Nat) : Int) = 4294967295 from rfl] at this
  rw [this, show (4294967295 : Nat) = 2 ^ 32 - 1 from rfl, Nat.and_two_pow_sub_one_eq_mod]

theorem signed_any (v : Int) (w : World) (h0 : 0 ≤ v) (h1 : v < 18446744073709551616) :
    Calls Try.prog 9 #[.int .u64 v] w fun e w' => answer e errV (sg v) ∧ w = w' := by
  have hs : wrap64 v = (v + 9223372036854775808) % 18446744073709551616 - 9223372036854775808 := by
    simp [wrap64]
  have ha : bits .and .u64 v 4294967295 = v % 4294967296 := by
    obtain ⟨n, rfl⟩ := Int.eq_ofNat_of_zero_le h0
    rw [and_low n (by omega)]
    omega
  unfold sg
  by_cases h : v < 2147483648 ∨ 18446744071562067968 ≤ v
  · rw [if_pos h]
    have h2 : -2147483648 ≤ wrap64 v ∧ wrap64 v ≤ 2147483647 := by rw [hs]; omega
    clear hs h
    obtain ⟨h3, h4⟩ := h2
    go_enter Try.func9, Try.ntmps9
    go_wp2
    go_ret3
    exact ⟨rfl, rfl⟩
  · rw [if_neg h]
    have h2 : wrap64 v < -2147483648 ∨ 2147483647 < wrap64 v := by rw [hs]; omega
    clear hs h ha
    rcases h2 with h3 | h3
    · go_enter Try.func9, Try.ntmps9
      go_wp2
      go_ret3
      exact ⟨rfl, rfl⟩
    · have h4 : ¬ wrap64 v < -2147483648 := by omega
      go_enter Try.func9, Try.ntmps9
      go_wp2
      go_ret3
      exact ⟨rfl, rfl⟩

theorem unsigned_any (v : Int) (w : World) (h0 : 0 ≤ v) (h1 : v < 18446744073709551616) :
    Calls Try.prog 10 #[.int .u64 v] w fun e w' => answer e errV (un v) ∧ w = w' := by
  unfold un
  by_cases h : v < 4294967296
  · rw [if_pos h]
    have h2 : ¬ 4294967295 < v := by omega
    go_enter Try.func10, Try.ntmps10
    go_wp2
    go_ret3
    exact ⟨rfl, rfl⟩
  · rw [if_neg h]
    have h2 : 4294967295 < v := by omega
    go_enter Try.func10, Try.ntmps10
    go_wp2
    go_ret3
    exact ⟨rfl, rfl⟩

/-- P19.1 -/
def Inp.a (i : Inp) : Int := W64 i.add
def Inp.place (i : Inp) : Int := W64 (i.base + i.off)
def Inp.val (i : Inp) : Int × Int × Int :=
  if i.ty = 0 then (0, 0, 0)
  else if i.ty = 1 then (W64 (i.addr + i.a), 8, 0)
  else if i.ty = 2 then sg (W64 (W64 (i.addr + i.a) - i.place))
  else if i.ty = 6 ∨ i.ty = 7 then (i.addr, 8, 0)
  else if i.ty = 8 ∨ i.ty = 37 then (W64 (i.base + i.a), 8, 0)
  else if i.ty = 10 then un (W64 (i.addr + i.a))
  else if i.ty = 11 then sg (W64 (i.addr + i.a))
  else if i.ty = 16 then (W64 i.module, 8, 0)
  else if i.ty = 17 then (W64 (i.offset + i.a), 8, 0)
  else if i.ty = 18 then (if i.module ≠ 0 ∧ i.static = false then (0, 0, 21) else (W64 (W64 (i.offset + i.a) - i.below), 8, 0))
  else if i.ty = 24 then (W64 (W64 (i.addr + i.a) - i.place), 8, 0)
  else if i.ty = 32 then un (W64 (i.size + i.a))
  else if i.ty = 33 then (W64 (i.size + i.a), 8, 0)
  else (0, 0, 20)

theorem W64_bounds (x : Int) : 0 ≤ W64 x ∧ W64 x < 18446744073709551616 := by rw [W64_eq]; omega

set_option maxRecDepth 100000 in
set_option maxHeartbeats 4000000 in
theorem value_0 (i : Inp) (w : World) (h : i.ty = 0) :
    Calls Try.prog 6 #[i.relV, .int .u64 i.base, i.boundV] w fun e w' => answer e errV i.val ∧ Below w.heap.size w w' := by
  have hv : i.val = (0, 0, 0) := by simp [Inp.val, h]
  rw [hv]
  clear hv
  obtain ⟨off, ty, sym, add, base, addr, size, module, offset, static, below⟩ := i
  simp only at h
  subst h
  simp only [Inp.relV, Inp.boundV, Inp.a, Inp.place, W64]
  go_enter Try.func6, Try.ntmps6
  go_wp2_with fail
  go_quiet (fail)
  go_wp2
  go_ret3
  exact ⟨rfl, below_drewN (((Below.refl _ _).alloc (Nat.le_refl _) _).alloc (by simp) _) nq⟩

set_option maxRecDepth 100000 in
set_option maxHeartbeats 4000000 in
theorem value_1 (i : Inp) (w : World) (h : i.ty = 1) :
    Calls Try.prog 6 #[i.relV, .int .u64 i.base, i.boundV] w fun e w' => answer e errV i.val ∧ Below w.heap.size w w' := by
  have hv : i.val = (W64 (i.addr + i.a), 8, 0) := by simp [Inp.val, h]
  rw [hv]
  clear hv
  obtain ⟨off, ty, sym, add, base, addr, size, module, offset, static, below⟩ := i
  simp only at h
  subst h
  simp only [Inp.relV, Inp.boundV, Inp.a, Inp.place, W64]
  go_enter Try.func6, Try.ntmps6
  go_wp2_with fail
  go_quiet (fail)
  go_wp2
  go_ret3
  exact ⟨rfl, below_drewN (((Below.refl _ _).alloc (Nat.le_refl _) _).alloc (by simp) _) nq⟩

set_option maxRecDepth 100000 in
set_option maxHeartbeats 4000000 in
theorem value_2 (i : Inp) (w : World) (h : i.ty = 2) :
    Calls Try.prog 6 #[i.relV, .int .u64 i.base, i.boundV] w fun e w' => answer e errV i.val ∧ Below w.heap.size w w' := by
  have hv : i.val = sg (W64 (W64 (i.addr + i.a) - i.place)) := by simp [Inp.val, h]
  rw [hv]
  clear hv
  obtain ⟨off, ty, sym, add, base, addr, size, module, offset, static, below⟩ := i
  simp only at h
  subst h
  simp only [Inp.relV, Inp.boundV, Inp.a, Inp.place, W64]
  have hc := Lib.hid (fun (w1 : World) => signed_any (W64 (W64 (addr + W64 add) - W64 (base + off))) w1 (W64_bounds _).1 (W64_bounds _).2)
  simp only [W64] at hc
  go_enter Try.func6, Try.ntmps6
  go_wp2_with fail
  go_quiet (fail)
  go_wp2_with (first
    | (go_at_call 9; refine (Hid.out hc _).mono ?_; rintro e w1 ⟨he, rfl⟩; unfold answer at he; subst he))
  go_ret3
  exact ⟨rfl, below_drewN (((Below.refl _ _).alloc (Nat.le_refl _) _).alloc (by simp) _) nq⟩

set_option maxRecDepth 100000 in
set_option maxHeartbeats 4000000 in
theorem value_6 (i : Inp) (w : World) (h : i.ty = 6) :
    Calls Try.prog 6 #[i.relV, .int .u64 i.base, i.boundV] w fun e w' => answer e errV i.val ∧ Below w.heap.size w w' := by
  have hv : i.val = (i.addr, 8, 0) := by simp [Inp.val, h]
  rw [hv]
  clear hv
  obtain ⟨off, ty, sym, add, base, addr, size, module, offset, static, below⟩ := i
  simp only at h
  subst h
  simp only [Inp.relV, Inp.boundV, Inp.a, Inp.place, W64]
  go_enter Try.func6, Try.ntmps6
  go_wp2_with fail
  go_quiet (fail)
  go_wp2
  go_ret3
  exact ⟨rfl, below_drewN (((Below.refl _ _).alloc (Nat.le_refl _) _).alloc (by simp) _) nq⟩

set_option maxRecDepth 100000 in
set_option maxHeartbeats 4000000 in
theorem value_7 (i : Inp) (w : World) (h : i.ty = 7) :
    Calls Try.prog 6 #[i.relV, .int .u64 i.base, i.boundV] w fun e w' => answer e errV i.val ∧ Below w.heap.size w w' := by
  have hv : i.val = (i.addr, 8, 0) := by simp [Inp.val, h]
  rw [hv]
  clear hv
  obtain ⟨off, ty, sym, add, base, addr, size, module, offset, static, below⟩ := i
  simp only at h
  subst h
  simp only [Inp.relV, Inp.boundV, Inp.a, Inp.place, W64]
  go_enter Try.func6, Try.ntmps6
  go_wp2_with fail
  go_quiet (fail)
  go_wp2
  go_ret3
  exact ⟨rfl, below_drewN (((Below.refl _ _).alloc (Nat.le_refl _) _).alloc (by simp) _) nq⟩

set_option maxRecDepth 100000 in
set_option maxHeartbeats 4000000 in
theorem value_8 (i : Inp) (w : World) (h : i.ty = 8) :
    Calls Try.prog 6 #[i.relV, .int .u64 i.base, i.boundV] w fun e w' => answer e errV i.val ∧ Below w.heap.size w w' := by
  have hv : i.val = (W64 (i.base + i.a), 8, 0) := by simp [Inp.val, h]
  rw [hv]
  clear hv
  obtain ⟨off, ty, sym, add, base, addr, size, module, offset, static, below⟩ := i
  simp only at h
  subst h
  simp only [Inp.relV, Inp.boundV, Inp.a, Inp.place, W64]
  go_enter Try.func6, Try.ntmps6
  go_wp2_with fail
  go_quiet (fail)
  go_wp2
  go_ret3
  exact ⟨rfl, below_drewN (((Below.refl _ _).alloc (Nat.le_refl _) _).alloc (by simp) _) nq⟩

set_option maxRecDepth 100000 in
set_option maxHeartbeats 4000000 in
theorem value_37 (i : Inp) (w : World) (h : i.ty = 37) :
    Calls Try.prog 6 #[i.relV, .int .u64 i.base, i.boundV] w fun e w' => answer e errV i.val ∧ Below w.heap.size w w' := by
  have hv : i.val = (W64 (i.base + i.a), 8, 0) := by simp [Inp.val, h]
  rw [hv]
  clear hv
  obtain ⟨off, ty, sym, add, base, addr, size, module, offset, static, below⟩ := i
  simp only at h
  subst h
  simp only [Inp.relV, Inp.boundV, Inp.a, Inp.place, W64]
  go_enter Try.func6, Try.ntmps6
  go_wp2_with fail
  go_quiet (fail)
  go_wp2
  go_ret3
  exact ⟨rfl, below_drewN (((Below.refl _ _).alloc (Nat.le_refl _) _).alloc (by simp) _) nq⟩

set_option maxRecDepth 100000 in
set_option maxHeartbeats 4000000 in
theorem value_10 (i : Inp) (w : World) (h : i.ty = 10) :
    Calls Try.prog 6 #[i.relV, .int .u64 i.base, i.boundV] w fun e w' => answer e errV i.val ∧ Below w.heap.size w w' := by
  have hv : i.val = un (W64 (i.addr + i.a)) := by simp [Inp.val, h]
  rw [hv]
  clear hv
  obtain ⟨off, ty, sym, add, base, addr, size, module, offset, static, below⟩ := i
  simp only at h
  subst h
  simp only [Inp.relV, Inp.boundV, Inp.a, Inp.place, W64]
  have hc := Lib.hid (fun (w1 : World) => unsigned_any (W64 (addr + W64 add)) w1 (W64_bounds _).1 (W64_bounds _).2)
  simp only [W64] at hc
  go_enter Try.func6, Try.ntmps6
  go_wp2_with fail
  go_quiet (fail)
  go_wp2_with (first
    | (go_at_call 10; refine (Hid.out hc _).mono ?_; rintro e w1 ⟨he, rfl⟩; unfold answer at he; subst he))
  go_ret3
  exact ⟨rfl, below_drewN (((Below.refl _ _).alloc (Nat.le_refl _) _).alloc (by simp) _) nq⟩

set_option maxRecDepth 100000 in
set_option maxHeartbeats 4000000 in
theorem value_11 (i : Inp) (w : World) (h : i.ty = 11) :
    Calls Try.prog 6 #[i.relV, .int .u64 i.base, i.boundV] w fun e w' => answer e errV i.val ∧ Below w.heap.size w w' := by
  have hv : i.val = sg (W64 (i.addr + i.a)) := by simp [Inp.val, h]
  rw [hv]
  clear hv
  obtain ⟨off, ty, sym, add, base, addr, size, module, offset, static, below⟩ := i
  simp only at h
  subst h
  simp only [Inp.relV, Inp.boundV, Inp.a, Inp.place, W64]
  have hc := Lib.hid (fun (w1 : World) => signed_any (W64 (addr + W64 add)) w1 (W64_bounds _).1 (W64_bounds _).2)
  simp only [W64] at hc
  go_enter Try.func6, Try.ntmps6
  go_wp2_with fail
  go_quiet (fail)
  go_wp2_with (first
    | (go_at_call 9; refine (Hid.out hc _).mono ?_; rintro e w1 ⟨he, rfl⟩; unfold answer at he; subst he))
  go_ret3
  exact ⟨rfl, below_drewN (((Below.refl _ _).alloc (Nat.le_refl _) _).alloc (by simp) _) nq⟩

set_option maxRecDepth 100000 in
set_option maxHeartbeats 4000000 in
theorem value_16 (i : Inp) (w : World) (h : i.ty = 16) :
    Calls Try.prog 6 #[i.relV, .int .u64 i.base, i.boundV] w fun e w' => answer e errV i.val ∧ Below w.heap.size w w' := by
  have hv : i.val = (W64 i.module, 8, 0) := by simp [Inp.val, h]
  rw [hv]
  clear hv
  obtain ⟨off, ty, sym, add, base, addr, size, module, offset, static, below⟩ := i
  simp only at h
  subst h
  simp only [Inp.relV, Inp.boundV, Inp.a, Inp.place, W64]
  go_enter Try.func6, Try.ntmps6
  go_wp2_with fail
  go_quiet (fail)
  go_wp2
  go_ret3
  exact ⟨rfl, below_drewN (((Below.refl _ _).alloc (Nat.le_refl _) _).alloc (by simp) _) nq⟩

set_option maxRecDepth 100000 in
set_option maxHeartbeats 4000000 in
theorem value_17 (i : Inp) (w : World) (h : i.ty = 17) :
    Calls Try.prog 6 #[i.relV, .int .u64 i.base, i.boundV] w fun e w' => answer e errV i.val ∧ Below w.heap.size w w' := by
  have hv : i.val = (W64 (i.offset + i.a), 8, 0) := by simp [Inp.val, h]
  rw [hv]
  clear hv
  obtain ⟨off, ty, sym, add, base, addr, size, module, offset, static, below⟩ := i
  simp only at h
  subst h
  simp only [Inp.relV, Inp.boundV, Inp.a, Inp.place, W64]
  go_enter Try.func6, Try.ntmps6
  go_wp2_with fail
  go_quiet (fail)
  go_wp2
  go_ret3
  exact ⟨rfl, below_drewN (((Below.refl _ _).alloc (Nat.le_refl _) _).alloc (by simp) _) nq⟩

set_option maxRecDepth 100000 in
set_option maxHeartbeats 4000000 in
theorem value_18a (i : Inp) (w : World) (h : i.ty = 18) (hm : i.module = 0) :
    Calls Try.prog 6 #[i.relV, .int .u64 i.base, i.boundV] w fun e w' => answer e errV i.val ∧ Below w.heap.size w w' := by
  have hv : i.val = (W64 (W64 (i.offset + i.a) - i.below), 8, 0) := by simp [Inp.val, h, hm]
  rw [hv]
  clear hv
  obtain ⟨off, ty, sym, add, base, addr, size, module, offset, static, below⟩ := i
  simp only at h hm
  subst h
  subst hm
  simp only [Inp.relV, Inp.boundV, Inp.a, Inp.place, W64]
  go_enter Try.func6, Try.ntmps6
  go_wp2_with fail
  go_quiet (fail)
  go_wp2
  go_ret3
  exact ⟨rfl, below_drewN (((Below.refl _ _).alloc (Nat.le_refl _) _).alloc (by simp) _) nq⟩

set_option maxRecDepth 100000 in
set_option maxHeartbeats 4000000 in
theorem value_18b (i : Inp) (w : World) (h : i.ty = 18) (hm : ¬ i.module = 0) (hs : i.static = true) :
    Calls Try.prog 6 #[i.relV, .int .u64 i.base, i.boundV] w fun e w' => answer e errV i.val ∧ Below w.heap.size w w' := by
  have hv : i.val = (W64 (W64 (i.offset + i.a) - i.below), 8, 0) := by simp [Inp.val, h, hs]
  rw [hv]
  clear hv
  obtain ⟨off, ty, sym, add, base, addr, size, module, offset, static, below⟩ := i
  simp only at h hm hs
  subst h
  subst hs
  simp only [Inp.relV, Inp.boundV, Inp.a, Inp.place, W64]
  go_enter Try.func6, Try.ntmps6
  go_wp2_with fail
  go_quiet (fail)
  go_wp2
  go_ret3
  exact ⟨rfl, below_drewN (((Below.refl _ _).alloc (Nat.le_refl _) _).alloc (by simp) _) nq⟩

set_option maxRecDepth 100000 in
set_option maxHeartbeats 4000000 in
theorem value_18c (i : Inp) (w : World) (h : i.ty = 18) (hm : ¬ i.module = 0) (hs : i.static = false) :
    Calls Try.prog 6 #[i.relV, .int .u64 i.base, i.boundV] w fun e w' => answer e errV i.val ∧ Below w.heap.size w w' := by
  have hv : i.val = (0, 0, 21) := by simp [Inp.val, h, hm, hs]
  rw [hv]
  clear hv
  obtain ⟨off, ty, sym, add, base, addr, size, module, offset, static, below⟩ := i
  simp only at h hm hs
  subst h
  subst hs
  simp only [Inp.relV, Inp.boundV, Inp.a, Inp.place, W64]
  go_enter Try.func6, Try.ntmps6
  go_wp2_with fail
  go_quiet (fail)
  go_wp2
  go_ret3
  exact ⟨rfl, below_drewN (((Below.refl _ _).alloc (Nat.le_refl _) _).alloc (by simp) _) nq⟩

set_option maxRecDepth 100000 in
set_option maxHeartbeats 4000000 in
theorem value_24 (i : Inp) (w : World) (h : i.ty = 24) :
    Calls Try.prog 6 #[i.relV, .int .u64 i.base, i.boundV] w fun e w' => answer e errV i.val ∧ Below w.heap.size w w' := by
  have hv : i.val = (W64 (W64 (i.addr + i.a) - i.place), 8, 0) := by simp [Inp.val, h]
  rw [hv]
  clear hv
  obtain ⟨off, ty, sym, add, base, addr, size, module, offset, static, below⟩ := i
  simp only at h
  subst h
  simp only [Inp.relV, Inp.boundV, Inp.a, Inp.place, W64]
  go_enter Try.func6, Try.ntmps6
  go_wp2_with fail
  go_quiet (fail)
  go_wp2
  go_ret3
  exact ⟨rfl, below_drewN (((Below.refl _ _).alloc (Nat.le_refl _) _).alloc (by simp) _) nq⟩

set_option maxRecDepth 100000 in
set_option maxHeartbeats 4000000 in
theorem value_32 (i : Inp) (w : World) (h : i.ty = 32) :
    Calls Try.prog 6 #[i.relV, .int .u64 i.base, i.boundV] w fun e w' => answer e errV i.val ∧ Below w.heap.size w w' := by
  have hv : i.val = un (W64 (i.size + i.a)) := by simp [Inp.val, h]
  rw [hv]
  clear hv
  obtain ⟨off, ty, sym, add, base, addr, size, module, offset, static, below⟩ := i
  simp only at h
  subst h
  simp only [Inp.relV, Inp.boundV, Inp.a, Inp.place, W64]
  have hc := Lib.hid (fun (w1 : World) => unsigned_any (W64 (size + W64 add)) w1 (W64_bounds _).1 (W64_bounds _).2)
  simp only [W64] at hc
  go_enter Try.func6, Try.ntmps6
  go_wp2_with fail
  go_quiet (fail)
  go_wp2_with (first
    | (go_at_call 10; refine (Hid.out hc _).mono ?_; rintro e w1 ⟨he, rfl⟩; unfold answer at he; subst he))
  go_ret3
  exact ⟨rfl, below_drewN (((Below.refl _ _).alloc (Nat.le_refl _) _).alloc (by simp) _) nq⟩

set_option maxRecDepth 100000 in
set_option maxHeartbeats 4000000 in
theorem value_33 (i : Inp) (w : World) (h : i.ty = 33) :
    Calls Try.prog 6 #[i.relV, .int .u64 i.base, i.boundV] w fun e w' => answer e errV i.val ∧ Below w.heap.size w w' := by
  have hv : i.val = (W64 (i.size + i.a), 8, 0) := by simp [Inp.val, h]
  rw [hv]
  clear hv
  obtain ⟨off, ty, sym, add, base, addr, size, module, offset, static, below⟩ := i
  simp only at h
  subst h
  simp only [Inp.relV, Inp.boundV, Inp.a, Inp.place, W64]
  go_enter Try.func6, Try.ntmps6
  go_wp2_with fail
  go_quiet (fail)
  go_wp2
  go_ret3
  exact ⟨rfl, below_drewN (((Below.refl _ _).alloc (Nat.le_refl _) _).alloc (by simp) _) nq⟩

set_option maxRecDepth 100000 in
set_option maxHeartbeats 4000000 in
theorem value_none (i : Inp) (w : World) (h0 : ¬ i.ty = 0) (h1 : ¬ i.ty = 1) (h2 : ¬ i.ty = 2) (h6 : ¬ i.ty = 6) (h7 : ¬ i.ty = 7) (h8 : ¬ i.ty = 8) (h37 : ¬ i.ty = 37) (h10 : ¬ i.ty = 10) (h11 : ¬ i.ty = 11) (h16 : ¬ i.ty = 16) (h17 : ¬ i.ty = 17) (h18 : ¬ i.ty = 18) (h24 : ¬ i.ty = 24) (h32 : ¬ i.ty = 32) (h33 : ¬ i.ty = 33) :
    Calls Try.prog 6 #[i.relV, .int .u64 i.base, i.boundV] w fun e w' => answer e errV i.val ∧ Below w.heap.size w w' := by
  have hv : i.val = (0, 0, 20) := by simp [Inp.val, h0, h1, h2, h6, h7, h8, h37, h10, h11, h16, h17, h18, h24, h32, h33]
  rw [hv]
  clear hv
  obtain ⟨off, ty, sym, add, base, addr, size, module, offset, static, below⟩ := i
  simp only at h0 h1 h2 h6 h7 h8 h37 h10 h11 h16 h17 h18 h24 h32 h33
  simp only [Inp.relV, Inp.boundV]
  go_enter Try.func6, Try.ntmps6
  go_wp2_with fail
  go_quiet (fail)
  go_wp2
  go_ret3
  exact ⟨rfl, below_drewN (((Below.refl _ _).alloc (Nat.le_refl _) _).alloc (by simp) _) nq⟩

theorem value_any (i : Inp) (w : World) :
    Calls Try.prog 6 #[i.relV, .int .u64 i.base, i.boundV] w fun e w' => answer e errV i.val ∧ Below w.heap.size w w' := by
  by_cases h0 : i.ty = 0
  · exact value_0 i w h0
  by_cases h1 : i.ty = 1
  · exact value_1 i w h1
  by_cases h2 : i.ty = 2
  · exact value_2 i w h2
  by_cases h6 : i.ty = 6
  · exact value_6 i w h6
  by_cases h7 : i.ty = 7
  · exact value_7 i w h7
  by_cases h8 : i.ty = 8
  · exact value_8 i w h8
  by_cases h37 : i.ty = 37
  · exact value_37 i w h37
  by_cases h10 : i.ty = 10
  · exact value_10 i w h10
  by_cases h11 : i.ty = 11
  · exact value_11 i w h11
  by_cases h16 : i.ty = 16
  · exact value_16 i w h16
  by_cases h17 : i.ty = 17
  · exact value_17 i w h17
  by_cases h18 : i.ty = 18
  · by_cases hm : i.module = 0
    · exact value_18a i w h18 hm
    · cases hs : i.static with
      | true => exact value_18b i w h18 hm hs
      | false => exact value_18c i w h18 hm hs
  by_cases h24 : i.ty = 24
  · exact value_24 i w h24
  by_cases h32 : i.ty = 32
  · exact value_32 i w h32
  by_cases h33 : i.ty = 33
  · exact value_33 i w h33
  exact value_none i w h0 h1 h2 h6 h7 h8 h37 h10 h11 h16 h17 h18 h24 h32 h33
end Go.Proofs.Ytodondhlicedoaa
