/- Layer 9: relocations in bytes, as the program reads them. -/
import Derived.Test.YtbmfjchpfhealaaDynSlice
import Derived.Test.YtbmfjchpfhealaaOwnS
import Derived.StillTailTactics
namespace Go.Proofs.Ytbmfjchpfhealaa
open Go.RowKit
set_option linter.unusedVariables false
set_option linter.unusedSimpArgs false

/-- a relocation -/
structure RT where
  off : Int
  ty : Int
  sym : Int
  add : Int
def RT.cells (r : RT) : List Value := [.int .u64 r.off, .int .i64 r.ty, .int .i64 r.sym, .int .i64 r.add]
/-- what 24 bytes tell -/
def relOf (bs : List Nat) : RT := ⟨(numOf (bs.take 8) : Nat), (numOf ((bs.drop 8).take 8) % 4294967296 : Nat), (numOf ((bs.drop 8).take 8) / 4294967296 : Nat), wrap64 (numOf ((bs.drop 16).take 8) : Nat)⟩

theorem number_still (a : Option Addr) (cap : Nat) (bs : List Nat) (w : World) (n : Nat) (hn : bs.length = n) (h : BRow w a bs) (hl : n ≤ 8) :
    Calls Try.prog 29 #[.slice a n cap] w fun e w' => e = .returned (.int .u64 ((numOf bs : Nat) : Int)) ∧ w' = w := by
  subst hn
  refine (number_any a cap bs w h hl).mono ?_
  rintro e w' ⟨rfl, rfl⟩
  exact ⟨rfl, rfl⟩

set_option maxRecDepth 100000 in
set_option maxHeartbeats 4000000 in
theorem rel_any (b o cap : Nat) (bs : List Nat) (w : World) (h : BRow w (some ⟨b, o, none⟩) bs) (hl : bs.length = 24) (hc : 24 ≤ cap) :
    Calls Try.prog 37 #[.slice (some ⟨b, o, none⟩) 24 cap] w fun e w' => e = .returned (.agg (relOf bs).cells.toArray) ∧ Below w.heap.size w w' := by
  have hn8 : ¬ cap = 8 := by omega
  have hn16 : ¬ cap = 16 := by omega
  have cutA : ∀ w', Below w.heap.size w w' → ∀ k, BRow w' (some ⟨b, o + k, none⟩) ((bs.drop k).take 8) := fun w' hb k => by
    have := (h.below hb).cut k 8
    simpa [WideShapes.add_plain] using this
  have HN := Lib.hid (fun (w' : World) (hb : Below w.heap.size w w') (c : Nat) => number_still (some ⟨b, o + 8, none⟩) c ((bs.drop 8).take 8) w' 8 (by simp; omega) (cutA w' hb 8) (by omega))
  have HN0 := Lib.hid (fun (w' : World) (hb : Below w.heap.size w w') (c : Nat) => number_still (some ⟨b, o, none⟩) c (bs.take 8) w' 8 (by simp; omega) (by simpa using cutA w' hb 0) (by omega))
  have HN16 := Lib.hid (fun (w' : World) (hb : Below w.heap.size w w') (c : Nat) => number_still (some ⟨b, o + 16, none⟩) c ((bs.drop 16).take 8) w' 8 (by simp; omega) (cutA w' hb 16) (by omega))
  have hv : relOf bs = ⟨(numOf (bs.take 8) : Nat), (numOf ((bs.drop 8).take 8) % 4294967296 : Nat), (numOf ((bs.drop 8).take 8) / 4294967296 : Nat), wrap64 (numOf ((bs.drop 16).take 8) : Nat)⟩ := rfl
  have hlt : numOf ((bs.drop 8).take 8) < 18446744073709551616 := by
    have h1 := numOf_lt ((bs.drop 8).take 8) (fun x hx => h.2 x (List.mem_of_mem_drop (List.mem_of_mem_take hx)))
    have h2 : ((bs.drop 8).take 8).length = 8 := by simp; omega
    rw [h2] at h1
    have h5 : (256 : Nat) ^ 8 = 18446744073709551616 := by decide
    omega
  rw [hv]
  clear hv cutA h
  generalize numOf (bs.take 8) = n0 at *
  generalize numOf ((bs.drop 8).take 8) = n1 at *
  generalize numOf ((bs.drop 16).take 8) = n2 at *
  have HA : Hid (bits .and .u64 (n1 : Int) 4294967295 = ((n1 % 4294967296 : Nat) : Int)) := Lib.hid (by
    have := u64_and_nat n1 4294967295 hlt (by omega)
    rw [show ((4294967295 : Nat) : Int) = 4294967295 from rfl] at this
    rw [this, show (4294967295 : Nat) = 2 ^ 32 - 1 from rfl, Nat.and_two_pow_sub_one_eq_mod])
  go_enter Try.func37, Try.ntmps37
  go_wp2_with fail
  have HB1 : Hid (Below w.heap.size w (w.alloc (.cells #[.int .u64 0, .int .i64 0, .int .i64 0, .int .i64 0] 49))) := Lib.hid ((Below.refl _ _).alloc (Nat.le_refl _) _)
  refine (HN.out _ HB1.out _).mono ?_
  rintro e w2 ⟨rfl, rfl⟩
  go_wp2_with fail
  have HB2 : Hid (Below w.heap.size w (w.alloc (.cells #[.int .u64 0, .int .i64 0, .int .i64 0, .int .i64 0] 49)).drew) := Lib.hid HB1.out.drew
  have HC0 := HN0.out _ HB2.out cap
  have HC16 := HN16.out _ HB2.out (cap - 16)
  have i8 : (8 : Int) ≤ (cap : Int) := by omega
  have i16 : (16 : Int) ≤ (cap : Int) := by omega
  have i24 : (24 : Int) ≤ (cap : Int) := by omega
  have e16 : ((cap : Int) - 16).toNat = cap - 16 := by omega
  refine wp_region_still_tail 14 (by kernel_rfl) (by kernel_rfl) ?_
  simp only [List.take_succ_cons, List.take_zero, List.drop_succ_cons, List.drop_zero]
  change wpStill _ _ (World.drew (w.alloc (.cells #[.int .u64 0, .int .i64 0, .int .i64 0, .int .i64 0] 49))) _ _ _
  still_step
  still_step
  still_call HC0
  still_step
  still_step
  still_step
  still_step
  still_step
  still_step
  still_step
  still_step
  still_call HC16
  still_step
  still_step
  refine wpStill_nil ?_
  change wpList _ _ _ _ _ (World.drew (w.alloc (.cells #[.int .u64 0, .int .i64 0, .int .i64 0, .int .i64 0] 49)))
  clear HC0 HC16
  go_wp2
  go_returns
  have hw : wrap64 ((n1 % 4294967296 : Nat) : Int) = ((n1 % 4294967296 : Nat) : Int) := by unfold wrap64; omega
  have hd : (n1 : Int) / 4294967296 = ((n1 / 4294967296 : Nat) : Int) := by omega
  rw [HA.out, hw, hd]
  exact ⟨rfl, ((Below.refl _ _).alloc (Nat.le_refl _) _).drew⟩
end Go.Proofs.Ytbmfjchpfhealaa
