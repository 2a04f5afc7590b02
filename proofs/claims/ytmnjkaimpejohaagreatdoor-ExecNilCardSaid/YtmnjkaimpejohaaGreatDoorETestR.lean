/- Layer 13: does a condition hold: the document's answer. -/
import Derived.Test.YtmnjkaimpejohaaGreatDoorETest
import Derived.Deep.DeepCutAuto
namespace Go.Proofs.YtmnjkaimpejohaaGreatDoor
open Go.RowKit
set_option linter.unusedVariables false
set_option linter.unusedSimpArgs false

theorem tmod16 (c : Int) (k : Nat) (h : (k : Int) = c % 16) : c.tmod 16 = (k : Int) ∨ (k ≠ 0 ∧ c.tmod 16 = (k : Int) - 16) := by
  have h2 := @Int.tmod_eq_emod c 16
  split at h2
  · left; omega
  · rename_i hn
    right
    have : ¬ (16 : Int) ∣ c := fun hd => hn (.inr hd)
    refine ⟨fun e => this (by omega), ?_⟩
    rw [h2, h]
    rfl
theorem cell_two (w : World) (R A : Array Value) (T U : TypeId) (j : Nat) (v : Value) (h : A[j]? = some v) : ((w.alloc (.cells R U)).alloc (.cells A T)).cell? ⟨w.heap.size + 1, j, none⟩ = some v := by
  have := World.cell?_alloc_new (w.alloc (.cells R U)) A T j
  rw [World.size_alloc] at this
  rw [this]
  exact h
set_option maxRecDepth 100000 in
set_option maxHeartbeats 32000000 in
theorem rtest_any (g : RG) (cond : Int) (w : World) :
    Calls Tryz.prog 9 #[.agg g.cells, .int .i64 cond] w fun e w' => e = .returned (.bool (testF g (cond % 16).toNat)) ∧ Below w.heap.size w w' := by
  obtain ⟨k, hk⟩ : ∃ k : Nat, (k : Int) = cond % 16 := ⟨(cond % 16).toNat, by omega⟩
  have hk16 : k < 16 := by omega
  have hm := tmod16 cond k hk
  rw [← hk, Int.toNat_natCast]
  clear hk
  obtain ⟨m, hmm⟩ : ∃ m, cond.tmod 16 = m := ⟨_, rfl⟩
  rw [hmm] at hm
  obtain ⟨r, cf, zf, sf, ov, pf⟩ := g
  unfold RG.cells
  simp only []
  obtain ⟨j, hj⟩ : ∃ j, k / 2 = j := ⟨_, rfl⟩
  have hj8 : j < 8 := by omega
  have HR : Hid (∀ cf zf sf ov pf : Bool, (#[.bool ov, .bool cf, .bool zf, .bool (cf || zf), .bool sf, .bool pf, .bool (sf != ov), .bool (zf || (sf != ov))] : Array Value)[j]? = some (.bool (holdsF ⟨r, cf, zf, sf, ov, pf⟩ j))) := Lib.hid (fun cf zf sf ov pf => by
    have : j = 0 ∨ j = 1 ∨ j = 2 ∨ j = 3 ∨ j = 4 ∨ j = 5 ∨ j = 6 ∨ j = 7 := by omega
    rcases this with rfl | rfl | rfl | rfl | rfl | rfl | rfl | rfl <;> rfl)
  have e1 : IntKind.i64.wrap ((k : Int).tmod 2) = ((k % 2 : Nat) : Int) := by rw [Int.tmod_eq_emod_of_nonneg (by omega), IntKind.wrap_i64]; omega
  have e2 : IntKind.i64.wrap ((k : Int).tdiv 2) = (j : Int) := by rw [Int.tdiv_eq_ediv_of_nonneg (by omega), IntKind.wrap_i64]; omega
  have e3 : (k : Int).tmod 2 = ((k % 2 : Nat) : Int) := by rw [Int.tmod_eq_emod_of_nonneg (by omega)]; omega
  have e4 : (k : Int).tdiv 2 = (j : Int) := by rw [Int.tdiv_eq_ediv_of_nonneg (by omega)]; omega
  have e5 : IntKind.i64.wrap ((k : Int) - 16 + 16) = (k : Int) := by rw [IntKind.wrap_i64]; omega
  have hTF : testF ⟨r, cf, zf, sf, ov, pf⟩ k = (if k % 2 = 1 then !(holdsF ⟨r, cf, zf, sf, ov, pf⟩ j) else holdsF ⟨r, cf, zf, sf, ov, pf⟩ j) := by unfold testF; rw [hj]
  rw [hTF]
  have hp : k % 2 = 0 ∨ k % 2 = 1 := by omega
  have hneg : ((k : Int) - 16 < 0) := by omega
  have HNEG : Hid ((k : Int) - 16 < 0) := Lib.hid hneg
  have i1 : (0 : Int) ≤ (j : Int) := by omega
  have i2 : (j : Int) < 8 := by omega
  obtain ⟨q, hq⟩ : ∃ q, k % 2 = q := ⟨_, rfl⟩
  rw [hq] at hp e1 e3 ⊢
  clear hj hTF hq hj8 hneg hk16
  rcases hm with rfl | ⟨-, rfl⟩
  case' inl => clear HNEG e5
  case' inr => have hneg := HNEG.out
  all_goals
    go_enter Tryz.func9, Tryz.ntmps9
    cases cf <;> cases zf <;> cases sf <;> cases ov
    · go_upto_region 5 with fail
      have hq : ((w.alloc (.cells #[.int .u64 (r 0), .int .u64 (r 1), .int .u64 (r 2), .int .u64 (r 3), .int .u64 (r 4), .int .u64 (r 5), .int .u64 (r 6), .int .u64 (r 7), .int .u64 (r 8), .int .u64 (r 9), .int .u64 (r 10), .int .u64 (r 11), .int .u64 (r 12), .int .u64 (r 13), .int .u64 (r 14), .int .u64 (r 15), .int .u64 (r 16), .int .u64 (r 17), .bool false, .bool false, .bool false, .bool false, .bool pf] 25)).alloc (.cells #[.bool false, .bool false, .bool false, .bool false, .bool false, .bool pf, .bool false, .bool false] 4)).cell? ⟨w.heap.size + 1, j, none⟩ = some (.bool (holdsF ⟨r, false, false, false, false, pf⟩ j)) := cell_two w _ _ _ _ j _ (HR.out false false false false pf)
      have hB : Hid (Below w.heap.size w ((w.alloc (.cells #[.int .u64 (r 0), .int .u64 (r 1), .int .u64 (r 2), .int .u64 (r 3), .int .u64 (r 4), .int .u64 (r 5), .int .u64 (r 6), .int .u64 (r 7), .int .u64 (r 8), .int .u64 (r 9), .int .u64 (r 10), .int .u64 (r 11), .int .u64 (r 12), .int .u64 (r 13), .int .u64 (r 14), .int .u64 (r 15), .int .u64 (r 16), .int .u64 (r 17), .bool false, .bool false, .bool false, .bool false, .bool pf] 25)).alloc (.cells #[.bool false, .bool false, .bool false, .bool false, .bool false, .bool pf, .bool false, .bool false] 4))) := Lib.hid (by go_grown)
      obtain ⟨hv, hhv⟩ : ∃ hv, holdsF ⟨r, false, false, false, false, pf⟩ j = hv := ⟨_, rfl⟩
      rw [hhv] at hq
      have HHV := Lib.hid hhv
      clear hhv
      generalize ((w.alloc (.cells #[.int .u64 (r 0), .int .u64 (r 1), .int .u64 (r 2), .int .u64 (r 3), .int .u64 (r 4), .int .u64 (r 5), .int .u64 (r 6), .int .u64 (r 7), .int .u64 (r 8), .int .u64 (r 9), .int .u64 (r 10), .int .u64 (r 11), .int .u64 (r 12), .int .u64 (r 13), .int .u64 (r 14), .int .u64 (r 15), .int .u64 (r 16), .int .u64 (r 17), .bool false, .bool false, .bool false, .bool false, .bool pf] 25)).alloc (.cells #[.bool false, .bool false, .bool false, .bool false, .bool false, .bool pf, .bool false, .bool false] 4)) = W at *
      rcases hp with rfl | rfl
      · go_wp2_with fail
        go_ret
        exact ⟨by rw [HHV.out]; rfl, hB.out⟩
      · go_wp2_with fail
        go_ret
        exact ⟨by rw [HHV.out]; rfl, hB.out⟩
    · go_upto_region 5 with fail
      have hq : ((w.alloc (.cells #[.int .u64 (r 0), .int .u64 (r 1), .int .u64 (r 2), .int .u64 (r 3), .int .u64 (r 4), .int .u64 (r 5), .int .u64 (r 6), .int .u64 (r 7), .int .u64 (r 8), .int .u64 (r 9), .int .u64 (r 10), .int .u64 (r 11), .int .u64 (r 12), .int .u64 (r 13), .int .u64 (r 14), .int .u64 (r 15), .int .u64 (r 16), .int .u64 (r 17), .bool false, .bool false, .bool false, .bool true, .bool pf] 25)).alloc (.cells #[.bool true, .bool false, .bool false, .bool false, .bool false, .bool pf, .bool true, .bool true] 4)).cell? ⟨w.heap.size + 1, j, none⟩ = some (.bool (holdsF ⟨r, false, false, false, true, pf⟩ j)) := cell_two w _ _ _ _ j _ (HR.out false false false true pf)
      have hB : Hid (Below w.heap.size w ((w.alloc (.cells #[.int .u64 (r 0), .int .u64 (r 1), .int .u64 (r 2), .int .u64 (r 3), .int .u64 (r 4), .int .u64 (r 5), .int .u64 (r 6), .int .u64 (r 7), .int .u64 (r 8), .int .u64 (r 9), .int .u64 (r 10), .int .u64 (r 11), .int .u64 (r 12), .int .u64 (r 13), .int .u64 (r 14), .int .u64 (r 15), .int .u64 (r 16), .int .u64 (r 17), .bool false, .bool false, .bool false, .bool true, .bool pf] 25)).alloc (.cells #[.bool true, .bool false, .bool false, .bool false, .bool false, .bool pf, .bool true, .bool true] 4))) := Lib.hid (by go_grown)
      obtain ⟨hv, hhv⟩ : ∃ hv, holdsF ⟨r, false, false, false, true, pf⟩ j = hv := ⟨_, rfl⟩
      rw [hhv] at hq
      have HHV := Lib.hid hhv
      clear hhv
      generalize ((w.alloc (.cells #[.int .u64 (r 0), .int .u64 (r 1), .int .u64 (r 2), .int .u64 (r 3), .int .u64 (r 4), .int .u64 (r 5), .int .u64 (r 6), .int .u64 (r 7), .int .u64 (r 8), .int .u64 (r 9), .int .u64 (r 10), .int .u64 (r 11), .int .u64 (r 12), .int .u64 (r 13), .int .u64 (r 14), .int .u64 (r 15), .int .u64 (r 16), .int .u64 (r 17), .bool false, .bool false, .bool false, .bool true, .bool pf] 25)).alloc (.cells #[.bool true, .bool false, .bool false, .bool false, .bool false, .bool pf, .bool true, .bool true] 4)) = W at *
      rcases hp with rfl | rfl
      · go_wp2_with fail
        go_ret
        exact ⟨by rw [HHV.out]; rfl, hB.out⟩
      · go_wp2_with fail
        go_ret
        exact ⟨by rw [HHV.out]; rfl, hB.out⟩
    · go_upto_region 5 with fail
      have hq : ((w.alloc (.cells #[.int .u64 (r 0), .int .u64 (r 1), .int .u64 (r 2), .int .u64 (r 3), .int .u64 (r 4), .int .u64 (r 5), .int .u64 (r 6), .int .u64 (r 7), .int .u64 (r 8), .int .u64 (r 9), .int .u64 (r 10), .int .u64 (r 11), .int .u64 (r 12), .int .u64 (r 13), .int .u64 (r 14), .int .u64 (r 15), .int .u64 (r 16), .int .u64 (r 17), .bool false, .bool false, .bool true, .bool false, .bool pf] 25)).alloc (.cells #[.bool false, .bool false, .bool false, .bool false, .bool true, .bool pf, .bool true, .bool true] 4)).cell? ⟨w.heap.size + 1, j, none⟩ = some (.bool (holdsF ⟨r, false, false, true, false, pf⟩ j)) := cell_two w _ _ _ _ j _ (HR.out false false true false pf)
      have hB : Hid (Below w.heap.size w ((w.alloc (.cells #[.int .u64 (r 0), .int .u64 (r 1), .int .u64 (r 2), .int .u64 (r 3), .int .u64 (r 4), .int .u64 (r 5), .int .u64 (r 6), .int .u64 (r 7), .int .u64 (r 8), .int .u64 (r 9), .int .u64 (r 10), .int .u64 (r 11), .int .u64 (r 12), .int .u64 (r 13), .int .u64 (r 14), .int .u64 (r 15), .int .u64 (r 16), .int .u64 (r 17), .bool false, .bool false, .bool true, .bool false, .bool pf] 25)).alloc (.cells #[.bool false, .bool false, .bool false, .bool false, .bool true, .bool pf, .bool true, .bool true] 4))) := Lib.hid (by go_grown)
      obtain ⟨hv, hhv⟩ : ∃ hv, holdsF ⟨r, false, false, true, false, pf⟩ j = hv := ⟨_, rfl⟩
      rw [hhv] at hq
      have HHV := Lib.hid hhv
      clear hhv
      generalize ((w.alloc (.cells #[.int .u64 (r 0), .int .u64 (r 1), .int .u64 (r 2), .int .u64 (r 3), .int .u64 (r 4), .int .u64 (r 5), .int .u64 (r 6), .int .u64 (r 7), .int .u64 (r 8), .int .u64 (r 9), .int .u64 (r 10), .int .u64 (r 11), .int .u64 (r 12), .int .u64 (r 13), .int .u64 (r 14), .int .u64 (r 15), .int .u64 (r 16), .int .u64 (r 17), .bool false, .bool false, .bool true, .bool false, .bool pf] 25)).alloc (.cells #[.bool false, .bool false, .bool false, .bool false, .bool true, .bool pf, .bool true, .bool true] 4)) = W at *
      rcases hp with rfl | rfl
      · go_wp2_with fail
        go_ret
        exact ⟨by rw [HHV.out]; rfl, hB.out⟩
      · go_wp2_with fail
        go_ret
        exact ⟨by rw [HHV.out]; rfl, hB.out⟩
    · go_upto_region 5 with fail
      have hq : ((w.alloc (.cells #[.int .u64 (r 0), .int .u64 (r 1), .int .u64 (r 2), .int .u64 (r 3), .int .u64 (r 4), .int .u64 (r 5), .int .u64 (r 6), .int .u64 (r 7), .int .u64 (r 8), .int .u64 (r 9), .int .u64 (r 10), .int .u64 (r 11), .int .u64 (r 12), .int .u64 (r 13), .int .u64 (r 14), .int .u64 (r 15), .int .u64 (r 16), .int .u64 (r 17), .bool false, .bool false, .bool true, .bool true, .bool pf] 25)).alloc (.cells #[.bool true, .bool false, .bool false, .bool false, .bool true, .bool pf, .bool false, .bool false] 4)).cell? ⟨w.heap.size + 1, j, none⟩ = some (.bool (holdsF ⟨r, false, false, true, true, pf⟩ j)) := cell_two w _ _ _ _ j _ (HR.out false false true true pf)
      have hB : Hid (Below w.heap.size w ((w.alloc (.cells #[.int .u64 (r 0), .int .u64 (r 1), .int .u64 (r 2), .int .u64 (r 3), .int .u64 (r 4), .int .u64 (r 5), .int .u64 (r 6), .int .u64 (r 7), .int .u64 (r 8), .int .u64 (r 9), .int .u64 (r 10), .int .u64 (r 11), .int .u64 (r 12), .int .u64 (r 13), .int .u64 (r 14), .int .u64 (r 15), .int .u64 (r 16), .int .u64 (r 17), .bool false, .bool false, .bool true, .bool true, .bool pf] 25)).alloc (.cells #[.bool true, .bool false, .bool false, .bool false, .bool true, .bool pf, .bool false, .bool false] 4))) := Lib.hid (by go_grown)
      obtain ⟨hv, hhv⟩ : ∃ hv, holdsF ⟨r, false, false, true, true, pf⟩ j = hv := ⟨_, rfl⟩
      rw [hhv] at hq
      have HHV := Lib.hid hhv
      clear hhv
      generalize ((w.alloc (.cells #[.int .u64 (r 0), .int .u64 (r 1), .int .u64 (r 2), .int .u64 (r 3), .int .u64 (r 4), .int .u64 (r 5), .int .u64 (r 6), .int .u64 (r 7), .int .u64 (r 8), .int .u64 (r 9), .int .u64 (r 10), .int .u64 (r 11), .int .u64 (r 12), .int .u64 (r 13), .int .u64 (r 14), .int .u64 (r 15), .int .u64 (r 16), .int .u64 (r 17), .bool false, .bool false, .bool true, .bool true, .bool pf] 25)).alloc (.cells #[.bool true, .bool false, .bool false, .bool false, .bool true, .bool pf, .bool false, .bool false] 4)) = W at *
      rcases hp with rfl | rfl
      · go_wp2_with fail
        go_ret
        exact ⟨by rw [HHV.out]; rfl, hB.out⟩
      · go_wp2_with fail
        go_ret
        exact ⟨by rw [HHV.out]; rfl, hB.out⟩
    · go_upto_region 5 with fail
      have hq : ((w.alloc (.cells #[.int .u64 (r 0), .int .u64 (r 1), .int .u64 (r 2), .int .u64 (r 3), .int .u64 (r 4), .int .u64 (r 5), .int .u64 (r 6), .int .u64 (r 7), .int .u64 (r 8), .int .u64 (r 9), .int .u64 (r 10), .int .u64 (r 11), .int .u64 (r 12), .int .u64 (r 13), .int .u64 (r 14), .int .u64 (r 15), .int .u64 (r 16), .int .u64 (r 17), .bool false, .bool true, .bool false, .bool false, .bool pf] 25)).alloc (.cells #[.bool false, .bool false, .bool true, .bool true, .bool false, .bool pf, .bool false, .bool true] 4)).cell? ⟨w.heap.size + 1, j, none⟩ = some (.bool (holdsF ⟨r, false, true, false, false, pf⟩ j)) := cell_two w _ _ _ _ j _ (HR.out false true false false pf)
      have hB : Hid (Below w.heap.size w ((w.alloc (.cells #[.int .u64 (r 0), .int .u64 (r 1), .int .u64 (r 2), .int .u64 (r 3), .int .u64 (r 4), .int .u64 (r 5), .int .u64 (r 6), .int .u64 (r 7), .int .u64 (r 8), .int .u64 (r 9), .int .u64 (r 10), .int .u64 (r 11), .int .u64 (r 12), .int .u64 (r 13), .int .u64 (r 14), .int .u64 (r 15), .int .u64 (r 16), .int .u64 (r 17), .bool false, .bool true, .bool false, .bool false, .bool pf] 25)).alloc (.cells #[.bool false, .bool false, .bool true, .bool true, .bool false, .bool pf, .bool false, .bool true] 4))) := Lib.hid (by go_grown)
      obtain ⟨hv, hhv⟩ : ∃ hv, holdsF ⟨r, false, true, false, false, pf⟩ j = hv := ⟨_, rfl⟩
      rw [hhv] at hq
      have HHV := Lib.hid hhv
      clear hhv
      generalize ((w.alloc (.cells #[.int .u64 (r 0), .int .u64 (r 1), .int .u64 (r 2), .int .u64 (r 3), .int .u64 (r 4), .int .u64 (r 5), .int .u64 (r 6), .int .u64 (r 7), .int .u64 (r 8), .int .u64 (r 9), .int .u64 (r 10), .int .u64 (r 11), .int .u64 (r 12), .int .u64 (r 13), .int .u64 (r 14), .int .u64 (r 15), .int .u64 (r 16), .int .u64 (r 17), .bool false, .bool true, .bool false, .bool false, .bool pf] 25)).alloc (.cells #[.bool false, .bool false, .bool true, .bool true, .bool false, .bool pf, .bool false, .bool true] 4)) = W at *
      rcases hp with rfl | rfl
      · go_wp2_with fail
        go_ret
        exact ⟨by rw [HHV.out]; rfl, hB.out⟩
      · go_wp2_with fail
        go_ret
        exact ⟨by rw [HHV.out]; rfl, hB.out⟩
    · go_upto_region 5 with fail
      have hq : ((w.alloc (.cells #[.int .u64 (r 0), .int .u64 (r 1), .int .u64 (r 2), .int .u64 (r 3), .int .u64 (r 4), .int .u64 (r 5), .int .u64 (r 6), .int .u64 (r 7), .int .u64 (r 8), .int .u64 (r 9), .int .u64 (r 10), .int .u64 (r 11), .int .u64 (r 12), .int .u64 (r 13), .int .u64 (r 14), .int .u64 (r 15), .int .u64 (r 16), .int .u64 (r 17), .bool false, .bool true, .bool false, .bool true, .bool pf] 25)).alloc (.cells #[.bool true, .bool false, .bool true, .bool true, .bool false, .bool pf, .bool true, .bool true] 4)).cell? ⟨w.heap.size + 1, j, none⟩ = some (.bool (holdsF ⟨r, false, true, false, true, pf⟩ j)) := cell_two w _ _ _ _ j _ (HR.out false true false true pf)
      have hB : Hid (Below w.heap.size w ((w.alloc (.cells #[.int .u64 (r 0), .int .u64 (r 1), .int .u64 (r 2), .int .u64 (r 3), .int .u64 (r 4), .int .u64 (r 5), .int .u64 (r 6), .int .u64 (r 7), .int .u64 (r 8), .int .u64 (r 9), .int .u64 (r 10), .int .u64 (r 11), .int .u64 (r 12), .int .u64 (r 13), .int .u64 (r 14), .int .u64 (r 15), .int .u64 (r 16), .int .u64 (r 17), .bool false, .bool true, .bool false, .bool true, .bool pf] 25)).alloc (.cells #[.bool true, .bool false, .bool true, .bool true, .bool false, .bool pf, .bool true, .bool true] 4))) := Lib.hid (by go_grown)
      obtain ⟨hv, hhv⟩ : ∃ hv, holdsF ⟨r, false, true, false, true, pf⟩ j = hv := ⟨_, rfl⟩
      rw [hhv] at hq
      have HHV := Lib.hid hhv
      clear hhv
      generalize ((w.alloc (.cells #[.int .u64 (r 0), .int .u64 (r 1), .int .u64 (r 2), .int .u64 (r 3), .int .u64 (r 4), .int .u64 (r 5), .int .u64 (r 6), .int .u64 (r 7), .int .u64 (r 8), .int .u64 (r 9), .int .u64 (r 10), .int .u64 (r 11), .int .u64 (r 12), .int .u64 (r 13), .int .u64 (r 14), .int .u64 (r 15), .int .u64 (r 16), .int .u64 (r 17), .bool false, .bool true, .bool false, .bool true, .bool pf] 25)).alloc (.cells #[.bool true, .bool false, .bool true, .bool true, .bool false, .bool pf, .bool true, .bool true] 4)) = W at *
      rcases hp with rfl | rfl
      · go_wp2_with fail
        go_ret
        exact ⟨by rw [HHV.out]; rfl, hB.out⟩
      · go_wp2_with fail
        go_ret
        exact ⟨by rw [HHV.out]; rfl, hB.out⟩
    · go_upto_region 5 with fail
      have hq : ((w.alloc (.cells #[.int .u64 (r 0), .int .u64 (r 1), .int .u64 (r 2), .int .u64 (r 3), .int .u64 (r 4), .int .u64 (r 5), .int .u64 (r 6), .int .u64 (r 7), .int .u64 (r 8), .int .u64 (r 9), .int .u64 (r 10), .int .u64 (r 11), .int .u64 (r 12), .int .u64 (r 13), .int .u64 (r 14), .int .u64 (r 15), .int .u64 (r 16), .int .u64 (r 17), .bool false, .bool true, .bool true, .bool false, .bool pf] 25)).alloc (.cells #[.bool false, .bool false, .bool true, .bool true, .bool true, .bool pf, .bool true, .bool true] 4)).cell? ⟨w.heap.size + 1, j, none⟩ = some (.bool (holdsF ⟨r, false, true, true, false, pf⟩ j)) := cell_two w _ _ _ _ j _ (HR.out false true true false pf)
      have hB : Hid (Below w.heap.size w ((w.alloc (.cells #[.int .u64 (r 0), .int .u64 (r 1), .int .u64 (r 2), .int .u64 (r 3), .int .u64 (r 4), .int .u64 (r 5), .int .u64 (r 6), .int .u64 (r 7), .int .u64 (r 8), .int .u64 (r 9), .int .u64 (r 10), .int .u64 (r 11), .int .u64 (r 12), .int .u64 (r 13), .int .u64 (r 14), .int .u64 (r 15), .int .u64 (r 16), .int .u64 (r 17), .bool false, .bool true, .bool true, .bool false, .bool pf] 25)).alloc (.cells #[.bool false, .bool false, .bool true, .bool true, .bool true, .bool pf, .bool true, .bool true] 4))) := Lib.hid (by go_grown)
      obtain ⟨hv, hhv⟩ : ∃ hv, holdsF ⟨r, false, true, true, false, pf⟩ j = hv := ⟨_, rfl⟩
      rw [hhv] at hq
      have HHV := Lib.hid hhv
      clear hhv
      generalize ((w.alloc (.cells #[.int .u64 (r 0), .int .u64 (r 1), .int .u64 (r 2), .int .u64 (r 3), .int .u64 (r 4), .int .u64 (r 5), .int .u64 (r 6), .int .u64 (r 7), .int .u64 (r 8), .int .u64 (r 9), .int .u64 (r 10), .int .u64 (r 11), .int .u64 (r 12), .int .u64 (r 13), .int .u64 (r 14), .int .u64 (r 15), .int .u64 (r 16), .int .u64 (r 17), .bool false, .bool true, .bool true, .bool false, .bool pf] 25)).alloc (.cells #[.bool false, .bool false, .bool true, .bool true, .bool true, .bool pf, .bool true, .bool true] 4)) = W at *
      rcases hp with rfl | rfl
      · go_wp2_with fail
        go_ret
        exact ⟨by rw [HHV.out]; rfl, hB.out⟩
      · go_wp2_with fail
        go_ret
        exact ⟨by rw [HHV.out]; rfl, hB.out⟩
    · go_upto_region 5 with fail
      have hq : ((w.alloc (.cells #[.int .u64 (r 0), .int .u64 (r 1), .int .u64 (r 2), .int .u64 (r 3), .int .u64 (r 4), .int .u64 (r 5), .int .u64 (r 6), .int .u64 (r 7), .int .u64 (r 8), .int .u64 (r 9), .int .u64 (r 10), .int .u64 (r 11), .int .u64 (r 12), .int .u64 (r 13), .int .u64 (r 14), .int .u64 (r 15), .int .u64 (r 16), .int .u64 (r 17), .bool false, .bool true, .bool true, .bool true, .bool pf] 25)).alloc (.cells #[.bool true, .bool false, .bool true, .bool true, .bool true, .bool pf, .bool false, .bool true] 4)).cell? ⟨w.heap.size + 1, j, none⟩ = some (.bool (holdsF ⟨r, false, true, true, true, pf⟩ j)) := cell_two w _ _ _ _ j _ (HR.out false true true true pf)
      have hB : Hid (Below w.heap.size w ((w.alloc (.cells #[.int .u64 (r 0), .int .u64 (r 1), .int .u64 (r 2), .int .u64 (r 3), .int .u64 (r 4), .int .u64 (r 5), .int .u64 (r 6), .int .u64 (r 7), .int .u64 (r 8), .int .u64 (r 9), .int .u64 (r 10), .int .u64 (r 11), .int .u64 (r 12), .int .u64 (r 13), .int .u64 (r 14), .int .u64 (r 15), .int .u64 (r 16), .int .u64 (r 17), .bool false, .bool true, .bool true, .bool true, .bool pf] 25)).alloc (.cells #[.bool true, .bool false, .bool true, .bool true, .bool true, .bool pf, .bool false, .bool true] 4))) := Lib.hid (by go_grown)
      obtain ⟨hv, hhv⟩ : ∃ hv, holdsF ⟨r, false, true, true, true, pf⟩ j = hv := ⟨_, rfl⟩
      rw [hhv] at hq
      have HHV := Lib.hid hhv
      clear hhv
      generalize ((w.alloc (.cells #[.int .u64 (r 0), .int .u64 (r 1), .int .u64 (r 2), .int .u64 (r 3), .int .u64 (r 4), .int .u64 (r 5), .int .u64 (r 6), .int .u64 (r 7), .int .u64 (r 8), .int .u64 (r 9), .int .u64 (r 10), .int .u64 (r 11), .int .u64 (r 12), .int .u64 (r 13), .int .u64 (r 14), .int .u64 (r 15), .int .u64 (r 16), .int .u64 (r 17), .bool false, .bool true, .bool true, .bool true, .bool pf] 25)).alloc (.cells #[.bool true, .bool false, .bool true, .bool true, .bool true, .bool pf, .bool false, .bool true] 4)) = W at *
      rcases hp with rfl | rfl
      · go_wp2_with fail
        go_ret
        exact ⟨by rw [HHV.out]; rfl, hB.out⟩
      · go_wp2_with fail
        go_ret
        exact ⟨by rw [HHV.out]; rfl, hB.out⟩
    · go_upto_region 5 with fail
      have hq : ((w.alloc (.cells #[.int .u64 (r 0), .int .u64 (r 1), .int .u64 (r 2), .int .u64 (r 3), .int .u64 (r 4), .int .u64 (r 5), .int .u64 (r 6), .int .u64 (r 7), .int .u64 (r 8), .int .u64 (r 9), .int .u64 (r 10), .int .u64 (r 11), .int .u64 (r 12), .int .u64 (r 13), .int .u64 (r 14), .int .u64 (r 15), .int .u64 (r 16), .int .u64 (r 17), .bool true, .bool false, .bool false, .bool false, .bool pf] 25)).alloc (.cells #[.bool false, .bool true, .bool false, .bool true, .bool false, .bool pf, .bool false, .bool false] 4)).cell? ⟨w.heap.size + 1, j, none⟩ = some (.bool (holdsF ⟨r, true, false, false, false, pf⟩ j)) := cell_two w _ _ _ _ j _ (HR.out true false false false pf)
      have hB : Hid (Below w.heap.size w ((w.alloc (.cells #[.int .u64 (r 0), .int .u64 (r 1), .int .u64 (r 2), .int .u64 (r 3), .int .u64 (r 4), .int .u64 (r 5), .int .u64 (r 6), .int .u64 (r 7), .int .u64 (r 8), .int .u64 (r 9), .int .u64 (r 10), .int .u64 (r 11), .int .u64 (r 12), .int .u64 (r 13), .int .u64 (r 14), .int .u64 (r 15), .int .u64 (r 16), .int .u64 (r 17), .bool true, .bool false, .bool false, .bool false, .bool pf] 25)).alloc (.cells #[.bool false, .bool true, .bool false, .bool true, .bool false, .bool pf, .bool false, .bool false] 4))) := Lib.hid (by go_grown)
      obtain ⟨hv, hhv⟩ : ∃ hv, holdsF ⟨r, true, false, false, false, pf⟩ j = hv := ⟨_, rfl⟩
      rw [hhv] at hq
      have HHV := Lib.hid hhv
      clear hhv
      generalize ((w.alloc (.cells #[.int .u64 (r 0), .int .u64 (r 1), .int .u64 (r 2), .int .u64 (r 3), .int .u64 (r 4), .int .u64 (r 5), .int .u64 (r 6), .int .u64 (r 7), .int .u64 (r 8), .int .u64 (r 9), .int .u64 (r 10), .int .u64 (r 11), .int .u64 (r 12), .int .u64 (r 13), .int .u64 (r 14), .int .u64 (r 15), .int .u64 (r 16), .int .u64 (r 17), .bool true, .bool false, .bool false, .bool false, .bool pf] 25)).alloc (.cells #[.bool false, .bool true, .bool false, .bool true, .bool false, .bool pf, .bool false, .bool false] 4)) = W at *
      rcases hp with rfl | rfl
      · go_wp2_with fail
        go_ret
        exact ⟨by rw [HHV.out]; rfl, hB.out⟩
      · go_wp2_with fail
        go_ret
        exact ⟨by rw [HHV.out]; rfl, hB.out⟩
    · go_upto_region 5 with fail
      have hq : ((w.alloc (.cells #[.int .u64 (r 0), .int .u64 (r 1), .int .u64 (r 2), .int .u64 (r 3), .int .u64 (r 4), .int .u64 (r 5), .int .u64 (r 6), .int .u64 (r 7), .int .u64 (r 8), .int .u64 (r 9), .int .u64 (r 10), .int .u64 (r 11), .int .u64 (r 12), .int .u64 (r 13), .int .u64 (r 14), .int .u64 (r 15), .int .u64 (r 16), .int .u64 (r 17), .bool true, .bool false, .bool false, .bool true, .bool pf] 25)).alloc (.cells #[.bool true, .bool true, .bool false, .bool true, .bool false, .bool pf, .bool true, .bool true] 4)).cell? ⟨w.heap.size + 1, j, none⟩ = some (.bool (holdsF ⟨r, true, false, false, true, pf⟩ j)) := cell_two w _ _ _ _ j _ (HR.out true false false true pf)
      have hB : Hid (Below w.heap.size w ((w.alloc (.cells #[.int .u64 (r 0), .int .u64 (r 1), .int .u64 (r 2), .int .u64 (r 3), .int .u64 (r 4), .int .u64 (r 5), .int .u64 (r 6), .int .u64 (r 7), .int .u64 (r 8), .int .u64 (r 9), .int .u64 (r 10), .int .u64 (r 11), .int .u64 (r 12), .int .u64 (r 13), .int .u64 (r 14), .int .u64 (r 15), .int .u64 (r 16), .int .u64 (r 17), .bool true, .bool false, .bool false, .bool true, .bool pf] 25)).alloc (.cells #[.bool true, .bool true, .bool false, .bool true, .bool false, .bool pf, .bool true, .bool true] 4))) := Lib.hid (by go_grown)
      obtain ⟨hv, hhv⟩ : ∃ hv, holdsF ⟨r, true, false, false, true, pf⟩ j = hv := ⟨_, rfl⟩
      rw [hhv] at hq
      have HHV := Lib.hid hhv
      clear hhv
      generalize ((w.alloc (.cells #[.int .u64 (r 0), .int .u64 (r 1), .int .u64 (r 2), .int .u64 (r 3), .int .u64 (r 4), .int .u64 (r 5), .int .u64 (r 6), .int .u64 (r 7), .int .u64 (r 8), .int .u64 (r 9), .int .u64 (r 10), .int .u64 (r 11), .int .u64 (r 12), .int .u64 (r 13), .int .u64 (r 14), .int .u64 (r 15), .int .u64 (r 16), .int .u64 (r 17), .bool true, .bool false, .bool false, .bool true, .bool pf] 25)).alloc (.cells #[.bool true, .bool true, .bool false, .bool true, .bool false, .bool pf, .bool true, .bool true] 4)) = W at *
      rcases hp with rfl | rfl
      · go_wp2_with fail
        go_ret
        exact ⟨by rw [HHV.out]; rfl, hB.out⟩
      · go_wp2_with fail
        go_ret
        exact ⟨by rw [HHV.out]; rfl, hB.out⟩
    · go_upto_region 5 with fail
      have hq : ((w.alloc (.cells #[.int .u64 (r 0), .int .u64 (r 1), .int .u64 (r 2), .int .u64 (r 3), .int .u64 (r 4), .int .u64 (r 5), .int .u64 (r 6), .int .u64 (r 7), .int .u64 (r 8), .int .u64 (r 9), .int .u64 (r 10), .int .u64 (r 11), .int .u64 (r 12), .int .u64 (r 13), .int .u64 (r 14), .int .u64 (r 15), .int .u64 (r 16), .int .u64 (r 17), .bool true, .bool false, .bool true, .bool false, .bool pf] 25)).alloc (.cells #[.bool false, .bool true, .bool false, .bool true, .bool true, .bool pf, .bool true, .bool true] 4)).cell? ⟨w.heap.size + 1, j, none⟩ = some (.bool (holdsF ⟨r, true, false, true, false, pf⟩ j)) := cell_two w _ _ _ _ j _ (HR.out true false true false pf)
      have hB : Hid (Below w.heap.size w ((w.alloc (.cells #[.int .u64 (r 0), .int .u64 (r 1), .int .u64 (r 2), .int .u64 (r 3), .int .u64 (r 4), .int .u64 (r 5), .int .u64 (r 6), .int .u64 (r 7), .int .u64 (r 8), .int .u64 (r 9), .int .u64 (r 10), .int .u64 (r 11), .int .u64 (r 12), .int .u64 (r 13), .int .u64 (r 14), .int .u64 (r 15), .int .u64 (r 16), .int .u64 (r 17), .bool true, .bool false, .bool true, .bool false, .bool pf] 25)).alloc (.cells #[.bool false, .bool true, .bool false, .bool true, .bool true, .bool pf, .bool true, .bool true] 4))) := Lib.hid (by go_grown)
      obtain ⟨hv, hhv⟩ : ∃ hv, holdsF ⟨r, true, false, true, false, pf⟩ j = hv := ⟨_, rfl⟩
      rw [hhv] at hq
      have HHV := Lib.hid hhv
      clear hhv
      generalize ((w.alloc (.cells #[.int .u64 (r 0), .int .u64 (r 1), .int .u64 (r 2), .int .u64 (r 3), .int .u64 (r 4), .int .u64 (r 5), .int .u64 (r 6), .int .u64 (r 7), .int .u64 (r 8), .int .u64 (r 9), .int .u64 (r 10), .int .u64 (r 11), .int .u64 (r 12), .int .u64 (r 13), .int .u64 (r 14), .int .u64 (r 15), .int .u64 (r 16), .int .u64 (r 17), .bool true, .bool false, .bool true, .bool false, .bool pf] 25)).alloc (.cells #[.bool false, .bool true, .bool false, .bool true, .bool true, .bool pf, .bool true, .bool true] 4)) = W at *
      rcases hp with rfl | rfl
      · go_wp2_with fail
        go_ret
        exact ⟨by rw [HHV.out]; rfl, hB.out⟩
      · go_wp2_with fail
        go_ret
        exact ⟨by rw [HHV.out]; rfl, hB.out⟩
    · go_upto_region 5 with fail
      have hq : ((w.alloc (.cells #[.int .u64 (r 0), .int .u64 (r 1), .int .u64 (r 2), .int .u64 (r 3), .int .u64 (r 4), .int .u64 (r 5), .int .u64 (r 6), .int .u64 (r 7), .int .u64 (r 8), .int .u64 (r 9), .int .u64 (r 10), .int .u64 (r 11), .int .u64 (r 12), .int .u64 (r 13), .int .u64 (r 14), .int .u64 (r 15), .int .u64 (r 16), .int .u64 (r 17), .bool true, .bool false, .bool true, .bool true, .bool pf] 25)).alloc (.cells #[.bool true, .bool true, .bool false, .bool true, .bool true, .bool pf, .bool false, .bool false] 4)).cell? ⟨w.heap.size + 1, j, none⟩ = some (.bool (holdsF ⟨r, true, false, true, true, pf⟩ j)) := cell_two w _ _ _ _ j _ (HR.out true false true true pf)
      have hB : Hid (Below w.heap.size w ((w.alloc (.cells #[.int .u64 (r 0), .int .u64 (r 1), .int .u64 (r 2), .int .u64 (r 3), .int .u64 (r 4), .int .u64 (r 5), .int .u64 (r 6), .int .u64 (r 7), .int .u64 (r 8), .int .u64 (r 9), .int .u64 (r 10), .int .u64 (r 11), .int .u64 (r 12), .int .u64 (r 13), .int .u64 (r 14), .int .u64 (r 15), .int .u64 (r 16), .int .u64 (r 17), .bool true, .bool false, .bool true, .bool true, .bool pf] 25)).alloc (.cells #[.bool true, .bool true, .bool false, .bool true, .bool true, .bool pf, .bool false, .bool false] 4))) := Lib.hid (by go_grown)
      obtain ⟨hv, hhv⟩ : ∃ hv, holdsF ⟨r, true, false, true, true, pf⟩ j = hv := ⟨_, rfl⟩
      rw [hhv] at hq
      have HHV := Lib.hid hhv
      clear hhv
      generalize ((w.alloc (.cells #[.int .u64 (r 0), .int .u64 (r 1), .int .u64 (r 2), .int .u64 (r 3), .int .u64 (r 4), .int .u64 (r 5), .int .u64 (r 6), .int .u64 (r 7), .int .u64 (r 8), .int .u64 (r 9), .int .u64 (r 10), .int .u64 (r 11), .int .u64 (r 12), .int .u64 (r 13), .int .u64 (r 14), .int .u64 (r 15), .int .u64 (r 16), .int .u64 (r 17), .bool true, .bool false, .bool true, .bool true, .bool pf] 25)).alloc (.cells #[.bool true, .bool true, .bool false, .bool true, .bool true, .bool pf, .bool false, .bool false] 4)) = W at *
      rcases hp with rfl | rfl
      · go_wp2_with fail
        go_ret
        exact ⟨by rw [HHV.out]; rfl, hB.out⟩
      · go_wp2_with fail
        go_ret
        exact ⟨by rw [HHV.out]; rfl, hB.out⟩
    · go_upto_region 5 with fail
      have hq : ((w.alloc (.cells #[.int .u64 (r 0), .int .u64 (r 1), .int .u64 (r 2), .int .u64 (r 3), .int .u64 (r 4), .int .u64 (r 5), .int .u64 (r 6), .int .u64 (r 7), .int .u64 (r 8), .int .u64 (r 9), .int .u64 (r 10), .int .u64 (r 11), .int .u64 (r 12), .int .u64 (r 13), .int .u64 (r 14), .int .u64 (r 15), .int .u64 (r 16), .int .u64 (r 17), .bool true, .bool true, .bool false, .bool false, .bool pf] 25)).alloc (.cells #[.bool false, .bool true, .bool true, .bool true, .bool false, .bool pf, .bool false, .bool true] 4)).cell? ⟨w.heap.size + 1, j, none⟩ = some (.bool (holdsF ⟨r, true, true, false, false, pf⟩ j)) := cell_two w _ _ _ _ j _ (HR.out true true false false pf)
      have hB : Hid (Below w.heap.size w ((w.alloc (.cells #[.int .u64 (r 0), .int .u64 (r 1), .int .u64 (r 2), .int .u64 (r 3), .int .u64 (r 4), .int .u64 (r 5), .int .u64 (r 6), .int .u64 (r 7), .int .u64 (r 8), .int .u64 (r 9), .int .u64 (r 10), .int .u64 (r 11), .int .u64 (r 12), .int .u64 (r 13), .int .u64 (r 14), .int .u64 (r 15), .int .u64 (r 16), .int .u64 (r 17), .bool true, .bool true, .bool false, .bool false, .bool pf] 25)).alloc (.cells #[.bool false, .bool true, .bool true, .bool true, .bool false, .bool pf, .bool false, .bool true] 4))) := Lib.hid (by go_grown)
      obtain ⟨hv, hhv⟩ : ∃ hv, holdsF ⟨r, true, true, false, false, pf⟩ j = hv := ⟨_, rfl⟩
      rw [hhv] at hq
      have HHV := Lib.hid hhv
      clear hhv
      generalize ((w.alloc (.cells #[.int .u64 (r 0), .int .u64 (r 1), .int .u64 (r 2), .int .u64 (r 3), .int .u64 (r 4), .int .u64 (r 5), .int .u64 (r 6), .int .u64 (r 7), .int .u64 (r 8), .int .u64 (r 9), .int .u64 (r 10), .int .u64 (r 11), .int .u64 (r 12), .int .u64 (r 13), .int .u64 (r 14), .int .u64 (r 15), .int .u64 (r 16), .int .u64 (r 17), .bool true, .bool true, .bool false, .bool false, .bool pf] 25)).alloc (.cells #[.bool false, .bool true, .bool true, .bool true, .bool false, .bool pf, .bool false, .bool true] 4)) = W at *
      rcases hp with rfl | rfl
      · go_wp2_with fail
        go_ret
        exact ⟨by rw [HHV.out]; rfl, hB.out⟩
      · go_wp2_with fail
        go_ret
        exact ⟨by rw [HHV.out]; rfl, hB.out⟩
    · go_upto_region 5 with fail
      have hq : ((w.alloc (.cells #[.int .u64 (r 0), .int .u64 (r 1), .int .u64 (r 2), .int .u64 (r 3), .int .u64 (r 4), .int .u64 (r 5), .int .u64 (r 6), .int .u64 (r 7), .int .u64 (r 8), .int .u64 (r 9), .int .u64 (r 10), .int .u64 (r 11), .int .u64 (r 12), .int .u64 (r 13), .int .u64 (r 14), .int .u64 (r 15), .int .u64 (r 16), .int .u64 (r 17), .bool true, .bool true, .bool false, .bool true, .bool pf] 25)).alloc (.cells #[.bool true, .bool true, .bool true, .bool true, .bool false, .bool pf, .bool true, .bool true] 4)).cell? ⟨w.heap.size + 1, j, none⟩ = some (.bool (holdsF ⟨r, true, true, false, true, pf⟩ j)) := cell_two w _ _ _ _ j _ (HR.out true true false true pf)
      have hB : Hid (Below w.heap.size w ((w.alloc (.cells #[.int .u64 (r 0), .int .u64 (r 1), .int .u64 (r 2), .int .u64 (r 3), .int .u64 (r 4), .int .u64 (r 5), .int .u64 (r 6), .int .u64 (r 7), .int .u64 (r 8), .int .u64 (r 9), .int .u64 (r 10), .int .u64 (r 11), .int .u64 (r 12), .int .u64 (r 13), .int .u64 (r 14), .int .u64 (r 15), .int .u64 (r 16), .int .u64 (r 17), .bool true, .bool true, .bool false, .bool true, .bool pf] 25)).alloc (.cells #[.bool true, .bool true, .bool true, .bool true, .bool false, .bool pf, .bool true, .bool true] 4))) := Lib.hid (by go_grown)
      obtain ⟨hv, hhv⟩ : ∃ hv, holdsF ⟨r, true, true, false, true, pf⟩ j = hv := ⟨_, rfl⟩
      rw [hhv] at hq
      have HHV := Lib.hid hhv
      clear hhv
      generalize ((w.alloc (.cells #[.int .u64 (r 0), .int .u64 (r 1), .int .u64 (r 2), .int .u64 (r 3), .int .u64 (r 4), .int .u64 (r 5), .int .u64 (r 6), .int .u64 (r 7), .int .u64 (r 8), .int .u64 (r 9), .int .u64 (r 10), .int .u64 (r 11), .int .u64 (r 12), .int .u64 (r 13), .int .u64 (r 14), .int .u64 (r 15), .int .u64 (r 16), .int .u64 (r 17), .bool true, .bool true, .bool false, .bool true, .bool pf] 25)).alloc (.cells #[.bool true, .bool true, .bool true, .bool true, .bool false, .bool pf, .bool true, .bool true] 4)) = W at *
      rcases hp with rfl | rfl
      · go_wp2_with fail
        go_ret
        exact ⟨by rw [HHV.out]; rfl, hB.out⟩
      · go_wp2_with fail
        go_ret
        exact ⟨by rw [HHV.out]; rfl, hB.out⟩
    · go_upto_region 5 with fail
      have hq : ((w.alloc (.cells #[.int .u64 (r 0), .int .u64 (r 1), .int .u64 (r 2), .int .u64 (r 3), .int .u64 (r 4), .int .u64 (r 5), .int .u64 (r 6), .int .u64 (r 7), .int .u64 (r 8), .int .u64 (r 9), .int .u64 (r 10), .int .u64 (r 11), .int .u64 (r 12), .int .u64 (r 13), .int .u64 (r 14), .int .u64 (r 15), .int .u64 (r 16), .int .u64 (r 17), .bool true, .bool true, .bool true, .bool false, .bool pf] 25)).alloc (.cells #[.bool false, .bool true, .bool true, .bool true, .bool true, .bool pf, .bool true, .bool true] 4)).cell? ⟨w.heap.size + 1, j, none⟩ = some (.bool (holdsF ⟨r, true, true, true, false, pf⟩ j)) := cell_two w _ _ _ _ j _ (HR.out true true true false pf)
      have hB : Hid (Below w.heap.size w ((w.alloc (.cells #[.int .u64 (r 0), .int .u64 (r 1), .int .u64 (r 2), .int .u64 (r 3), .int .u64 (r 4), .int .u64 (r 5), .int .u64 (r 6), .int .u64 (r 7), .int .u64 (r 8), .int .u64 (r 9), .int .u64 (r 10), .int .u64 (r 11), .int .u64 (r 12), .int .u64 (r 13), .int .u64 (r 14), .int .u64 (r 15), .int .u64 (r 16), .int .u64 (r 17), .bool true, .bool true, .bool true, .bool false, .bool pf] 25)).alloc (.cells #[.bool false, .bool true, .bool true, .bool true, .bool true, .bool pf, .bool true, .bool true] 4))) := Lib.hid (by go_grown)
      obtain ⟨hv, hhv⟩ : ∃ hv, holdsF ⟨r, true, true, true, false, pf⟩ j = hv := ⟨_, rfl⟩
      rw [hhv] at hq
      have HHV := Lib.hid hhv
      clear hhv
      generalize ((w.alloc (.cells #[.int .u64 (r 0), .int .u64 (r 1), .int .u64 (r 2), .int .u64 (r 3), .int .u64 (r 4), .int .u64 (r 5), .int .u64 (r 6), .int .u64 (r 7), .int .u64 (r 8), .int .u64 (r 9), .int .u64 (r 10), .int .u64 (r 11), .int .u64 (r 12), .int .u64 (r 13), .int .u64 (r 14), .int .u64 (r 15), .int .u64 (r 16), .int .u64 (r 17), .bool true, .bool true, .bool true, .bool false, .bool pf] 25)).alloc (.cells #[.bool false, .bool true, .bool true, .bool true, .bool true, .bool pf, .bool true, .bool true] 4)) = W at *
      rcases hp with rfl | rfl
      · go_wp2_with fail
        go_ret
        exact ⟨by rw [HHV.out]; rfl, hB.out⟩
      · go_wp2_with fail
        go_ret
        exact ⟨by rw [HHV.out]; rfl, hB.out⟩
    · go_upto_region 5 with fail
      have hq : ((w.alloc (.cells #[.int .u64 (r 0), .int .u64 (r 1), .int .u64 (r 2), .int .u64 (r 3), .int .u64 (r 4), .int .u64 (r 5), .int .u64 (r 6), .int .u64 (r 7), .int .u64 (r 8), .int .u64 (r 9), .int .u64 (r 10), .int .u64 (r 11), .int .u64 (r 12), .int .u64 (r 13), .int .u64 (r 14), .int .u64 (r 15), .int .u64 (r 16), .int .u64 (r 17), .bool true, .bool true, .bool true, .bool true, .bool pf] 25)).alloc (.cells #[.bool true, .bool true, .bool true, .bool true, .bool true, .bool pf, .bool false, .bool true] 4)).cell? ⟨w.heap.size + 1, j, none⟩ = some (.bool (holdsF ⟨r, true, true, true, true, pf⟩ j)) := cell_two w _ _ _ _ j _ (HR.out true true true true pf)
      have hB : Hid (Below w.heap.size w ((w.alloc (.cells #[.int .u64 (r 0), .int .u64 (r 1), .int .u64 (r 2), .int .u64 (r 3), .int .u64 (r 4), .int .u64 (r 5), .int .u64 (r 6), .int .u64 (r 7), .int .u64 (r 8), .int .u64 (r 9), .int .u64 (r 10), .int .u64 (r 11), .int .u64 (r 12), .int .u64 (r 13), .int .u64 (r 14), .int .u64 (r 15), .int .u64 (r 16), .int .u64 (r 17), .bool true, .bool true, .bool true, .bool true, .bool pf] 25)).alloc (.cells #[.bool true, .bool true, .bool true, .bool true, .bool true, .bool pf, .bool false, .bool true] 4))) := Lib.hid (by go_grown)
      obtain ⟨hv, hhv⟩ : ∃ hv, holdsF ⟨r, true, true, true, true, pf⟩ j = hv := ⟨_, rfl⟩
      rw [hhv] at hq
      have HHV := Lib.hid hhv
      clear hhv
      generalize ((w.alloc (.cells #[.int .u64 (r 0), .int .u64 (r 1), .int .u64 (r 2), .int .u64 (r 3), .int .u64 (r 4), .int .u64 (r 5), .int .u64 (r 6), .int .u64 (r 7), .int .u64 (r 8), .int .u64 (r 9), .int .u64 (r 10), .int .u64 (r 11), .int .u64 (r 12), .int .u64 (r 13), .int .u64 (r 14), .int .u64 (r 15), .int .u64 (r 16), .int .u64 (r 17), .bool true, .bool true, .bool true, .bool true, .bool pf] 25)).alloc (.cells #[.bool true, .bool true, .bool true, .bool true, .bool true, .bool pf, .bool false, .bool true] 4)) = W at *
      rcases hp with rfl | rfl
      · go_wp2_with fail
        go_ret
        exact ⟨by rw [HHV.out]; rfl, hB.out⟩
      · go_wp2_with fail
        go_ret
        exact ⟨by rw [HHV.out]; rfl, hB.out⟩
end Go.Proofs.YtmnjkaimpejohaaGreatDoor
