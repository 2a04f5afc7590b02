/- Layer 4: what a program header tells lies within the file, and its addresses are addresses. -/
import Derived.Test.YtnaejlfjlennhaaGreatDoorHeadSized
import Derived.Test.YtnaejlfjlennhaaGreatDoorTk
namespace Go.Proofs.YtnaejlfjlennhaaGreatDoor
open Go.RowKit
set_option linter.unusedVariables false
set_option linter.unusedSimpArgs false

theorem is_new (p : PT) (l : List Nat) (cs : Array Value) (n : Nat) (w : World) (hcs : cs.toList = l.map fun x => Value.int .u32 ((x : Nat) : Int)) (hn : l.length = n) (hnl : n ≤ 1048576) :
    Calls Tryz.prog 71 #[p.hv, .slice (some ⟨w.heap.size, 0, none⟩) n n] (w.alloc (.cells cs 52)) fun e w' => e = .returned (.bool (isOf p l)) ∧ Below w.heap.size w w' := by
  refine (is_any p w.heap.size n n l _ (URow.lit w l cs hcs _) hn hnl).mono ?_
  rintro e w' ⟨rfl, hb⟩
  exact ⟨rfl, bstep (ballo (Below.refl _ _) _) hb⟩
theorem sum2_new (x y : Nat) (w : World) (hx : x < 18446744073709551616) (hy : y < 18446744073709551616) :
    Calls Tryz.prog 74 #[.slice (some ⟨w.heap.size, 0, none⟩) 2 2] (w.alloc (.cells #[.int .u64 (x : Int), .int .u64 (y : Int)] 24)) fun e w' => (∃ S ev, e = .returned (.tuple #[.int .u64 S, ev]) ∧ ((x + y < 18446744073709551616 ∧ S = (x : Int) + (y : Int) ∧ ev = .nilIface) ∨ (18446744073709551616 ≤ x + y ∧ ev = .iface 56 (.int .i64 28)))) ∧ Below w.heap.size w w' := by
  have hr : Row .u64 (w.alloc (.cells #[.int .u64 (x : Int), .int .u64 (y : Int)] 24)) (some ⟨w.heap.size, 0, none⟩) [(x : Int), (y : Int)] := Row.new .u64 w [(x : Int), (y : Int)] 24
  refine (sum_any (some ⟨w.heap.size, 0, none⟩) 2 [(x : Int), (y : Int)] _ hr (two_rows _ _ (by rw [M64_eq]; omega) (by rw [M64_eq]; omega)) (by unfold maxLen; simp)).mono ?_
  rintro e w' ⟨rfl, rfl⟩
  refine ⟨⟨_, _, rfl, ?_⟩, ballo (Below.refl _ _) _⟩
  by_cases h : x + y < 18446744073709551616
  · left
    rw [sumF_yes (by rw [M64_eq]; simp; omega)]
    exact ⟨h, by simp, rfl⟩
  · right
    rw [sumF_no (by rw [M64_eq]; simp; omega)]
    exact ⟨by omega, rfl⟩

set_option maxRecDepth 100000 in
set_option maxHeartbeats 16000000 in
theorem inside1_any (r : HRd) (p : PT) (at_ b0 b1 b2 : Nat) (w : World) (hr : r.at w) (hm : r.m ≤ 140737488351232) (hp : p.wf) (ha : at_ + 64 < 18446744073709551616) (h0 : w.heap[b0]? = some (.cells p.cells.toArray 54)) (h1 : w.heap[b1]? = some (.cells #[.pointer (some ⟨r.rb, 0, none⟩)] 115)) (h2 : w.heap[b2]? = some (.cells #[.int .u64 (at_ : Int)] 24)) :
    Calls Tryz.prog 73 #[.pointer (some ⟨b0, 0, none⟩), .pointer (some ⟨b1, 0, none⟩), .pointer (some ⟨b2, 0, none⟩)] w (TestPost (insideF r.m p at_) w) := by
  have HI1 : Hid (∀ wx, Calls Tryz.prog 71 #[p.hv, .slice (some ⟨wx.heap.size, 0, none⟩) 5 5] (wx.alloc (.cells #[.int .u32 1, .int .u32 2, .int .u32 3, .int .u32 4, .int .u32 7] 52)) fun e w' => e = .returned (.bool (isOf p [1, 2, 3, 4, 7])) ∧ Below wx.heap.size wx w') := Lib.hid (fun wx => is_new p [1, 2, 3, 4, 7] _ 5 wx rfl rfl (by decide))
  have HI2 : Hid (∀ wx, Calls Tryz.prog 71 #[p.hv, .slice (some ⟨wx.heap.size, 0, none⟩) 4 4] (wx.alloc (.cells #[.int .u32 1, .int .u32 2, .int .u32 7, .int .u32 1685382482] 52)) fun e w' => e = .returned (.bool (isOf p [1, 2, 7, 1685382482])) ∧ Below wx.heap.size wx w') := Lib.hid (fun wx => is_new p [1, 2, 7, 1685382482] _ 4 wx rfl rfl (by decide))
  have HSU : Hid (∀ wx, Calls Tryz.prog 74 #[.slice (some ⟨wx.heap.size, 0, none⟩) 2 2] (wx.alloc (.cells #[.int .u64 (p.vaddr : Int), .int .u64 (p.memsz : Int)] 24)) fun e w' => (∃ S ev, e = .returned (.tuple #[.int .u64 S, ev]) ∧ ((p.vaddr + p.memsz < 18446744073709551616 ∧ S = (p.vaddr : Int) + (p.memsz : Int) ∧ ev = .nilIface) ∨ (18446744073709551616 ≤ p.vaddr + p.memsz ∧ ev = .iface 56 (.int .i64 28)))) ∧ Below wx.heap.size wx w') := Lib.hid (fun wx => sum2_new p.vaddr p.memsz wx hp.2.2.2.1 hp.2.2.2.2.2.1)
  have HWT : Hid (∀ wx, Below w.heap.size w wx → Calls Tryz.prog 41 #[.pointer (some ⟨r.rb, 0, none⟩), .int .u64 (p.off : Int), .int .u64 (p.filesz : Int)] wx fun e w' => e = .returned (.bool (inB r.m p.off p.filesz)) ∧ wx = w') := Lib.hid (fun wx hx => hwithin_any r p.off p.filesz wx (hr.below hx) (by omega) hp.2.2.1 hp.2.2.2.2.1)
  obtain ⟨R1, hR1⟩ : ∃ R1, isOf p [1, 2, 3, 4, 7] = R1 := ⟨_, rfl⟩
  obtain ⟨R2, hR2⟩ : ∃ R2, isOf p [1, 2, 7, 1685382482] = R2 := ⟨_, rfl⟩
  obtain ⟨K1, hK1⟩ : ∃ K1, inB r.m p.off p.filesz = K1 := ⟨_, rfl⟩
  rw [hR1] at HI1
  rw [hR2] at HI2
  rw [hK1] at HWT
  have hin : insideF r.m p at_ = firstF [unF (!R1 || K1) (at_ + 8) 4, unF (!R2 || decide (p.vaddr + p.memsz ≤ 140737488355328)) (at_ + 16) 4] := by unfold insideF; rw [hR1, hR2, hK1]
  rw [hin]
  have aw8 : IntKind.u64.wrap ((at_ : Int) + 8) = (at_ : Int) + 8 := by rw [IntKind.wrap_u64]; omega
  have aw16 : IntKind.u64.wrap ((at_ : Int) + 16) = (at_ : Int) + 16 := by rw [IntKind.wrap_u64]; omega
  have HA : Hid (0 ≤ (at_ : Int) + 8 ∧ (at_ : Int) + 8 < 18446744073709551616 ∧ 0 ≤ (at_ : Int) + 16 ∧ (at_ : Int) + 16 < 18446744073709551616) := Lib.hid (by omega)
  have HX : Hid (∀ wx, Below w.heap.size w wx → wx.heap[b0]? = some (.cells p.cells.toArray 54) ∧ wx.heap[b1]? = some (.cells #[.pointer (some ⟨r.rb, 0, none⟩)] 115) ∧ wx.heap[b2]? = some (.cells #[.int .u64 (at_ : Int)] 24)) := Lib.hid (fun wx hx => ⟨(hx.block _ (lt_of_block h0)).trans h0, (hx.block _ (lt_of_block h1)).trans h1, (hx.block _ (lt_of_block h2)).trans h2⟩)
  have HP : Hid (∀ K X, K = (!R2 || decide (p.vaddr + p.memsz ≤ 140737488355328)) → X = (!R1 || K1) → ∀ v w', ErrAt w' v (firstF [unF X ((at_ : Int) + 8).toNat (4 : Int).toNat, unF K ((at_ : Int) + 16).toNat (4 : Int).toNat]) → Below w.heap.size w w' → TestPost (firstF [unF (!R1 || K1) (at_ + 8) 4, unF (!R2 || decide (p.vaddr + p.memsz ≤ 140737488355328)) (at_ + 16) 4]) w (.returned v) w') := Lib.hid (fun K X hK hX v w' h hb => ⟨⟨v, rfl, by
    rw [show ((at_ : Int) + 8).toNat = at_ + 8 by omega, show ((at_ : Int) + 16).toNat = at_ + 16 by omega, hK, hX] at h
    exact h⟩, hb⟩)
  generalize TestPost (firstF [unF (!R1 || K1) (at_ + 8) 4, unF (!R2 || decide (p.vaddr + p.memsz ≤ 140737488355328)) (at_ + 16) 4]) w = P at *
  have HX0 := HX.out w (Below.refl _ _)
  obtain ⟨a0, a1, a2, a3, a4, a5, a6⟩ := p
  unfold PT.hv PT.cells at *
  simp only [] at *
  obtain ⟨rb, k0, k1, k2, k3, ra, rm, rcap, pa, n, pc⟩ := r
  simp only [] at *
  obtain ⟨x0, -, -⟩ := HX0
  obtain ⟨c0, c1, c2, c3, c4, c5, c6⟩ := out_cells x0
  clear hr hm hp ha h0 h1 h2 hR1 hR2 hK1 hin x0
  go_enter Tryz.func73, Tryz.ntmps73
  go_wp2_with fail
  refine (HI1.out w).mono ?_
  rintro e w3 ⟨rfl, hb3⟩
  have B3 := Lib.hid hb3
  clear hb3 c0 c1 c2 c3 c4 c5 c6
  obtain ⟨x3, -, -⟩ := HX.out w3 B3.out
  obtain ⟨c0, c1, c2, c3, c4, c5, c6⟩ := out_cells x3
  clear x3
  go_wp2_with fail
  refine (HI2.out w3).mono ?_
  rintro e w4 ⟨rfl, hb4⟩
  have B4 := Lib.hid (bstep B3.out hb4)
  clear hb4 c0 c1 c2 c3 c4 c5 c6
  obtain ⟨x4, -, -⟩ := HX.out w4 B4.out
  obtain ⟨c0, c1, c2, c3, c4, c5, c6⟩ := out_cells x4
  clear x4
  go_wp2_with fail
  refine (HSU.out w4).mono ?_
  rintro e w5 ⟨⟨S, ev, rfl, hS⟩, hb5⟩
  have B5 := Lib.hid (bstep B4.out hb5)
  clear hb5 c0 c1 c2 c3 c4 c5 c6 HI1 HI2 HSU
  have HWI : Hid (∀ wx, Below w5.heap.size w5 wx → Calls Tryz.prog 41 #[.pointer (some ⟨rb, 0, none⟩), .int .u64 (a2 : Int), .int .u64 (a4 : Int)] wx fun e w' => e = .returned (.bool K1) ∧ wx = w') := Lib.hid (fun wx hx => HWT.out wx (bstep B5.out hx))
  have KS : Hid (∀ wx, Below w5.heap.size w5 wx → wx.cell? ⟨b0, 2, none⟩ = some (.int .u64 (a2 : Int)) ∧ wx.cell? ⟨b0, 4, none⟩ = some (.int .u64 (a4 : Int)) ∧ wx.cell? ⟨b1, 0, none⟩ = some (.pointer (some ⟨rb, 0, none⟩)) ∧ wx.cell? ⟨b2, 0, none⟩ = some (.int .u64 (at_ : Int))) := Lib.hid (fun wx hx => by
    obtain ⟨x4, y4, z4⟩ := HX.out wx (bstep B5.out hx)
    obtain ⟨q0, q1, q2, q3, q4, q5, q6⟩ := out_cells x4
    exact ⟨q2, q4, by rw [cell_of_row _ _ 0 _ _ _ y4]; rfl, by rw [cell_of_row _ _ 0 _ _ _ z4]; rfl⟩)
  clear HWT HX
  cases R2 with
  | false =>
    clear hS
    cases R1 with
    | true =>
      go_wp2_with fail
      refine wp_region_held_drew (S := fun wx => Below w5.heap.size w5 wx) (by kernel_rfl) ((Below.refl _ _).drew) (fun hHeld => ?_)
      first
        | (refine tkw 0 ?_ rfl ?_ ?_
           rotate_left
           · intro wx hSw
             obtain ⟨s0, s1, s2, s3⟩ := KS.out wx hSw
             (first | (go_simp; rfl) | go_simp | rfl))
        | refine tku 0 rfl ?_
      first
        | (refine tkw 1 ?_ rfl ?_ ?_
           rotate_left
           · intro wx hSw
             obtain ⟨s0, s1, s2, s3⟩ := KS.out wx hSw
             (first | (go_simp; rfl) | go_simp | rfl))
        | refine tku 1 rfl ?_
      first
        | (refine tkw 2 ?_ rfl ?_ ?_
           rotate_left
           · intro wx hSw
             obtain ⟨s0, s1, s2, s3⟩ := KS.out wx hSw
             (first | (go_simp; rfl) | go_simp | rfl))
        | refine tku 2 rfl ?_
      first
        | (refine tkw 3 ?_ rfl ?_ ?_
           rotate_left
           · intro wx hSw
             obtain ⟨s0, s1, s2, s3⟩ := KS.out wx hSw
             (first | (go_simp; rfl) | go_simp | rfl))
        | refine tku 3 rfl ?_
      first
        | (refine tkw 4 ?_ rfl ?_ ?_
           rotate_left
           · intro wx hSw
             obtain ⟨s0, s1, s2, s3⟩ := KS.out wx hSw
             (first | (go_simp; rfl) | go_simp | rfl))
        | refine tku 4 rfl ?_
      first
        | (refine tkw 5 ?_ rfl ?_ ?_
           rotate_left
           · intro wx hSw
             obtain ⟨s0, s1, s2, s3⟩ := KS.out wx hSw
             (first | (go_simp; rfl) | go_simp | rfl))
        | refine tku 5 rfl ?_
      first
        | (refine tkw 6 ?_ rfl ?_ ?_
           rotate_left
           · intro wx hSw
             obtain ⟨s0, s1, s2, s3⟩ := KS.out wx hSw
             (first | (go_simp; rfl) | go_simp | rfl))
        | refine tku 6 rfl ?_
      first
        | (refine tkw 7 ?_ rfl ?_ ?_
           rotate_left
           · intro wx hSw
             obtain ⟨s0, s1, s2, s3⟩ := KS.out wx hSw
             (first | (go_simp; rfl) | go_simp | rfl))
        | refine tku 7 rfl ?_
      first
        | (refine tkw 10 ?_ rfl ?_ ?_
           rotate_left
           · intro wx hSw
             obtain ⟨s0, s1, s2, s3⟩ := KS.out wx hSw
             (first | (go_simp; rfl) | go_simp | rfl))
        | refine tku 10 rfl ?_
      first
        | (refine tkw 11 ?_ rfl ?_ ?_
           rotate_left
           · intro wx hSw
             obtain ⟨s0, s1, s2, s3⟩ := KS.out wx hSw
             (first | (go_simp; rfl) | go_simp | rfl))
        | refine tku 11 rfl ?_
      first
        | (refine tkw 13 ?_ rfl ?_ ?_
           rotate_left
           · intro wx hSw
             obtain ⟨s0, s1, s2, s3⟩ := KS.out wx hSw
             (first | (go_simp; rfl) | go_simp | rfl))
        | refine tku 13 rfl ?_
      first
        | (refine tkw 14 ?_ rfl ?_ ?_
           rotate_left
           · intro wx hSw
             obtain ⟨s0, s1, s2, s3⟩ := KS.out wx hSw
             (first | (go_simp; rfl) | go_simp | rfl))
        | refine tku 14 rfl ?_
      first
        | (refine tkw 23 ?_ rfl ?_ ?_
           rotate_left
           · intro wx hSw
             obtain ⟨s0, s1, s2, s3⟩ := KS.out wx hSw
             (first | (go_simp; rfl) | go_simp | rfl))
        | refine tku 23 rfl ?_
      first
        | (refine tkw 24 ?_ rfl ?_ ?_
           rotate_left
           · intro wx hSw
             obtain ⟨s0, s1, s2, s3⟩ := KS.out wx hSw
             (first | (go_simp; rfl) | go_simp | rfl))
        | refine tku 24 rfl ?_
      refine wpAnyH_ready (rs := [8]) (by kernel_rfl) (by simp) ?_
      refine AllReadyH.cons rfl (fun K hK => ?_) AllReadyH.nil
      go_simp
      refine (HWI.out _ (by assumption)).mono ?_
      rintro e w6 ⟨rfl, rfl⟩
      try go_simp
      refine hK.out _ _ (by assumption) (fun hHeld => ?_)
      clear hK K
      try simp only [List.getElem_toArray, List.getElem_cons_zero, List.getElem_cons_succ, Act.put, List.setIfInBounds_toArray, List.set_cons_zero, List.set_cons_succ, Array.toArray_toList]
      first
        | (refine tkw 9 ?_ rfl ?_ ?_
           rotate_left
           · intro wx hSw
             obtain ⟨s0, s1, s2, s3⟩ := KS.out wx hSw
             (first | (go_simp; rfl) | go_simp | rfl))
        | refine tku 9 rfl ?_
      refine wpAnyH_ready (rs := [12]) (by kernel_rfl) (by simp) ?_
      refine AllReadyH.cons rfl (fun K hK => ?_) AllReadyH.nil
      go_simp
      refine (unless_gen _ _ _ _ (by have := HA.out; omega) (by have := HA.out; omega) (by decide)).mono ?_
      rintro e w5 ⟨⟨F5, p5, d5, rfl, t5⟩, b5⟩
      have T5 := Lib.hid t5
      have H5 := Stp.mk b5
      clear t5
      try go_simp
      refine hK.out _ _ (bstep (by assumption) b5) (fun hHeld => ?_)
      clear hK K b5
      try simp only [List.getElem_toArray, List.getElem_cons_zero, List.getElem_cons_succ, Act.put, List.setIfInBounds_toArray, List.set_cons_zero, List.set_cons_succ, Array.toArray_toList]
      first
        | (refine tkw 15 ?_ rfl ?_ ?_
           rotate_left
           · intro wx hSw
             obtain ⟨s0, s1, s2, s3⟩ := KS.out wx hSw
             (first | (go_simp; rfl) | go_simp | rfl))
        | refine tku 15 rfl ?_
      first
        | (refine tkw 16 ?_ rfl ?_ ?_
           rotate_left
           · intro wx hSw
             obtain ⟨s0, s1, s2, s3⟩ := KS.out wx hSw
             (first | (go_simp; rfl) | go_simp | rfl))
        | refine tku 16 rfl ?_
      first
        | (refine tkw 17 ?_ rfl ?_ ?_
           rotate_left
           · intro wx hSw
             obtain ⟨s0, s1, s2, s3⟩ := KS.out wx hSw
             (first | (go_simp; rfl) | go_simp | rfl))
        | refine tku 17 rfl ?_
      first
        | (refine tkw 18 ?_ rfl ?_ ?_
           rotate_left
           · intro wx hSw
             obtain ⟨s0, s1, s2, s3⟩ := KS.out wx hSw
             (first | (go_simp; rfl) | go_simp | rfl))
        | refine tku 18 rfl ?_
      first
        | (refine tkw 19 ?_ rfl ?_ ?_
           rotate_left
           · intro wx hSw
             obtain ⟨s0, s1, s2, s3⟩ := KS.out wx hSw
             (first | (go_simp; rfl) | go_simp | rfl))
        | refine tku 19 rfl ?_
      first
        | (refine tkw 20 ?_ rfl ?_ ?_
           rotate_left
           · intro wx hSw
             obtain ⟨s0, s1, s2, s3⟩ := KS.out wx hSw
             (first | (go_simp; rfl) | go_simp | rfl))
        | refine tku 20 rfl ?_
      first
        | (refine tkw 21 ?_ rfl ?_ ?_
           rotate_left
           · intro wx hSw
             obtain ⟨s0, s1, s2, s3⟩ := KS.out wx hSw
             (first | (go_simp; rfl) | go_simp | rfl))
        | refine tku 21 rfl ?_
      first
        | (refine tkw 22 ?_ rfl ?_ ?_
           rotate_left
           · intro wx hSw
             obtain ⟨s0, s1, s2, s3⟩ := KS.out wx hSw
             (first | (go_simp; rfl) | go_simp | rfl))
        | refine tku 22 rfl ?_
      refine wpAnyH_ready (rs := [25]) (by kernel_rfl) (by simp) ?_
      refine AllReadyH.cons rfl (fun K hK => ?_) AllReadyH.nil
      go_simp
      refine (unless_gen _ _ _ _ (by have := HA.out; omega) (by have := HA.out; omega) (by decide)).mono ?_
      rintro e w5 ⟨⟨F5, p5, d5, rfl, t5⟩, b5⟩
      have T5 := Lib.hid t5
      have H5 := Stp.mk b5
      clear t5
      try go_simp
      refine hK.out _ _ (bstep (by assumption) b5) (fun hHeld => ?_)
      clear hK K b5
      try simp only [List.getElem_toArray, List.getElem_cons_zero, List.getElem_cons_succ, Act.put, List.setIfInBounds_toArray, List.set_cons_zero, List.set_cons_succ, Array.toArray_toList]
      refine wpAnyH_ready (rs := [26]) (by kernel_rfl) (by simp) ?_
      refine AllReadyH.cons rfl (fun K hK => ?_) AllReadyH.nil
      go_simp
      refine hK.out _ _ (ballo (by assumption) _) (fun hHeld => ?_)
      clear hK K
      try simp only [List.getElem_toArray, List.getElem_cons_zero, List.getElem_cons_succ, Act.put, List.setIfInBounds_toArray, List.set_cons_zero, List.set_cons_succ, Array.toArray_toList]
      refine wpAnyH_ready (rs := [27]) (by kernel_rfl) (by simp) ?_
      refine AllReadyH.cons rfl (fun K hK => ?_) AllReadyH.nil
      go_simp
      refine (first2_any _ _ _ _ _ (TestV.below (Hid.out (by assumption)) (by (repeat (first | exact Below.refl _ _ | refine bdrew ?_ | refine ballo ?_ _ | refine bsteps ?_ (by assumption))))) (TestV.below (Hid.out (by assumption)) (by (repeat (first | exact Below.refl _ _ | refine bdrew ?_ | refine ballo ?_ _ | refine bsteps ?_ (by assumption)))))).mono ?_
      rintro e w7 ⟨⟨v7, rfl, t7⟩, b7⟩
      have T7 := Lib.hid t7
      clear t7
      try go_simp
      refine hK.out _ _ (bstep (by assumption) b7) (fun hHeld => ?_)
      clear hK K b7
      try simp only [List.getElem_toArray, List.getElem_cons_zero, List.getElem_cons_succ, Act.put, List.setIfInBounds_toArray, List.set_cons_zero, List.set_cons_succ, Array.toArray_toList]
      first
        | (refine tkw 28 ?_ rfl ?_ ?_
           rotate_left
           · intro wx hSw
             obtain ⟨s0, s1, s2, s3⟩ := KS.out wx hSw
             (first | (go_simp; rfl) | go_simp | rfl))
        | refine tku 28 rfl ?_
      refine wpAnyH_done (by kernel_rfl) ?_ _
      have H7 := Lib.hid hHeld
      clear hHeld
      go_wp2_with fail
      exact HP.out _ _ (rfl) (rfl) _ _ T7.out (bstep B5.out H7.out)
    | false =>
      go_wp2_with fail
      refine wp_region_held_drew (S := fun wx => Below w5.heap.size w5 wx) (by kernel_rfl) ((Below.refl _ _).drew) (fun hHeld => ?_)
      first
        | (refine tkw 0 ?_ rfl ?_ ?_
           rotate_left
           · intro wx hSw
             obtain ⟨s0, s1, s2, s3⟩ := KS.out wx hSw
             (first | (go_simp; rfl) | go_simp | rfl))
        | refine tku 0 rfl ?_
      first
        | (refine tkw 1 ?_ rfl ?_ ?_
           rotate_left
           · intro wx hSw
             obtain ⟨s0, s1, s2, s3⟩ := KS.out wx hSw
             (first | (go_simp; rfl) | go_simp | rfl))
        | refine tku 1 rfl ?_
      first
        | (refine tkw 2 ?_ rfl ?_ ?_
           rotate_left
           · intro wx hSw
             obtain ⟨s0, s1, s2, s3⟩ := KS.out wx hSw
             (first | (go_simp; rfl) | go_simp | rfl))
        | refine tku 2 rfl ?_
      first
        | (refine tkw 3 ?_ rfl ?_ ?_
           rotate_left
           · intro wx hSw
             obtain ⟨s0, s1, s2, s3⟩ := KS.out wx hSw
             (first | (go_simp; rfl) | go_simp | rfl))
        | refine tku 3 rfl ?_
      first
        | (refine tkw 4 ?_ rfl ?_ ?_
           rotate_left
           · intro wx hSw
             obtain ⟨s0, s1, s2, s3⟩ := KS.out wx hSw
             (first | (go_simp; rfl) | go_simp | rfl))
        | refine tku 4 rfl ?_
      first
        | (refine tkw 5 ?_ rfl ?_ ?_
           rotate_left
           · intro wx hSw
             obtain ⟨s0, s1, s2, s3⟩ := KS.out wx hSw
             (first | (go_simp; rfl) | go_simp | rfl))
        | refine tku 5 rfl ?_
      first
        | (refine tkw 6 ?_ rfl ?_ ?_
           rotate_left
           · intro wx hSw
             obtain ⟨s0, s1, s2, s3⟩ := KS.out wx hSw
             (first | (go_simp; rfl) | go_simp | rfl))
        | refine tku 6 rfl ?_
      first
        | (refine tkw 7 ?_ rfl ?_ ?_
           rotate_left
           · intro wx hSw
             obtain ⟨s0, s1, s2, s3⟩ := KS.out wx hSw
             (first | (go_simp; rfl) | go_simp | rfl))
        | refine tku 7 rfl ?_
      first
        | (refine tkw 8 ?_ rfl ?_ ?_
           rotate_left
           · intro wx hSw
             obtain ⟨s0, s1, s2, s3⟩ := KS.out wx hSw
             (first | (go_simp; rfl) | go_simp | rfl))
        | refine tku 8 rfl ?_
      first
        | (refine tkw 9 ?_ rfl ?_ ?_
           rotate_left
           · intro wx hSw
             obtain ⟨s0, s1, s2, s3⟩ := KS.out wx hSw
             (first | (go_simp; rfl) | go_simp | rfl))
        | refine tku 9 rfl ?_
      first
        | (refine tkw 10 ?_ rfl ?_ ?_
           rotate_left
           · intro wx hSw
             obtain ⟨s0, s1, s2, s3⟩ := KS.out wx hSw
             (first | (go_simp; rfl) | go_simp | rfl))
        | refine tku 10 rfl ?_
      first
        | (refine tkw 11 ?_ rfl ?_ ?_
           rotate_left
           · intro wx hSw
             obtain ⟨s0, s1, s2, s3⟩ := KS.out wx hSw
             (first | (go_simp; rfl) | go_simp | rfl))
        | refine tku 11 rfl ?_
      first
        | (refine tkw 13 ?_ rfl ?_ ?_
           rotate_left
           · intro wx hSw
             obtain ⟨s0, s1, s2, s3⟩ := KS.out wx hSw
             (first | (go_simp; rfl) | go_simp | rfl))
        | refine tku 13 rfl ?_
      first
        | (refine tkw 14 ?_ rfl ?_ ?_
           rotate_left
           · intro wx hSw
             obtain ⟨s0, s1, s2, s3⟩ := KS.out wx hSw
             (first | (go_simp; rfl) | go_simp | rfl))
        | refine tku 14 rfl ?_
      first
        | (refine tkw 23 ?_ rfl ?_ ?_
           rotate_left
           · intro wx hSw
             obtain ⟨s0, s1, s2, s3⟩ := KS.out wx hSw
             (first | (go_simp; rfl) | go_simp | rfl))
        | refine tku 23 rfl ?_
      first
        | (refine tkw 24 ?_ rfl ?_ ?_
           rotate_left
           · intro wx hSw
             obtain ⟨s0, s1, s2, s3⟩ := KS.out wx hSw
             (first | (go_simp; rfl) | go_simp | rfl))
        | refine tku 24 rfl ?_
      refine wpAnyH_ready (rs := [12]) (by kernel_rfl) (by simp) ?_
      refine AllReadyH.cons rfl (fun K hK => ?_) AllReadyH.nil
      go_simp
      refine (unless_gen _ _ _ _ (by have := HA.out; omega) (by have := HA.out; omega) (by decide)).mono ?_
      rintro e w5 ⟨⟨F5, p5, d5, rfl, t5⟩, b5⟩
      have T5 := Lib.hid t5
      have H5 := Stp.mk b5
      clear t5
      try go_simp
      refine hK.out _ _ (bstep (by assumption) b5) (fun hHeld => ?_)
      clear hK K b5
      try simp only [List.getElem_toArray, List.getElem_cons_zero, List.getElem_cons_succ, Act.put, List.setIfInBounds_toArray, List.set_cons_zero, List.set_cons_succ, Array.toArray_toList]
      first
        | (refine tkw 15 ?_ rfl ?_ ?_
           rotate_left
           · intro wx hSw
             obtain ⟨s0, s1, s2, s3⟩ := KS.out wx hSw
             (first | (go_simp; rfl) | go_simp | rfl))
        | refine tku 15 rfl ?_
      first
        | (refine tkw 16 ?_ rfl ?_ ?_
           rotate_left
           · intro wx hSw
             obtain ⟨s0, s1, s2, s3⟩ := KS.out wx hSw
             (first | (go_simp; rfl) | go_simp | rfl))
        | refine tku 16 rfl ?_
      first
        | (refine tkw 17 ?_ rfl ?_ ?_
           rotate_left
           · intro wx hSw
             obtain ⟨s0, s1, s2, s3⟩ := KS.out wx hSw
             (first | (go_simp; rfl) | go_simp | rfl))
        | refine tku 17 rfl ?_
      first
        | (refine tkw 18 ?_ rfl ?_ ?_
           rotate_left
           · intro wx hSw
             obtain ⟨s0, s1, s2, s3⟩ := KS.out wx hSw
             (first | (go_simp; rfl) | go_simp | rfl))
        | refine tku 18 rfl ?_
      first
        | (refine tkw 19 ?_ rfl ?_ ?_
           rotate_left
           · intro wx hSw
             obtain ⟨s0, s1, s2, s3⟩ := KS.out wx hSw
             (first | (go_simp; rfl) | go_simp | rfl))
        | refine tku 19 rfl ?_
      first
        | (refine tkw 20 ?_ rfl ?_ ?_
           rotate_left
           · intro wx hSw
             obtain ⟨s0, s1, s2, s3⟩ := KS.out wx hSw
             (first | (go_simp; rfl) | go_simp | rfl))
        | refine tku 20 rfl ?_
      first
        | (refine tkw 21 ?_ rfl ?_ ?_
           rotate_left
           · intro wx hSw
             obtain ⟨s0, s1, s2, s3⟩ := KS.out wx hSw
             (first | (go_simp; rfl) | go_simp | rfl))
        | refine tku 21 rfl ?_
      first
        | (refine tkw 22 ?_ rfl ?_ ?_
           rotate_left
           · intro wx hSw
             obtain ⟨s0, s1, s2, s3⟩ := KS.out wx hSw
             (first | (go_simp; rfl) | go_simp | rfl))
        | refine tku 22 rfl ?_
      refine wpAnyH_ready (rs := [25]) (by kernel_rfl) (by simp) ?_
      refine AllReadyH.cons rfl (fun K hK => ?_) AllReadyH.nil
      go_simp
      refine (unless_gen _ _ _ _ (by have := HA.out; omega) (by have := HA.out; omega) (by decide)).mono ?_
      rintro e w5 ⟨⟨F5, p5, d5, rfl, t5⟩, b5⟩
      have T5 := Lib.hid t5
      have H5 := Stp.mk b5
      clear t5
      try go_simp
      refine hK.out _ _ (bstep (by assumption) b5) (fun hHeld => ?_)
      clear hK K b5
      try simp only [List.getElem_toArray, List.getElem_cons_zero, List.getElem_cons_succ, Act.put, List.setIfInBounds_toArray, List.set_cons_zero, List.set_cons_succ, Array.toArray_toList]
      refine wpAnyH_ready (rs := [26]) (by kernel_rfl) (by simp) ?_
      refine AllReadyH.cons rfl (fun K hK => ?_) AllReadyH.nil
      go_simp
      refine hK.out _ _ (ballo (by assumption) _) (fun hHeld => ?_)
      clear hK K
      try simp only [List.getElem_toArray, List.getElem_cons_zero, List.getElem_cons_succ, Act.put, List.setIfInBounds_toArray, List.set_cons_zero, List.set_cons_succ, Array.toArray_toList]
      refine wpAnyH_ready (rs := [27]) (by kernel_rfl) (by simp) ?_
      refine AllReadyH.cons rfl (fun K hK => ?_) AllReadyH.nil
      go_simp
      refine (first2_any _ _ _ _ _ (TestV.below (Hid.out (by assumption)) (by (repeat (first | exact Below.refl _ _ | refine bdrew ?_ | refine ballo ?_ _ | refine bsteps ?_ (by assumption))))) (TestV.below (Hid.out (by assumption)) (by (repeat (first | exact Below.refl _ _ | refine bdrew ?_ | refine ballo ?_ _ | refine bsteps ?_ (by assumption)))))).mono ?_
      rintro e w7 ⟨⟨v7, rfl, t7⟩, b7⟩
      have T7 := Lib.hid t7
      clear t7
      try go_simp
      refine hK.out _ _ (bstep (by assumption) b7) (fun hHeld => ?_)
      clear hK K b7
      try simp only [List.getElem_toArray, List.getElem_cons_zero, List.getElem_cons_succ, Act.put, List.setIfInBounds_toArray, List.set_cons_zero, List.set_cons_succ, Array.toArray_toList]
      first
        | (refine tkw 28 ?_ rfl ?_ ?_
           rotate_left
           · intro wx hSw
             obtain ⟨s0, s1, s2, s3⟩ := KS.out wx hSw
             (first | (go_simp; rfl) | go_simp | rfl))
        | refine tku 28 rfl ?_
      refine wpAnyH_done (by kernel_rfl) ?_ _
      have H7 := Lib.hid hHeld
      clear hHeld
      go_wp2_with fail
      exact HP.out _ _ (rfl) (rfl) _ _ T7.out (bstep B5.out H7.out)
  | true =>
    rcases hS with ⟨h5, rfl, rfl⟩ | ⟨h5, rfl⟩
    · obtain ⟨K2, hK2⟩ : ∃ K2, decide (a3 + a5 ≤ 140737488355328) = K2 := ⟨_, rfl⟩
      have p1 : decide ((a3 : Int) + (a5 : Int) ≤ 140737488355328) = K2 := by rw [← hK2, decide_eq_decide]; omega
      have HK2 := Lib.hid hK2
      clear hK2 h5
      cases R1 with
      | true =>
        go_wp2_with fail
        refine wp_region_held_drew (S := fun wx => Below w5.heap.size w5 wx) (by kernel_rfl) ((Below.refl _ _).drew) (fun hHeld => ?_)
        first
          | (refine tkw 0 ?_ rfl ?_ ?_
             rotate_left
             · intro wx hSw
               obtain ⟨s0, s1, s2, s3⟩ := KS.out wx hSw
               (first | (go_simp; rfl) | go_simp | rfl))
          | refine tku 0 rfl ?_
        first
          | (refine tkw 1 ?_ rfl ?_ ?_
             rotate_left
             · intro wx hSw
               obtain ⟨s0, s1, s2, s3⟩ := KS.out wx hSw
               (first | (go_simp; rfl) | go_simp | rfl))
          | refine tku 1 rfl ?_
        first
          | (refine tkw 2 ?_ rfl ?_ ?_
             rotate_left
             · intro wx hSw
               obtain ⟨s0, s1, s2, s3⟩ := KS.out wx hSw
               (first | (go_simp; rfl) | go_simp | rfl))
          | refine tku 2 rfl ?_
        first
          | (refine tkw 3 ?_ rfl ?_ ?_
             rotate_left
             · intro wx hSw
               obtain ⟨s0, s1, s2, s3⟩ := KS.out wx hSw
               (first | (go_simp; rfl) | go_simp | rfl))
          | refine tku 3 rfl ?_
        first
          | (refine tkw 4 ?_ rfl ?_ ?_
             rotate_left
             · intro wx hSw
               obtain ⟨s0, s1, s2, s3⟩ := KS.out wx hSw
               (first | (go_simp; rfl) | go_simp | rfl))
          | refine tku 4 rfl ?_
        first
          | (refine tkw 5 ?_ rfl ?_ ?_
             rotate_left
             · intro wx hSw
               obtain ⟨s0, s1, s2, s3⟩ := KS.out wx hSw
               (first | (go_simp; rfl) | go_simp | rfl))
          | refine tku 5 rfl ?_
        first
          | (refine tkw 6 ?_ rfl ?_ ?_
             rotate_left
             · intro wx hSw
               obtain ⟨s0, s1, s2, s3⟩ := KS.out wx hSw
               (first | (go_simp; rfl) | go_simp | rfl))
          | refine tku 6 rfl ?_
        first
          | (refine tkw 7 ?_ rfl ?_ ?_
             rotate_left
             · intro wx hSw
               obtain ⟨s0, s1, s2, s3⟩ := KS.out wx hSw
               (first | (go_simp; rfl) | go_simp | rfl))
          | refine tku 7 rfl ?_
        first
          | (refine tkw 10 ?_ rfl ?_ ?_
             rotate_left
             · intro wx hSw
               obtain ⟨s0, s1, s2, s3⟩ := KS.out wx hSw
               (first | (go_simp; rfl) | go_simp | rfl))
          | refine tku 10 rfl ?_
        first
          | (refine tkw 11 ?_ rfl ?_ ?_
             rotate_left
             · intro wx hSw
               obtain ⟨s0, s1, s2, s3⟩ := KS.out wx hSw
               (first | (go_simp; rfl) | go_simp | rfl))
          | refine tku 11 rfl ?_
        first
          | (refine tkw 13 ?_ rfl ?_ ?_
             rotate_left
             · intro wx hSw
               obtain ⟨s0, s1, s2, s3⟩ := KS.out wx hSw
               (first | (go_simp; rfl) | go_simp | rfl))
          | refine tku 13 rfl ?_
        first
          | (refine tkw 14 ?_ rfl ?_ ?_
             rotate_left
             · intro wx hSw
               obtain ⟨s0, s1, s2, s3⟩ := KS.out wx hSw
               (first | (go_simp; rfl) | go_simp | rfl))
          | refine tku 14 rfl ?_
        first
          | (refine tkw 23 ?_ rfl ?_ ?_
             rotate_left
             · intro wx hSw
               obtain ⟨s0, s1, s2, s3⟩ := KS.out wx hSw
               (first | (go_simp; rfl) | go_simp | rfl))
          | refine tku 23 rfl ?_
        first
          | (refine tkw 24 ?_ rfl ?_ ?_
             rotate_left
             · intro wx hSw
               obtain ⟨s0, s1, s2, s3⟩ := KS.out wx hSw
               (first | (go_simp; rfl) | go_simp | rfl))
          | refine tku 24 rfl ?_
        refine wpAnyH_ready (rs := [8]) (by kernel_rfl) (by simp) ?_
        refine AllReadyH.cons rfl (fun K hK => ?_) AllReadyH.nil
        go_simp
        refine (HWI.out _ (by assumption)).mono ?_
        rintro e w6 ⟨rfl, rfl⟩
        try go_simp
        refine hK.out _ _ (by assumption) (fun hHeld => ?_)
        clear hK K
        try simp only [List.getElem_toArray, List.getElem_cons_zero, List.getElem_cons_succ, Act.put, List.setIfInBounds_toArray, List.set_cons_zero, List.set_cons_succ, Array.toArray_toList]
        first
          | (refine tkw 9 ?_ rfl ?_ ?_
             rotate_left
             · intro wx hSw
               obtain ⟨s0, s1, s2, s3⟩ := KS.out wx hSw
               (first | (go_simp; rfl) | go_simp | rfl))
          | refine tku 9 rfl ?_
        refine wpAnyH_ready (rs := [12]) (by kernel_rfl) (by simp) ?_
        refine AllReadyH.cons rfl (fun K hK => ?_) AllReadyH.nil
        go_simp
        refine (unless_gen _ _ _ _ (by have := HA.out; omega) (by have := HA.out; omega) (by decide)).mono ?_
        rintro e w5 ⟨⟨F5, p5, d5, rfl, t5⟩, b5⟩
        have T5 := Lib.hid t5
        have H5 := Stp.mk b5
        clear t5
        try go_simp
        refine hK.out _ _ (bstep (by assumption) b5) (fun hHeld => ?_)
        clear hK K b5
        try simp only [List.getElem_toArray, List.getElem_cons_zero, List.getElem_cons_succ, Act.put, List.setIfInBounds_toArray, List.set_cons_zero, List.set_cons_succ, Array.toArray_toList]
        first
          | (refine tkw 15 ?_ rfl ?_ ?_
             rotate_left
             · intro wx hSw
               obtain ⟨s0, s1, s2, s3⟩ := KS.out wx hSw
               (first | (go_simp; rfl) | go_simp | rfl))
          | refine tku 15 rfl ?_
        first
          | (refine tkw 16 ?_ rfl ?_ ?_
             rotate_left
             · intro wx hSw
               obtain ⟨s0, s1, s2, s3⟩ := KS.out wx hSw
               (first | (go_simp; rfl) | go_simp | rfl))
          | refine tku 16 rfl ?_
        first
          | (refine tkw 17 ?_ rfl ?_ ?_
             rotate_left
             · intro wx hSw
               obtain ⟨s0, s1, s2, s3⟩ := KS.out wx hSw
               (first | (go_simp; rfl) | go_simp | rfl))
          | refine tku 17 rfl ?_
        first
          | (refine tkw 18 ?_ rfl ?_ ?_
             rotate_left
             · intro wx hSw
               obtain ⟨s0, s1, s2, s3⟩ := KS.out wx hSw
               (first | (go_simp; rfl) | go_simp | rfl))
          | refine tku 18 rfl ?_
        first
          | (refine tkw 19 ?_ rfl ?_ ?_
             rotate_left
             · intro wx hSw
               obtain ⟨s0, s1, s2, s3⟩ := KS.out wx hSw
               (first | (go_simp; rfl) | go_simp | rfl))
          | refine tku 19 rfl ?_
        first
          | (refine tkw 20 ?_ rfl ?_ ?_
             rotate_left
             · intro wx hSw
               obtain ⟨s0, s1, s2, s3⟩ := KS.out wx hSw
               (first | (go_simp; rfl) | go_simp | rfl))
          | refine tku 20 rfl ?_
        first
          | (refine tkw 21 ?_ rfl ?_ ?_
             rotate_left
             · intro wx hSw
               obtain ⟨s0, s1, s2, s3⟩ := KS.out wx hSw
               (first | (go_simp; rfl) | go_simp | rfl))
          | refine tku 21 rfl ?_
        first
          | (refine tkw 22 ?_ rfl ?_ ?_
             rotate_left
             · intro wx hSw
               obtain ⟨s0, s1, s2, s3⟩ := KS.out wx hSw
               (first | (go_simp; rfl) | go_simp | rfl))
          | refine tku 22 rfl ?_
        refine wpAnyH_ready (rs := [25]) (by kernel_rfl) (by simp) ?_
        refine AllReadyH.cons rfl (fun K hK => ?_) AllReadyH.nil
        go_simp
        refine (unless_gen _ _ _ _ (by have := HA.out; omega) (by have := HA.out; omega) (by decide)).mono ?_
        rintro e w5 ⟨⟨F5, p5, d5, rfl, t5⟩, b5⟩
        have T5 := Lib.hid t5
        have H5 := Stp.mk b5
        clear t5
        try go_simp
        refine hK.out _ _ (bstep (by assumption) b5) (fun hHeld => ?_)
        clear hK K b5
        try simp only [List.getElem_toArray, List.getElem_cons_zero, List.getElem_cons_succ, Act.put, List.setIfInBounds_toArray, List.set_cons_zero, List.set_cons_succ, Array.toArray_toList]
        refine wpAnyH_ready (rs := [26]) (by kernel_rfl) (by simp) ?_
        refine AllReadyH.cons rfl (fun K hK => ?_) AllReadyH.nil
        go_simp
        refine hK.out _ _ (ballo (by assumption) _) (fun hHeld => ?_)
        clear hK K
        try simp only [List.getElem_toArray, List.getElem_cons_zero, List.getElem_cons_succ, Act.put, List.setIfInBounds_toArray, List.set_cons_zero, List.set_cons_succ, Array.toArray_toList]
        refine wpAnyH_ready (rs := [27]) (by kernel_rfl) (by simp) ?_
        refine AllReadyH.cons rfl (fun K hK => ?_) AllReadyH.nil
        go_simp
        refine (first2_any _ _ _ _ _ (TestV.below (Hid.out (by assumption)) (by (repeat (first | exact Below.refl _ _ | refine bdrew ?_ | refine ballo ?_ _ | refine bsteps ?_ (by assumption))))) (TestV.below (Hid.out (by assumption)) (by (repeat (first | exact Below.refl _ _ | refine bdrew ?_ | refine ballo ?_ _ | refine bsteps ?_ (by assumption)))))).mono ?_
        rintro e w7 ⟨⟨v7, rfl, t7⟩, b7⟩
        have T7 := Lib.hid t7
        clear t7
        try go_simp
        refine hK.out _ _ (bstep (by assumption) b7) (fun hHeld => ?_)
        clear hK K b7
        try simp only [List.getElem_toArray, List.getElem_cons_zero, List.getElem_cons_succ, Act.put, List.setIfInBounds_toArray, List.set_cons_zero, List.set_cons_succ, Array.toArray_toList]
        first
          | (refine tkw 28 ?_ rfl ?_ ?_
             rotate_left
             · intro wx hSw
               obtain ⟨s0, s1, s2, s3⟩ := KS.out wx hSw
               (first | (go_simp; rfl) | go_simp | rfl))
          | refine tku 28 rfl ?_
        refine wpAnyH_done (by kernel_rfl) ?_ _
        have H7 := Lib.hid hHeld
        clear hHeld
        go_wp2_with fail
        exact HP.out _ _ (by rw [HK2.out]; rfl) (rfl) _ _ T7.out (bstep B5.out H7.out)
      | false =>
        go_wp2_with fail
        refine wp_region_held_drew (S := fun wx => Below w5.heap.size w5 wx) (by kernel_rfl) ((Below.refl _ _).drew) (fun hHeld => ?_)
        first
          | (refine tkw 0 ?_ rfl ?_ ?_
             rotate_left
             · intro wx hSw
               obtain ⟨s0, s1, s2, s3⟩ := KS.out wx hSw
               (first | (go_simp; rfl) | go_simp | rfl))
          | refine tku 0 rfl ?_
        first
          | (refine tkw 1 ?_ rfl ?_ ?_
             rotate_left
             · intro wx hSw
               obtain ⟨s0, s1, s2, s3⟩ := KS.out wx hSw
               (first | (go_simp; rfl) | go_simp | rfl))
          | refine tku 1 rfl ?_
        first
          | (refine tkw 2 ?_ rfl ?_ ?_
             rotate_left
             · intro wx hSw
               obtain ⟨s0, s1, s2, s3⟩ := KS.out wx hSw
               (first | (go_simp; rfl) | go_simp | rfl))
          | refine tku 2 rfl ?_
        first
          | (refine tkw 3 ?_ rfl ?_ ?_
             rotate_left
             · intro wx hSw
               obtain ⟨s0, s1, s2, s3⟩ := KS.out wx hSw
               (first | (go_simp; rfl) | go_simp | rfl))
          | refine tku 3 rfl ?_
        first
          | (refine tkw 4 ?_ rfl ?_ ?_
             rotate_left
             · intro wx hSw
               obtain ⟨s0, s1, s2, s3⟩ := KS.out wx hSw
               (first | (go_simp; rfl) | go_simp | rfl))
          | refine tku 4 rfl ?_
        first
          | (refine tkw 5 ?_ rfl ?_ ?_
             rotate_left
             · intro wx hSw
               obtain ⟨s0, s1, s2, s3⟩ := KS.out wx hSw
               (first | (go_simp; rfl) | go_simp | rfl))
          | refine tku 5 rfl ?_
        first
          | (refine tkw 6 ?_ rfl ?_ ?_
             rotate_left
             · intro wx hSw
               obtain ⟨s0, s1, s2, s3⟩ := KS.out wx hSw
               (first | (go_simp; rfl) | go_simp | rfl))
          | refine tku 6 rfl ?_
        first
          | (refine tkw 7 ?_ rfl ?_ ?_
             rotate_left
             · intro wx hSw
               obtain ⟨s0, s1, s2, s3⟩ := KS.out wx hSw
               (first | (go_simp; rfl) | go_simp | rfl))
          | refine tku 7 rfl ?_
        first
          | (refine tkw 8 ?_ rfl ?_ ?_
             rotate_left
             · intro wx hSw
               obtain ⟨s0, s1, s2, s3⟩ := KS.out wx hSw
               (first | (go_simp; rfl) | go_simp | rfl))
          | refine tku 8 rfl ?_
        first
          | (refine tkw 9 ?_ rfl ?_ ?_
             rotate_left
             · intro wx hSw
               obtain ⟨s0, s1, s2, s3⟩ := KS.out wx hSw
               (first | (go_simp; rfl) | go_simp | rfl))
          | refine tku 9 rfl ?_
        first
          | (refine tkw 10 ?_ rfl ?_ ?_
             rotate_left
             · intro wx hSw
               obtain ⟨s0, s1, s2, s3⟩ := KS.out wx hSw
               (first | (go_simp; rfl) | go_simp | rfl))
          | refine tku 10 rfl ?_
        first
          | (refine tkw 11 ?_ rfl ?_ ?_
             rotate_left
             · intro wx hSw
               obtain ⟨s0, s1, s2, s3⟩ := KS.out wx hSw
               (first | (go_simp; rfl) | go_simp | rfl))
          | refine tku 11 rfl ?_
        first
          | (refine tkw 13 ?_ rfl ?_ ?_
             rotate_left
             · intro wx hSw
               obtain ⟨s0, s1, s2, s3⟩ := KS.out wx hSw
               (first | (go_simp; rfl) | go_simp | rfl))
          | refine tku 13 rfl ?_
        first
          | (refine tkw 14 ?_ rfl ?_ ?_
             rotate_left
             · intro wx hSw
               obtain ⟨s0, s1, s2, s3⟩ := KS.out wx hSw
               (first | (go_simp; rfl) | go_simp | rfl))
          | refine tku 14 rfl ?_
        first
          | (refine tkw 23 ?_ rfl ?_ ?_
             rotate_left
             · intro wx hSw
               obtain ⟨s0, s1, s2, s3⟩ := KS.out wx hSw
               (first | (go_simp; rfl) | go_simp | rfl))
          | refine tku 23 rfl ?_
        first
          | (refine tkw 24 ?_ rfl ?_ ?_
             rotate_left
             · intro wx hSw
               obtain ⟨s0, s1, s2, s3⟩ := KS.out wx hSw
               (first | (go_simp; rfl) | go_simp | rfl))
          | refine tku 24 rfl ?_
        refine wpAnyH_ready (rs := [12]) (by kernel_rfl) (by simp) ?_
        refine AllReadyH.cons rfl (fun K hK => ?_) AllReadyH.nil
        go_simp
        refine (unless_gen _ _ _ _ (by have := HA.out; omega) (by have := HA.out; omega) (by decide)).mono ?_
        rintro e w5 ⟨⟨F5, p5, d5, rfl, t5⟩, b5⟩
        have T5 := Lib.hid t5
        have H5 := Stp.mk b5
        clear t5
        try go_simp
        refine hK.out _ _ (bstep (by assumption) b5) (fun hHeld => ?_)
        clear hK K b5
        try simp only [List.getElem_toArray, List.getElem_cons_zero, List.getElem_cons_succ, Act.put, List.setIfInBounds_toArray, List.set_cons_zero, List.set_cons_succ, Array.toArray_toList]
        first
          | (refine tkw 15 ?_ rfl ?_ ?_
             rotate_left
             · intro wx hSw
               obtain ⟨s0, s1, s2, s3⟩ := KS.out wx hSw
               (first | (go_simp; rfl) | go_simp | rfl))
          | refine tku 15 rfl ?_
        first
          | (refine tkw 16 ?_ rfl ?_ ?_
             rotate_left
             · intro wx hSw
               obtain ⟨s0, s1, s2, s3⟩ := KS.out wx hSw
               (first | (go_simp; rfl) | go_simp | rfl))
          | refine tku 16 rfl ?_
        first
          | (refine tkw 17 ?_ rfl ?_ ?_
             rotate_left
             · intro wx hSw
               obtain ⟨s0, s1, s2, s3⟩ := KS.out wx hSw
               (first | (go_simp; rfl) | go_simp | rfl))
          | refine tku 17 rfl ?_
        first
          | (refine tkw 18 ?_ rfl ?_ ?_
             rotate_left
             · intro wx hSw
               obtain ⟨s0, s1, s2, s3⟩ := KS.out wx hSw
               (first | (go_simp; rfl) | go_simp | rfl))
          | refine tku 18 rfl ?_
        first
          | (refine tkw 19 ?_ rfl ?_ ?_
             rotate_left
             · intro wx hSw
               obtain ⟨s0, s1, s2, s3⟩ := KS.out wx hSw
               (first | (go_simp; rfl) | go_simp | rfl))
          | refine tku 19 rfl ?_
        first
          | (refine tkw 20 ?_ rfl ?_ ?_
             rotate_left
             · intro wx hSw
               obtain ⟨s0, s1, s2, s3⟩ := KS.out wx hSw
               (first | (go_simp; rfl) | go_simp | rfl))
          | refine tku 20 rfl ?_
        first
          | (refine tkw 21 ?_ rfl ?_ ?_
             rotate_left
             · intro wx hSw
               obtain ⟨s0, s1, s2, s3⟩ := KS.out wx hSw
               (first | (go_simp; rfl) | go_simp | rfl))
          | refine tku 21 rfl ?_
        first
          | (refine tkw 22 ?_ rfl ?_ ?_
             rotate_left
             · intro wx hSw
               obtain ⟨s0, s1, s2, s3⟩ := KS.out wx hSw
               (first | (go_simp; rfl) | go_simp | rfl))
          | refine tku 22 rfl ?_
        refine wpAnyH_ready (rs := [25]) (by kernel_rfl) (by simp) ?_
        refine AllReadyH.cons rfl (fun K hK => ?_) AllReadyH.nil
        go_simp
        refine (unless_gen _ _ _ _ (by have := HA.out; omega) (by have := HA.out; omega) (by decide)).mono ?_
        rintro e w5 ⟨⟨F5, p5, d5, rfl, t5⟩, b5⟩
        have T5 := Lib.hid t5
        have H5 := Stp.mk b5
        clear t5
        try go_simp
        refine hK.out _ _ (bstep (by assumption) b5) (fun hHeld => ?_)
        clear hK K b5
        try simp only [List.getElem_toArray, List.getElem_cons_zero, List.getElem_cons_succ, Act.put, List.setIfInBounds_toArray, List.set_cons_zero, List.set_cons_succ, Array.toArray_toList]
        refine wpAnyH_ready (rs := [26]) (by kernel_rfl) (by simp) ?_
        refine AllReadyH.cons rfl (fun K hK => ?_) AllReadyH.nil
        go_simp
        refine hK.out _ _ (ballo (by assumption) _) (fun hHeld => ?_)
        clear hK K
        try simp only [List.getElem_toArray, List.getElem_cons_zero, List.getElem_cons_succ, Act.put, List.setIfInBounds_toArray, List.set_cons_zero, List.set_cons_succ, Array.toArray_toList]
        refine wpAnyH_ready (rs := [27]) (by kernel_rfl) (by simp) ?_
        refine AllReadyH.cons rfl (fun K hK => ?_) AllReadyH.nil
        go_simp
        refine (first2_any _ _ _ _ _ (TestV.below (Hid.out (by assumption)) (by (repeat (first | exact Below.refl _ _ | refine bdrew ?_ | refine ballo ?_ _ | refine bsteps ?_ (by assumption))))) (TestV.below (Hid.out (by assumption)) (by (repeat (first | exact Below.refl _ _ | refine bdrew ?_ | refine ballo ?_ _ | refine bsteps ?_ (by assumption)))))).mono ?_
        rintro e w7 ⟨⟨v7, rfl, t7⟩, b7⟩
        have T7 := Lib.hid t7
        clear t7
        try go_simp
        refine hK.out _ _ (bstep (by assumption) b7) (fun hHeld => ?_)
        clear hK K b7
        try simp only [List.getElem_toArray, List.getElem_cons_zero, List.getElem_cons_succ, Act.put, List.setIfInBounds_toArray, List.set_cons_zero, List.set_cons_succ, Array.toArray_toList]
        first
          | (refine tkw 28 ?_ rfl ?_ ?_
             rotate_left
             · intro wx hSw
               obtain ⟨s0, s1, s2, s3⟩ := KS.out wx hSw
               (first | (go_simp; rfl) | go_simp | rfl))
          | refine tku 28 rfl ?_
        refine wpAnyH_done (by kernel_rfl) ?_ _
        have H7 := Lib.hid hHeld
        clear hHeld
        go_wp2_with fail
        exact HP.out _ _ (by rw [HK2.out]; rfl) (rfl) _ _ T7.out (bstep B5.out H7.out)
    · have HK2 : Hid (decide (a3 + a5 ≤ 140737488355328) = false) := Lib.hid (decide_eq_false (by omega))
      clear h5
      cases R1 with
      | true =>
        go_wp2_with fail
        refine wp_region_held_drew (S := fun wx => Below w5.heap.size w5 wx) (by kernel_rfl) ((Below.refl _ _).drew) (fun hHeld => ?_)
        first
          | (refine tkw 0 ?_ rfl ?_ ?_
             rotate_left
             · intro wx hSw
               obtain ⟨s0, s1, s2, s3⟩ := KS.out wx hSw
               (first | (go_simp; rfl) | go_simp | rfl))
          | refine tku 0 rfl ?_
        first
          | (refine tkw 1 ?_ rfl ?_ ?_
             rotate_left
             · intro wx hSw
               obtain ⟨s0, s1, s2, s3⟩ := KS.out wx hSw
               (first | (go_simp; rfl) | go_simp | rfl))
          | refine tku 1 rfl ?_
        first
          | (refine tkw 2 ?_ rfl ?_ ?_
             rotate_left
             · intro wx hSw
               obtain ⟨s0, s1, s2, s3⟩ := KS.out wx hSw
               (first | (go_simp; rfl) | go_simp | rfl))
          | refine tku 2 rfl ?_
        first
          | (refine tkw 3 ?_ rfl ?_ ?_
             rotate_left
             · intro wx hSw
               obtain ⟨s0, s1, s2, s3⟩ := KS.out wx hSw
               (first | (go_simp; rfl) | go_simp | rfl))
          | refine tku 3 rfl ?_
        first
          | (refine tkw 4 ?_ rfl ?_ ?_
             rotate_left
             · intro wx hSw
               obtain ⟨s0, s1, s2, s3⟩ := KS.out wx hSw
               (first | (go_simp; rfl) | go_simp | rfl))
          | refine tku 4 rfl ?_
        first
          | (refine tkw 5 ?_ rfl ?_ ?_
             rotate_left
             · intro wx hSw
               obtain ⟨s0, s1, s2, s3⟩ := KS.out wx hSw
               (first | (go_simp; rfl) | go_simp | rfl))
          | refine tku 5 rfl ?_
        first
          | (refine tkw 6 ?_ rfl ?_ ?_
             rotate_left
             · intro wx hSw
               obtain ⟨s0, s1, s2, s3⟩ := KS.out wx hSw
               (first | (go_simp; rfl) | go_simp | rfl))
          | refine tku 6 rfl ?_
        first
          | (refine tkw 7 ?_ rfl ?_ ?_
             rotate_left
             · intro wx hSw
               obtain ⟨s0, s1, s2, s3⟩ := KS.out wx hSw
               (first | (go_simp; rfl) | go_simp | rfl))
          | refine tku 7 rfl ?_
        first
          | (refine tkw 10 ?_ rfl ?_ ?_
             rotate_left
             · intro wx hSw
               obtain ⟨s0, s1, s2, s3⟩ := KS.out wx hSw
               (first | (go_simp; rfl) | go_simp | rfl))
          | refine tku 10 rfl ?_
        first
          | (refine tkw 11 ?_ rfl ?_ ?_
             rotate_left
             · intro wx hSw
               obtain ⟨s0, s1, s2, s3⟩ := KS.out wx hSw
               (first | (go_simp; rfl) | go_simp | rfl))
          | refine tku 11 rfl ?_
        first
          | (refine tkw 13 ?_ rfl ?_ ?_
             rotate_left
             · intro wx hSw
               obtain ⟨s0, s1, s2, s3⟩ := KS.out wx hSw
               (first | (go_simp; rfl) | go_simp | rfl))
          | refine tku 13 rfl ?_
        first
          | (refine tkw 14 ?_ rfl ?_ ?_
             rotate_left
             · intro wx hSw
               obtain ⟨s0, s1, s2, s3⟩ := KS.out wx hSw
               (first | (go_simp; rfl) | go_simp | rfl))
          | refine tku 14 rfl ?_
        first
          | (refine tkw 23 ?_ rfl ?_ ?_
             rotate_left
             · intro wx hSw
               obtain ⟨s0, s1, s2, s3⟩ := KS.out wx hSw
               (first | (go_simp; rfl) | go_simp | rfl))
          | refine tku 23 rfl ?_
        first
          | (refine tkw 24 ?_ rfl ?_ ?_
             rotate_left
             · intro wx hSw
               obtain ⟨s0, s1, s2, s3⟩ := KS.out wx hSw
               (first | (go_simp; rfl) | go_simp | rfl))
          | refine tku 24 rfl ?_
        refine wpAnyH_ready (rs := [8]) (by kernel_rfl) (by simp) ?_
        refine AllReadyH.cons rfl (fun K hK => ?_) AllReadyH.nil
        go_simp
        refine (HWI.out _ (by assumption)).mono ?_
        rintro e w6 ⟨rfl, rfl⟩
        try go_simp
        refine hK.out _ _ (by assumption) (fun hHeld => ?_)
        clear hK K
        try simp only [List.getElem_toArray, List.getElem_cons_zero, List.getElem_cons_succ, Act.put, List.setIfInBounds_toArray, List.set_cons_zero, List.set_cons_succ, Array.toArray_toList]
        first
          | (refine tkw 9 ?_ rfl ?_ ?_
             rotate_left
             · intro wx hSw
               obtain ⟨s0, s1, s2, s3⟩ := KS.out wx hSw
               (first | (go_simp; rfl) | go_simp | rfl))
          | refine tku 9 rfl ?_
        refine wpAnyH_ready (rs := [12]) (by kernel_rfl) (by simp) ?_
        refine AllReadyH.cons rfl (fun K hK => ?_) AllReadyH.nil
        go_simp
        refine (unless_gen _ _ _ _ (by have := HA.out; omega) (by have := HA.out; omega) (by decide)).mono ?_
        rintro e w5 ⟨⟨F5, p5, d5, rfl, t5⟩, b5⟩
        have T5 := Lib.hid t5
        have H5 := Stp.mk b5
        clear t5
        try go_simp
        refine hK.out _ _ (bstep (by assumption) b5) (fun hHeld => ?_)
        clear hK K b5
        try simp only [List.getElem_toArray, List.getElem_cons_zero, List.getElem_cons_succ, Act.put, List.setIfInBounds_toArray, List.set_cons_zero, List.set_cons_succ, Array.toArray_toList]
        first
          | (refine tkw 15 ?_ rfl ?_ ?_
             rotate_left
             · intro wx hSw
               obtain ⟨s0, s1, s2, s3⟩ := KS.out wx hSw
               (first | (go_simp; rfl) | go_simp | rfl))
          | refine tku 15 rfl ?_
        first
          | (refine tkw 16 ?_ rfl ?_ ?_
             rotate_left
             · intro wx hSw
               obtain ⟨s0, s1, s2, s3⟩ := KS.out wx hSw
               (first | (go_simp; rfl) | go_simp | rfl))
          | refine tku 16 rfl ?_
        first
          | (refine tkw 17 ?_ rfl ?_ ?_
             rotate_left
             · intro wx hSw
               obtain ⟨s0, s1, s2, s3⟩ := KS.out wx hSw
               (first | (go_simp; rfl) | go_simp | rfl))
          | refine tku 17 rfl ?_
        first
          | (refine tkw 18 ?_ rfl ?_ ?_
             rotate_left
             · intro wx hSw
               obtain ⟨s0, s1, s2, s3⟩ := KS.out wx hSw
               (first | (go_simp; rfl) | go_simp | rfl))
          | refine tku 18 rfl ?_
        first
          | (refine tkw 19 ?_ rfl ?_ ?_
             rotate_left
             · intro wx hSw
               obtain ⟨s0, s1, s2, s3⟩ := KS.out wx hSw
               (first | (go_simp; rfl) | go_simp | rfl))
          | refine tku 19 rfl ?_
        first
          | (refine tkw 20 ?_ rfl ?_ ?_
             rotate_left
             · intro wx hSw
               obtain ⟨s0, s1, s2, s3⟩ := KS.out wx hSw
               (first | (go_simp; rfl) | go_simp | rfl))
          | refine tku 20 rfl ?_
        first
          | (refine tkw 21 ?_ rfl ?_ ?_
             rotate_left
             · intro wx hSw
               obtain ⟨s0, s1, s2, s3⟩ := KS.out wx hSw
               (first | (go_simp; rfl) | go_simp | rfl))
          | refine tku 21 rfl ?_
        first
          | (refine tkw 22 ?_ rfl ?_ ?_
             rotate_left
             · intro wx hSw
               obtain ⟨s0, s1, s2, s3⟩ := KS.out wx hSw
               (first | (go_simp; rfl) | go_simp | rfl))
          | refine tku 22 rfl ?_
        refine wpAnyH_ready (rs := [25]) (by kernel_rfl) (by simp) ?_
        refine AllReadyH.cons rfl (fun K hK => ?_) AllReadyH.nil
        go_simp
        refine (unless_gen _ _ _ _ (by have := HA.out; omega) (by have := HA.out; omega) (by decide)).mono ?_
        rintro e w5 ⟨⟨F5, p5, d5, rfl, t5⟩, b5⟩
        have T5 := Lib.hid t5
        have H5 := Stp.mk b5
        clear t5
        try go_simp
        refine hK.out _ _ (bstep (by assumption) b5) (fun hHeld => ?_)
        clear hK K b5
        try simp only [List.getElem_toArray, List.getElem_cons_zero, List.getElem_cons_succ, Act.put, List.setIfInBounds_toArray, List.set_cons_zero, List.set_cons_succ, Array.toArray_toList]
        refine wpAnyH_ready (rs := [26]) (by kernel_rfl) (by simp) ?_
        refine AllReadyH.cons rfl (fun K hK => ?_) AllReadyH.nil
        go_simp
        refine hK.out _ _ (ballo (by assumption) _) (fun hHeld => ?_)
        clear hK K
        try simp only [List.getElem_toArray, List.getElem_cons_zero, List.getElem_cons_succ, Act.put, List.setIfInBounds_toArray, List.set_cons_zero, List.set_cons_succ, Array.toArray_toList]
        refine wpAnyH_ready (rs := [27]) (by kernel_rfl) (by simp) ?_
        refine AllReadyH.cons rfl (fun K hK => ?_) AllReadyH.nil
        go_simp
        refine (first2_any _ _ _ _ _ (TestV.below (Hid.out (by assumption)) (by (repeat (first | exact Below.refl _ _ | refine bdrew ?_ | refine ballo ?_ _ | refine bsteps ?_ (by assumption))))) (TestV.below (Hid.out (by assumption)) (by (repeat (first | exact Below.refl _ _ | refine bdrew ?_ | refine ballo ?_ _ | refine bsteps ?_ (by assumption)))))).mono ?_
        rintro e w7 ⟨⟨v7, rfl, t7⟩, b7⟩
        have T7 := Lib.hid t7
        clear t7
        try go_simp
        refine hK.out _ _ (bstep (by assumption) b7) (fun hHeld => ?_)
        clear hK K b7
        try simp only [List.getElem_toArray, List.getElem_cons_zero, List.getElem_cons_succ, Act.put, List.setIfInBounds_toArray, List.set_cons_zero, List.set_cons_succ, Array.toArray_toList]
        first
          | (refine tkw 28 ?_ rfl ?_ ?_
             rotate_left
             · intro wx hSw
               obtain ⟨s0, s1, s2, s3⟩ := KS.out wx hSw
               (first | (go_simp; rfl) | go_simp | rfl))
          | refine tku 28 rfl ?_
        refine wpAnyH_done (by kernel_rfl) ?_ _
        have H7 := Lib.hid hHeld
        clear hHeld
        go_wp2_with fail
        exact HP.out _ _ (by rw [HK2.out]; rfl) (rfl) _ _ T7.out (bstep B5.out H7.out)
      | false =>
        go_wp2_with fail
        refine wp_region_held_drew (S := fun wx => Below w5.heap.size w5 wx) (by kernel_rfl) ((Below.refl _ _).drew) (fun hHeld => ?_)
        first
          | (refine tkw 0 ?_ rfl ?_ ?_
             rotate_left
             · intro wx hSw
               obtain ⟨s0, s1, s2, s3⟩ := KS.out wx hSw
               (first | (go_simp; rfl) | go_simp | rfl))
          | refine tku 0 rfl ?_
        first
          | (refine tkw 1 ?_ rfl ?_ ?_
             rotate_left
             · intro wx hSw
               obtain ⟨s0, s1, s2, s3⟩ := KS.out wx hSw
               (first | (go_simp; rfl) | go_simp | rfl))
          | refine tku 1 rfl ?_
        first
          | (refine tkw 2 ?_ rfl ?_ ?_
             rotate_left
             · intro wx hSw
               obtain ⟨s0, s1, s2, s3⟩ := KS.out wx hSw
               (first | (go_simp; rfl) | go_simp | rfl))
          | refine tku 2 rfl ?_
        first
          | (refine tkw 3 ?_ rfl ?_ ?_
             rotate_left
             · intro wx hSw
               obtain ⟨s0, s1, s2, s3⟩ := KS.out wx hSw
               (first | (go_simp; rfl) | go_simp | rfl))
          | refine tku 3 rfl ?_
        first
          | (refine tkw 4 ?_ rfl ?_ ?_
             rotate_left
             · intro wx hSw
               obtain ⟨s0, s1, s2, s3⟩ := KS.out wx hSw
               (first | (go_simp; rfl) | go_simp | rfl))
          | refine tku 4 rfl ?_
        first
          | (refine tkw 5 ?_ rfl ?_ ?_
             rotate_left
             · intro wx hSw
               obtain ⟨s0, s1, s2, s3⟩ := KS.out wx hSw
               (first | (go_simp; rfl) | go_simp | rfl))
          | refine tku 5 rfl ?_
        first
          | (refine tkw 6 ?_ rfl ?_ ?_
             rotate_left
             · intro wx hSw
               obtain ⟨s0, s1, s2, s3⟩ := KS.out wx hSw
               (first | (go_simp; rfl) | go_simp | rfl))
          | refine tku 6 rfl ?_
        first
          | (refine tkw 7 ?_ rfl ?_ ?_
             rotate_left
             · intro wx hSw
               obtain ⟨s0, s1, s2, s3⟩ := KS.out wx hSw
               (first | (go_simp; rfl) | go_simp | rfl))
          | refine tku 7 rfl ?_
        first
          | (refine tkw 8 ?_ rfl ?_ ?_
             rotate_left
             · intro wx hSw
               obtain ⟨s0, s1, s2, s3⟩ := KS.out wx hSw
               (first | (go_simp; rfl) | go_simp | rfl))
          | refine tku 8 rfl ?_
        first
          | (refine tkw 9 ?_ rfl ?_ ?_
             rotate_left
             · intro wx hSw
               obtain ⟨s0, s1, s2, s3⟩ := KS.out wx hSw
               (first | (go_simp; rfl) | go_simp | rfl))
          | refine tku 9 rfl ?_
        first
          | (refine tkw 10 ?_ rfl ?_ ?_
             rotate_left
             · intro wx hSw
               obtain ⟨s0, s1, s2, s3⟩ := KS.out wx hSw
               (first | (go_simp; rfl) | go_simp | rfl))
          | refine tku 10 rfl ?_
        first
          | (refine tkw 11 ?_ rfl ?_ ?_
             rotate_left
             · intro wx hSw
               obtain ⟨s0, s1, s2, s3⟩ := KS.out wx hSw
               (first | (go_simp; rfl) | go_simp | rfl))
          | refine tku 11 rfl ?_
        first
          | (refine tkw 13 ?_ rfl ?_ ?_
             rotate_left
             · intro wx hSw
               obtain ⟨s0, s1, s2, s3⟩ := KS.out wx hSw
               (first | (go_simp; rfl) | go_simp | rfl))
          | refine tku 13 rfl ?_
        first
          | (refine tkw 14 ?_ rfl ?_ ?_
             rotate_left
             · intro wx hSw
               obtain ⟨s0, s1, s2, s3⟩ := KS.out wx hSw
               (first | (go_simp; rfl) | go_simp | rfl))
          | refine tku 14 rfl ?_
        first
          | (refine tkw 23 ?_ rfl ?_ ?_
             rotate_left
             · intro wx hSw
               obtain ⟨s0, s1, s2, s3⟩ := KS.out wx hSw
               (first | (go_simp; rfl) | go_simp | rfl))
          | refine tku 23 rfl ?_
        first
          | (refine tkw 24 ?_ rfl ?_ ?_
             rotate_left
             · intro wx hSw
               obtain ⟨s0, s1, s2, s3⟩ := KS.out wx hSw
               (first | (go_simp; rfl) | go_simp | rfl))
          | refine tku 24 rfl ?_
        refine wpAnyH_ready (rs := [12]) (by kernel_rfl) (by simp) ?_
        refine AllReadyH.cons rfl (fun K hK => ?_) AllReadyH.nil
        go_simp
        refine (unless_gen _ _ _ _ (by have := HA.out; omega) (by have := HA.out; omega) (by decide)).mono ?_
        rintro e w5 ⟨⟨F5, p5, d5, rfl, t5⟩, b5⟩
        have T5 := Lib.hid t5
        have H5 := Stp.mk b5
        clear t5
        try go_simp
        refine hK.out _ _ (bstep (by assumption) b5) (fun hHeld => ?_)
        clear hK K b5
        try simp only [List.getElem_toArray, List.getElem_cons_zero, List.getElem_cons_succ, Act.put, List.setIfInBounds_toArray, List.set_cons_zero, List.set_cons_succ, Array.toArray_toList]
        first
          | (refine tkw 15 ?_ rfl ?_ ?_
             rotate_left
             · intro wx hSw
               obtain ⟨s0, s1, s2, s3⟩ := KS.out wx hSw
               (first | (go_simp; rfl) | go_simp | rfl))
          | refine tku 15 rfl ?_
        first
          | (refine tkw 16 ?_ rfl ?_ ?_
             rotate_left
             · intro wx hSw
               obtain ⟨s0, s1, s2, s3⟩ := KS.out wx hSw
               (first | (go_simp; rfl) | go_simp | rfl))
          | refine tku 16 rfl ?_
        first
          | (refine tkw 17 ?_ rfl ?_ ?_
             rotate_left
             · intro wx hSw
               obtain ⟨s0, s1, s2, s3⟩ := KS.out wx hSw
               (first | (go_simp; rfl) | go_simp | rfl))
          | refine tku 17 rfl ?_
        first
          | (refine tkw 18 ?_ rfl ?_ ?_
             rotate_left
             · intro wx hSw
               obtain ⟨s0, s1, s2, s3⟩ := KS.out wx hSw
               (first | (go_simp; rfl) | go_simp | rfl))
          | refine tku 18 rfl ?_
        first
          | (refine tkw 19 ?_ rfl ?_ ?_
             rotate_left
             · intro wx hSw
               obtain ⟨s0, s1, s2, s3⟩ := KS.out wx hSw
               (first | (go_simp; rfl) | go_simp | rfl))
          | refine tku 19 rfl ?_
        first
          | (refine tkw 20 ?_ rfl ?_ ?_
             rotate_left
             · intro wx hSw
               obtain ⟨s0, s1, s2, s3⟩ := KS.out wx hSw
               (first | (go_simp; rfl) | go_simp | rfl))
          | refine tku 20 rfl ?_
        first
          | (refine tkw 21 ?_ rfl ?_ ?_
             rotate_left
             · intro wx hSw
               obtain ⟨s0, s1, s2, s3⟩ := KS.out wx hSw
               (first | (go_simp; rfl) | go_simp | rfl))
          | refine tku 21 rfl ?_
        first
          | (refine tkw 22 ?_ rfl ?_ ?_
             rotate_left
             · intro wx hSw
               obtain ⟨s0, s1, s2, s3⟩ := KS.out wx hSw
               (first | (go_simp; rfl) | go_simp | rfl))
          | refine tku 22 rfl ?_
        refine wpAnyH_ready (rs := [25]) (by kernel_rfl) (by simp) ?_
        refine AllReadyH.cons rfl (fun K hK => ?_) AllReadyH.nil
        go_simp
        refine (unless_gen _ _ _ _ (by have := HA.out; omega) (by have := HA.out; omega) (by decide)).mono ?_
        rintro e w5 ⟨⟨F5, p5, d5, rfl, t5⟩, b5⟩
        have T5 := Lib.hid t5
        have H5 := Stp.mk b5
        clear t5
        try go_simp
        refine hK.out _ _ (bstep (by assumption) b5) (fun hHeld => ?_)
        clear hK K b5
        try simp only [List.getElem_toArray, List.getElem_cons_zero, List.getElem_cons_succ, Act.put, List.setIfInBounds_toArray, List.set_cons_zero, List.set_cons_succ, Array.toArray_toList]
        refine wpAnyH_ready (rs := [26]) (by kernel_rfl) (by simp) ?_
        refine AllReadyH.cons rfl (fun K hK => ?_) AllReadyH.nil
        go_simp
        refine hK.out _ _ (ballo (by assumption) _) (fun hHeld => ?_)
        clear hK K
        try simp only [List.getElem_toArray, List.getElem_cons_zero, List.getElem_cons_succ, Act.put, List.setIfInBounds_toArray, List.set_cons_zero, List.set_cons_succ, Array.toArray_toList]
        refine wpAnyH_ready (rs := [27]) (by kernel_rfl) (by simp) ?_
        refine AllReadyH.cons rfl (fun K hK => ?_) AllReadyH.nil
        go_simp
        refine (first2_any _ _ _ _ _ (TestV.below (Hid.out (by assumption)) (by (repeat (first | exact Below.refl _ _ | refine bdrew ?_ | refine ballo ?_ _ | refine bsteps ?_ (by assumption))))) (TestV.below (Hid.out (by assumption)) (by (repeat (first | exact Below.refl _ _ | refine bdrew ?_ | refine ballo ?_ _ | refine bsteps ?_ (by assumption)))))).mono ?_
        rintro e w7 ⟨⟨v7, rfl, t7⟩, b7⟩
        have T7 := Lib.hid t7
        clear t7
        try go_simp
        refine hK.out _ _ (bstep (by assumption) b7) (fun hHeld => ?_)
        clear hK K b7
        try simp only [List.getElem_toArray, List.getElem_cons_zero, List.getElem_cons_succ, Act.put, List.setIfInBounds_toArray, List.set_cons_zero, List.set_cons_succ, Array.toArray_toList]
        first
          | (refine tkw 28 ?_ rfl ?_ ?_
             rotate_left
             · intro wx hSw
               obtain ⟨s0, s1, s2, s3⟩ := KS.out wx hSw
               (first | (go_simp; rfl) | go_simp | rfl))
          | refine tku 28 rfl ?_
        refine wpAnyH_done (by kernel_rfl) ?_ _
        have H7 := Lib.hid hHeld
        clear hHeld
        go_wp2_with fail
        exact HP.out _ _ (by rw [HK2.out]; rfl) (rfl) _ _ T7.out (bstep B5.out H7.out)
end Go.Proofs.YtnaejlfjlennhaaGreatDoor
