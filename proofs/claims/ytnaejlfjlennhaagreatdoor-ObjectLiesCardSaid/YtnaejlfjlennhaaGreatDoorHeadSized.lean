/- Layer 4: what is laid in memory has room there, and is aligned to what may be. -/
import Derived.Test.YtnaejlfjlennhaaGreatDoorHeadAlone
import Derived.Deep.DeepCutAuto
import Derived.Deep.RegionHeld3
import Derived.BigQuiet
import Derived.Test.YtnaejlfjlennhaaGreatDoorTk
namespace Go.Proofs.YtnaejlfjlennhaaGreatDoor
open Go.RowKit
set_option linter.unusedVariables false
set_option linter.unusedSimpArgs false

theorem unless_gen (ok : Bool) (z c : Int) (w : World) (h0 : 0 ≤ z) (h1 : z < 18446744073709551616) (h2 : 0 ≤ c) :
    Calls Tryz.prog 40 #[.bool ok, .int .u64 z, .int .i64 c] w fun e w' => (∃ F b d, e = .returned (.func (.func F) b d) ∧ TestV (.func (.func F) b d) w' (unF ok z.toNat c.toNat)) ∧ Below w.heap.size w w' := by
  have := unless_any ok z.toNat c.toNat w (by omega)
  rw [show ((z.toNat : Nat) : Int) = z by omega, show ((c.toNat : Nat) : Int) = c by omega] at this
  refine this.mono ?_
  rintro e w' ⟨⟨v, rfl, hv⟩, hb⟩
  obtain ⟨F, b, d, rfl, -⟩ := hv.is
  exact ⟨⟨F, b, d, rfl, hv⟩, hb⟩
theorem list_at2 {α : Type} {a b : α} : ∀ (i : Nat) (v : α), [a, b][i]? = some v → (i = 0 ∧ v = a) ∨ (i = 1 ∧ v = b)
  | 0, v, h => .inl ⟨rfl, by simpa using h.symm⟩
  | 1, v, h => .inr ⟨rfl, by simpa using h.symm⟩
  | i + 2, v, h => by simp at h
theorem first2_any (v1 v2 : Value) (r1 r2 : Option (Nat × Nat)) (w : World) (h1 : TestV v1 w r1) (h2 : TestV v2 w r2) :
    Calls Tryz.prog 17 #[.slice (some ⟨w.heap.size, 0, none⟩) 2 2] (w.alloc (.cells #[v1, v2] 82)) fun e w' => (∃ v, e = .returned v ∧ ErrAt w' v (firstF [r1, r2])) ∧ Below w.heap.size w w' := by
  have hb : Below w.heap.size w (w.alloc (.cells #[v1, v2] 82)) := ballo (Below.refl _ _) _
  refine (first_any w.heap.size 2 2 [v1, v2] [r1, r2] _ rfl rfl (by decide) (by simp) (fun i v hv => ?_) (fun i v r hv hr => ?_)).mono ?_
  · rw [World.cell?_alloc_new]
    simpa using hv
  · rcases list_at2 i v hv with ⟨rfl, rfl⟩ | ⟨rfl, rfl⟩
    · obtain rfl : r = r1 := by simpa using hr.symm
      exact h1.below hb
    · obtain rfl : r = r2 := by simpa using hr.symm
      exact h2.below hb
  · rintro e w' ⟨h, hb'⟩
    exact ⟨h, bstep hb hb'⟩
theorem enters_sized1 : ∀ (args : Array Value) (w : World), (callFunc 75 args).run Tryz.prog w = .ok (.enter 75 args) w := enters_of Tryz.func75 (by kernel_rfl) rfl
theorem none_post {w w' : World} (hb : Below w.heap.size w w') : TestPost none w (.returned .nilIface) w' := ⟨⟨_, rfl, rfl⟩, hb⟩

set_option maxRecDepth 100000 in
set_option maxHeartbeats 16000000 in
theorem sized1_any (p : PT) (at_ b0 b1 : Nat) (w : World) (hp : p.wf) (ha : at_ + 64 < 18446744073709551616) (h0 : w.heap[b0]? = some (.cells p.cells.toArray 54)) (h1 : w.heap[b1]? = some (.cells #[.int .u64 (at_ : Int)] 24)) :
    Calls Tryz.prog 75 #[.pointer (some ⟨b0, 0, none⟩), .pointer (some ⟨b1, 0, none⟩)] w (TestPost (sizedF p at_) w) := by
  obtain ⟨w1, hw1⟩ : ∃ w1, w.alloc (.cells #[.int .u32 1, .int .u32 7] 52) = w1 := ⟨_, rfl⟩
  have B1 : Hid (Below w.heap.size w w1) := Lib.hid (by rw [← hw1]; exact ballo (Below.refl _ _) _)
  have HIS : Hid (Calls Tryz.prog 71 #[p.hv, .slice (some ⟨w.heap.size, 0, none⟩) 2 2] w1 fun e w' => e = .returned (.bool (isOf p [1, 7])) ∧ Below w1.heap.size w1 w') := Lib.hid (is_any p w.heap.size 2 2 [1, 7] w1 (by rw [← hw1]; exact URow.lit w [1, 7] #[.int .u32 1, .int .u32 7] rfl _) rfl (by decide))
  obtain ⟨R1, hR1⟩ : ∃ R1, isOf p [1, 7] = R1 := ⟨_, rfl⟩
  rw [hR1] at HIS
  obtain ⟨K1, hK1⟩ : ∃ K1, decide (p.filesz ≤ p.memsz) = K1 := ⟨_, rfl⟩
  obtain ⟨K2, hK2⟩ : ∃ K2, (powerF p.align || (decide (p.align = 0) && decide (p.ty = 7))) = K2 := ⟨_, rfl⟩
  have hsz : sizedF p at_ = if R1 = true then firstF [unF K1 (at_ + 32) 3, unF K2 (at_ + 48) 3] else none := by unfold sizedF; rw [hR1, hK1, hK2]
  rw [hsz]
  have HX : Hid (∀ wx, Below w.heap.size w wx → wx.heap[b0]? = some (.cells p.cells.toArray 54) ∧ wx.heap[b1]? = some (.cells #[.int .u64 (at_ : Int)] 24)) := Lib.hid (fun wx hx => ⟨(hx.block _ (lt_of_block h0)).trans h0, (hx.block _ (lt_of_block h1)).trans h1⟩)
  have HON : Hid (∀ wx, Calls Tryz.prog 76 #[.int .u64 (p.align : Int)] wx fun e w' => e = .returned (.int .i64 (Pop.pop p.align)) ∧ wx = w') := Lib.hid (fun wx => ones p.align wx hp.2.2.2.2.2.2)
  obtain ⟨PP, hPP⟩ : ∃ PP : Nat, Pop.pop p.align = PP := ⟨_, rfl⟩
  rw [hPP] at HON
  have t1 : decide ((p.filesz : Int) ≤ (p.memsz : Int)) = K1 := by rw [← hK1, decide_eq_decide]; omega
  have t1' := hK1
  have hpow : powerF p.align = (decide (PP = 1) && decide (p.align ≤ 1048576)) := by unfold powerF; rw [hPP]
  rw [hpow] at hK2
  have aw32 : IntKind.u64.wrap ((at_ : Int) + 32) = (at_ : Int) + 32 := by rw [IntKind.wrap_u64]; omega
  have aw48 : IntKind.u64.wrap ((at_ : Int) + 48) = (at_ : Int) + 48 := by rw [IntKind.wrap_u64]; omega
  have HA : Hid (0 ≤ (at_ : Int) + 32 ∧ (at_ : Int) + 32 < 18446744073709551616 ∧ 0 ≤ (at_ : Int) + 48 ∧ (at_ : Int) + 48 < 18446744073709551616) := Lib.hid (by omega)
  obtain ⟨x0, y0⟩ := And.intro h0 h1
  obtain ⟨a0, a1, a2, a3, a4, a5, a6⟩ := p
  unfold PT.hv PT.cells at *
  simp only [] at *
  obtain ⟨c0, c1, c2, c3, c4, c5, c6⟩ := out_cells x0
  cases R1 with
  | false =>
    have HP : Hid (∀ w', Below w.heap.size w w' → TestPost none w (.returned .nilIface) w') := Lib.hid (fun w' hb => none_post hb)
    simp only [Bool.false_eq_true, if_false]
    generalize TestPost none w = P at *
    clear hp ha h0 h1 hR1 hK1 hK2 hsz hPP hpow x0 y0 t1 t1' aw32 aw48
    go_enter Tryz.func75, Tryz.ntmps75
    go_wp2_with fail
    refine HIS.out.mono ?_
    rintro e w3 ⟨rfl, hb3⟩
    have B3 := Lib.hid (bstep B1.out hb3)
    clear hb3 c0 c1 c2 c3 c4 c5 c6 HIS
    go_wp2_with fail
    exact HP.out _ B3.out
  | true =>
    simp only [if_true]
    have HP : Hid (∀ v w', ErrAt w' v (firstF [unF K1 ((at_ : Int) + 32).toNat (3 : Int).toNat, unF K2 ((at_ : Int) + 48).toNat (3 : Int).toNat]) → Below w.heap.size w w' → TestPost (firstF [unF K1 (at_ + 32) 3, unF K2 (at_ + 48) 3]) w (.returned v) w') := Lib.hid (fun v w' h hb => ⟨⟨v, rfl, by
      rw [show ((at_ : Int) + 32).toNat = at_ + 32 by omega, show ((at_ : Int) + 48).toNat = at_ + 48 by omega] at h
      exact h⟩, hb⟩)
    generalize TestPost (firstF [unF K1 (at_ + 32) 3, unF K2 (at_ + 48) 3]) w = P at *
    have hcase : (PP = 1 ∧ a6 ≤ 1048576 ∧ K2 = true) ∨ ((PP ≠ 1 ∨ ¬ a6 ≤ 1048576) ∧ a6 ≠ 0 ∧ K2 = false) ∨ (PP ≠ 1 ∧ a6 = 0 ∧ K2 = decide (a0 = 7)) := by
      by_cases e1 : PP = 1
      · by_cases e2 : a6 ≤ 1048576
        · exact .inl ⟨e1, e2, by rw [← hK2]; simp [e1, e2]⟩
        · exact .inr (.inl ⟨.inr e2, by omega, by rw [← hK2]; simp [e1, e2]; intro h; omega⟩)
      · by_cases e2 : a6 = 0
        · exact .inr (.inr ⟨e1, e2, by rw [← hK2]; simp [e1, e2]⟩)
        · exact .inr (.inl ⟨.inl e1, e2, by rw [← hK2]; simp [e1, e2]⟩)
    clear hp ha h0 h1 hR1 hK1 hK2 hsz hPP hpow x0 y0
    go_enter Tryz.func75, Tryz.ntmps75
    go_wp2_with fail
    refine HIS.out.mono ?_
    rintro e w3 ⟨rfl, hb3⟩
    have B3 := Lib.hid (bstep B1.out hb3)
    clear hb3 c0 c1 c2 c3 c4 c5 c6 HIS
    obtain ⟨x3, y3⟩ := HX.out w3 B3.out
    obtain ⟨c0, c1, c2, c3, c4, c5, c6⟩ := out_cells x3
    have d0 : w3.cell? ⟨b1, 0, none⟩ = some (.int .u64 (at_ : Int)) := by rw [cell_of_row _ _ 0 _ _ _ y3]; rfl
    have KS : Hid (∀ wx, Below w3.heap.size w3 wx → wx.cell? ⟨b0, 0, none⟩ = some (.int .u32 (a0 : Int)) ∧ wx.cell? ⟨b0, 4, none⟩ = some (.int .u64 (a4 : Int)) ∧ wx.cell? ⟨b0, 5, none⟩ = some (.int .u64 (a5 : Int)) ∧ wx.cell? ⟨b0, 6, none⟩ = some (.int .u64 (a6 : Int)) ∧ wx.cell? ⟨b1, 0, none⟩ = some (.int .u64 (at_ : Int))) := Lib.hid (fun wx hx => by
      obtain ⟨x4, y4⟩ := HX.out wx (bstep B3.out hx)
      obtain ⟨q0, q1, q2, q3, q4, q5, q6⟩ := out_cells x4
      exact ⟨q0, q4, q5, q6, by rw [cell_of_row _ _ 0 _ _ _ y4]; rfl⟩)
    clear x3 y3
    rcases hcase with ⟨e1, e2, rfl⟩ | ⟨e1, e2, rfl⟩ | ⟨e1, e2, hk⟩
    · have p1 : ((PP : Int) == 1) = true := by rw [beq_iff_eq]; omega
      have p2 : decide ((a6 : Int) ≤ 1048576) = true := decide_eq_true (by omega)
      have p2' : decide (a6 ≤ 1048576) = true := decide_eq_true e2
      clear e1 e2
      go_wp2_with fail
      refine (HON.out w3).mono ?_
      rintro e w4 ⟨rfl, rfl⟩
      go_wp2_with fail
      refine wp_region_held_drew (S := fun wx => Below w3.heap.size w3 wx) (by kernel_rfl) ((Below.refl _ _).drew) (fun hHeld => ?_)
      first
        | (refine tkw 0 ?_ rfl ?_ ?_
           rotate_left
           · intro wx hSw
             obtain ⟨s0, s1, s2, s3, s4⟩ := KS.out wx hSw
             (first | (go_simp; rfl) | go_simp | rfl))
        | refine tku 0 rfl ?_
      first
        | (refine tkw 1 ?_ rfl ?_ ?_
           rotate_left
           · intro wx hSw
             obtain ⟨s0, s1, s2, s3, s4⟩ := KS.out wx hSw
             (first | (go_simp; rfl) | go_simp | rfl))
        | refine tku 1 rfl ?_
      first
        | (refine tkw 2 ?_ rfl ?_ ?_
           rotate_left
           · intro wx hSw
             obtain ⟨s0, s1, s2, s3, s4⟩ := KS.out wx hSw
             (first | (go_simp; rfl) | go_simp | rfl))
        | refine tku 2 rfl ?_
      first
        | (refine tkw 3 ?_ rfl ?_ ?_
           rotate_left
           · intro wx hSw
             obtain ⟨s0, s1, s2, s3, s4⟩ := KS.out wx hSw
             (first | (go_simp; rfl) | go_simp | rfl))
        | refine tku 3 rfl ?_
      first
        | (refine tkw 4 ?_ rfl ?_ ?_
           rotate_left
           · intro wx hSw
             obtain ⟨s0, s1, s2, s3, s4⟩ := KS.out wx hSw
             (first | (go_simp; rfl) | go_simp | rfl))
        | refine tku 4 rfl ?_
      first
        | (refine tkw 5 ?_ rfl ?_ ?_
           rotate_left
           · intro wx hSw
             obtain ⟨s0, s1, s2, s3, s4⟩ := KS.out wx hSw
             (first | (go_simp; rfl) | go_simp | rfl))
        | refine tku 5 rfl ?_
      first
        | (refine tkw 6 ?_ rfl ?_ ?_
           rotate_left
           · intro wx hSw
             obtain ⟨s0, s1, s2, s3, s4⟩ := KS.out wx hSw
             (first | (go_simp; rfl) | go_simp | rfl))
        | refine tku 6 rfl ?_
      first
        | (refine tkw 8 ?_ rfl ?_ ?_
           rotate_left
           · intro wx hSw
             obtain ⟨s0, s1, s2, s3, s4⟩ := KS.out wx hSw
             (first | (go_simp; rfl) | go_simp | rfl))
        | refine tku 8 rfl ?_
      first
        | (refine tkw 19 ?_ rfl ?_ ?_
           rotate_left
           · intro wx hSw
             obtain ⟨s0, s1, s2, s3, s4⟩ := KS.out wx hSw
             (first | (go_simp; rfl) | go_simp | rfl))
        | refine tku 19 rfl ?_
      first
        | (refine tkw 20 ?_ rfl ?_ ?_
           rotate_left
           · intro wx hSw
             obtain ⟨s0, s1, s2, s3, s4⟩ := KS.out wx hSw
             (first | (go_simp; rfl) | go_simp | rfl))
        | refine tku 20 rfl ?_
      refine wpAnyH_ready (rs := [7]) (by kernel_rfl) (by simp) ?_
      refine AllReadyH.cons rfl (fun K hK => ?_) AllReadyH.nil
      go_simp
      refine (unless_gen _ _ _ _ (by have := HA.out; omega) (by have := HA.out; omega) (by decide)).mono ?_
      rintro e w5 ⟨⟨F5, p5, d5, rfl, t5⟩, b5⟩
      have T5 := Lib.hid t5
      have H5 := Stp.mk b5
      clear t5
      try go_simp
      refine hK.out _ _ (bstep (by assumption) b5) (fun hHeld => ?_)
      clear hK K b5
      try simp only [List.getElem_toArray, List.getElem_cons_zero, List.getElem_cons_succ, Act.put, List.setIfInBounds_toArray, List.set_cons_zero, List.set_cons_succ, Array.toArray_toList]
      first
        | (refine tkw 9 ?_ rfl ?_ ?_
           rotate_left
           · intro wx hSw
             obtain ⟨s0, s1, s2, s3, s4⟩ := KS.out wx hSw
             (first | (go_simp; rfl) | go_simp | rfl))
        | refine tku 9 rfl ?_
      first
        | (refine tkw 10 ?_ rfl ?_ ?_
           rotate_left
           · intro wx hSw
             obtain ⟨s0, s1, s2, s3, s4⟩ := KS.out wx hSw
             (first | (go_simp; rfl) | go_simp | rfl))
        | refine tku 10 rfl ?_
      first
        | (refine tkw 11 ?_ rfl ?_ ?_
           rotate_left
           · intro wx hSw
             obtain ⟨s0, s1, s2, s3, s4⟩ := KS.out wx hSw
             (first | (go_simp; rfl) | go_simp | rfl))
        | refine tku 11 rfl ?_
      first
        | (refine tkw 12 ?_ rfl ?_ ?_
           rotate_left
           · intro wx hSw
             obtain ⟨s0, s1, s2, s3, s4⟩ := KS.out wx hSw
             (first | (go_simp; rfl) | go_simp | rfl))
        | refine tku 12 rfl ?_
      first
        | (refine tkw 13 ?_ rfl ?_ ?_
           rotate_left
           · intro wx hSw
             obtain ⟨s0, s1, s2, s3, s4⟩ := KS.out wx hSw
             (first | (go_simp; rfl) | go_simp | rfl))
        | refine tku 13 rfl ?_
      first
        | (refine tkw 14 ?_ rfl ?_ ?_
           rotate_left
           · intro wx hSw
             obtain ⟨s0, s1, s2, s3, s4⟩ := KS.out wx hSw
             (first | (go_simp; rfl) | go_simp | rfl))
        | refine tku 14 rfl ?_
      first
        | (refine tkw 15 ?_ rfl ?_ ?_
           rotate_left
           · intro wx hSw
             obtain ⟨s0, s1, s2, s3, s4⟩ := KS.out wx hSw
             (first | (go_simp; rfl) | go_simp | rfl))
        | refine tku 15 rfl ?_
      first
        | (refine tkw 16 ?_ rfl ?_ ?_
           rotate_left
           · intro wx hSw
             obtain ⟨s0, s1, s2, s3, s4⟩ := KS.out wx hSw
             (first | (go_simp; rfl) | go_simp | rfl))
        | refine tku 16 rfl ?_
      first
        | (refine tkw 17 ?_ rfl ?_ ?_
           rotate_left
           · intro wx hSw
             obtain ⟨s0, s1, s2, s3, s4⟩ := KS.out wx hSw
             (first | (go_simp; rfl) | go_simp | rfl))
        | refine tku 17 rfl ?_
      first
        | (refine tkw 18 ?_ rfl ?_ ?_
           rotate_left
           · intro wx hSw
             obtain ⟨s0, s1, s2, s3, s4⟩ := KS.out wx hSw
             (first | (go_simp; rfl) | go_simp | rfl))
        | refine tku 18 rfl ?_
      refine wpAnyH_ready (rs := [21]) (by kernel_rfl) (by simp) ?_
      refine AllReadyH.cons rfl (fun K hK => ?_) AllReadyH.nil
      go_simp
      refine (unless_gen _ _ _ _ (by have := HA.out; omega) (by have := HA.out; omega) (by decide)).mono ?_
      rintro e w5 ⟨⟨F5, p5, d5, rfl, t5⟩, b5⟩
      have T5 := Lib.hid t5
      have H5 := Stp.mk b5
      clear t5
      try go_simp
      refine hK.out _ _ (bstep (by assumption) b5) (fun hHeld => ?_)
      clear hK K b5
      try simp only [List.getElem_toArray, List.getElem_cons_zero, List.getElem_cons_succ, Act.put, List.setIfInBounds_toArray, List.set_cons_zero, List.set_cons_succ, Array.toArray_toList]
      refine wpAnyH_ready (rs := [22]) (by kernel_rfl) (by simp) ?_
      refine AllReadyH.cons rfl (fun K hK => ?_) AllReadyH.nil
      go_simp
      refine hK.out _ _ (ballo (by assumption) _) (fun hHeld => ?_)
      clear hK K
      try simp only [List.getElem_toArray, List.getElem_cons_zero, List.getElem_cons_succ, Act.put, List.setIfInBounds_toArray, List.set_cons_zero, List.set_cons_succ, Array.toArray_toList]
      refine wpAnyH_ready (rs := [23]) (by kernel_rfl) (by simp) ?_
      refine AllReadyH.cons rfl (fun K hK => ?_) AllReadyH.nil
      go_simp
      refine (first2_any _ _ _ _ _ (TestV.below (Hid.out (by assumption)) (by (repeat (first | exact Below.refl _ _ | refine bdrew ?_ | refine ballo ?_ _ | refine bsteps ?_ (by assumption))))) (TestV.below (Hid.out (by assumption)) (by (repeat (first | exact Below.refl _ _ | refine bdrew ?_ | refine ballo ?_ _ | refine bsteps ?_ (by assumption)))))).mono ?_
      rintro e w7 ⟨⟨v7, rfl, t7⟩, b7⟩
      have T7 := Lib.hid t7
      clear t7
      try go_simp
      refine hK.out _ _ (bstep (by assumption) b7) (fun hHeld => ?_)
      clear hK K b7
      try simp only [List.getElem_toArray, List.getElem_cons_zero, List.getElem_cons_succ, Act.put, List.setIfInBounds_toArray, List.set_cons_zero, List.set_cons_succ, Array.toArray_toList]
      first
        | (refine tkw 24 ?_ rfl ?_ ?_
           rotate_left
           · intro wx hSw
             obtain ⟨s0, s1, s2, s3, s4⟩ := KS.out wx hSw
             (first | (go_simp; rfl) | go_simp | rfl))
        | refine tku 24 rfl ?_
      refine wpAnyH_done (by kernel_rfl) ?_ _
      have H7 := Lib.hid hHeld
      clear hHeld
      go_wp2_with fail
      exact HP.out _ _ T7.out (bstep B3.out H7.out)
    · rcases e1 with e1 | e1
      · have p1 : ((PP : Int) == 1) = false := by rw [beq_eq_false_iff_ne]; omega
        have p3 : ((a6 : Int) == 0) = false := by rw [beq_eq_false_iff_ne]; omega
        clear e1 e2
        go_wp2_with fail
        refine (HON.out w3).mono ?_
        rintro e w4 ⟨rfl, rfl⟩
        go_wp2_with fail
        refine wp_region_held_drew (S := fun wx => Below w3.heap.size w3 wx) (by kernel_rfl) ((Below.refl _ _).drew) (fun hHeld => ?_)
        first
          | (refine tkw 0 ?_ rfl ?_ ?_
             rotate_left
             · intro wx hSw
               obtain ⟨s0, s1, s2, s3, s4⟩ := KS.out wx hSw
               (first | (go_simp; rfl) | go_simp | rfl))
          | refine tku 0 rfl ?_
        first
          | (refine tkw 1 ?_ rfl ?_ ?_
             rotate_left
             · intro wx hSw
               obtain ⟨s0, s1, s2, s3, s4⟩ := KS.out wx hSw
               (first | (go_simp; rfl) | go_simp | rfl))
          | refine tku 1 rfl ?_
        first
          | (refine tkw 2 ?_ rfl ?_ ?_
             rotate_left
             · intro wx hSw
               obtain ⟨s0, s1, s2, s3, s4⟩ := KS.out wx hSw
               (first | (go_simp; rfl) | go_simp | rfl))
          | refine tku 2 rfl ?_
        first
          | (refine tkw 3 ?_ rfl ?_ ?_
             rotate_left
             · intro wx hSw
               obtain ⟨s0, s1, s2, s3, s4⟩ := KS.out wx hSw
               (first | (go_simp; rfl) | go_simp | rfl))
          | refine tku 3 rfl ?_
        first
          | (refine tkw 4 ?_ rfl ?_ ?_
             rotate_left
             · intro wx hSw
               obtain ⟨s0, s1, s2, s3, s4⟩ := KS.out wx hSw
               (first | (go_simp; rfl) | go_simp | rfl))
          | refine tku 4 rfl ?_
        first
          | (refine tkw 5 ?_ rfl ?_ ?_
             rotate_left
             · intro wx hSw
               obtain ⟨s0, s1, s2, s3, s4⟩ := KS.out wx hSw
               (first | (go_simp; rfl) | go_simp | rfl))
          | refine tku 5 rfl ?_
        first
          | (refine tkw 6 ?_ rfl ?_ ?_
             rotate_left
             · intro wx hSw
               obtain ⟨s0, s1, s2, s3, s4⟩ := KS.out wx hSw
               (first | (go_simp; rfl) | go_simp | rfl))
          | refine tku 6 rfl ?_
        first
          | (refine tkw 8 ?_ rfl ?_ ?_
             rotate_left
             · intro wx hSw
               obtain ⟨s0, s1, s2, s3, s4⟩ := KS.out wx hSw
               (first | (go_simp; rfl) | go_simp | rfl))
          | refine tku 8 rfl ?_
        first
          | (refine tkw 19 ?_ rfl ?_ ?_
             rotate_left
             · intro wx hSw
               obtain ⟨s0, s1, s2, s3, s4⟩ := KS.out wx hSw
               (first | (go_simp; rfl) | go_simp | rfl))
          | refine tku 19 rfl ?_
        first
          | (refine tkw 20 ?_ rfl ?_ ?_
             rotate_left
             · intro wx hSw
               obtain ⟨s0, s1, s2, s3, s4⟩ := KS.out wx hSw
               (first | (go_simp; rfl) | go_simp | rfl))
          | refine tku 20 rfl ?_
        refine wpAnyH_ready (rs := [7]) (by kernel_rfl) (by simp) ?_
        refine AllReadyH.cons rfl (fun K hK => ?_) AllReadyH.nil
        go_simp
        refine (unless_gen _ _ _ _ (by have := HA.out; omega) (by have := HA.out; omega) (by decide)).mono ?_
        rintro e w5 ⟨⟨F5, p5, d5, rfl, t5⟩, b5⟩
        have T5 := Lib.hid t5
        have H5 := Stp.mk b5
        clear t5
        try go_simp
        refine hK.out _ _ (bstep (by assumption) b5) (fun hHeld => ?_)
        clear hK K b5
        try simp only [List.getElem_toArray, List.getElem_cons_zero, List.getElem_cons_succ, Act.put, List.setIfInBounds_toArray, List.set_cons_zero, List.set_cons_succ, Array.toArray_toList]
        first
          | (refine tkw 9 ?_ rfl ?_ ?_
             rotate_left
             · intro wx hSw
               obtain ⟨s0, s1, s2, s3, s4⟩ := KS.out wx hSw
               (first | (go_simp; rfl) | go_simp | rfl))
          | refine tku 9 rfl ?_
        first
          | (refine tkw 10 ?_ rfl ?_ ?_
             rotate_left
             · intro wx hSw
               obtain ⟨s0, s1, s2, s3, s4⟩ := KS.out wx hSw
               (first | (go_simp; rfl) | go_simp | rfl))
          | refine tku 10 rfl ?_
        first
          | (refine tkw 11 ?_ rfl ?_ ?_
             rotate_left
             · intro wx hSw
               obtain ⟨s0, s1, s2, s3, s4⟩ := KS.out wx hSw
               (first | (go_simp; rfl) | go_simp | rfl))
          | refine tku 11 rfl ?_
        first
          | (refine tkw 12 ?_ rfl ?_ ?_
             rotate_left
             · intro wx hSw
               obtain ⟨s0, s1, s2, s3, s4⟩ := KS.out wx hSw
               (first | (go_simp; rfl) | go_simp | rfl))
          | refine tku 12 rfl ?_
        first
          | (refine tkw 13 ?_ rfl ?_ ?_
             rotate_left
             · intro wx hSw
               obtain ⟨s0, s1, s2, s3, s4⟩ := KS.out wx hSw
               (first | (go_simp; rfl) | go_simp | rfl))
          | refine tku 13 rfl ?_
        first
          | (refine tkw 14 ?_ rfl ?_ ?_
             rotate_left
             · intro wx hSw
               obtain ⟨s0, s1, s2, s3, s4⟩ := KS.out wx hSw
               (first | (go_simp; rfl) | go_simp | rfl))
          | refine tku 14 rfl ?_
        first
          | (refine tkw 15 ?_ rfl ?_ ?_
             rotate_left
             · intro wx hSw
               obtain ⟨s0, s1, s2, s3, s4⟩ := KS.out wx hSw
               (first | (go_simp; rfl) | go_simp | rfl))
          | refine tku 15 rfl ?_
        first
          | (refine tkw 16 ?_ rfl ?_ ?_
             rotate_left
             · intro wx hSw
               obtain ⟨s0, s1, s2, s3, s4⟩ := KS.out wx hSw
               (first | (go_simp; rfl) | go_simp | rfl))
          | refine tku 16 rfl ?_
        first
          | (refine tkw 17 ?_ rfl ?_ ?_
             rotate_left
             · intro wx hSw
               obtain ⟨s0, s1, s2, s3, s4⟩ := KS.out wx hSw
               (first | (go_simp; rfl) | go_simp | rfl))
          | refine tku 17 rfl ?_
        first
          | (refine tkw 18 ?_ rfl ?_ ?_
             rotate_left
             · intro wx hSw
               obtain ⟨s0, s1, s2, s3, s4⟩ := KS.out wx hSw
               (first | (go_simp; rfl) | go_simp | rfl))
          | refine tku 18 rfl ?_
        refine wpAnyH_ready (rs := [21]) (by kernel_rfl) (by simp) ?_
        refine AllReadyH.cons rfl (fun K hK => ?_) AllReadyH.nil
        go_simp
        refine (unless_gen _ _ _ _ (by have := HA.out; omega) (by have := HA.out; omega) (by decide)).mono ?_
        rintro e w5 ⟨⟨F5, p5, d5, rfl, t5⟩, b5⟩
        have T5 := Lib.hid t5
        have H5 := Stp.mk b5
        clear t5
        try go_simp
        refine hK.out _ _ (bstep (by assumption) b5) (fun hHeld => ?_)
        clear hK K b5
        try simp only [List.getElem_toArray, List.getElem_cons_zero, List.getElem_cons_succ, Act.put, List.setIfInBounds_toArray, List.set_cons_zero, List.set_cons_succ, Array.toArray_toList]
        refine wpAnyH_ready (rs := [22]) (by kernel_rfl) (by simp) ?_
        refine AllReadyH.cons rfl (fun K hK => ?_) AllReadyH.nil
        go_simp
        refine hK.out _ _ (ballo (by assumption) _) (fun hHeld => ?_)
        clear hK K
        try simp only [List.getElem_toArray, List.getElem_cons_zero, List.getElem_cons_succ, Act.put, List.setIfInBounds_toArray, List.set_cons_zero, List.set_cons_succ, Array.toArray_toList]
        refine wpAnyH_ready (rs := [23]) (by kernel_rfl) (by simp) ?_
        refine AllReadyH.cons rfl (fun K hK => ?_) AllReadyH.nil
        go_simp
        refine (first2_any _ _ _ _ _ (TestV.below (Hid.out (by assumption)) (by (repeat (first | exact Below.refl _ _ | refine bdrew ?_ | refine ballo ?_ _ | refine bsteps ?_ (by assumption))))) (TestV.below (Hid.out (by assumption)) (by (repeat (first | exact Below.refl _ _ | refine bdrew ?_ | refine ballo ?_ _ | refine bsteps ?_ (by assumption)))))).mono ?_
        rintro e w7 ⟨⟨v7, rfl, t7⟩, b7⟩
        have T7 := Lib.hid t7
        clear t7
        try go_simp
        refine hK.out _ _ (bstep (by assumption) b7) (fun hHeld => ?_)
        clear hK K b7
        try simp only [List.getElem_toArray, List.getElem_cons_zero, List.getElem_cons_succ, Act.put, List.setIfInBounds_toArray, List.set_cons_zero, List.set_cons_succ, Array.toArray_toList]
        first
          | (refine tkw 24 ?_ rfl ?_ ?_
             rotate_left
             · intro wx hSw
               obtain ⟨s0, s1, s2, s3, s4⟩ := KS.out wx hSw
               (first | (go_simp; rfl) | go_simp | rfl))
          | refine tku 24 rfl ?_
        refine wpAnyH_done (by kernel_rfl) ?_ _
        have H7 := Lib.hid hHeld
        clear hHeld
        go_wp2_with fail
        exact HP.out _ _ T7.out (bstep B3.out H7.out)
      · have p2 : decide ((a6 : Int) ≤ 1048576) = false := decide_eq_false (by omega)
        have p2' : decide (a6 ≤ 1048576) = false := decide_eq_false e1
        have p3 : ((a6 : Int) == 0) = false := by rw [beq_eq_false_iff_ne]; omega
        by_cases e4 : PP = 1
        · have p1 : ((PP : Int) == 1) = true := by rw [beq_iff_eq]; omega
          clear e1 e2 e4
          go_wp2_with fail
          refine (HON.out w3).mono ?_
          rintro e w4 ⟨rfl, rfl⟩
          go_wp2_with fail
          refine wp_region_held_drew (S := fun wx => Below w3.heap.size w3 wx) (by kernel_rfl) ((Below.refl _ _).drew) (fun hHeld => ?_)
          first
            | (refine tkw 0 ?_ rfl ?_ ?_
               rotate_left
               · intro wx hSw
                 obtain ⟨s0, s1, s2, s3, s4⟩ := KS.out wx hSw
                 (first | (go_simp; rfl) | go_simp | rfl))
            | refine tku 0 rfl ?_
          first
            | (refine tkw 1 ?_ rfl ?_ ?_
               rotate_left
               · intro wx hSw
                 obtain ⟨s0, s1, s2, s3, s4⟩ := KS.out wx hSw
                 (first | (go_simp; rfl) | go_simp | rfl))
            | refine tku 1 rfl ?_
          first
            | (refine tkw 2 ?_ rfl ?_ ?_
               rotate_left
               · intro wx hSw
                 obtain ⟨s0, s1, s2, s3, s4⟩ := KS.out wx hSw
                 (first | (go_simp; rfl) | go_simp | rfl))
            | refine tku 2 rfl ?_
          first
            | (refine tkw 3 ?_ rfl ?_ ?_
               rotate_left
               · intro wx hSw
                 obtain ⟨s0, s1, s2, s3, s4⟩ := KS.out wx hSw
                 (first | (go_simp; rfl) | go_simp | rfl))
            | refine tku 3 rfl ?_
          first
            | (refine tkw 4 ?_ rfl ?_ ?_
               rotate_left
               · intro wx hSw
                 obtain ⟨s0, s1, s2, s3, s4⟩ := KS.out wx hSw
                 (first | (go_simp; rfl) | go_simp | rfl))
            | refine tku 4 rfl ?_
          first
            | (refine tkw 5 ?_ rfl ?_ ?_
               rotate_left
               · intro wx hSw
                 obtain ⟨s0, s1, s2, s3, s4⟩ := KS.out wx hSw
                 (first | (go_simp; rfl) | go_simp | rfl))
            | refine tku 5 rfl ?_
          first
            | (refine tkw 6 ?_ rfl ?_ ?_
               rotate_left
               · intro wx hSw
                 obtain ⟨s0, s1, s2, s3, s4⟩ := KS.out wx hSw
                 (first | (go_simp; rfl) | go_simp | rfl))
            | refine tku 6 rfl ?_
          first
            | (refine tkw 8 ?_ rfl ?_ ?_
               rotate_left
               · intro wx hSw
                 obtain ⟨s0, s1, s2, s3, s4⟩ := KS.out wx hSw
                 (first | (go_simp; rfl) | go_simp | rfl))
            | refine tku 8 rfl ?_
          first
            | (refine tkw 19 ?_ rfl ?_ ?_
               rotate_left
               · intro wx hSw
                 obtain ⟨s0, s1, s2, s3, s4⟩ := KS.out wx hSw
                 (first | (go_simp; rfl) | go_simp | rfl))
            | refine tku 19 rfl ?_
          first
            | (refine tkw 20 ?_ rfl ?_ ?_
               rotate_left
               · intro wx hSw
                 obtain ⟨s0, s1, s2, s3, s4⟩ := KS.out wx hSw
                 (first | (go_simp; rfl) | go_simp | rfl))
            | refine tku 20 rfl ?_
          refine wpAnyH_ready (rs := [7]) (by kernel_rfl) (by simp) ?_
          refine AllReadyH.cons rfl (fun K hK => ?_) AllReadyH.nil
          go_simp
          refine (unless_gen _ _ _ _ (by have := HA.out; omega) (by have := HA.out; omega) (by decide)).mono ?_
          rintro e w5 ⟨⟨F5, p5, d5, rfl, t5⟩, b5⟩
          have T5 := Lib.hid t5
          have H5 := Stp.mk b5
          clear t5
          try go_simp
          refine hK.out _ _ (bstep (by assumption) b5) (fun hHeld => ?_)
          clear hK K b5
          try simp only [List.getElem_toArray, List.getElem_cons_zero, List.getElem_cons_succ, Act.put, List.setIfInBounds_toArray, List.set_cons_zero, List.set_cons_succ, Array.toArray_toList]
          first
            | (refine tkw 9 ?_ rfl ?_ ?_
               rotate_left
               · intro wx hSw
                 obtain ⟨s0, s1, s2, s3, s4⟩ := KS.out wx hSw
                 (first | (go_simp; rfl) | go_simp | rfl))
            | refine tku 9 rfl ?_
          first
            | (refine tkw 10 ?_ rfl ?_ ?_
               rotate_left
               · intro wx hSw
                 obtain ⟨s0, s1, s2, s3, s4⟩ := KS.out wx hSw
                 (first | (go_simp; rfl) | go_simp | rfl))
            | refine tku 10 rfl ?_
          first
            | (refine tkw 11 ?_ rfl ?_ ?_
               rotate_left
               · intro wx hSw
                 obtain ⟨s0, s1, s2, s3, s4⟩ := KS.out wx hSw
                 (first | (go_simp; rfl) | go_simp | rfl))
            | refine tku 11 rfl ?_
          first
            | (refine tkw 12 ?_ rfl ?_ ?_
               rotate_left
               · intro wx hSw
                 obtain ⟨s0, s1, s2, s3, s4⟩ := KS.out wx hSw
                 (first | (go_simp; rfl) | go_simp | rfl))
            | refine tku 12 rfl ?_
          first
            | (refine tkw 13 ?_ rfl ?_ ?_
               rotate_left
               · intro wx hSw
                 obtain ⟨s0, s1, s2, s3, s4⟩ := KS.out wx hSw
                 (first | (go_simp; rfl) | go_simp | rfl))
            | refine tku 13 rfl ?_
          first
            | (refine tkw 14 ?_ rfl ?_ ?_
               rotate_left
               · intro wx hSw
                 obtain ⟨s0, s1, s2, s3, s4⟩ := KS.out wx hSw
                 (first | (go_simp; rfl) | go_simp | rfl))
            | refine tku 14 rfl ?_
          first
            | (refine tkw 15 ?_ rfl ?_ ?_
               rotate_left
               · intro wx hSw
                 obtain ⟨s0, s1, s2, s3, s4⟩ := KS.out wx hSw
                 (first | (go_simp; rfl) | go_simp | rfl))
            | refine tku 15 rfl ?_
          first
            | (refine tkw 16 ?_ rfl ?_ ?_
               rotate_left
               · intro wx hSw
                 obtain ⟨s0, s1, s2, s3, s4⟩ := KS.out wx hSw
                 (first | (go_simp; rfl) | go_simp | rfl))
            | refine tku 16 rfl ?_
          first
            | (refine tkw 17 ?_ rfl ?_ ?_
               rotate_left
               · intro wx hSw
                 obtain ⟨s0, s1, s2, s3, s4⟩ := KS.out wx hSw
                 (first | (go_simp; rfl) | go_simp | rfl))
            | refine tku 17 rfl ?_
          first
            | (refine tkw 18 ?_ rfl ?_ ?_
               rotate_left
               · intro wx hSw
                 obtain ⟨s0, s1, s2, s3, s4⟩ := KS.out wx hSw
                 (first | (go_simp; rfl) | go_simp | rfl))
            | refine tku 18 rfl ?_
          refine wpAnyH_ready (rs := [21]) (by kernel_rfl) (by simp) ?_
          refine AllReadyH.cons rfl (fun K hK => ?_) AllReadyH.nil
          go_simp
          refine (unless_gen _ _ _ _ (by have := HA.out; omega) (by have := HA.out; omega) (by decide)).mono ?_
          rintro e w5 ⟨⟨F5, p5, d5, rfl, t5⟩, b5⟩
          have T5 := Lib.hid t5
          have H5 := Stp.mk b5
          clear t5
          try go_simp
          refine hK.out _ _ (bstep (by assumption) b5) (fun hHeld => ?_)
          clear hK K b5
          try simp only [List.getElem_toArray, List.getElem_cons_zero, List.getElem_cons_succ, Act.put, List.setIfInBounds_toArray, List.set_cons_zero, List.set_cons_succ, Array.toArray_toList]
          refine wpAnyH_ready (rs := [22]) (by kernel_rfl) (by simp) ?_
          refine AllReadyH.cons rfl (fun K hK => ?_) AllReadyH.nil
          go_simp
          refine hK.out _ _ (ballo (by assumption) _) (fun hHeld => ?_)
          clear hK K
          try simp only [List.getElem_toArray, List.getElem_cons_zero, List.getElem_cons_succ, Act.put, List.setIfInBounds_toArray, List.set_cons_zero, List.set_cons_succ, Array.toArray_toList]
          refine wpAnyH_ready (rs := [23]) (by kernel_rfl) (by simp) ?_
          refine AllReadyH.cons rfl (fun K hK => ?_) AllReadyH.nil
          go_simp
          refine (first2_any _ _ _ _ _ (TestV.below (Hid.out (by assumption)) (by (repeat (first | exact Below.refl _ _ | refine bdrew ?_ | refine ballo ?_ _ | refine bsteps ?_ (by assumption))))) (TestV.below (Hid.out (by assumption)) (by (repeat (first | exact Below.refl _ _ | refine bdrew ?_ | refine ballo ?_ _ | refine bsteps ?_ (by assumption)))))).mono ?_
          rintro e w7 ⟨⟨v7, rfl, t7⟩, b7⟩
          have T7 := Lib.hid t7
          clear t7
          try go_simp
          refine hK.out _ _ (bstep (by assumption) b7) (fun hHeld => ?_)
          clear hK K b7
          try simp only [List.getElem_toArray, List.getElem_cons_zero, List.getElem_cons_succ, Act.put, List.setIfInBounds_toArray, List.set_cons_zero, List.set_cons_succ, Array.toArray_toList]
          first
            | (refine tkw 24 ?_ rfl ?_ ?_
               rotate_left
               · intro wx hSw
                 obtain ⟨s0, s1, s2, s3, s4⟩ := KS.out wx hSw
                 (first | (go_simp; rfl) | go_simp | rfl))
            | refine tku 24 rfl ?_
          refine wpAnyH_done (by kernel_rfl) ?_ _
          have H7 := Lib.hid hHeld
          clear hHeld
          go_wp2_with fail
          exact HP.out _ _ T7.out (bstep B3.out H7.out)
        · have p1 : ((PP : Int) == 1) = false := by rw [beq_eq_false_iff_ne]; omega
          clear e1 e2 e4
          go_wp2_with fail
          refine (HON.out w3).mono ?_
          rintro e w4 ⟨rfl, rfl⟩
          go_wp2_with fail
          refine wp_region_held_drew (S := fun wx => Below w3.heap.size w3 wx) (by kernel_rfl) ((Below.refl _ _).drew) (fun hHeld => ?_)
          first
            | (refine tkw 0 ?_ rfl ?_ ?_
               rotate_left
               · intro wx hSw
                 obtain ⟨s0, s1, s2, s3, s4⟩ := KS.out wx hSw
                 (first | (go_simp; rfl) | go_simp | rfl))
            | refine tku 0 rfl ?_
          first
            | (refine tkw 1 ?_ rfl ?_ ?_
               rotate_left
               · intro wx hSw
                 obtain ⟨s0, s1, s2, s3, s4⟩ := KS.out wx hSw
                 (first | (go_simp; rfl) | go_simp | rfl))
            | refine tku 1 rfl ?_
          first
            | (refine tkw 2 ?_ rfl ?_ ?_
               rotate_left
               · intro wx hSw
                 obtain ⟨s0, s1, s2, s3, s4⟩ := KS.out wx hSw
                 (first | (go_simp; rfl) | go_simp | rfl))
            | refine tku 2 rfl ?_
          first
            | (refine tkw 3 ?_ rfl ?_ ?_
               rotate_left
               · intro wx hSw
                 obtain ⟨s0, s1, s2, s3, s4⟩ := KS.out wx hSw
                 (first | (go_simp; rfl) | go_simp | rfl))
            | refine tku 3 rfl ?_
          first
            | (refine tkw 4 ?_ rfl ?_ ?_
               rotate_left
               · intro wx hSw
                 obtain ⟨s0, s1, s2, s3, s4⟩ := KS.out wx hSw
                 (first | (go_simp; rfl) | go_simp | rfl))
            | refine tku 4 rfl ?_
          first
            | (refine tkw 5 ?_ rfl ?_ ?_
               rotate_left
               · intro wx hSw
                 obtain ⟨s0, s1, s2, s3, s4⟩ := KS.out wx hSw
                 (first | (go_simp; rfl) | go_simp | rfl))
            | refine tku 5 rfl ?_
          first
            | (refine tkw 6 ?_ rfl ?_ ?_
               rotate_left
               · intro wx hSw
                 obtain ⟨s0, s1, s2, s3, s4⟩ := KS.out wx hSw
                 (first | (go_simp; rfl) | go_simp | rfl))
            | refine tku 6 rfl ?_
          first
            | (refine tkw 8 ?_ rfl ?_ ?_
               rotate_left
               · intro wx hSw
                 obtain ⟨s0, s1, s2, s3, s4⟩ := KS.out wx hSw
                 (first | (go_simp; rfl) | go_simp | rfl))
            | refine tku 8 rfl ?_
          first
            | (refine tkw 19 ?_ rfl ?_ ?_
               rotate_left
               · intro wx hSw
                 obtain ⟨s0, s1, s2, s3, s4⟩ := KS.out wx hSw
                 (first | (go_simp; rfl) | go_simp | rfl))
            | refine tku 19 rfl ?_
          first
            | (refine tkw 20 ?_ rfl ?_ ?_
               rotate_left
               · intro wx hSw
                 obtain ⟨s0, s1, s2, s3, s4⟩ := KS.out wx hSw
                 (first | (go_simp; rfl) | go_simp | rfl))
            | refine tku 20 rfl ?_
          refine wpAnyH_ready (rs := [7]) (by kernel_rfl) (by simp) ?_
          refine AllReadyH.cons rfl (fun K hK => ?_) AllReadyH.nil
          go_simp
          refine (unless_gen _ _ _ _ (by have := HA.out; omega) (by have := HA.out; omega) (by decide)).mono ?_
          rintro e w5 ⟨⟨F5, p5, d5, rfl, t5⟩, b5⟩
          have T5 := Lib.hid t5
          have H5 := Stp.mk b5
          clear t5
          try go_simp
          refine hK.out _ _ (bstep (by assumption) b5) (fun hHeld => ?_)
          clear hK K b5
          try simp only [List.getElem_toArray, List.getElem_cons_zero, List.getElem_cons_succ, Act.put, List.setIfInBounds_toArray, List.set_cons_zero, List.set_cons_succ, Array.toArray_toList]
          first
            | (refine tkw 9 ?_ rfl ?_ ?_
               rotate_left
               · intro wx hSw
                 obtain ⟨s0, s1, s2, s3, s4⟩ := KS.out wx hSw
                 (first | (go_simp; rfl) | go_simp | rfl))
            | refine tku 9 rfl ?_
          first
            | (refine tkw 10 ?_ rfl ?_ ?_
               rotate_left
               · intro wx hSw
                 obtain ⟨s0, s1, s2, s3, s4⟩ := KS.out wx hSw
                 (first | (go_simp; rfl) | go_simp | rfl))
            | refine tku 10 rfl ?_
          first
            | (refine tkw 11 ?_ rfl ?_ ?_
               rotate_left
               · intro wx hSw
                 obtain ⟨s0, s1, s2, s3, s4⟩ := KS.out wx hSw
                 (first | (go_simp; rfl) | go_simp | rfl))
            | refine tku 11 rfl ?_
          first
            | (refine tkw 12 ?_ rfl ?_ ?_
               rotate_left
               · intro wx hSw
                 obtain ⟨s0, s1, s2, s3, s4⟩ := KS.out wx hSw
                 (first | (go_simp; rfl) | go_simp | rfl))
            | refine tku 12 rfl ?_
          first
            | (refine tkw 13 ?_ rfl ?_ ?_
               rotate_left
               · intro wx hSw
                 obtain ⟨s0, s1, s2, s3, s4⟩ := KS.out wx hSw
                 (first | (go_simp; rfl) | go_simp | rfl))
            | refine tku 13 rfl ?_
          first
            | (refine tkw 14 ?_ rfl ?_ ?_
               rotate_left
               · intro wx hSw
                 obtain ⟨s0, s1, s2, s3, s4⟩ := KS.out wx hSw
                 (first | (go_simp; rfl) | go_simp | rfl))
            | refine tku 14 rfl ?_
          first
            | (refine tkw 15 ?_ rfl ?_ ?_
               rotate_left
               · intro wx hSw
                 obtain ⟨s0, s1, s2, s3, s4⟩ := KS.out wx hSw
                 (first | (go_simp; rfl) | go_simp | rfl))
            | refine tku 15 rfl ?_
          first
            | (refine tkw 16 ?_ rfl ?_ ?_
               rotate_left
               · intro wx hSw
                 obtain ⟨s0, s1, s2, s3, s4⟩ := KS.out wx hSw
                 (first | (go_simp; rfl) | go_simp | rfl))
            | refine tku 16 rfl ?_
          first
            | (refine tkw 17 ?_ rfl ?_ ?_
               rotate_left
               · intro wx hSw
                 obtain ⟨s0, s1, s2, s3, s4⟩ := KS.out wx hSw
                 (first | (go_simp; rfl) | go_simp | rfl))
            | refine tku 17 rfl ?_
          first
            | (refine tkw 18 ?_ rfl ?_ ?_
               rotate_left
               · intro wx hSw
                 obtain ⟨s0, s1, s2, s3, s4⟩ := KS.out wx hSw
                 (first | (go_simp; rfl) | go_simp | rfl))
            | refine tku 18 rfl ?_
          refine wpAnyH_ready (rs := [21]) (by kernel_rfl) (by simp) ?_
          refine AllReadyH.cons rfl (fun K hK => ?_) AllReadyH.nil
          go_simp
          refine (unless_gen _ _ _ _ (by have := HA.out; omega) (by have := HA.out; omega) (by decide)).mono ?_
          rintro e w5 ⟨⟨F5, p5, d5, rfl, t5⟩, b5⟩
          have T5 := Lib.hid t5
          have H5 := Stp.mk b5
          clear t5
          try go_simp
          refine hK.out _ _ (bstep (by assumption) b5) (fun hHeld => ?_)
          clear hK K b5
          try simp only [List.getElem_toArray, List.getElem_cons_zero, List.getElem_cons_succ, Act.put, List.setIfInBounds_toArray, List.set_cons_zero, List.set_cons_succ, Array.toArray_toList]
          refine wpAnyH_ready (rs := [22]) (by kernel_rfl) (by simp) ?_
          refine AllReadyH.cons rfl (fun K hK => ?_) AllReadyH.nil
          go_simp
          refine hK.out _ _ (ballo (by assumption) _) (fun hHeld => ?_)
          clear hK K
          try simp only [List.getElem_toArray, List.getElem_cons_zero, List.getElem_cons_succ, Act.put, List.setIfInBounds_toArray, List.set_cons_zero, List.set_cons_succ, Array.toArray_toList]
          refine wpAnyH_ready (rs := [23]) (by kernel_rfl) (by simp) ?_
          refine AllReadyH.cons rfl (fun K hK => ?_) AllReadyH.nil
          go_simp
          refine (first2_any _ _ _ _ _ (TestV.below (Hid.out (by assumption)) (by (repeat (first | exact Below.refl _ _ | refine bdrew ?_ | refine ballo ?_ _ | refine bsteps ?_ (by assumption))))) (TestV.below (Hid.out (by assumption)) (by (repeat (first | exact Below.refl _ _ | refine bdrew ?_ | refine ballo ?_ _ | refine bsteps ?_ (by assumption)))))).mono ?_
          rintro e w7 ⟨⟨v7, rfl, t7⟩, b7⟩
          have T7 := Lib.hid t7
          clear t7
          try go_simp
          refine hK.out _ _ (bstep (by assumption) b7) (fun hHeld => ?_)
          clear hK K b7
          try simp only [List.getElem_toArray, List.getElem_cons_zero, List.getElem_cons_succ, Act.put, List.setIfInBounds_toArray, List.set_cons_zero, List.set_cons_succ, Array.toArray_toList]
          first
            | (refine tkw 24 ?_ rfl ?_ ?_
               rotate_left
               · intro wx hSw
                 obtain ⟨s0, s1, s2, s3, s4⟩ := KS.out wx hSw
                 (first | (go_simp; rfl) | go_simp | rfl))
            | refine tku 24 rfl ?_
          refine wpAnyH_done (by kernel_rfl) ?_ _
          have H7 := Lib.hid hHeld
          clear hHeld
          go_wp2_with fail
          exact HP.out _ _ T7.out (bstep B3.out H7.out)
    · have p1 : ((PP : Int) == 1) = false := by rw [beq_eq_false_iff_ne]; omega
      have p3 : ((a6 : Int) == 0) = true := by rw [beq_iff_eq]; omega
      have p4 : ((a0 : Int) == 7) = K2 := by rw [hk, Bool.eq_iff_iff, beq_iff_eq, decide_eq_true_eq]; omega
      clear e1 e2 hk
      go_wp2_with fail
      refine (HON.out w3).mono ?_
      rintro e w4 ⟨rfl, rfl⟩
      go_wp2_with fail
      refine wp_region_held_drew (S := fun wx => Below w3.heap.size w3 wx) (by kernel_rfl) ((Below.refl _ _).drew) (fun hHeld => ?_)
      first
        | (refine tkw 0 ?_ rfl ?_ ?_
           rotate_left
           · intro wx hSw
             obtain ⟨s0, s1, s2, s3, s4⟩ := KS.out wx hSw
             (first | (go_simp; rfl) | go_simp | rfl))
        | refine tku 0 rfl ?_
      first
        | (refine tkw 1 ?_ rfl ?_ ?_
           rotate_left
           · intro wx hSw
             obtain ⟨s0, s1, s2, s3, s4⟩ := KS.out wx hSw
             (first | (go_simp; rfl) | go_simp | rfl))
        | refine tku 1 rfl ?_
      first
        | (refine tkw 2 ?_ rfl ?_ ?_
           rotate_left
           · intro wx hSw
             obtain ⟨s0, s1, s2, s3, s4⟩ := KS.out wx hSw
             (first | (go_simp; rfl) | go_simp | rfl))
        | refine tku 2 rfl ?_
      first
        | (refine tkw 3 ?_ rfl ?_ ?_
           rotate_left
           · intro wx hSw
             obtain ⟨s0, s1, s2, s3, s4⟩ := KS.out wx hSw
             (first | (go_simp; rfl) | go_simp | rfl))
        | refine tku 3 rfl ?_
      first
        | (refine tkw 4 ?_ rfl ?_ ?_
           rotate_left
           · intro wx hSw
             obtain ⟨s0, s1, s2, s3, s4⟩ := KS.out wx hSw
             (first | (go_simp; rfl) | go_simp | rfl))
        | refine tku 4 rfl ?_
      first
        | (refine tkw 5 ?_ rfl ?_ ?_
           rotate_left
           · intro wx hSw
             obtain ⟨s0, s1, s2, s3, s4⟩ := KS.out wx hSw
             (first | (go_simp; rfl) | go_simp | rfl))
        | refine tku 5 rfl ?_
      first
        | (refine tkw 6 ?_ rfl ?_ ?_
           rotate_left
           · intro wx hSw
             obtain ⟨s0, s1, s2, s3, s4⟩ := KS.out wx hSw
             (first | (go_simp; rfl) | go_simp | rfl))
        | refine tku 6 rfl ?_
      first
        | (refine tkw 8 ?_ rfl ?_ ?_
           rotate_left
           · intro wx hSw
             obtain ⟨s0, s1, s2, s3, s4⟩ := KS.out wx hSw
             (first | (go_simp; rfl) | go_simp | rfl))
        | refine tku 8 rfl ?_
      first
        | (refine tkw 19 ?_ rfl ?_ ?_
           rotate_left
           · intro wx hSw
             obtain ⟨s0, s1, s2, s3, s4⟩ := KS.out wx hSw
             (first | (go_simp; rfl) | go_simp | rfl))
        | refine tku 19 rfl ?_
      first
        | (refine tkw 20 ?_ rfl ?_ ?_
           rotate_left
           · intro wx hSw
             obtain ⟨s0, s1, s2, s3, s4⟩ := KS.out wx hSw
             (first | (go_simp; rfl) | go_simp | rfl))
        | refine tku 20 rfl ?_
      refine wpAnyH_ready (rs := [7]) (by kernel_rfl) (by simp) ?_
      refine AllReadyH.cons rfl (fun K hK => ?_) AllReadyH.nil
      go_simp
      refine (unless_gen _ _ _ _ (by have := HA.out; omega) (by have := HA.out; omega) (by decide)).mono ?_
      rintro e w5 ⟨⟨F5, p5, d5, rfl, t5⟩, b5⟩
      have T5 := Lib.hid t5
      have H5 := Stp.mk b5
      clear t5
      try go_simp
      refine hK.out _ _ (bstep (by assumption) b5) (fun hHeld => ?_)
      clear hK K b5
      try simp only [List.getElem_toArray, List.getElem_cons_zero, List.getElem_cons_succ, Act.put, List.setIfInBounds_toArray, List.set_cons_zero, List.set_cons_succ, Array.toArray_toList]
      first
        | (refine tkw 9 ?_ rfl ?_ ?_
           rotate_left
           · intro wx hSw
             obtain ⟨s0, s1, s2, s3, s4⟩ := KS.out wx hSw
             (first | (go_simp; rfl) | go_simp | rfl))
        | refine tku 9 rfl ?_
      first
        | (refine tkw 10 ?_ rfl ?_ ?_
           rotate_left
           · intro wx hSw
             obtain ⟨s0, s1, s2, s3, s4⟩ := KS.out wx hSw
             (first | (go_simp; rfl) | go_simp | rfl))
        | refine tku 10 rfl ?_
      first
        | (refine tkw 11 ?_ rfl ?_ ?_
           rotate_left
           · intro wx hSw
             obtain ⟨s0, s1, s2, s3, s4⟩ := KS.out wx hSw
             (first | (go_simp; rfl) | go_simp | rfl))
        | refine tku 11 rfl ?_
      first
        | (refine tkw 12 ?_ rfl ?_ ?_
           rotate_left
           · intro wx hSw
             obtain ⟨s0, s1, s2, s3, s4⟩ := KS.out wx hSw
             (first | (go_simp; rfl) | go_simp | rfl))
        | refine tku 12 rfl ?_
      first
        | (refine tkw 13 ?_ rfl ?_ ?_
           rotate_left
           · intro wx hSw
             obtain ⟨s0, s1, s2, s3, s4⟩ := KS.out wx hSw
             (first | (go_simp; rfl) | go_simp | rfl))
        | refine tku 13 rfl ?_
      first
        | (refine tkw 14 ?_ rfl ?_ ?_
           rotate_left
           · intro wx hSw
             obtain ⟨s0, s1, s2, s3, s4⟩ := KS.out wx hSw
             (first | (go_simp; rfl) | go_simp | rfl))
        | refine tku 14 rfl ?_
      first
        | (refine tkw 15 ?_ rfl ?_ ?_
           rotate_left
           · intro wx hSw
             obtain ⟨s0, s1, s2, s3, s4⟩ := KS.out wx hSw
             (first | (go_simp; rfl) | go_simp | rfl))
        | refine tku 15 rfl ?_
      first
        | (refine tkw 16 ?_ rfl ?_ ?_
           rotate_left
           · intro wx hSw
             obtain ⟨s0, s1, s2, s3, s4⟩ := KS.out wx hSw
             (first | (go_simp; rfl) | go_simp | rfl))
        | refine tku 16 rfl ?_
      first
        | (refine tkw 17 ?_ rfl ?_ ?_
           rotate_left
           · intro wx hSw
             obtain ⟨s0, s1, s2, s3, s4⟩ := KS.out wx hSw
             (first | (go_simp; rfl) | go_simp | rfl))
        | refine tku 17 rfl ?_
      first
        | (refine tkw 18 ?_ rfl ?_ ?_
           rotate_left
           · intro wx hSw
             obtain ⟨s0, s1, s2, s3, s4⟩ := KS.out wx hSw
             (first | (go_simp; rfl) | go_simp | rfl))
        | refine tku 18 rfl ?_
      refine wpAnyH_ready (rs := [21]) (by kernel_rfl) (by simp) ?_
      refine AllReadyH.cons rfl (fun K hK => ?_) AllReadyH.nil
      go_simp
      refine (unless_gen _ _ _ _ (by have := HA.out; omega) (by have := HA.out; omega) (by decide)).mono ?_
      rintro e w5 ⟨⟨F5, p5, d5, rfl, t5⟩, b5⟩
      have T5 := Lib.hid t5
      have H5 := Stp.mk b5
      clear t5
      try go_simp
      refine hK.out _ _ (bstep (by assumption) b5) (fun hHeld => ?_)
      clear hK K b5
      try simp only [List.getElem_toArray, List.getElem_cons_zero, List.getElem_cons_succ, Act.put, List.setIfInBounds_toArray, List.set_cons_zero, List.set_cons_succ, Array.toArray_toList]
      refine wpAnyH_ready (rs := [22]) (by kernel_rfl) (by simp) ?_
      refine AllReadyH.cons rfl (fun K hK => ?_) AllReadyH.nil
      go_simp
      refine hK.out _ _ (ballo (by assumption) _) (fun hHeld => ?_)
      clear hK K
      try simp only [List.getElem_toArray, List.getElem_cons_zero, List.getElem_cons_succ, Act.put, List.setIfInBounds_toArray, List.set_cons_zero, List.set_cons_succ, Array.toArray_toList]
      refine wpAnyH_ready (rs := [23]) (by kernel_rfl) (by simp) ?_
      refine AllReadyH.cons rfl (fun K hK => ?_) AllReadyH.nil
      go_simp
      refine (first2_any _ _ _ _ _ (TestV.below (Hid.out (by assumption)) (by (repeat (first | exact Below.refl _ _ | refine bdrew ?_ | refine ballo ?_ _ | refine bsteps ?_ (by assumption))))) (TestV.below (Hid.out (by assumption)) (by (repeat (first | exact Below.refl _ _ | refine bdrew ?_ | refine ballo ?_ _ | refine bsteps ?_ (by assumption)))))).mono ?_
      rintro e w7 ⟨⟨v7, rfl, t7⟩, b7⟩
      have T7 := Lib.hid t7
      clear t7
      try go_simp
      refine hK.out _ _ (bstep (by assumption) b7) (fun hHeld => ?_)
      clear hK K b7
      try simp only [List.getElem_toArray, List.getElem_cons_zero, List.getElem_cons_succ, Act.put, List.setIfInBounds_toArray, List.set_cons_zero, List.set_cons_succ, Array.toArray_toList]
      first
        | (refine tkw 24 ?_ rfl ?_ ?_
           rotate_left
           · intro wx hSw
             obtain ⟨s0, s1, s2, s3, s4⟩ := KS.out wx hSw
             (first | (go_simp; rfl) | go_simp | rfl))
        | refine tku 24 rfl ?_
      refine wpAnyH_done (by kernel_rfl) ?_ _
      have H7 := Lib.hid hHeld
      clear hHeld
      go_wp2_with fail
      exact HP.out _ _ T7.out (bstep B3.out H7.out)
end Go.Proofs.YtnaejlfjlennhaaGreatDoor
