/- Layer 4: the pages of a PtLoad lie above those of the one ahead of it. -/
import Derived.Test.YtnaejlfjlennhaaGreatDoorHeadInside
import Derived.Test.YtnaejlfjlennhaaGreatDoorTk
namespace Go.Proofs.YtnaejlfjlennhaaGreatDoor
open Go.RowKit
set_option linter.unusedVariables false
set_option linter.unusedSimpArgs false

theorem list_at4 {α : Type} {a b c d : α} : ∀ (i : Nat) (v : α), [a, b, c, d][i]? = some v → (i = 0 ∧ v = a) ∨ (i = 1 ∧ v = b) ∨ (i = 2 ∧ v = c) ∨ (i = 3 ∧ v = d)
  | 0, v, h => .inl ⟨rfl, by simpa using h.symm⟩
  | 1, v, h => .inr (.inl ⟨rfl, by simpa using h.symm⟩)
  | 2, v, h => .inr (.inr (.inl ⟨rfl, by simpa using h.symm⟩))
  | 3, v, h => .inr (.inr (.inr ⟨rfl, by simpa using h.symm⟩))
  | i + 4, v, h => by simp at h
theorem first4_any (v1 v2 v3 v4 : Value) (r1 r2 r3 r4 : Option (Nat × Nat)) (w : World) (h1 : TestV v1 w r1) (h2 : TestV v2 w r2) (h3 : TestV v3 w r3) (h4 : TestV v4 w r4) :
    Calls Tryz.prog 17 #[.slice (some ⟨w.heap.size, 0, none⟩) 4 4] (w.alloc (.cells #[v1, v2, v3, v4] 82)) fun e w' => (∃ v, e = .returned v ∧ ErrAt w' v (firstF [r1, r2, r3, r4])) ∧ Below w.heap.size w w' := by
  have hb : Below w.heap.size w (w.alloc (.cells #[v1, v2, v3, v4] 82)) := ballo (Below.refl _ _) _
  refine (first_any w.heap.size 4 4 [v1, v2, v3, v4] [r1, r2, r3, r4] _ rfl rfl (by decide) (by simp) (fun i v hv => ?_) (fun i v r hv hr => ?_)).mono ?_
  · rw [World.cell?_alloc_new]
    simpa using hv
  · rcases list_at4 i v hv with ⟨rfl, rfl⟩ | ⟨rfl, rfl⟩ | ⟨rfl, rfl⟩ | ⟨rfl, rfl⟩
    · obtain rfl : r = r1 := by simpa using hr.symm
      exact h1.below hb
    · obtain rfl : r = r2 := by simpa using hr.symm
      exact h2.below hb
    · obtain rfl : r = r3 := by simpa using hr.symm
      exact h3.below hb
    · obtain rfl : r = r4 := by simpa using hr.symm
      exact h4.below hb
  · rintro e w' ⟨h, hb'⟩
    exact ⟨h, bstep hb hb'⟩

set_option maxRecDepth 100000 in
set_option maxHeartbeats 16000000 in
theorem load1_any (r : HRd) (ps : List PT) (p : PT) (at_ b0 b1 b2 : Nat) (w : World) (hr : r.at w) (hps : PRow w r.pa ps) (hpn : ps.length = r.pn) (hpl : r.pn ≤ 140737488351232) (hwf : ∀ p ∈ ps, p.wf) (hp : p.wf) (ha : at_ + 64 < 18446744073709551616) (h0 : w.heap[b0]? = some (.cells p.cells.toArray 54)) (h1 : w.heap[b1]? = some (.cells #[.int .u64 (at_ : Int)] 24)) (h2 : w.heap[b2]? = some (.cells #[.pointer (some ⟨r.rb, 0, none⟩)] 115)) :
    Calls Tryz.prog 77 #[.pointer (some ⟨b0, 0, none⟩), .pointer (some ⟨b1, 0, none⟩), .pointer (some ⟨b2, 0, none⟩)] w (TestPost (loadF ps p at_) w) := by
  have HI1 : Hid (∀ wx, Calls Tryz.prog 71 #[p.hv, .slice (some ⟨wx.heap.size, 0, none⟩) 1 1] (wx.alloc (.cells #[.int .u32 1] 52)) fun e w' => e = .returned (.bool (isOf p [1])) ∧ Below wx.heap.size wx w') := Lib.hid (fun wx => is_new p [1] _ 1 wx rfl rfl (by decide))
  have HLA : Hid (∀ wx, Below w.heap.size w wx → Calls Tryz.prog 78 #[.pointer (some ⟨r.rb, 0, none⟩)] wx fun e w' => e = .returned (.int .u64 (endF ps : Int)) ∧ Below wx.heap.size wx w') := Lib.hid (fun wx hx => loadend_any r ps wx (hr.below hx) (fun i hi => by
    obtain ⟨q, b, o, e, hl, hcs⟩ := hps i hi
    exact ⟨q, b, o, e, Nat.lt_of_lt_of_le hl hx.size, fun j hj => (hx.cell (p := ⟨b, o + i * 7 + j, none⟩) hl).trans (hcs j hj)⟩) hpn hpl hwf)
  obtain ⟨R1, hR1⟩ : ∃ R1, isOf p [1] = R1 := ⟨_, rfl⟩
  obtain ⟨E, hE⟩ : ∃ E, endF ps = E := ⟨_, rfl⟩
  rw [hR1] at HI1
  rw [hE] at HLA
  have hlo : loadF ps p at_ = if R1 = true then firstF [unF (decide (0 < p.memsz)) (at_ + 40) 3, unF (decide (4096 ≤ p.align)) (at_ + 48) 3, unF (decide (p.off % max 1 p.align = p.vaddr % max 1 p.align)) (at_ + 16) 3, unF (decide (E ≤ p.vaddr / 4096 * 4096)) (at_ + 16) 3] else none := by unfold loadF; rw [hR1, hE]
  rw [hlo]
  have HX : Hid (∀ wx, Below w.heap.size w wx → wx.heap[b0]? = some (.cells p.cells.toArray 54) ∧ wx.heap[b1]? = some (.cells #[.int .u64 (at_ : Int)] 24) ∧ wx.heap[b2]? = some (.cells #[.pointer (some ⟨r.rb, 0, none⟩)] 115)) := Lib.hid (fun wx hx => ⟨(hx.block _ (lt_of_block h0)).trans h0, (hx.block _ (lt_of_block h1)).trans h1, (hx.block _ (lt_of_block h2)).trans h2⟩)
  have HX0 := HX.out w (Below.refl _ _)
  obtain ⟨a0, a1, a2, a3, a4, a5, a6⟩ := p
  obtain ⟨-, -, v2, v3, -, v5, v6⟩ := hp
  unfold PT.hv PT.cells at *
  simp only [] at *
  obtain ⟨rb, k0, k1, k2, k3, ra, rm, rcap, pa, n, pc⟩ := r
  simp only [] at *
  obtain ⟨x0, -, -⟩ := HX0
  obtain ⟨c0, c1, c2, c3, c4, c5, c6⟩ := out_cells x0
  cases R1 with
  | false =>
    have HP : Hid (∀ w', Below w.heap.size w w' → TestPost none w (.returned .nilIface) w') := Lib.hid (fun w' hb => none_post hb)
    simp only [Bool.false_eq_true, if_false]
    generalize TestPost none w = P at *
    clear hr hps hpn hpl hwf ha h0 h1 h2 hR1 hE hlo x0 v2 v3 v5 v6
    go_enter Tryz.func77, Tryz.ntmps77
    go_wp2_with fail
    refine (HI1.out w).mono ?_
    rintro e w3 ⟨rfl, hb3⟩
    have B3 := Lib.hid hb3
    clear hb3 c0 c1 c2 c3 c4 c5 c6 HI1
    go_wp2_with fail
    exact HP.out _ B3.out
  | true =>
    simp only [if_true]
    obtain ⟨K1, hK1⟩ : ∃ K1, decide (0 < a5) = K1 := ⟨_, rfl⟩
    obtain ⟨K2, hK2⟩ : ∃ K2, decide (4096 ≤ a6) = K2 := ⟨_, rfl⟩
    obtain ⟨M, hM⟩ : ∃ M, max 1 a6 = M := ⟨_, rfl⟩
    obtain ⟨X, hXm⟩ : ∃ X, a2 % M = X := ⟨_, rfl⟩
    obtain ⟨Y, hYm⟩ : ∃ Y, a3 % M = Y := ⟨_, rfl⟩
    obtain ⟨K3, hK3⟩ : ∃ K3, decide (X = Y) = K3 := ⟨_, rfl⟩
    obtain ⟨Q, hQ⟩ : ∃ Q, a3 / 4096 = Q := ⟨_, rfl⟩
    obtain ⟨K4, hK4⟩ : ∃ K4, decide (E ≤ Q * 4096) = K4 := ⟨_, rfl⟩
    rw [hM, hXm, hYm, hQ, hK1, hK2, hK3, hK4]
    have HP : Hid (∀ v w', ErrAt w' v (firstF [unF K1 ((at_ : Int) + 40).toNat (3 : Int).toNat, unF K2 ((at_ : Int) + 48).toNat (3 : Int).toNat, unF K3 ((at_ : Int) + 16).toNat (3 : Int).toNat, unF K4 ((at_ : Int) + 16).toNat (3 : Int).toNat]) → Below w.heap.size w w' → TestPost (firstF [unF K1 (at_ + 40) 3, unF K2 (at_ + 48) 3, unF K3 (at_ + 16) 3, unF K4 (at_ + 16) 3]) w (.returned v) w') := Lib.hid (fun v w' h hb => ⟨⟨v, rfl, by
      rw [show ((at_ : Int) + 40).toNat = at_ + 40 by omega, show ((at_ : Int) + 48).toNat = at_ + 48 by omega, show ((at_ : Int) + 16).toNat = at_ + 16 by omega] at h
      exact h⟩, hb⟩)
    generalize TestPost (firstF [unF K1 (at_ + 40) 3, unF K2 (at_ + 48) 3, unF K3 (at_ + 16) 3, unF K4 (at_ + 16) 3]) w = P at *
    have aw40 : IntKind.u64.wrap ((at_ : Int) + 40) = (at_ : Int) + 40 := by rw [IntKind.wrap_u64]; omega
    have aw48 : IntKind.u64.wrap ((at_ : Int) + 48) = (at_ : Int) + 48 := by rw [IntKind.wrap_u64]; omega
    have aw16 : IntKind.u64.wrap ((at_ : Int) + 16) = (at_ : Int) + 16 := by rw [IntKind.wrap_u64]; omega
    have HA : Hid (0 ≤ (at_ : Int) + 40 ∧ (at_ : Int) + 40 < 18446744073709551616 ∧ 0 ≤ (at_ : Int) + 48 ∧ (at_ : Int) + 48 < 18446744073709551616 ∧ 0 ≤ (at_ : Int) + 16 ∧ (at_ : Int) + 16 < 18446744073709551616) := Lib.hid (by omega)
    have q1 : decide ((0 : Int) < (a5 : Int)) = K1 := by rw [← hK1, decide_eq_decide]; omega
    have q2 : decide ((4096 : Int) ≤ (a6 : Int)) = K2 := by rw [← hK2, decide_eq_decide]; omega
    have qm : max (1 : Int) (a6 : Int) = (M : Int) := by omega
    have qm0 : ¬ (M : Int) = 0 := by omega
    have qm1 : ¬ M = 0 := by omega
    have q1' := hK1
    have q2' := hK2
    have hMlt : M < 18446744073709551616 := by omega
    have q3 : (a2 : Int).tmod (M : Int) = (X : Int) := by rw [← hXm]; exact (Int.ofNat_tmod a2 M).symm
    have q4 : (a3 : Int).tmod (M : Int) = (Y : Int) := by rw [← hYm]; exact (Int.ofNat_tmod a3 M).symm
    have q5 : ((X : Int) == (Y : Int)) = K3 := by rw [← hK3, Bool.eq_iff_iff, beq_iff_eq, decide_eq_true_eq]; omega
    have q6 : (a3 : Int).tdiv 4096 = (Q : Int) := by rw [← hQ]; exact (Int.ofNat_tdiv a3 4096).symm
    have q6b : (a3 : Int) / 4096 = (Q : Int) := by rw [← hQ]; omega
    have hQ2 : Q * 4096 < 18446744073709551616 := by rw [← hQ]; omega
    have q7 : IntKind.u64.wrap ((Q : Int) * 4096) = (Q : Int) * 4096 := by rw [IntKind.wrap_u64]; omega
    have q9 : IntKind.u64.wrap (Q : Int) = (Q : Int) := by rw [IntKind.wrap_u64]; omega
    have q8 : decide ((E : Int) ≤ (Q : Int) * 4096) = K4 := by rw [← hK4, decide_eq_decide]; omega
    clear hr hps hpn hpl hwf ha h0 h1 h2 hR1 hE hlo x0 v2 v3 v5 v6 hM hXm hYm hQ hMlt hQ2 hK1 hK2 hK3 hK4
    go_enter Tryz.func77, Tryz.ntmps77
    go_wp2_with fail
    refine (HI1.out w).mono ?_
    rintro e w3 ⟨rfl, hb3⟩
    have B3 := Lib.hid hb3
    clear hb3 c0 c1 c2 c3 c4 c5 c6 HI1
    have HLE : Hid (∀ wx, Below w3.heap.size w3 wx → Calls Tryz.prog 78 #[.pointer (some ⟨rb, 0, none⟩)] wx fun e w' => e = .returned (.int .u64 (E : Int)) ∧ Below wx.heap.size wx w') := Lib.hid (fun wx hx => HLA.out wx (bstep B3.out hx))
    have KS : Hid (∀ wx, Below w3.heap.size w3 wx → wx.cell? ⟨b0, 2, none⟩ = some (.int .u64 (a2 : Int)) ∧ wx.cell? ⟨b0, 3, none⟩ = some (.int .u64 (a3 : Int)) ∧ wx.cell? ⟨b0, 5, none⟩ = some (.int .u64 (a5 : Int)) ∧ wx.cell? ⟨b0, 6, none⟩ = some (.int .u64 (a6 : Int)) ∧ wx.cell? ⟨b1, 0, none⟩ = some (.int .u64 (at_ : Int)) ∧ wx.cell? ⟨b2, 0, none⟩ = some (.pointer (some ⟨rb, 0, none⟩))) := Lib.hid (fun wx hx => by
      obtain ⟨x4, y4, z4⟩ := HX.out wx (bstep B3.out hx)
      obtain ⟨q0, q1, q2, q3, q4, q5, q6⟩ := out_cells x4
      exact ⟨q2, q3, q5, q6, by rw [cell_of_row _ _ 0 _ _ _ y4]; rfl, by rw [cell_of_row _ _ 0 _ _ _ z4]; rfl⟩)
    clear HLA HX
    go_wp2_with fail
    refine wp_region_held_drew (S := fun wx => Below w3.heap.size w3 wx) (by kernel_rfl) ((Below.refl _ _).drew) (fun hHeld => ?_)
    first
      | (refine tkw 0 ?_ rfl ?_ ?_
         rotate_left
         · intro wx hSw
           obtain ⟨s0, s1, s2, s3, s4, s5⟩ := KS.out wx hSw
           (first | (go_simp; rfl) | go_simp | rfl))
      | refine tku 0 rfl ?_
    first
      | (refine tkw 1 ?_ rfl ?_ ?_
         rotate_left
         · intro wx hSw
           obtain ⟨s0, s1, s2, s3, s4, s5⟩ := KS.out wx hSw
           (first | (go_simp; rfl) | go_simp | rfl))
      | refine tku 1 rfl ?_
    first
      | (refine tkw 2 ?_ rfl ?_ ?_
         rotate_left
         · intro wx hSw
           obtain ⟨s0, s1, s2, s3, s4, s5⟩ := KS.out wx hSw
           (first | (go_simp; rfl) | go_simp | rfl))
      | refine tku 2 rfl ?_
    first
      | (refine tkw 3 ?_ rfl ?_ ?_
         rotate_left
         · intro wx hSw
           obtain ⟨s0, s1, s2, s3, s4, s5⟩ := KS.out wx hSw
           (first | (go_simp; rfl) | go_simp | rfl))
      | refine tku 3 rfl ?_
    first
      | (refine tkw 4 ?_ rfl ?_ ?_
         rotate_left
         · intro wx hSw
           obtain ⟨s0, s1, s2, s3, s4, s5⟩ := KS.out wx hSw
           (first | (go_simp; rfl) | go_simp | rfl))
      | refine tku 4 rfl ?_
    first
      | (refine tkw 6 ?_ rfl ?_ ?_
         rotate_left
         · intro wx hSw
           obtain ⟨s0, s1, s2, s3, s4, s5⟩ := KS.out wx hSw
           (first | (go_simp; rfl) | go_simp | rfl))
      | refine tku 6 rfl ?_
    first
      | (refine tkw 7 ?_ rfl ?_ ?_
         rotate_left
         · intro wx hSw
           obtain ⟨s0, s1, s2, s3, s4, s5⟩ := KS.out wx hSw
           (first | (go_simp; rfl) | go_simp | rfl))
      | refine tku 7 rfl ?_
    first
      | (refine tkw 8 ?_ rfl ?_ ?_
         rotate_left
         · intro wx hSw
           obtain ⟨s0, s1, s2, s3, s4, s5⟩ := KS.out wx hSw
           (first | (go_simp; rfl) | go_simp | rfl))
      | refine tku 8 rfl ?_
    first
      | (refine tkw 9 ?_ rfl ?_ ?_
         rotate_left
         · intro wx hSw
           obtain ⟨s0, s1, s2, s3, s4, s5⟩ := KS.out wx hSw
           (first | (go_simp; rfl) | go_simp | rfl))
      | refine tku 9 rfl ?_
    first
      | (refine tkw 10 ?_ rfl ?_ ?_
         rotate_left
         · intro wx hSw
           obtain ⟨s0, s1, s2, s3, s4, s5⟩ := KS.out wx hSw
           (first | (go_simp; rfl) | go_simp | rfl))
      | refine tku 10 rfl ?_
    first
      | (refine tkw 12 ?_ rfl ?_ ?_
         rotate_left
         · intro wx hSw
           obtain ⟨s0, s1, s2, s3, s4, s5⟩ := KS.out wx hSw
           (first | (go_simp; rfl) | go_simp | rfl))
      | refine tku 12 rfl ?_
    first
      | (refine tkw 13 ?_ rfl ?_ ?_
         rotate_left
         · intro wx hSw
           obtain ⟨s0, s1, s2, s3, s4, s5⟩ := KS.out wx hSw
           (first | (go_simp; rfl) | go_simp | rfl))
      | refine tku 13 rfl ?_
    first
      | (refine tkw 14 ?_ rfl ?_ ?_
         rotate_left
         · intro wx hSw
           obtain ⟨s0, s1, s2, s3, s4, s5⟩ := KS.out wx hSw
           (first | (go_simp; rfl) | go_simp | rfl))
      | refine tku 14 rfl ?_
    first
      | (refine tkw 15 ?_ rfl ?_ ?_
         rotate_left
         · intro wx hSw
           obtain ⟨s0, s1, s2, s3, s4, s5⟩ := KS.out wx hSw
           (first | (go_simp; rfl) | go_simp | rfl))
      | refine tku 15 rfl ?_
    first
      | (refine tkw 16 ?_ rfl ?_ ?_
         rotate_left
         · intro wx hSw
           obtain ⟨s0, s1, s2, s3, s4, s5⟩ := KS.out wx hSw
           (first | (go_simp; rfl) | go_simp | rfl))
      | refine tku 16 rfl ?_
    first
      | (refine tkw 17 ?_ rfl ?_ ?_
         rotate_left
         · intro wx hSw
           obtain ⟨s0, s1, s2, s3, s4, s5⟩ := KS.out wx hSw
           (first | (go_simp; rfl) | go_simp | rfl))
      | refine tku 17 rfl ?_
    first
      | (refine tkw 18 ?_ rfl ?_ ?_
         rotate_left
         · intro wx hSw
           obtain ⟨s0, s1, s2, s3, s4, s5⟩ := KS.out wx hSw
           (first | (go_simp; rfl) | go_simp | rfl))
      | refine tku 18 rfl ?_
    first
      | (refine tkw 19 ?_ rfl ?_ ?_
         rotate_left
         · intro wx hSw
           obtain ⟨s0, s1, s2, s3, s4, s5⟩ := KS.out wx hSw
           (first | (go_simp; rfl) | go_simp | rfl))
      | refine tku 19 rfl ?_
    first
      | (refine tkw 20 ?_ rfl ?_ ?_
         rotate_left
         · intro wx hSw
           obtain ⟨s0, s1, s2, s3, s4, s5⟩ := KS.out wx hSw
           (first | (go_simp; rfl) | go_simp | rfl))
      | refine tku 20 rfl ?_
    first
      | (refine tkw 21 ?_ rfl ?_ ?_
         rotate_left
         · intro wx hSw
           obtain ⟨s0, s1, s2, s3, s4, s5⟩ := KS.out wx hSw
           (first | (go_simp; rfl) | go_simp | rfl))
      | refine tku 21 rfl ?_
    first
      | (refine tkw 22 ?_ rfl ?_ ?_
         rotate_left
         · intro wx hSw
           obtain ⟨s0, s1, s2, s3, s4, s5⟩ := KS.out wx hSw
           (first | (go_simp; rfl) | go_simp | rfl))
      | refine tku 22 rfl ?_
    first
      | (refine tkw 23 ?_ rfl ?_ ?_
         rotate_left
         · intro wx hSw
           obtain ⟨s0, s1, s2, s3, s4, s5⟩ := KS.out wx hSw
           (first | (go_simp; rfl) | go_simp | rfl))
      | refine tku 23 rfl ?_
    first
      | (refine tkw 24 ?_ rfl ?_ ?_
         rotate_left
         · intro wx hSw
           obtain ⟨s0, s1, s2, s3, s4, s5⟩ := KS.out wx hSw
           (first | (go_simp; rfl) | go_simp | rfl))
      | refine tku 24 rfl ?_
    first
      | (refine tkw 25 ?_ rfl ?_ ?_
         rotate_left
         · intro wx hSw
           obtain ⟨s0, s1, s2, s3, s4, s5⟩ := KS.out wx hSw
           (first | (go_simp; rfl) | go_simp | rfl))
      | refine tku 25 rfl ?_
    first
      | (refine tkw 26 ?_ rfl ?_ ?_
         rotate_left
         · intro wx hSw
           obtain ⟨s0, s1, s2, s3, s4, s5⟩ := KS.out wx hSw
           (first | (go_simp; rfl) | go_simp | rfl))
      | refine tku 26 rfl ?_
    first
      | (refine tkw 28 ?_ rfl ?_ ?_
         rotate_left
         · intro wx hSw
           obtain ⟨s0, s1, s2, s3, s4, s5⟩ := KS.out wx hSw
           (first | (go_simp; rfl) | go_simp | rfl))
      | refine tku 28 rfl ?_
    first
      | (refine tkw 29 ?_ rfl ?_ ?_
         rotate_left
         · intro wx hSw
           obtain ⟨s0, s1, s2, s3, s4, s5⟩ := KS.out wx hSw
           (first | (go_simp; rfl) | go_simp | rfl))
      | refine tku 29 rfl ?_
    first
      | (refine tkw 30 ?_ rfl ?_ ?_
         rotate_left
         · intro wx hSw
           obtain ⟨s0, s1, s2, s3, s4, s5⟩ := KS.out wx hSw
           (first | (go_simp; rfl) | go_simp | rfl))
      | refine tku 30 rfl ?_
    first
      | (refine tkw 31 ?_ rfl ?_ ?_
         rotate_left
         · intro wx hSw
           obtain ⟨s0, s1, s2, s3, s4, s5⟩ := KS.out wx hSw
           (first | (go_simp; rfl) | go_simp | rfl))
      | refine tku 31 rfl ?_
    first
      | (refine tkw 32 ?_ rfl ?_ ?_
         rotate_left
         · intro wx hSw
           obtain ⟨s0, s1, s2, s3, s4, s5⟩ := KS.out wx hSw
           (first | (go_simp; rfl) | go_simp | rfl))
      | refine tku 32 rfl ?_
    first
      | (refine tkw 35 ?_ rfl ?_ ?_
         rotate_left
         · intro wx hSw
           obtain ⟨s0, s1, s2, s3, s4, s5⟩ := KS.out wx hSw
           (first | (go_simp; rfl) | go_simp | rfl))
      | refine tku 35 rfl ?_
    first
      | (refine tkw 36 ?_ rfl ?_ ?_
         rotate_left
         · intro wx hSw
           obtain ⟨s0, s1, s2, s3, s4, s5⟩ := KS.out wx hSw
           (first | (go_simp; rfl) | go_simp | rfl))
      | refine tku 36 rfl ?_
    refine wpAnyH_ready (rs := [5]) (by kernel_rfl) (by simp) ?_
    refine AllReadyH.cons rfl (fun K hK => ?_) AllReadyH.nil
    go_simp
    refine (unless_gen _ _ _ _ (by have := HA.out; omega) (by have := HA.out; omega) (by decide)).mono ?_
    rintro e w5 ⟨⟨F5, p5, d5, rfl, t5⟩, b5⟩
    have T5 := Lib.hid t5
    have H5 := Stp.mk b5
    clear t5
    try go_simp
    refine hK.out _ _ (bstep (by assumption) b5) (fun hHeld => ?_)
    clear hK K b5
    try simp only [List.getElem_toArray, List.getElem_cons_zero, List.getElem_cons_succ, Act.put, List.setIfInBounds_toArray, List.set_cons_zero, List.set_cons_succ, Array.toArray_toList]
    refine wpAnyH_ready (rs := [11]) (by kernel_rfl) (by simp) ?_
    refine AllReadyH.cons rfl (fun K hK => ?_) AllReadyH.nil
    go_simp
    refine (unless_gen _ _ _ _ (by have := HA.out; omega) (by have := HA.out; omega) (by decide)).mono ?_
    rintro e w5 ⟨⟨F5, p5, d5, rfl, t5⟩, b5⟩
    have T5 := Lib.hid t5
    have H5 := Stp.mk b5
    clear t5
    try go_simp
    refine hK.out _ _ (bstep (by assumption) b5) (fun hHeld => ?_)
    clear hK K b5
    try simp only [List.getElem_toArray, List.getElem_cons_zero, List.getElem_cons_succ, Act.put, List.setIfInBounds_toArray, List.set_cons_zero, List.set_cons_succ, Array.toArray_toList]
    refine wpAnyH_ready (rs := [27]) (by kernel_rfl) (by simp) ?_
    refine AllReadyH.cons rfl (fun K hK => ?_) AllReadyH.nil
    go_simp
    refine (unless_gen _ _ _ _ (by have := HA.out; omega) (by have := HA.out; omega) (by decide)).mono ?_
    rintro e w5 ⟨⟨F5, p5, d5, rfl, t5⟩, b5⟩
    have T5 := Lib.hid t5
    have H5 := Stp.mk b5
    clear t5
    try go_simp
    refine hK.out _ _ (bstep (by assumption) b5) (fun hHeld => ?_)
    clear hK K b5
    try simp only [List.getElem_toArray, List.getElem_cons_zero, List.getElem_cons_succ, Act.put, List.setIfInBounds_toArray, List.set_cons_zero, List.set_cons_succ, Array.toArray_toList]
    refine wpAnyH_ready (rs := [33]) (by kernel_rfl) (by simp) ?_
    refine AllReadyH.cons rfl (fun K hK => ?_) AllReadyH.nil
    go_simp
    refine (HLE.out _ (by assumption)).mono ?_
    rintro e w6 ⟨rfl, b6⟩
    have H6 := Stp.mk b6
    try go_simp
    refine hK.out _ _ (bstep (by assumption) b6) (fun hHeld => ?_)
    clear hK K b6
    try simp only [List.getElem_toArray, List.getElem_cons_zero, List.getElem_cons_succ, Act.put, List.setIfInBounds_toArray, List.set_cons_zero, List.set_cons_succ, Array.toArray_toList]
    first
      | (refine tkw 34 ?_ rfl ?_ ?_
         rotate_left
         · intro wx hSw
           obtain ⟨s0, s1, s2, s3, s4, s5⟩ := KS.out wx hSw
           (first | (go_simp; rfl) | go_simp | rfl))
      | refine tku 34 rfl ?_
    refine wpAnyH_ready (rs := [37]) (by kernel_rfl) (by simp) ?_
    refine AllReadyH.cons rfl (fun K hK => ?_) AllReadyH.nil
    go_simp
    refine (unless_gen _ _ _ _ (by have := HA.out; omega) (by have := HA.out; omega) (by decide)).mono ?_
    rintro e w5 ⟨⟨F5, p5, d5, rfl, t5⟩, b5⟩
    have T5 := Lib.hid t5
    have H5 := Stp.mk b5
    clear t5
    try go_simp
    refine hK.out _ _ (bstep (by assumption) b5) (fun hHeld => ?_)
    clear hK K b5
    try simp only [List.getElem_toArray, List.getElem_cons_zero, List.getElem_cons_succ, Act.put, List.setIfInBounds_toArray, List.set_cons_zero, List.set_cons_succ, Array.toArray_toList]
    refine wpAnyH_ready (rs := [38]) (by kernel_rfl) (by simp) ?_
    refine AllReadyH.cons rfl (fun K hK => ?_) AllReadyH.nil
    go_simp
    refine hK.out _ _ (ballo (by assumption) _) (fun hHeld => ?_)
    clear hK K
    try simp only [List.getElem_toArray, List.getElem_cons_zero, List.getElem_cons_succ, Act.put, List.setIfInBounds_toArray, List.set_cons_zero, List.set_cons_succ, Array.toArray_toList]
    refine wpAnyH_ready (rs := [39]) (by kernel_rfl) (by simp) ?_
    refine AllReadyH.cons rfl (fun K hK => ?_) AllReadyH.nil
    go_simp
    refine (first4_any _ _ _ _ _ _ _ _ _ (TestV.below (Hid.out (by assumption)) (by (repeat (first | exact Below.refl _ _ | refine bdrew ?_ | refine ballo ?_ _ | refine bsteps ?_ (by assumption))))) (TestV.below (Hid.out (by assumption)) (by (repeat (first | exact Below.refl _ _ | refine bdrew ?_ | refine ballo ?_ _ | refine bsteps ?_ (by assumption))))) (TestV.below (Hid.out (by assumption)) (by (repeat (first | exact Below.refl _ _ | refine bdrew ?_ | refine ballo ?_ _ | refine bsteps ?_ (by assumption))))) (TestV.below (Hid.out (by assumption)) (by (repeat (first | exact Below.refl _ _ | refine bdrew ?_ | refine ballo ?_ _ | refine bsteps ?_ (by assumption)))))).mono ?_
    rintro e w7 ⟨⟨v7, rfl, t7⟩, b7⟩
    have T7 := Lib.hid t7
    clear t7
    try go_simp
    refine hK.out _ _ (bstep (by assumption) b7) (fun hHeld => ?_)
    clear hK K b7
    try simp only [List.getElem_toArray, List.getElem_cons_zero, List.getElem_cons_succ, Act.put, List.setIfInBounds_toArray, List.set_cons_zero, List.set_cons_succ, Array.toArray_toList]
    first
      | (refine tkw 40 ?_ rfl ?_ ?_
         rotate_left
         · intro wx hSw
           obtain ⟨s0, s1, s2, s3, s4, s5⟩ := KS.out wx hSw
           (first | (go_simp; rfl) | go_simp | rfl))
      | refine tku 40 rfl ?_
    refine wpAnyH_done (by kernel_rfl) ?_ _
    have H7 := Lib.hid hHeld
    clear hHeld
    go_wp2_with fail
    exact HP.out _ _ T7.out (bstep B3.out H7.out)
end Go.Proofs.YtnaejlfjlennhaaGreatDoor
