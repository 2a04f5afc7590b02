/- Layer 4: where the program headers stand. -/
import Derived.Test.YtnaejlfjlennhaaGreatDoorObjNear
import Derived.Test.YtnaejlfjlennhaaGreatDoorTk
namespace Go.Proofs.YtnaejlfjlennhaaGreatDoor
open Go.RowKit
set_option linter.unusedVariables false
set_option linter.unusedSimpArgs false

theorem setOther2 {w : World} {a b : Addr} {v : Value} (h : a ≠ b) : (w.setCell a v).cell? b = w.cell? b := World.cell?_setCell_other (h := h) ..
theorem first3_any (v1 v2 v3 : Value) (r1 r2 r3 : Option (Nat × Nat)) (w : World) (h1 : TestV v1 w r1) (h2 : TestV v2 w r2) (h3 : TestV v3 w r3) :
    Calls Tryz.prog 17 #[.slice (some ⟨w.heap.size, 0, none⟩) 3 3] (w.alloc (.cells #[v1, v2, v3] 82)) fun e w' => (∃ v, e = .returned v ∧ ErrAt w' v (firstF [r1, r2, r3])) ∧ Below w.heap.size w w' := by
  have hb : Below w.heap.size w (w.alloc (.cells #[v1, v2, v3] 82)) := ballo (Below.refl _ _) _
  refine (first_any w.heap.size 3 3 [v1, v2, v3] [r1, r2, r3] _ rfl rfl (by decide) (by simp) (fun i v hv => ?_) (fun i v r hv hr => ?_)).mono ?_
  · rw [World.cell?_alloc_new]
    simpa using hv
  · match i, hv, hr with
    | 0, hv, hr =>
      obtain rfl : v = v1 := by simpa using hv.symm
      obtain rfl : r = r1 := by simpa using hr.symm
      exact h1.below hb
    | 1, hv, hr =>
      obtain rfl : v = v2 := by simpa using hv.symm
      obtain rfl : r = r2 := by simpa using hr.symm
      exact h2.below hb
    | 2, hv, hr =>
      obtain rfl : v = v3 := by simpa using hv.symm
      obtain rfl : r = r3 := by simpa using hr.symm
      exact h3.below hb
    | i + 3, hv, hr => simp at hv
  · rintro e w' ⟨h, hb'⟩
    exact ⟨h, bstep hb hb'⟩
/-- the reader, as it reads these bytes -/
structure RdSt (w0 : World) (tk : Nat × Array Value) (r : HRd) (bs : List Nat) (wr : World) : Prop where
  at_ : r.at wr
  blw : Below w0.heap.size w0 wr
  ge : w0.heap.size ≤ r.rb
  bytes : BSl w0 r.a r.m r.cap bs
  kept : Tk tk r.rb wr
def WherePost (w0 : World) (tk : Nat × Array Value) (r : HRd) (bs : List Nat) (e : Ending) (w' : World) : Prop := (∃ v, e = .returned v ∧ ErrAt w' v (whereF bs)) ∧ RdSt w0 tk { r with begin_ := numF bs 32 8, count := numF bs 56 2 } bs w'
set_option maxRecDepth 100000 in
set_option maxHeartbeats 16000000 in
theorem where_any (w0 : World) (tk : Nat × Array Value) (r : HRd) (bs : List Nat) (w : World) (h : RdSt w0 tk r bs w) :
    Calls Tryz.prog 19 #[.pointer (some ⟨r.rb, 0, none⟩)] w (WherePost w0 tk r bs) := by
  have hbw : ∀ wx, Below w.heap.size w wx → BSl wx r.a r.m r.cap bs := fun wx hx => h.bytes.below (h.blw.trans (hx.mono h.blw.size))
  have HN1 : Hid (∀ wx, Below w.heap.size w wx → Calls Tryz.prog 39 #[.slice r.a r.m r.cap, .int .u64 32, .int .i64 8] wx fun e w' => e = .returned (.int .u64 (numF bs 32 8 : Int)) ∧ Below wx.heap.size wx w') := Lib.hid (fun wx hx => (hbw wx hx).number 32 8 (by decide) (by decide))
  have HN2 : Hid (∀ wx, Below w.heap.size w wx → Calls Tryz.prog 39 #[.slice r.a r.m r.cap, .int .u64 56, .int .i64 2] wx fun e w' => e = .returned (.int .u64 (numF bs 56 2 : Int)) ∧ Below wx.heap.size wx w') := Lib.hid (fun wx hx => (hbw wx hx).number 56 2 (by decide) (by decide))
  have hB8 : numF bs 32 8 < 18446744073709551616 := by have := numF_lt h.bytes.row.2 32 8; have e : (256 : Nat) ^ 8 = 18446744073709551616 := by decide
                                                       omega
  have hC2 : numF bs 56 2 < 65536 := by have := numF_lt h.bytes.row.2 56 2; have e : (256 : Nat) ^ 2 = 65536 := by decide
                                        omega
  have hml := h.bytes.most
  have hlen := h.bytes.len
  have HP : Hid (∀ v w', ErrAt w' v (whereF bs) → RdSt w0 tk { r with begin_ := numF bs 32 8, count := numF bs 56 2 } bs w' → WherePost w0 tk r bs (.returned v) w') := Lib.hid (fun v w' hv hr => ⟨⟨v, rfl, hv⟩, hr⟩)
  have hwh : whereF bs = firstF [unF (decide (0 < numF bs 56 2)) 56 3, unF (decide (numF bs 56 2 ≤ 16)) 56 2, unF (inB r.m (numF bs 32 8) (numF bs 56 2 * 56)) 32 4] := by unfold whereF; rw [hlen]
  rw [hwh] at HP
  have HWT : Hid (∀ (r' : HRd) wx, r'.at wx → r'.m = r.m → Calls Tryz.prog 41 #[.pointer (some ⟨r'.rb, 0, none⟩), .int .u64 (numF bs 32 8 : Int), .int .u64 ((numF bs 56 2 * 56 : Nat) : Int)] wx fun e w' => e = .returned (.bool (inB r.m (numF bs 32 8) (numF bs 56 2 * 56))) ∧ wx = w') := Lib.hid (fun r' wx hr' hm' => by
    have := hwithin_any r' (numF bs 32 8) (numF bs 56 2 * 56) wx hr' (by omega) hB8 (by omega)
    rw [hm'] at this
    exact this)
  have HST := Lib.hid h
  generalize WherePost w0 tk r bs = P at *
  generalize numF bs 32 8 = B at *
  generalize numF bs 56 2 = C at *
  obtain ⟨K1, hK1⟩ : ∃ K1, decide (0 < C) = K1 := ⟨_, rfl⟩
  obtain ⟨K2, hK2⟩ : ∃ K2, decide (C ≤ 16) = K2 := ⟨_, rfl⟩
  obtain ⟨K3, hK3⟩ : ∃ K3, inB r.m B (C * 56) = K3 := ⟨_, rfl⟩
  rw [hK1, hK2, hK3] at HP
  rw [hK3] at HWT
  have q1 : decide ((0 : Int) < (C : Int)) = K1 := by rw [← hK1, decide_eq_decide]; omega
  have q1' := hK1
  have q2a : decide ((C : Int) ≤ 16) = K2 := by rw [← hK2, decide_eq_decide]; omega
  have q2' := hK2
  have q3a : IntKind.u64.wrap ((C : Int) * 56) = (C : Int) * 56 := by rw [IntKind.wrap_u64]; omega
  obtain ⟨rb, k0, k1, k2, k3, a, m, cap, pa, pn, pc⟩ := r
  simp only [] at *
  have HAT : Hid (({ rb := rb, kind := k0, entry := k1, begin_ := k2, count := k3, a := a, m := m, cap := cap, pa := pa, pn := pn, pc := pc } : HRd).at w) := Lib.hid h.at_
  have KK : Hid (∀ wx, Below w.heap.size w wx → wx.cell? ⟨rb, 4, none⟩ = some (.slice a m cap)) := Lib.hid (fun wx hx => by rw [(HAT.out.below hx).get]; rfl)
  have KS : Hid (∀ wx : World, wx.cell? ⟨rb, 4, none⟩ = some (.slice a m cap) → wx.cell? ⟨rb, 4, none⟩ = some (.slice a m cap)) := Lib.hid (fun wx h => h)
  clear h hbw hB8 hC2 hml hlen hwh hK1 hK2 hK3
  go_enter Tryz.func19, Tryz.ntmps19
  go_wp2_with fail
  refine wp_region_held_drew (S := fun wx => wx.cell? ⟨rb, 4, none⟩ = some (.slice a m cap)) (by kernel_rfl) (KK.out _ (bdrew (Below.refl _ _))) (fun hHeld => ?_)
  first
    | (refine wpAnyH_take (i := 0) (v := ?_) rfl (by kernel_rfl) (by kernel_rfl) (by kernel_rfl) (fun _ _ _ h => h) (Or.inl ⟨by rfl, ?_⟩) (by assumption) ?_
       rotate_left
       · intro wx hSw
         have s0 := KS.out wx hSw
         (first | (go_simp; rfl) | go_simp | rfl))
    | refine wpAnyH_take (i := 0) (v := undef) rfl (by kernel_rfl) (by kernel_rfl) (by kernel_rfl) (fun _ _ _ h => h) (Or.inr ⟨by rfl, rfl⟩) (by assumption) ?_
  try simp only [List.getElem_toArray, List.getElem_cons_zero, List.getElem_cons_succ, Act.put, List.setIfInBounds_toArray, List.set_cons_zero, List.set_cons_succ, Array.toArray_toList]
  first
    | (refine wpAnyH_take (i := 1) (v := ?_) rfl (by kernel_rfl) (by kernel_rfl) (by kernel_rfl) (fun _ _ _ h => h) (Or.inl ⟨by rfl, ?_⟩) (by assumption) ?_
       rotate_left
       · intro wx hSw
         have s0 := KS.out wx hSw
         (first | (go_simp; rfl) | go_simp | rfl))
    | refine wpAnyH_take (i := 1) (v := undef) rfl (by kernel_rfl) (by kernel_rfl) (by kernel_rfl) (fun _ _ _ h => h) (Or.inr ⟨by rfl, rfl⟩) (by assumption) ?_
  try simp only [List.getElem_toArray, List.getElem_cons_zero, List.getElem_cons_succ, Act.put, List.setIfInBounds_toArray, List.set_cons_zero, List.set_cons_succ, Array.toArray_toList]
  first
    | (refine wpAnyH_take (i := 2) (v := ?_) rfl (by kernel_rfl) (by kernel_rfl) (by kernel_rfl) (fun _ _ _ h => h) (Or.inl ⟨by rfl, ?_⟩) (by assumption) ?_
       rotate_left
       · intro wx hSw
         have s0 := KS.out wx hSw
         (first | (go_simp; rfl) | go_simp | rfl))
    | refine wpAnyH_take (i := 2) (v := undef) rfl (by kernel_rfl) (by kernel_rfl) (by kernel_rfl) (fun _ _ _ h => h) (Or.inr ⟨by rfl, rfl⟩) (by assumption) ?_
  try simp only [List.getElem_toArray, List.getElem_cons_zero, List.getElem_cons_succ, Act.put, List.setIfInBounds_toArray, List.set_cons_zero, List.set_cons_succ, Array.toArray_toList]
  first
    | (refine wpAnyH_take (i := 3) (v := ?_) rfl (by kernel_rfl) (by kernel_rfl) (by kernel_rfl) (fun _ _ _ h => h) (Or.inl ⟨by rfl, ?_⟩) (by assumption) ?_
       rotate_left
       · intro wx hSw
         have s0 := KS.out wx hSw
         (first | (go_simp; rfl) | go_simp | rfl))
    | refine wpAnyH_take (i := 3) (v := undef) rfl (by kernel_rfl) (by kernel_rfl) (by kernel_rfl) (fun _ _ _ h => h) (Or.inr ⟨by rfl, rfl⟩) (by assumption) ?_
  try simp only [List.getElem_toArray, List.getElem_cons_zero, List.getElem_cons_succ, Act.put, List.setIfInBounds_toArray, List.set_cons_zero, List.set_cons_succ, Array.toArray_toList]
  first
    | (refine wpAnyH_take (i := 4) (v := ?_) rfl (by kernel_rfl) (by kernel_rfl) (by kernel_rfl) (fun _ _ _ h => h) (Or.inl ⟨by rfl, ?_⟩) (by assumption) ?_
       rotate_left
       · intro wx hSw
         have s0 := KS.out wx hSw
         (first | (go_simp; rfl) | go_simp | rfl))
    | refine wpAnyH_take (i := 4) (v := undef) rfl (by kernel_rfl) (by kernel_rfl) (by kernel_rfl) (fun _ _ _ h => h) (Or.inr ⟨by rfl, rfl⟩) (by assumption) ?_
  try simp only [List.getElem_toArray, List.getElem_cons_zero, List.getElem_cons_succ, Act.put, List.setIfInBounds_toArray, List.set_cons_zero, List.set_cons_succ, Array.toArray_toList]
  first
    | (refine wpAnyH_take (i := 5) (v := ?_) rfl (by kernel_rfl) (by kernel_rfl) (by kernel_rfl) (fun _ _ _ h => h) (Or.inl ⟨by rfl, ?_⟩) (by assumption) ?_
       rotate_left
       · intro wx hSw
         have s0 := KS.out wx hSw
         (first | (go_simp; rfl) | go_simp | rfl))
    | refine wpAnyH_take (i := 5) (v := undef) rfl (by kernel_rfl) (by kernel_rfl) (by kernel_rfl) (fun _ _ _ h => h) (Or.inr ⟨by rfl, rfl⟩) (by assumption) ?_
  try simp only [List.getElem_toArray, List.getElem_cons_zero, List.getElem_cons_succ, Act.put, List.setIfInBounds_toArray, List.set_cons_zero, List.set_cons_succ, Array.toArray_toList]
  first
    | (refine wpAnyH_take (i := 7) (v := ?_) rfl (by kernel_rfl) (by kernel_rfl) (by kernel_rfl) (fun _ _ _ h => h) (Or.inl ⟨by rfl, ?_⟩) (by assumption) ?_
       rotate_left
       · intro wx hSw
         have s0 := KS.out wx hSw
         (first | (go_simp; rfl) | go_simp | rfl))
    | refine wpAnyH_take (i := 7) (v := undef) rfl (by kernel_rfl) (by kernel_rfl) (by kernel_rfl) (fun _ _ _ h => h) (Or.inr ⟨by rfl, rfl⟩) (by assumption) ?_
  try simp only [List.getElem_toArray, List.getElem_cons_zero, List.getElem_cons_succ, Act.put, List.setIfInBounds_toArray, List.set_cons_zero, List.set_cons_succ, Array.toArray_toList]
  first
    | (refine wpAnyH_take (i := 8) (v := ?_) rfl (by kernel_rfl) (by kernel_rfl) (by kernel_rfl) (fun _ _ _ h => h) (Or.inl ⟨by rfl, ?_⟩) (by assumption) ?_
       rotate_left
       · intro wx hSw
         have s0 := KS.out wx hSw
         (first | (go_simp; rfl) | go_simp | rfl))
    | refine wpAnyH_take (i := 8) (v := undef) rfl (by kernel_rfl) (by kernel_rfl) (by kernel_rfl) (fun _ _ _ h => h) (Or.inr ⟨by rfl, rfl⟩) (by assumption) ?_
  try simp only [List.getElem_toArray, List.getElem_cons_zero, List.getElem_cons_succ, Act.put, List.setIfInBounds_toArray, List.set_cons_zero, List.set_cons_succ, Array.toArray_toList]
  first
    | (refine wpAnyH_take (i := 9) (v := ?_) rfl (by kernel_rfl) (by kernel_rfl) (by kernel_rfl) (fun _ _ _ h => h) (Or.inl ⟨by rfl, ?_⟩) (by assumption) ?_
       rotate_left
       · intro wx hSw
         have s0 := KS.out wx hSw
         (first | (go_simp; rfl) | go_simp | rfl))
    | refine wpAnyH_take (i := 9) (v := undef) rfl (by kernel_rfl) (by kernel_rfl) (by kernel_rfl) (fun _ _ _ h => h) (Or.inr ⟨by rfl, rfl⟩) (by assumption) ?_
  try simp only [List.getElem_toArray, List.getElem_cons_zero, List.getElem_cons_succ, Act.put, List.setIfInBounds_toArray, List.set_cons_zero, List.set_cons_succ, Array.toArray_toList]
  first
    | (refine wpAnyH_take (i := 10) (v := ?_) rfl (by kernel_rfl) (by kernel_rfl) (by kernel_rfl) (fun _ _ _ h => h) (Or.inl ⟨by rfl, ?_⟩) (by assumption) ?_
       rotate_left
       · intro wx hSw
         have s0 := KS.out wx hSw
         (first | (go_simp; rfl) | go_simp | rfl))
    | refine wpAnyH_take (i := 10) (v := undef) rfl (by kernel_rfl) (by kernel_rfl) (by kernel_rfl) (fun _ _ _ h => h) (Or.inr ⟨by rfl, rfl⟩) (by assumption) ?_
  try simp only [List.getElem_toArray, List.getElem_cons_zero, List.getElem_cons_succ, Act.put, List.setIfInBounds_toArray, List.set_cons_zero, List.set_cons_succ, Array.toArray_toList]
  refine wpAnyH_ready (rs := [6]) (by kernel_rfl) (by simp) ?_
  refine AllReadyH.cons rfl (fun K hK => ?_) AllReadyH.nil
  skip
  go_simp
  refine (HN1.out _ (by (repeat (first | exact Below.refl _ _ | refine bdrew ?_ | refine ballo ?_ _ | refine bsteps ?_ (by assumption))))).mono ?_
  rintro e w5 ⟨rfl, b5⟩
  have H5 := Stp.mk b5
  clear b5
  try go_simp
  refine hK.out _ _ (KK.out _ (by (repeat (first | exact Below.refl _ _ | refine bdrew ?_ | refine ballo ?_ _ | refine bsteps ?_ (by assumption))))) (fun hHeld => ?_)
  clear hK K
  try simp only [List.getElem_toArray, List.getElem_cons_zero, List.getElem_cons_succ, Act.put, List.setIfInBounds_toArray, List.set_cons_zero, List.set_cons_succ, Array.toArray_toList]
  refine wpAnyH_ready (rs := [11]) (by kernel_rfl) (by simp) ?_
  refine AllReadyH.cons rfl (fun K hK => ?_) AllReadyH.nil
  skip
  go_simp
  refine (HN2.out _ (by (repeat (first | exact Below.refl _ _ | refine bdrew ?_ | refine ballo ?_ _ | refine bsteps ?_ (by assumption))))).mono ?_
  rintro e w5 ⟨rfl, b5⟩
  have H5 := Stp.mk b5
  clear b5
  try go_simp
  refine hK.out _ _ (KK.out _ (by (repeat (first | exact Below.refl _ _ | refine bdrew ?_ | refine ballo ?_ _ | refine bsteps ?_ (by assumption))))) (fun hHeld => ?_)
  clear hK K
  try simp only [List.getElem_toArray, List.getElem_cons_zero, List.getElem_cons_succ, Act.put, List.setIfInBounds_toArray, List.set_cons_zero, List.set_cons_succ, Array.toArray_toList]
  first
    | (refine wpAnyH_take (i := 12) (v := ?_) rfl (by kernel_rfl) (by kernel_rfl) (by kernel_rfl) (fun _ _ _ h => h) (Or.inl ⟨by rfl, ?_⟩) (by assumption) ?_
       rotate_left
       · intro wx hSw
         have s0 := KS.out wx hSw
         (first | (go_simp; rfl) | go_simp | rfl))
    | refine wpAnyH_take (i := 12) (v := undef) rfl (by kernel_rfl) (by kernel_rfl) (by kernel_rfl) (fun _ _ _ h => h) (Or.inr ⟨by rfl, rfl⟩) (by assumption) ?_
  try simp only [List.getElem_toArray, List.getElem_cons_zero, List.getElem_cons_succ, Act.put, List.setIfInBounds_toArray, List.set_cons_zero, List.set_cons_succ, Array.toArray_toList]
  first
    | (refine wpAnyH_take (i := 13) (v := ?_) rfl (by kernel_rfl) (by kernel_rfl) (by kernel_rfl) (fun _ _ _ h => h) (Or.inl ⟨by rfl, ?_⟩) (by assumption) ?_
       rotate_left
       · intro wx hSw
         have s0 := KS.out wx hSw
         (first | (go_simp; rfl) | go_simp | rfl))
    | refine wpAnyH_take (i := 13) (v := undef) rfl (by kernel_rfl) (by kernel_rfl) (by kernel_rfl) (fun _ _ _ h => h) (Or.inr ⟨by rfl, rfl⟩) (by assumption) ?_
  try simp only [List.getElem_toArray, List.getElem_cons_zero, List.getElem_cons_succ, Act.put, List.setIfInBounds_toArray, List.set_cons_zero, List.set_cons_succ, Array.toArray_toList]
  first
    | (refine wpAnyH_take (i := 14) (v := ?_) rfl (by kernel_rfl) (by kernel_rfl) (by kernel_rfl) (fun _ _ _ h => h) (Or.inl ⟨by rfl, ?_⟩) (by assumption) ?_
       rotate_left
       · intro wx hSw
         have s0 := KS.out wx hSw
         (first | (go_simp; rfl) | go_simp | rfl))
    | refine wpAnyH_take (i := 14) (v := undef) rfl (by kernel_rfl) (by kernel_rfl) (by kernel_rfl) (fun _ _ _ h => h) (Or.inr ⟨by rfl, rfl⟩) (by assumption) ?_
  try simp only [List.getElem_toArray, List.getElem_cons_zero, List.getElem_cons_succ, Act.put, List.setIfInBounds_toArray, List.set_cons_zero, List.set_cons_succ, Array.toArray_toList]
  refine wpAnyH_ready (rs := [15]) (by kernel_rfl) (by simp) ?_
  refine AllReadyH.cons rfl (fun K hK => ?_) AllReadyH.nil
  have hw6 : Hid (Below w.heap.size w w5) := Lib.hid (by (repeat (first | exact Below.refl _ _ | refine bdrew ?_ | refine ballo ?_ _ | refine bsteps ?_ (by assumption))))
  have HRW := Lib.hid (HAT.out.below hw6.out)
  have q2 : w5.cell? ⟨rb, 2, none⟩ = some (.int .u64 (k2 : Int)) := by rw [HRW.out.get]; rfl
  have f2 : w5.frozen? ⟨rb, 2, none⟩ = false := frozen_of_row _ _ _ _ _ HRW.out
  go_simp
  have q4 : (w5.setCell ⟨rb, 2, none⟩ (.int .u64 (B : Int))).cell? ⟨rb, 4, none⟩ = some (.slice a m cap) := by
    rw [setOther2 (by simp), HRW.out.get]
    rfl
  refine hK.out _ _ q4 (fun hHeld => ?_)
  clear hK K q2 f2 q4
  try simp only [List.getElem_toArray, List.getElem_cons_zero, List.getElem_cons_succ, Act.put, List.setIfInBounds_toArray, List.set_cons_zero, List.set_cons_succ, Array.toArray_toList]
  first
    | (refine wpAnyH_take (i := 16) (v := ?_) rfl (by kernel_rfl) (by kernel_rfl) (by kernel_rfl) (fun _ _ _ h => h) (Or.inl ⟨by rfl, ?_⟩) (by assumption) ?_
       rotate_left
       · intro wx hSw
         have s0 := KS.out wx hSw
         (first | (go_simp; rfl) | go_simp | rfl))
    | refine wpAnyH_take (i := 16) (v := undef) rfl (by kernel_rfl) (by kernel_rfl) (by kernel_rfl) (fun _ _ _ h => h) (Or.inr ⟨by rfl, rfl⟩) (by assumption) ?_
  try simp only [List.getElem_toArray, List.getElem_cons_zero, List.getElem_cons_succ, Act.put, List.setIfInBounds_toArray, List.set_cons_zero, List.set_cons_succ, Array.toArray_toList]
  first
    | (refine wpAnyH_take (i := 17) (v := ?_) rfl (by kernel_rfl) (by kernel_rfl) (by kernel_rfl) (fun _ _ _ h => h) (Or.inl ⟨by rfl, ?_⟩) (by assumption) ?_
       rotate_left
       · intro wx hSw
         have s0 := KS.out wx hSw
         (first | (go_simp; rfl) | go_simp | rfl))
    | refine wpAnyH_take (i := 17) (v := undef) rfl (by kernel_rfl) (by kernel_rfl) (by kernel_rfl) (fun _ _ _ h => h) (Or.inr ⟨by rfl, rfl⟩) (by assumption) ?_
  try simp only [List.getElem_toArray, List.getElem_cons_zero, List.getElem_cons_succ, Act.put, List.setIfInBounds_toArray, List.set_cons_zero, List.set_cons_succ, Array.toArray_toList]
  first
    | (refine wpAnyH_take (i := 18) (v := ?_) rfl (by kernel_rfl) (by kernel_rfl) (by kernel_rfl) (fun _ _ _ h => h) (Or.inl ⟨by rfl, ?_⟩) (by assumption) ?_
       rotate_left
       · intro wx hSw
         have s0 := KS.out wx hSw
         (first | (go_simp; rfl) | go_simp | rfl))
    | refine wpAnyH_take (i := 18) (v := undef) rfl (by kernel_rfl) (by kernel_rfl) (by kernel_rfl) (fun _ _ _ h => h) (Or.inr ⟨by rfl, rfl⟩) (by assumption) ?_
  try simp only [List.getElem_toArray, List.getElem_cons_zero, List.getElem_cons_succ, Act.put, List.setIfInBounds_toArray, List.set_cons_zero, List.set_cons_succ, Array.toArray_toList]
  refine wpAnyH_ready (rs := [19]) (by kernel_rfl) (by simp) ?_
  refine AllReadyH.cons rfl (fun K hK => ?_) AllReadyH.nil
  have q3 : (w5.setCell ⟨rb, 2, none⟩ (.int .u64 (B : Int))).cell? ⟨rb, 3, none⟩ = some (.int .u64 (k3 : Int)) := by
    rw [setOther2 (by simp), HRW.out.get]
    rfl
  have f3 : (w5.setCell ⟨rb, 2, none⟩ (.int .u64 (B : Int))).frozen? ⟨rb, 3, none⟩ = false := by
    rw [World.frozen?_setCell]
    exact frozen_of_row _ _ _ _ _ HRW.out
  go_simp
  have q4 : ((w5.setCell ⟨rb, 2, none⟩ (.int .u64 (B : Int))).setCell ⟨rb, 3, none⟩ (.int .u64 (C : Int))).cell? ⟨rb, 4, none⟩ = some (.slice a m cap) := by
    rw [setOther2 (by simp), setOther2 (by simp), HRW.out.get]
    rfl
  refine hK.out _ _ q4 (fun hHeld => ?_)
  clear hK K q3 f3 q4
  try simp only [List.getElem_toArray, List.getElem_cons_zero, List.getElem_cons_succ, Act.put, List.setIfInBounds_toArray, List.set_cons_zero, List.set_cons_succ, Array.toArray_toList]
  refine wpAnyH_done (by kernel_rfl) ?_ _
  obtain ⟨w9, hw9⟩ : ∃ w9, (w5.setCell ⟨rb, 2, none⟩ (.int .u64 (B : Int))).setCell ⟨rb, 3, none⟩ (.int .u64 (C : Int)) = w9 := ⟨_, rfl⟩
  have HR9 : Hid (({ rb := rb, kind := k0, entry := k1, begin_ := B, count := C, a := a, m := m, cap := cap, pa := pa, pn := pn, pc := pc } : HRd).at w9) := Lib.hid (by
    rw [← hw9]
    have e1 := heap_setCell_same w5 rb 2 _ _ (.int .u64 (B : Int)) HRW.out
    have e2 := heap_setCell_same _ rb 3 _ _ (.int .u64 (C : Int)) e1
    exact e2)
  have B9 : Hid (Below w0.heap.size w0 w9) := Lib.hid (by
    rw [← hw9]
    have hb := HST.out.blw.trans (hw6.out.mono HST.out.blw.size)
    exact (hb.setCell (p := ⟨rb, 2, none⟩) HST.out.ge _).setCell (p := ⟨rb, 3, none⟩) HST.out.ge _)
  have KT9 : Hid (Tk tk rb w9) := Lib.hid (by
    rw [← hw9]
    exact ((HST.out.kept.below hw6.out).set 2 _).set 3 _)
  rw [hw9]
  clear hw9 KS KK HN1 HN2 hHeld
  have HWI : Hid (∀ wx, Below w9.heap.size w9 wx → Calls Tryz.prog 41 #[.pointer (some ⟨rb, 0, none⟩), .int .u64 (B : Int), .int .u64 ((C : Int) * 56)] wx fun e w' => e = .returned (.bool K3) ∧ wx = w') := Lib.hid (fun wx hx => by
    have := HWT.out { rb := rb, kind := k0, entry := k1, begin_ := B, count := C, a := a, m := m, cap := cap, pa := pa, pn := pn, pc := pc } wx (HR9.out.below hx) rfl
    rw [show ((C * 56 : Nat) : Int) = (C : Int) * 56 by omega] at this
    exact this)
  have KS : Hid (∀ wx, Below w9.heap.size w9 wx → wx.cell? ⟨rb, 2, none⟩ = some (.int .u64 (B : Int)) ∧ wx.cell? ⟨rb, 3, none⟩ = some (.int .u64 (C : Int))) := Lib.hid (fun wx hx => ⟨by rw [(HR9.out.below hx).get]; rfl, by rw [(HR9.out.below hx).get]; rfl⟩)
  go_wp2_with fail
  refine wp_region_held_drew (S := fun wx => Below w9.heap.size w9 wx) (by kernel_rfl) ((Below.refl _ _).drew) (fun hHeld => ?_)
  first
    | (refine tkw 0 ?_ rfl ?_ ?_
       rotate_left
       · intro wx hSw
         obtain ⟨s0, s1⟩ := KS.out wx hSw
         (first | (go_simp; rfl) | go_simp | rfl))
    | refine tku 0 rfl ?_
  first
    | (refine tkw 1 ?_ rfl ?_ ?_
       rotate_left
       · intro wx hSw
         obtain ⟨s0, s1⟩ := KS.out wx hSw
         (first | (go_simp; rfl) | go_simp | rfl))
    | refine tku 1 rfl ?_
  first
    | (refine tkw 2 ?_ rfl ?_ ?_
       rotate_left
       · intro wx hSw
         obtain ⟨s0, s1⟩ := KS.out wx hSw
         (first | (go_simp; rfl) | go_simp | rfl))
    | refine tku 2 rfl ?_
  first
    | (refine tkw 3 ?_ rfl ?_ ?_
       rotate_left
       · intro wx hSw
         obtain ⟨s0, s1⟩ := KS.out wx hSw
         (first | (go_simp; rfl) | go_simp | rfl))
    | refine tku 3 rfl ?_
  first
    | (refine tkw 4 ?_ rfl ?_ ?_
       rotate_left
       · intro wx hSw
         obtain ⟨s0, s1⟩ := KS.out wx hSw
         (first | (go_simp; rfl) | go_simp | rfl))
    | refine tku 4 rfl ?_
  first
    | (refine tkw 5 ?_ rfl ?_ ?_
       rotate_left
       · intro wx hSw
         obtain ⟨s0, s1⟩ := KS.out wx hSw
         (first | (go_simp; rfl) | go_simp | rfl))
    | refine tku 5 rfl ?_
  first
    | (refine tkw 7 ?_ rfl ?_ ?_
       rotate_left
       · intro wx hSw
         obtain ⟨s0, s1⟩ := KS.out wx hSw
         (first | (go_simp; rfl) | go_simp | rfl))
    | refine tku 7 rfl ?_
  first
    | (refine tkw 8 ?_ rfl ?_ ?_
       rotate_left
       · intro wx hSw
         obtain ⟨s0, s1⟩ := KS.out wx hSw
         (first | (go_simp; rfl) | go_simp | rfl))
    | refine tku 8 rfl ?_
  first
    | (refine tkw 9 ?_ rfl ?_ ?_
       rotate_left
       · intro wx hSw
         obtain ⟨s0, s1⟩ := KS.out wx hSw
         (first | (go_simp; rfl) | go_simp | rfl))
    | refine tku 9 rfl ?_
  first
    | (refine tkw 10 ?_ rfl ?_ ?_
       rotate_left
       · intro wx hSw
         obtain ⟨s0, s1⟩ := KS.out wx hSw
         (first | (go_simp; rfl) | go_simp | rfl))
    | refine tku 10 rfl ?_
  first
    | (refine tkw 11 ?_ rfl ?_ ?_
       rotate_left
       · intro wx hSw
         obtain ⟨s0, s1⟩ := KS.out wx hSw
         (first | (go_simp; rfl) | go_simp | rfl))
    | refine tku 11 rfl ?_
  first
    | (refine tkw 12 ?_ rfl ?_ ?_
       rotate_left
       · intro wx hSw
         obtain ⟨s0, s1⟩ := KS.out wx hSw
         (first | (go_simp; rfl) | go_simp | rfl))
    | refine tku 12 rfl ?_
  first
    | (refine tkw 14 ?_ rfl ?_ ?_
       rotate_left
       · intro wx hSw
         obtain ⟨s0, s1⟩ := KS.out wx hSw
         (first | (go_simp; rfl) | go_simp | rfl))
    | refine tku 14 rfl ?_
  first
    | (refine tkw 15 ?_ rfl ?_ ?_
       rotate_left
       · intro wx hSw
         obtain ⟨s0, s1⟩ := KS.out wx hSw
         (first | (go_simp; rfl) | go_simp | rfl))
    | refine tku 15 rfl ?_
  first
    | (refine tkw 16 ?_ rfl ?_ ?_
       rotate_left
       · intro wx hSw
         obtain ⟨s0, s1⟩ := KS.out wx hSw
         (first | (go_simp; rfl) | go_simp | rfl))
    | refine tku 16 rfl ?_
  first
    | (refine tkw 17 ?_ rfl ?_ ?_
       rotate_left
       · intro wx hSw
         obtain ⟨s0, s1⟩ := KS.out wx hSw
         (first | (go_simp; rfl) | go_simp | rfl))
    | refine tku 17 rfl ?_
  first
    | (refine tkw 18 ?_ rfl ?_ ?_
       rotate_left
       · intro wx hSw
         obtain ⟨s0, s1⟩ := KS.out wx hSw
         (first | (go_simp; rfl) | go_simp | rfl))
    | refine tku 18 rfl ?_
  first
    | (refine tkw 19 ?_ rfl ?_ ?_
       rotate_left
       · intro wx hSw
         obtain ⟨s0, s1⟩ := KS.out wx hSw
         (first | (go_simp; rfl) | go_simp | rfl))
    | refine tku 19 rfl ?_
  first
    | (refine tkw 20 ?_ rfl ?_ ?_
       rotate_left
       · intro wx hSw
         obtain ⟨s0, s1⟩ := KS.out wx hSw
         (first | (go_simp; rfl) | go_simp | rfl))
    | refine tku 20 rfl ?_
  first
    | (refine tkw 21 ?_ rfl ?_ ?_
       rotate_left
       · intro wx hSw
         obtain ⟨s0, s1⟩ := KS.out wx hSw
         (first | (go_simp; rfl) | go_simp | rfl))
    | refine tku 21 rfl ?_
  first
    | (refine tkw 22 ?_ rfl ?_ ?_
       rotate_left
       · intro wx hSw
         obtain ⟨s0, s1⟩ := KS.out wx hSw
         (first | (go_simp; rfl) | go_simp | rfl))
    | refine tku 22 rfl ?_
  first
    | (refine tkw 23 ?_ rfl ?_ ?_
       rotate_left
       · intro wx hSw
         obtain ⟨s0, s1⟩ := KS.out wx hSw
         (first | (go_simp; rfl) | go_simp | rfl))
    | refine tku 23 rfl ?_
  first
    | (refine tkw 24 ?_ rfl ?_ ?_
       rotate_left
       · intro wx hSw
         obtain ⟨s0, s1⟩ := KS.out wx hSw
         (first | (go_simp; rfl) | go_simp | rfl))
    | refine tku 24 rfl ?_
  first
    | (refine tkw 25 ?_ rfl ?_ ?_
       rotate_left
       · intro wx hSw
         obtain ⟨s0, s1⟩ := KS.out wx hSw
         (first | (go_simp; rfl) | go_simp | rfl))
    | refine tku 25 rfl ?_
  refine wpAnyH_ready (rs := [6]) (by kernel_rfl) (by simp) ?_
  refine AllReadyH.cons rfl (fun K hK => ?_) AllReadyH.nil
  go_simp
  refine (unless_gen _ _ _ _ (by omega) (by omega) (by decide)).mono ?_
  rintro e w5 ⟨⟨F5, p5, d5, rfl, t5⟩, b5⟩
  have T5 := Lib.hid t5
  have H5 := Stp.mk b5
  clear t5
  try go_simp
  refine hK.out _ _ (bstep (by assumption) b5) (fun hHeld => ?_)
  clear hK K b5
  try simp only [List.getElem_toArray, List.getElem_cons_zero, List.getElem_cons_succ, Act.put, List.setIfInBounds_toArray, List.set_cons_zero, List.set_cons_succ, Array.toArray_toList]
  refine wpAnyH_ready (rs := [13]) (by kernel_rfl) (by simp) ?_
  refine AllReadyH.cons rfl (fun K hK => ?_) AllReadyH.nil
  go_simp
  refine (unless_gen _ _ _ _ (by omega) (by omega) (by decide)).mono ?_
  rintro e w5 ⟨⟨F5, p5, d5, rfl, t5⟩, b5⟩
  have T5 := Lib.hid t5
  have H5 := Stp.mk b5
  clear t5
  try go_simp
  refine hK.out _ _ (bstep (by assumption) b5) (fun hHeld => ?_)
  clear hK K b5
  try simp only [List.getElem_toArray, List.getElem_cons_zero, List.getElem_cons_succ, Act.put, List.setIfInBounds_toArray, List.set_cons_zero, List.set_cons_succ, Array.toArray_toList]
  refine wpAnyH_ready (rs := [26]) (by kernel_rfl) (by simp) ?_
  refine AllReadyH.cons rfl (fun K hK => ?_) AllReadyH.nil
  go_simp
  refine (HWI.out _ (by assumption)).mono ?_
  rintro e w6 ⟨rfl, rfl⟩
  try go_simp
  refine hK.out _ _ (by assumption) (fun hHeld => ?_)
  clear hK K
  try simp only [List.getElem_toArray, List.getElem_cons_zero, List.getElem_cons_succ, Act.put, List.setIfInBounds_toArray, List.set_cons_zero, List.set_cons_succ, Array.toArray_toList]
  refine wpAnyH_ready (rs := [27]) (by kernel_rfl) (by simp) ?_
  refine AllReadyH.cons rfl (fun K hK => ?_) AllReadyH.nil
  go_simp
  refine (unless_gen _ _ _ _ (by omega) (by omega) (by decide)).mono ?_
  rintro e w5 ⟨⟨F5, p5, d5, rfl, t5⟩, b5⟩
  have T5 := Lib.hid t5
  have H5 := Stp.mk b5
  clear t5
  try go_simp
  refine hK.out _ _ (bstep (by assumption) b5) (fun hHeld => ?_)
  clear hK K b5
  try simp only [List.getElem_toArray, List.getElem_cons_zero, List.getElem_cons_succ, Act.put, List.setIfInBounds_toArray, List.set_cons_zero, List.set_cons_succ, Array.toArray_toList]
  refine wpAnyH_ready (rs := [28]) (by kernel_rfl) (by simp) ?_
  refine AllReadyH.cons rfl (fun K hK => ?_) AllReadyH.nil
  go_simp
  refine hK.out _ _ (ballo (by assumption) _) (fun hHeld => ?_)
  clear hK K
  try simp only [List.getElem_toArray, List.getElem_cons_zero, List.getElem_cons_succ, Act.put, List.setIfInBounds_toArray, List.set_cons_zero, List.set_cons_succ, Array.toArray_toList]
  refine wpAnyH_ready (rs := [29]) (by kernel_rfl) (by simp) ?_
  refine AllReadyH.cons rfl (fun K hK => ?_) AllReadyH.nil
  go_simp
  refine (first3_any _ _ _ _ _ _ _ (TestV.below (Hid.out (by assumption)) (by (repeat (first | exact Below.refl _ _ | refine bdrew ?_ | refine ballo ?_ _ | refine bsteps ?_ (by assumption))))) (TestV.below (Hid.out (by assumption)) (by (repeat (first | exact Below.refl _ _ | refine bdrew ?_ | refine ballo ?_ _ | refine bsteps ?_ (by assumption))))) (TestV.below (Hid.out (by assumption)) (by (repeat (first | exact Below.refl _ _ | refine bdrew ?_ | refine ballo ?_ _ | refine bsteps ?_ (by assumption)))))).mono ?_
  rintro e w7 ⟨⟨v7, rfl, t7⟩, b7⟩
  have T7 := Lib.hid t7
  clear t7
  try go_simp
  refine hK.out _ _ (bstep (by assumption) b7) (fun hHeld => ?_)
  clear hK K b7
  try simp only [List.getElem_toArray, List.getElem_cons_zero, List.getElem_cons_succ, Act.put, List.setIfInBounds_toArray, List.set_cons_zero, List.set_cons_succ, Array.toArray_toList]
  first
    | (refine tkw 30 ?_ rfl ?_ ?_
       rotate_left
       · intro wx hSw
         obtain ⟨s0, s1⟩ := KS.out wx hSw
         (first | (go_simp; rfl) | go_simp | rfl))
    | refine tku 30 rfl ?_
  refine wpAnyH_done (by kernel_rfl) ?_ _
  have H7 := Lib.hid hHeld
  clear hHeld
  go_wp2_with fail
  exact HP.out _ _ T7.out ⟨HR9.out.below H7.out, B9.out.trans (H7.out.mono B9.out.size), HST.out.ge, HST.out.bytes, KT9.out.below H7.out⟩
end Go.Proofs.YtnaejlfjlennhaaGreatDoor
