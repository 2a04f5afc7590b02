/- Layer 8: a version that is needed: the program's answer. -/
import Derived.Test.YtikpkblemegggaaVersStore
import Derived.Handy
namespace Go.Proofs.Ytikpkblemegggaa
open Go.RowKit Go.Maps
set_option linter.unusedVariables false
set_option linter.unusedSimpArgs false

def auxCells (d : AuxD) : List Value := [.int .i64 (d.idx : Int), .bool d.weak, .string d.name]
def AuxAns (r : RD) (X : List Nat × AuxD × Nat) (w : World) (e : Ending) (w' : World) : Prop :=
  e = .returned (.tuple #[.agg (auxCells X.2.1).toArray, errV (X.2.2 : Int)]) ∧ MapN w' r.B X.1 ∧ Kp r.B w w'
theorem AuxAns.of {r : RD} {w wx : World} {V g : Nat} {b told : List Nat} {T : TypeId} {cs0 : Array Value} {d : AuxD} {c : Nat} {v : Value} {e1 : Value} (h : DW r w V g cs0 T b told wx) (cs : Array Value) (hv : v = .agg (auxCells d).toArray) (he : e1 = errV (c : Int)) :
    AuxAns r (told, d, c) w (.returned (.tuple #[v, e1])) (wx.setRow V cs) := by
  subst hv he
  exact ⟨rfl, (h.done cs).1, (h.done cs).2⟩

theorem and_two_bit (n : Nat) : (((n &&& 2 : Nat) : Int) != 0) = decide (n / 2 % 2 = 1) := by
  have h : n &&& 2 = 2 * (n / 2 % 2) := by
    apply Nat.eq_of_testBit_eq
    intro i
    rw [Nat.testBit_and, show (2 : Nat) = 2 ^ 1 from rfl, Nat.testBit_two_pow, Nat.testBit_two_pow_mul]
    rcases Nat.lt_trichotomy i 1 with h1 | rfl | h1
    · have h4 : i = 0 := by omega
      subst h4
      simp
    · simp [Nat.testBit, Nat.shiftRight_succ]
    · have h3 : ¬ 1 = i := by omega
      have h2 : (n / 2 ^ 1 % 2 ^ 1).testBit (i - 1) = false := Nat.testBit_lt_two_pow (Nat.lt_of_lt_of_le (Nat.mod_lt _ (by decide)) (Nat.pow_le_pow_right (by decide) (by omega)))
      simp [h3, h2]
  rw [h]
  have h2 : n / 2 % 2 = 0 ∨ n / 2 % 2 = 1 := by omega
  rcases h2 with h2 | h2 <;> rw [h2] <;> rfl

set_option maxRecDepth 100000 in
set_option maxHeartbeats 8000000 in
theorem aux_any (r : RD) (w : World) (told : List Nat) (g c : Nat) (b : List Nat) (h : r.ok w) (hm : MapN w r.B told) (hb : BRow w (some ⟨g, 0, none⟩) b) (hl : b.length = 16) (hc : 16 ≤ c) :
    Calls Try.prog 50 #[rdV r, .slice (some ⟨g, 0, none⟩) 16 c] w (AuxAns r (auxF r.ss told b) w) := by
  have hT0 := numOf_four b hb.2 8
  have HP := Lib.hid (fun (wx : World) (hw : BRow wx (some ⟨g, 0, none⟩) b) (o n q : Nat) (hn : n ≤ 8) (ho : o + n ≤ 16) => part_any g b wx hw o n q hn (by omega))
  have HT := Lib.hid (fun (wx : World) (hw : r.ok wx) (hr : BRow wx (some ⟨g, 0, none⟩) b) (q : Nat) => by
    have h1 := hr.cut 8 4
    simp only [Option.map_some, WideShapes.add_plain, Nat.zero_add] at h1
    have e : ((b.drop 8).take 4).length = 4 := by simp; omega
    have := vtext_any r wx hw (some ⟨g, 8, none⟩) q ((b.drop 8).take 4) h1 (by omega)
    rw [e] at this
    exact this)
  have HD0 : Hid (DW r w w.heap.size g #[.int .i64 0, .bool false, .string .empty] 47 b told (w.alloc (.cells #[.int .i64 0, .bool false, .string .empty] 47))) := Lib.hid (by
    have hB : Below w.heap.size w (w.alloc (.cells #[.int .i64 0, .bool false, .string .empty] 47)) := (Below.refl _ _).alloc (Nat.le_refl _) _
    exact ⟨h, Kp.below hB, hm.below hB, heap_alloc_new _ _, hb.below hB, Nat.le_refl _⟩)
  have n0 := numOf_four b hb.2 0
  have n6 := numOf_two b hb.2 6
  have n4 := numOf_two b hb.2 4
  have hand := and_index _ n6
  have HTELL := Lib.hid (fun (wx : World) (hw : r.ok wx) (hmx : MapN wx r.B told) (x : Nat) (h1 : 1 ≤ x) (h2 : x < 32768) => tell_any r wx told x hw hmx h1 h2)
  have hsz := textF_size r.ss (numOf ((b.drop 8).take 4))
  have hcode := textF_code r.ss (numOf ((b.drop 8).take 4))
  unfold auxF
  obtain ⟨F, hF⟩ : ∃ F, textF r.ss (numOf ((b.drop 8).take 4)) = F := ⟨_, rfl⟩
  rw [hF] at HT hsz hcode ⊢
  rw [show b.take 4 = (b.drop 0).take 4 from rfl]
  obtain ⟨nm, tc⟩ := F
  simp only at hsz hcode ⊢
  have HSY := Lib.hid (fun (w1 : World) => sysv_any nm w1 (by omega))
  have hsy := sysOf_small nm.data.toList
  generalize sysOf nm.data.toList = S at *
  clear hF hT0 hm hb h hsz
  generalize hN0 : numOf ((b.drop 0).take 4) = N0 at *
  generalize hN6 : numOf ((b.drop 6).take 2) = N6 at *
  generalize hN4 : numOf ((b.drop 4).take 2) = N4 at *
  have P0 := Lib.hid (fun (wx : World) (hw : BRow wx (some ⟨g, 0, none⟩) b) (q : Nat) => by
    have := HP.out wx hw 0 4 q (by omega) (by omega)
    rw [hN0] at this
    exact this)
  have P6 := Lib.hid (fun (wx : World) (hw : BRow wx (some ⟨g, 0, none⟩) b) (q : Nat) => by
    have := HP.out wx hw 6 2 q (by omega) (by omega)
    rw [hN6] at this
    exact this)
  have P4 := Lib.hid (fun (wx : World) (hw : BRow wx (some ⟨g, 0, none⟩) b) (q : Nat) => by
    have := HP.out wx hw 4 2 q (by omega) (by omega)
    rw [hN4] at this
    exact this)
  clear HP hN0 hN6 hN4
  have ic : (16 : Int) ≤ (c : Int) := by omega
  have hC := Lib.hid hcode
  clear hcode hc
  obtain ⟨X, hX⟩ : ∃ X, (if tc ≠ 0 then (told, AuxD.zero, tc) else if S ≠ N0 ∨ N6 % 32768 < 2 then (told, AuxD.zero, 3) else if N6 % 32768 ∈ told then (told, AuxD.zero, 5) else (told ++ [N6 % 32768], (⟨N6 % 32768, decide (N4 / 2 % 2 = 1), nm⟩ : AuxD), 0)) = X := ⟨_, rfl⟩
  rw [hX]
  have HX := Lib.hid hX
  clear hX
  unfold rdV at *
  generalize hV : w.heap.size = V at *
  go_enter Try.func50, Try.ntmps50
  go_wp2_with fail
  refine (HT.out _ HD0.out.ok HD0.out.row _).mono ?_
  rintro e w1 ⟨rfl, m, rfl⟩
  have HD1 := Lib.hid (HD0.out.below (below_drewN (Below.refl _ _) m))
  clear HD0 HT
  generalize (w.alloc (.cells #[.int .i64 0, .bool false, .string .empty] 47)).drewN m = wd at *
  have HFR : Hid (∀ (wx : World) (cs : Array Value), wx.heap[V]? = some (.cells cs 47) → ∀ j, wx.frozen? ⟨V, j, none⟩ = false) := Lib.hid (fun wx cs h j => frozen_of_row wx V j _ _ h)
  by_cases htc : tc = 0
  · subst htc
    have HE0 : Hid (X = if S ≠ N0 ∨ N6 % 32768 < 2 then (told, AuxD.zero, 3) else if N6 % 32768 ∈ told then (told, AuxD.zero, 5) else (told ++ [N6 % 32768], (⟨N6 % 32768, decide (N4 / 2 % 2 = 1), nm⟩ : AuxD), 0)) := Lib.hid (by rw [← HX.out, if_neg (by simp)])
    rw [errV0x]
    have hx : N6 % 32768 < 32768 := by omega
    generalize N6 % 32768 = x at *
    have hxw : IntKind.i64.wrap (x : Int) = (x : Int) := by rw [IntKind.wrap_i64]; omega
    have hSw : IntKind.u64.wrap (S : Int) = (S : Int) := by rw [IntKind.wrap_u64]; omega
    by_cases hS : S = N0
    · subst hS
      have hne : ((S : Int) != (S : Int)) = false := by simp
      by_cases hx2 : x < 2
      · have HE : Hid (X = (told, .zero, 3)) := Lib.hid (by rw [HE0.out, if_pos (.inr hx2)])
        have hx2i : (x : Int) < 2 := by omega
        go_wp2_with (go_at_call 36; refine (P6.out _ HD1.out.row _).mono ?_; rintro e w' ⟨rfl, rfl⟩)
        go_quiet (first | (go_at_call 13; exact Calls.quiet_of_same ((HSY.out _).mono (by rintro e w' ⟨rfl, rfl⟩; exact ⟨rfl, rfl⟩))) | (go_at_call 36; exact Calls.quiet_of_same ((P0.out _ (HD1.out.below (below_drewN (Below.refl _ _) _)).row _).mono (by rintro e w' ⟨rfl, rfl⟩; exact ⟨rfl, rfl⟩))))
        have HD2 := Lib.hid (HD1.out.below (below_drewN (Below.refl _ _) nq))
        generalize wd.drewN nq = w2 at *
        have FS := Lib.hid (three_stores HD2.out.box (.int .i64 0) (.bool false) (.string ⟨#[]⟩))
        have hr := fun (cs : Array Value) (j : Nat) => cell_setRow_same w2 V j _ cs _ _ HD2.out.box
        have r0 := hr #[.int .i64 0, .bool false, .string ⟨#[]⟩] 0
        have r1 := hr #[.int .i64 0, .bool false, .string ⟨#[]⟩] 1
        have r2 := hr #[.int .i64 0, .bool false, .string ⟨#[]⟩] 2
        simp only [List.getElem?_toArray, List.getElem?_cons_zero, List.getElem?_cons_succ] at r0 r1 r2
        have R0 := Lib.hid r0
        have R1 := Lib.hid r1
        have R2 := Lib.hid r2
        clear r0 r1 r2 hr
        have f0 := HFR.out _ _ HD2.out.box 0
        have f1 := HFR.out _ _ HD2.out.box 1
        have f2 := HFR.out _ _ HD2.out.box 2
        have c0 : w2.cell? ⟨V, 0, none⟩ = some (.int .i64 0) := by rw [cell_of_row w2 V 0 _ _ _ HD2.out.box]; rfl
        have c1 : w2.cell? ⟨V, 1, none⟩ = some (.bool false) := by rw [cell_of_row w2 V 1 _ _ _ HD2.out.box]; rfl
        have c2 : w2.cell? ⟨V, 2, none⟩ = some (.string .empty) := by rw [cell_of_row w2 V 2 _ _ _ HD2.out.box]; rfl
        go_wp2_with fail
        rw [HE.out]
        rw [FS.out]
        refine bodyPost_ret (by simp [results, Try.results50, go_sem, R0.out, R1.out, R2.out]; try rfl) rfl ?_
        exact AuxAns.of HD2.out _ rfl rfl
      · have hx2i : ¬ (x : Int) < 2 := by omega
        have hx1 : 1 ≤ x := by omega
        have HE1 : Hid (X = if x ∈ told then (told, AuxD.zero, 5) else (told ++ [x], (⟨x, decide (N4 / 2 % 2 = 1), nm⟩ : AuxD), 0)) := Lib.hid (by rw [HE0.out, if_neg (by omega)])
        clear HE0
        go_wp2_with (go_at_call 36; refine (P6.out _ HD1.out.row _).mono ?_; rintro e w' ⟨rfl, rfl⟩)
        go_quiet (first | (go_at_call 13; exact Calls.quiet_of_same ((HSY.out _).mono (by rintro e w' ⟨rfl, rfl⟩; exact ⟨rfl, rfl⟩))) | (go_at_call 36; exact Calls.quiet_of_same ((P0.out _ (HD1.out.below (below_drewN (Below.refl _ _) _)).row _).mono (by rintro e w' ⟨rfl, rfl⟩; exact ⟨rfl, rfl⟩))))
        have HD2 := Lib.hid (HD1.out.below (below_drewN (Below.refl _ _) nq))
        generalize wd.drewN nq = w2 at *
        clear HD1 P0 P6 hand HSY
        have HTL := Lib.hid (HTELL.out w2 HD2.out.ok HD2.out.map x hx1 hx)
        by_cases hin : x ∈ told
        · have HE : Hid (X = (told, .zero, 5)) := Lib.hid (by rw [HE1.out, if_pos hin])
          rw [if_pos hin, if_pos hin] at HTL
          clear HE1 hin
          go_wp2_with fail
          refine HTL.out.mono ?_
          rintro e w3 ⟨rfl, hk3, hm3⟩
          have HD3 := Lib.hid (HD2.out.on hk3 hm3)
          clear hk3 hm3 HTL
          rw [errV_five]
          have FS := Lib.hid (three_stores HD3.out.box (.int .i64 0) (.bool false) (.string ⟨#[]⟩))
          have hr := fun (cs : Array Value) (j : Nat) => cell_setRow_same w3 V j _ cs _ _ HD3.out.box
          have r0 := hr #[.int .i64 0, .bool false, .string ⟨#[]⟩] 0
          have r1 := hr #[.int .i64 0, .bool false, .string ⟨#[]⟩] 1
          have r2 := hr #[.int .i64 0, .bool false, .string ⟨#[]⟩] 2
          simp only [List.getElem?_toArray, List.getElem?_cons_zero, List.getElem?_cons_succ] at r0 r1 r2
          have R0 := Lib.hid r0
          have R1 := Lib.hid r1
          have R2 := Lib.hid r2
          clear r0 r1 r2 hr
          have f0 := HFR.out _ _ HD3.out.box 0
          have f1 := HFR.out _ _ HD3.out.box 1
          have f2 := HFR.out _ _ HD3.out.box 2
          have c0 : w3.cell? ⟨V, 0, none⟩ = some (.int .i64 0) := by rw [cell_of_row w3 V 0 _ _ _ HD3.out.box]; rfl
          have c1 : w3.cell? ⟨V, 1, none⟩ = some (.bool false) := by rw [cell_of_row w3 V 1 _ _ _ HD3.out.box]; rfl
          have c2 : w3.cell? ⟨V, 2, none⟩ = some (.string .empty) := by rw [cell_of_row w3 V 2 _ _ _ HD3.out.box]; rfl
          go_wp2_with fail
          rw [HE.out]
          rw [FS.out]
          refine bodyPost_ret (by simp [results, Try.results50, go_sem, R0.out, R1.out, R2.out]; try rfl) rfl ?_
          exact AuxAns.of HD3.out _ rfl rfl
        · have HE : Hid (X = (told ++ [x], (⟨x, decide (N4 / 2 % 2 = 1), nm⟩ : AuxD), 0)) := Lib.hid (by rw [HE1.out, if_neg hin])
          rw [if_neg hin, if_neg hin] at HTL
          clear HE1 hin
          have hand2 : bits .and .u64 (N4 : Int) 2 = ((N4 &&& 2 : Nat) : Int) := by
            rw [show (2 : Int) = ((2 : Nat) : Int) from rfl, u64_and_nat N4 _ (by omega) (by omega)]
          have hbit : (((N4 &&& 2 : Nat) : Int) != 0) = decide (N4 / 2 % 2 = 1) := and_two_bit N4
          have HBIT := Lib.hid hbit
          clear hbit
          generalize (N4 &&& 2) = q at *
          go_wp2_with fail
          refine HTL.out.mono ?_
          rintro e w3 ⟨rfl, hk3, hm3⟩
          have HD3 := Lib.hid (HD2.out.on hk3 hm3)
          clear hk3 hm3 HTL
          rw [errV0x]
          have FS := Lib.hid (three_stores HD3.out.box (.int .i64 (x : Int)) (.bool ((q : Int) != 0)) (.string nm))
          have hr := fun (cs : Array Value) (j : Nat) => cell_setRow_same w3 V j _ cs _ _ HD3.out.box
          have r0 := hr #[.int .i64 (x : Int), .bool ((q : Int) != 0), .string nm] 0
          have r1 := hr #[.int .i64 (x : Int), .bool ((q : Int) != 0), .string nm] 1
          have r2 := hr #[.int .i64 (x : Int), .bool ((q : Int) != 0), .string nm] 2
          simp only [List.getElem?_toArray, List.getElem?_cons_zero, List.getElem?_cons_succ] at r0 r1 r2
          have R0 := Lib.hid r0
          have R1 := Lib.hid r1
          have R2 := Lib.hid r2
          clear r0 r1 r2 hr
          have f0 := HFR.out _ _ HD3.out.box 0
          have f1 := HFR.out _ _ HD3.out.box 1
          have f2 := HFR.out _ _ HD3.out.box 2
          have c0 : w3.cell? ⟨V, 0, none⟩ = some (.int .i64 0) := by rw [cell_of_row w3 V 0 _ _ _ HD3.out.box]; rfl
          have c1 : w3.cell? ⟨V, 1, none⟩ = some (.bool false) := by rw [cell_of_row w3 V 1 _ _ _ HD3.out.box]; rfl
          have c2 : w3.cell? ⟨V, 2, none⟩ = some (.string .empty) := by rw [cell_of_row w3 V 2 _ _ _ HD3.out.box]; rfl
          go_wp2_with (go_at_call 36; refine (P4.out _ HD3.out.row _).mono ?_; rintro e w' ⟨rfl, rfl⟩)
          rw [HE.out]
          rw [FS.out]
          refine bodyPost_ret (by simp [results, Try.results50, go_sem, R0.out, R1.out, R2.out]; try rfl) rfl ?_
          exact AuxAns.of HD3.out _ (by rw [HBIT.out]; rfl) rfl
    · have hne : ((S : Int) != (N0 : Int)) = true := by
        rw [bne_iff_ne]; omega
      have HE : Hid (X = (told, .zero, 3)) := Lib.hid (by rw [HE0.out, if_pos (.inl hS)])
      clear hS
      go_wp2_with (go_at_call 36; refine (P6.out _ HD1.out.row _).mono ?_; rintro e w' ⟨rfl, rfl⟩)
      go_quiet (first | (go_at_call 13; exact Calls.quiet_of_same ((HSY.out _).mono (by rintro e w' ⟨rfl, rfl⟩; exact ⟨rfl, rfl⟩))) | (go_at_call 36; exact Calls.quiet_of_same ((P0.out _ (HD1.out.below (below_drewN (Below.refl _ _) _)).row _).mono (by rintro e w' ⟨rfl, rfl⟩; exact ⟨rfl, rfl⟩))))
      have HD2 := Lib.hid (HD1.out.below (below_drewN (Below.refl _ _) nq))
      generalize wd.drewN nq = w2 at *
      have FS := Lib.hid (three_stores HD2.out.box (.int .i64 0) (.bool false) (.string ⟨#[]⟩))
      have hr := fun (cs : Array Value) (j : Nat) => cell_setRow_same w2 V j _ cs _ _ HD2.out.box
      have r0 := hr #[.int .i64 0, .bool false, .string ⟨#[]⟩] 0
      have r1 := hr #[.int .i64 0, .bool false, .string ⟨#[]⟩] 1
      have r2 := hr #[.int .i64 0, .bool false, .string ⟨#[]⟩] 2
      simp only [List.getElem?_toArray, List.getElem?_cons_zero, List.getElem?_cons_succ] at r0 r1 r2
      have R0 := Lib.hid r0
      have R1 := Lib.hid r1
      have R2 := Lib.hid r2
      clear r0 r1 r2 hr
      have f0 := HFR.out _ _ HD2.out.box 0
      have f1 := HFR.out _ _ HD2.out.box 1
      have f2 := HFR.out _ _ HD2.out.box 2
      have c0 : w2.cell? ⟨V, 0, none⟩ = some (.int .i64 0) := by rw [cell_of_row w2 V 0 _ _ _ HD2.out.box]; rfl
      have c1 : w2.cell? ⟨V, 1, none⟩ = some (.bool false) := by rw [cell_of_row w2 V 1 _ _ _ HD2.out.box]; rfl
      have c2 : w2.cell? ⟨V, 2, none⟩ = some (.string .empty) := by rw [cell_of_row w2 V 2 _ _ _ HD2.out.box]; rfl
      go_wp2_with fail
      rw [HE.out]
      rw [FS.out]
      refine bodyPost_ret (by simp [results, Try.results50, go_sem, R0.out, R1.out, R2.out]; try rfl) rfl ?_
      exact AuxAns.of HD2.out _ rfl rfl
  · have HE : Hid (X = (told, .zero, tc)) := Lib.hid (by rw [← HX.out, if_pos htc])
    rw [errVp (by omega)]
    have FS := Lib.hid (three_stores HD1.out.box (.int .i64 0) (.bool false) (.string ⟨#[]⟩))
    have hr := fun (cs : Array Value) (j : Nat) => cell_setRow_same wd V j _ cs _ _ HD1.out.box
    have r0 := hr #[.int .i64 0, .bool false, .string ⟨#[]⟩] 0
    have r1 := hr #[.int .i64 0, .bool false, .string ⟨#[]⟩] 1
    have r2 := hr #[.int .i64 0, .bool false, .string ⟨#[]⟩] 2
    simp only [List.getElem?_toArray, List.getElem?_cons_zero, List.getElem?_cons_succ] at r0 r1 r2
    have R0 := Lib.hid r0
    have R1 := Lib.hid r1
    have R2 := Lib.hid r2
    clear r0 r1 r2 hr
    have f0 := HFR.out _ _ HD1.out.box 0
    have f1 := HFR.out _ _ HD1.out.box 1
    have f2 := HFR.out _ _ HD1.out.box 2
    have c0 : wd.cell? ⟨V, 0, none⟩ = some (.int .i64 0) := by rw [cell_of_row wd V 0 _ _ _ HD1.out.box]; rfl
    have c1 : wd.cell? ⟨V, 1, none⟩ = some (.bool false) := by rw [cell_of_row wd V 1 _ _ _ HD1.out.box]; rfl
    have c2 : wd.cell? ⟨V, 2, none⟩ = some (.string .empty) := by rw [cell_of_row wd V 2 _ _ _ HD1.out.box]; rfl
    go_wp2_with fail
    rw [HE.out]
    rw [FS.out]
    refine bodyPost_ret (by simp [results, Try.results50, go_sem, R0.out, R1.out, R2.out]; try rfl) rfl ?_
    exact AuxAns.of HD1.out _ rfl (errVp (by omega)).symm
end Go.Proofs.Ytikpkblemegggaa
