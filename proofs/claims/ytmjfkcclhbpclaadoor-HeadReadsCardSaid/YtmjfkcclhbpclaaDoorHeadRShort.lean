/- Layer 4: the document's own test of a header's numbers. -/
import Derived.Test.YtmjfkcclhbpclaaDoorHeadRPow
import Derived.Test.YtmjfkcclhbpclaaDoorHeadF
import Derived.Test.YtmjfkcclhbpclaaDoorHeadRPff
import Derived.Test.YtmjfkcclhbpclaaDoorHeadRPft
import Derived.Test.YtmjfkcclhbpclaaDoorHeadRPtf
import Derived.Test.YtmjfkcclhbpclaaDoorHeadRPtt
import Derived.WalkSmall
namespace Go.Proofs.YtmjfkcclhbpclaaDoor
open Go.RowKit
set_option linter.unusedVariables false
set_option linter.unusedSimpArgs false
set_option maxRecDepth 100000

def rfixC : List Value := [.int .u64 0, .int .i64 1, .int .u64 127, .int .u64 1, .int .i64 1, .int .u64 69, .int .u64 2, .int .i64 1, .int .u64 76, .int .u64 3, .int .i64 1, .int .u64 70, .int .u64 4, .int .i64 1, .int .u64 2, .int .u64 5, .int .i64 1, .int .u64 1, .int .u64 6, .int .i64 1, .int .u64 1, .int .u64 18, .int .i64 2, .int .u64 62, .int .u64 20, .int .i64 4, .int .u64 1, .int .u64 52, .int .i64 2, .int .u64 64, .int .u64 54, .int .i64 2, .int .u64 56]
def jj (k : Nat) : Nat := if k ≤ 7 then k else k + 2
def bcon (bs : List Nat) (k : Nat) : Option (Nat × Nat) := constF bs (fixedF.drop (jj k))
def begF (bs : List Nat) : Option (Nat × Nat) := if bs.length < 64 then some (bs.length, 4) else constF bs fixedF
theorem rb_all (bs : List Nat) (k : Nat) (hk : k < 11) : ∃ o n x : Nat, wide n = true ∧ wide n = true ∧ o < 64 ∧ x < 256 ∧ ((o : Int) == 18) = decide (k = 7) ∧ rfixC[k * 3]? = some (.int .u64 (o : Int)) ∧ rfixC[k * 3 + 1]? = some (.int .i64 (n : Int)) ∧ rfixC[k * 3 + 2]? = some (.int .u64 (x : Int)) ∧ (k ≠ 7 → bcon bs k = if numF bs o n = x then bcon bs (k + 1) else some (o, 3)) ∧ (k = 7 → bcon bs k = if numF bs 7 1 = 0 ∨ numF bs 7 1 = 3 then (if numF bs 16 2 = 2 ∨ numF bs 16 2 = 3 then (if numF bs o n = x then bcon bs (k + 1) else some (o, 3)) else some (16, 3)) else some (7, 3)) := by
  rcases (show k = 0 ∨ k = 1 ∨ k = 2 ∨ k = 3 ∨ k = 4 ∨ k = 5 ∨ k = 6 ∨ k = 7 ∨ k = 8 ∨ k = 9 ∨ k = 10 by omega) with rfl | rfl | rfl | rfl | rfl | rfl | rfl | rfl | rfl | rfl | rfl
  · refine ⟨0, 1, 127, by decide, by decide, by decide, by decide, by decide, rfl, rfl, rfl, ?_, ?_⟩
    · intro h; simp [bcon, constF, fixedF, jj]
    · intro h; omega
  · refine ⟨1, 1, 69, by decide, by decide, by decide, by decide, by decide, rfl, rfl, rfl, ?_, ?_⟩
    · intro h; simp [bcon, constF, fixedF, jj]
    · intro h; omega
  · refine ⟨2, 1, 76, by decide, by decide, by decide, by decide, by decide, rfl, rfl, rfl, ?_, ?_⟩
    · intro h; simp [bcon, constF, fixedF, jj]
    · intro h; omega
  · refine ⟨3, 1, 70, by decide, by decide, by decide, by decide, by decide, rfl, rfl, rfl, ?_, ?_⟩
    · intro h; simp [bcon, constF, fixedF, jj]
    · intro h; omega
  · refine ⟨4, 1, 2, by decide, by decide, by decide, by decide, by decide, rfl, rfl, rfl, ?_, ?_⟩
    · intro h; simp [bcon, constF, fixedF, jj]
    · intro h; omega
  · refine ⟨5, 1, 1, by decide, by decide, by decide, by decide, by decide, rfl, rfl, rfl, ?_, ?_⟩
    · intro h; simp [bcon, constF, fixedF, jj]
    · intro h; omega
  · refine ⟨6, 1, 1, by decide, by decide, by decide, by decide, by decide, rfl, rfl, rfl, ?_, ?_⟩
    · intro h; simp [bcon, constF, fixedF, jj]
    · intro h; omega
  · refine ⟨18, 2, 62, by decide, by decide, by decide, by decide, by decide, rfl, rfl, rfl, ?_, ?_⟩
    · intro h; exact absurd rfl h
    · intro h; simp [bcon, constF, fixedF, jj]
  · refine ⟨20, 4, 1, by decide, by decide, by decide, by decide, by decide, rfl, rfl, rfl, ?_, ?_⟩
    · intro h; simp [bcon, constF, fixedF, jj]
    · intro h; omega
  · refine ⟨52, 2, 64, by decide, by decide, by decide, by decide, by decide, rfl, rfl, rfl, ?_, ?_⟩
    · intro h; simp [bcon, constF, fixedF, jj]
    · intro h; omega
  · refine ⟨54, 2, 56, by decide, by decide, by decide, by decide, by decide, rfl, rfl, rfl, ?_, ?_⟩
    · intro h; simp [bcon, constF, fixedF, jj]
    · intro h; omega
set_option maxHeartbeats 8000000 in
theorem rfixed_any (w : World) : Calls Tryd.prog 59 #[] w fun e w' => e = .returned (.slice (some ⟨w.heap.size, 0, none⟩) 11 11) ∧ w.alloc (.cells rfixC.toArray 112) = w' := by
  go_enter Tryd.func59, Tryd.ntmps59
  go_wp2_with fail
  go_ret
  exact ⟨rfl, rfl⟩
def badOB : Option (Nat × Nat) → Value
  | none => badV none
  | some x => badV (some (.spot x.1 x.2))
def RBegPost (bs : List Nat) (w : World) (e : Ending) (w' : World) : Prop := e = .returned (badOB (begF bs)) ∧ Below w.heap.size w w'
set_option maxHeartbeats 32000000 in
theorem rbegins_any (a : Option Addr) (m cap : Nat) (bs : List Nat) (w : World) (h : BAny w a m cap bs) :
    Calls Tryd.prog 40 #[.slice a m cap] w (RBegPost bs w) := by
  have HPF : Hid (∀ (c at_ : Nat) w', begF bs = some (at_, c) → Below w.heap.size w w' → RBegPost bs w (.returned (.agg #[.int .i64 (c : Int), .bool true, .int .u64 (at_ : Int)])) w') := Lib.hid (fun c k w' e hb => ⟨by rw [e]; rfl, hb⟩)
  have HPN : Hid (∀ w', begF bs = none → Below w.heap.size w w' → RBegPost bs w (.returned (.agg #[.int .i64 0, .bool false, .int .u64 0])) w') := Lib.hid (fun w' e hb => ⟨by rw [e]; rfl, hb⟩)
  generalize RBegPost bs w = P at *
  have HAT : Hid (∀ (c k : Nat) (wx : World), Calls Tryd.prog 32 #[.int .i64 (c : Int), .int .u64 (k : Int)] wx fun e w' => e = .returned (.agg #[.int .i64 (c : Int), .bool true, .int .u64 (k : Int)]) ∧ Below wx.heap.size wx w') := Lib.hid (fun c k wx => rat_any (c : Int) k wx)
  have HNM : Hid (∀ (o n : Nat) wx, o < 64 → wide n = true → Below w.heap.size w wx → Calls Tryd.prog 38 #[.slice a m cap, .int .u64 (o : Int), .int .i64 (n : Int)] wx fun e w' => e = .returned (.int .u64 (numF bs o n : Int)) ∧ Below wx.heap.size wx w') := Lib.hid (fun o n wx ho hn hb => rnum_any a m cap o n bs wx (h.below hb) (by omega) hn)
  have hmw : IntKind.u64.wrap (m : Int) = (m : Int) := by have := h.most; rw [IntKind.wrap_u64]; omega
  have hm := h.len
  have hml : (m : Int) ≤ 140737488351232 := by have := h.most; omega
  obtain ⟨w1, hw1⟩ : ∃ w1, w.alloc (.cells #[.int .i64 0, .bool false, .int .u64 0] 43) = w1 := ⟨_, rfl⟩
  obtain ⟨rbk, hrbk⟩ : ∃ rbk, w.heap.size = rbk := ⟨_, rfl⟩
  have Bw1 : Hid (Below w.heap.size w w1) := Lib.hid (by rw [← hw1]; exact ballo (Below.refl _ _) _)
  have Rw1 : Hid (w1.heap[rbk]? = some (.cells #[.int .i64 0, .bool false, .int .u64 0] 43)) := Lib.hid (by rw [← hw1, ← hrbk]; exact heap_alloc_new _ _)
  have HRB : Hid (w.heap.size ≤ rbk) := Lib.hid (by omega)
  clear h
  by_cases h64 : m < 64
  · have t64 : decide ((m : Int) < 64) = true := decide_eq_true (by omega)
    have HB4 : Hid (begF bs = some (m, 4)) := Lib.hid (by unfold begF; rw [if_pos (by omega), hm])
    clear hm h64
    go_enter Tryd.func40, Tryd.ntmps40
    have HE : Hid (begF bs = some (m, 4)) := Lib.hid (by
      exact HB4.out)
    go_wp2_with fail
    refine (HAT.out 4 m w1).mono ?_
    rintro e6 w6 ⟨rfl, hb6⟩
    have R6 := Lib.hid ((hb6.block _ (lt_of_block Rw1.out)).trans Rw1.out)
    have B6 := Lib.hid (bstep Bw1.out hb6)
    have g0 : w6.cell? ⟨rbk, 0, none⟩ = some (.int .i64 0) := by rw [cell_of_row _ _ 0 _ _ _ R6.out]; rfl
    have g1 : w6.cell? ⟨rbk, 1, none⟩ = some (.bool false) := by rw [cell_of_row _ _ 1 _ _ _ R6.out]; rfl
    have g2 : w6.cell? ⟨rbk, 2, none⟩ = some (.int .u64 0) := by rw [cell_of_row _ _ 2 _ _ _ R6.out]; rfl
    have f0 : w6.frozen? ⟨rbk, 0, none⟩ = false := frozen_of_row _ _ _ _ _ R6.out
    have f1 : w6.frozen? ⟨rbk, 1, none⟩ = false := frozen_of_row _ _ _ _ _ R6.out
    have f2 : w6.frozen? ⟨rbk, 2, none⟩ = false := frozen_of_row _ _ _ _ _ R6.out
    obtain ⟨wf, hwf, z0, z1, z2, ez⟩ := set3_cells R6.out (.int .i64 4) (.bool true) (.int .u64 ((m : Nat) : Int))
    have BF : Hid (Below w.heap.size w wf) := Lib.hid (by rw [← ez]; exact below_set3 B6.out HRB.out _ _ _)
    clear ez hb6
    go_wp2_with fail
    refine bodyPost_ret (by simp [results, Tryd.results40, go_sem, z0, z1, z2]; try rfl) rfl ?_
    exact HPF.out 4 m wf HE.out BF.out
  · have t64 : decide ((m : Int) < 64) = false := decide_eq_false (by omega)
    have HG0 : Hid (bcon bs 0 = begF bs) := Lib.hid (by unfold begF; rw [if_neg (by omega)]; rfl)
    clear hm h64
    have HFX := Lib.hid (rfixed_any w1)
    go_enter Tryd.func40, Tryd.ntmps40
    go_wp2_with fail
    refine HFX.out.mono ?_
    rintro e2 w2 ⟨rfl, hw2⟩
    obtain ⟨lb, hlb⟩ : ∃ lb, w1.heap.size = lb := ⟨_, rfl⟩
    have b2 : Below w1.heap.size w1 w2 := by rw [← hw2]; exact ballo (Below.refl _ _) _
    have Bw2 := Lib.hid (bstep Bw1.out b2)
    have Rw2 := Lib.hid ((b2.block _ (lt_of_block Rw1.out)).trans Rw1.out)
    have Lw2 : Hid (w2.heap[lb]? = some (.cells rfixC.toArray 112)) := Lib.hid (by rw [← hw2, ← hlb]; exact heap_alloc_new _ _)
    rw [hlb]
    clear hw1 hw2 hrbk hlb b2 HFX
    go_wp2_with fail
    go_loopg [4] 11 (fun g iv wr => ∃ k : Nat, k + g = 11 ∧ iv = .int .i64 (k : Int) ∧ Hid (bcon bs k = begF bs) ∧ Hid (Below w.heap.size w wr) ∧ Hid (wr.heap[lb]? = some (.cells rfixC.toArray 112)) ∧ Hid (wr.heap[rbk]? = some (.cells #[.int .i64 0, .bool false, .int .u64 0] 43)))
    case atStart => exact ⟨0, by omega, rfl, HG0, Bw2, Lw2, Rw2⟩
    case round =>
      obtain ⟨k, hk, rfl, HG, Bwr, Lwr, Rwr⟩ := hrel
      cases gk with
      | zero =>
        obtain rfl : k = 11 := by omega
        clear hk
        have HE : Hid (begF bs = none) := Lib.hid (by rw [← HG.out]; rfl)
        have g0 : wr.cell? ⟨rbk, 0, none⟩ = some (.int .i64 0) := by rw [cell_of_row _ _ 0 _ _ _ Rwr.out]; rfl
        have g1 : wr.cell? ⟨rbk, 1, none⟩ = some (.bool false) := by rw [cell_of_row _ _ 1 _ _ _ Rwr.out]; rfl
        have g2 : wr.cell? ⟨rbk, 2, none⟩ = some (.int .u64 0) := by rw [cell_of_row _ _ 2 _ _ _ Rwr.out]; rfl
        have f0 : wr.frozen? ⟨rbk, 0, none⟩ = false := frozen_of_row _ _ _ _ _ Rwr.out
        have f1 : wr.frozen? ⟨rbk, 1, none⟩ = false := frozen_of_row _ _ _ _ _ Rwr.out
        have f2 : wr.frozen? ⟨rbk, 2, none⟩ = false := frozen_of_row _ _ _ _ _ Rwr.out
        obtain ⟨wf, hwf, z0, z1, z2, ez⟩ := set3_cells Rwr.out (.int .i64 0) (.bool false) (.int .u64 0)
        have BF : Hid (Below w.heap.size w wf) := Lib.hid (by rw [← ez]; exact below_set3 Bwr.out HRB.out _ _ _)
        clear ez
        go_wp2_with fail
        refine bodyPost_ret (by simp [results, Tryd.results40, go_sem, z0, z1, z2]; try rfl) rfl ?_
        exact HPN.out wf HE.out BF.out
      | succ g =>
        have hk11 : k < 11 := by omega
        obtain ⟨o, n, x, hwn, -, ho, hx, h18, e0, e1, e2, hs, hs7⟩ := rb_all bs k hk11
        have HK := Lib.hid hk
        have KS : Hid (∀ wx : World, wx.heap[lb]? = some (.cells rfixC.toArray 112) → wx.cell? ⟨lb, k * 3, none⟩ = some (.int .u64 (o : Int)) ∧ wx.cell? ⟨lb, k * 3 + 1, none⟩ = some (.int .i64 (n : Int)) ∧ wx.cell? ⟨lb, k * 3 + 2, none⟩ = some (.int .u64 (x : Int))) := Lib.hid (fun wx hx => ⟨by rw [cell_of_row _ _ _ _ _ _ hx]; simpa using e0, by rw [cell_of_row _ _ _ _ _ _ hx]; simpa using e1, by rw [cell_of_row _ _ _ _ _ _ hx]; simpa using e2⟩)
        have HNU : Hid (∀ wx, Below w.heap.size w wx → Calls Tryd.prog 38 #[.slice a m cap, .int .u64 (o : Int), .int .i64 (n : Int)] wx fun e w' => e = .returned (.int .u64 (numF bs o n : Int)) ∧ Below wx.heap.size wx w') := Lib.hid (fun wx hb => HNM.out o n wx ho hwn hb)
        have HS := Lib.hid hs
        have HS7 := Lib.hid hs7
        obtain ⟨V, hV⟩ : ∃ V, numF bs o n = V := ⟨_, rfl⟩
        rw [hV] at HNU HS HS7
        have c0 : wr.cell? ⟨lb, k * 3, none⟩ = some (.int .u64 (o : Int)) := (KS.out wr Lwr.out).1
        have i0 : (0 : Int) ≤ (k : Int) := by omega
        have i1 : (k : Int) < 11 := by omega
        have tk : decide ((k : Int) < 11) = true := decide_eq_true i1
        by_cases hk7 : k = 7
        · have t18 : ((o : Int) == 18) = true := by rw [h18]; exact decide_eq_true hk7
          have HS8 := Lib.hid (HS7.out hk7)
          have HA := Lib.hid (HNM.out 7 1 wr (by omega) (by decide) Bwr.out)
          obtain ⟨A, hA⟩ : ∃ A, numF bs 7 1 = A := ⟨_, rfl⟩
          obtain ⟨C, hC⟩ : ∃ C, numF bs 16 2 = C := ⟨_, rfl⟩
          rw [hA] at HA HS8
          rw [hC] at HS8
          have HC : Hid (∀ wx, Below w.heap.size w wx → Calls Tryd.prog 38 #[.slice a m cap, .int .u64 16, .int .i64 2] wx fun e w' => e = .returned (.int .u64 (C : Int)) ∧ Below wx.heap.size wx w') := Lib.hid (fun wx hb => by rw [← hC]; exact HNM.out 16 2 wx (by omega) (by decide) hb)
          clear hs hs7 h18 e0 e1 e2 hk hV hA hC HS HS7 ho hx hwn hk11 hk7
          go_wp2_with fail
          refine HA.out.mono ?_
          rintro e3 w3 ⟨rfl, b3⟩
          have Bw3 := Lib.hid (bstep Bwr.out b3)
          have Lw3 := Lib.hid ((b3.block _ (lt_of_block Lwr.out)).trans Lwr.out)
          have Rw3 := Lib.hid ((b3.block _ (lt_of_block Rwr.out)).trans Rwr.out)
          clear b3 c0
          go_wp2_with fail
          refine (HC.out w3 Bw3.out).mono ?_
          rintro e4 w4 ⟨rfl, b4⟩
          have Bw4 := Lib.hid (bstep Bw3.out b4)
          have Lw4 := Lib.hid ((b4.block _ (lt_of_block Lw3.out)).trans Lw3.out)
          have Rw4 := Lib.hid ((b4.block _ (lt_of_block Rw3.out)).trans Rw3.out)
          clear b4
          by_cases hA0 : A = 0 ∨ A = 3
          · have hA' : (((A : Int) != 0) = false) ∨ (((A : Int) != 0) = true ∧ ((A : Int) != 3) = false) := by
              rcases hA0 with h | h
              · exact .inl (by rw [h]; rfl)
              · exact .inr ⟨by rw [h]; rfl, by rw [h]; rfl⟩
            by_cases hC0 : C = 2 ∨ C = 3
            · have hC' : (((C : Int) != 2) = false) ∨ (((C : Int) != 2) = true ∧ ((C : Int) != 3) = false) := by
                rcases hC0 with h | h
                · exact .inl (by rw [h]; rfl)
                · exact .inr ⟨by rw [h]; rfl, by rw [h]; rfl⟩
              have HS9 := Lib.hid (HS8.out.trans (by rw [if_pos hA0, if_pos hC0]))
              clear hA0 hC0
              rcases hA' with ta | ⟨ta, tb⟩
              all_goals
                rcases hC' with tc | ⟨tc, td⟩
                all_goals
                  by_cases hv : V = x
                  · have tv : ((V : Int) != (x : Int)) = false := by rw [hv]; simp
                    have HG2 : Hid (bcon bs (k + 1) = begF bs) := Lib.hid (by
                      rw [← HG.out, HS9.out, if_pos hv])
                    clear hv
                    go_wp2_with fail
                    refine wp_region_held_drew (S := fun wx => wx.heap[lb]? = some (.cells rfixC.toArray 112)) (by kernel_rfl) Lw4.out (fun hHeld => ?_)
                    first
                      | (refine wpAnyH_take (i := 0) (v := ?_) rfl (by kernel_rfl) (by kernel_rfl) (by kernel_rfl) (fun _ _ _ h => h) (Or.inl ⟨by rfl, ?_⟩) (by assumption) ?_
                         rotate_left
                         · intro wx hSw
                           obtain ⟨s0, s1, s2⟩ := KS.out wx hSw
                           (first | (go_simp; rfl) | go_simp | rfl))
                      | refine wpAnyH_take (i := 0) (v := undef) rfl (by kernel_rfl) (by kernel_rfl) (by kernel_rfl) (fun _ _ _ h => h) (Or.inr ⟨by rfl, rfl⟩) (by assumption) ?_
                    try simp only [List.getElem_toArray, List.getElem_cons_zero, List.getElem_cons_succ, Act.put, List.setIfInBounds_toArray, List.set_cons_zero, List.set_cons_succ, Array.toArray_toList]
                    first
                      | (refine wpAnyH_take (i := 1) (v := ?_) rfl (by kernel_rfl) (by kernel_rfl) (by kernel_rfl) (fun _ _ _ h => h) (Or.inl ⟨by rfl, ?_⟩) (by assumption) ?_
                         rotate_left
                         · intro wx hSw
                           obtain ⟨s0, s1, s2⟩ := KS.out wx hSw
                           (first | (go_simp; rfl) | go_simp | rfl))
                      | refine wpAnyH_take (i := 1) (v := undef) rfl (by kernel_rfl) (by kernel_rfl) (by kernel_rfl) (fun _ _ _ h => h) (Or.inr ⟨by rfl, rfl⟩) (by assumption) ?_
                    try simp only [List.getElem_toArray, List.getElem_cons_zero, List.getElem_cons_succ, Act.put, List.setIfInBounds_toArray, List.set_cons_zero, List.set_cons_succ, Array.toArray_toList]
                    first
                      | (refine wpAnyH_take (i := 2) (v := ?_) rfl (by kernel_rfl) (by kernel_rfl) (by kernel_rfl) (fun _ _ _ h => h) (Or.inl ⟨by rfl, ?_⟩) (by assumption) ?_
                         rotate_left
                         · intro wx hSw
                           obtain ⟨s0, s1, s2⟩ := KS.out wx hSw
                           (first | (go_simp; rfl) | go_simp | rfl))
                      | refine wpAnyH_take (i := 2) (v := undef) rfl (by kernel_rfl) (by kernel_rfl) (by kernel_rfl) (fun _ _ _ h => h) (Or.inr ⟨by rfl, rfl⟩) (by assumption) ?_
                    try simp only [List.getElem_toArray, List.getElem_cons_zero, List.getElem_cons_succ, Act.put, List.setIfInBounds_toArray, List.set_cons_zero, List.set_cons_succ, Array.toArray_toList]
                    first
                      | (refine wpAnyH_take (i := 3) (v := ?_) rfl (by kernel_rfl) (by kernel_rfl) (by kernel_rfl) (fun _ _ _ h => h) (Or.inl ⟨by rfl, ?_⟩) (by assumption) ?_
                         rotate_left
                         · intro wx hSw
                           obtain ⟨s0, s1, s2⟩ := KS.out wx hSw
                           (first | (go_simp; rfl) | go_simp | rfl))
                      | refine wpAnyH_take (i := 3) (v := undef) rfl (by kernel_rfl) (by kernel_rfl) (by kernel_rfl) (fun _ _ _ h => h) (Or.inr ⟨by rfl, rfl⟩) (by assumption) ?_
                    try simp only [List.getElem_toArray, List.getElem_cons_zero, List.getElem_cons_succ, Act.put, List.setIfInBounds_toArray, List.set_cons_zero, List.set_cons_succ, Array.toArray_toList]
                    first
                      | (refine wpAnyH_take (i := 4) (v := ?_) rfl (by kernel_rfl) (by kernel_rfl) (by kernel_rfl) (fun _ _ _ h => h) (Or.inl ⟨by rfl, ?_⟩) (by assumption) ?_
                         rotate_left
                         · intro wx hSw
                           obtain ⟨s0, s1, s2⟩ := KS.out wx hSw
                           (first | (go_simp; rfl) | go_simp | rfl))
                      | refine wpAnyH_take (i := 4) (v := undef) rfl (by kernel_rfl) (by kernel_rfl) (by kernel_rfl) (fun _ _ _ h => h) (Or.inr ⟨by rfl, rfl⟩) (by assumption) ?_
                    try simp only [List.getElem_toArray, List.getElem_cons_zero, List.getElem_cons_succ, Act.put, List.setIfInBounds_toArray, List.set_cons_zero, List.set_cons_succ, Array.toArray_toList]
                    first
                      | (refine wpAnyH_take (i := 5) (v := ?_) rfl (by kernel_rfl) (by kernel_rfl) (by kernel_rfl) (fun _ _ _ h => h) (Or.inl ⟨by rfl, ?_⟩) (by assumption) ?_
                         rotate_left
                         · intro wx hSw
                           obtain ⟨s0, s1, s2⟩ := KS.out wx hSw
                           (first | (go_simp; rfl) | go_simp | rfl))
                      | refine wpAnyH_take (i := 5) (v := undef) rfl (by kernel_rfl) (by kernel_rfl) (by kernel_rfl) (fun _ _ _ h => h) (Or.inr ⟨by rfl, rfl⟩) (by assumption) ?_
                    try simp only [List.getElem_toArray, List.getElem_cons_zero, List.getElem_cons_succ, Act.put, List.setIfInBounds_toArray, List.set_cons_zero, List.set_cons_succ, Array.toArray_toList]
                    first
                      | (refine wpAnyH_take (i := 6) (v := ?_) rfl (by kernel_rfl) (by kernel_rfl) (by kernel_rfl) (fun _ _ _ h => h) (Or.inl ⟨by rfl, ?_⟩) (by assumption) ?_
                         rotate_left
                         · intro wx hSw
                           obtain ⟨s0, s1, s2⟩ := KS.out wx hSw
                           (first | (go_simp; rfl) | go_simp | rfl))
                      | refine wpAnyH_take (i := 6) (v := undef) rfl (by kernel_rfl) (by kernel_rfl) (by kernel_rfl) (fun _ _ _ h => h) (Or.inr ⟨by rfl, rfl⟩) (by assumption) ?_
                    try simp only [List.getElem_toArray, List.getElem_cons_zero, List.getElem_cons_succ, Act.put, List.setIfInBounds_toArray, List.set_cons_zero, List.set_cons_succ, Array.toArray_toList]
                    first
                      | (refine wpAnyH_take (i := 7) (v := ?_) rfl (by kernel_rfl) (by kernel_rfl) (by kernel_rfl) (fun _ _ _ h => h) (Or.inl ⟨by rfl, ?_⟩) (by assumption) ?_
                         rotate_left
                         · intro wx hSw
                           obtain ⟨s0, s1, s2⟩ := KS.out wx hSw
                           (first | (go_simp; rfl) | go_simp | rfl))
                      | refine wpAnyH_take (i := 7) (v := undef) rfl (by kernel_rfl) (by kernel_rfl) (by kernel_rfl) (fun _ _ _ h => h) (Or.inr ⟨by rfl, rfl⟩) (by assumption) ?_
                    try simp only [List.getElem_toArray, List.getElem_cons_zero, List.getElem_cons_succ, Act.put, List.setIfInBounds_toArray, List.set_cons_zero, List.set_cons_succ, Array.toArray_toList]
                    first
                      | (refine wpAnyH_take (i := 8) (v := ?_) rfl (by kernel_rfl) (by kernel_rfl) (by kernel_rfl) (fun _ _ _ h => h) (Or.inl ⟨by rfl, ?_⟩) (by assumption) ?_
                         rotate_left
                         · intro wx hSw
                           obtain ⟨s0, s1, s2⟩ := KS.out wx hSw
                           (first | (go_simp; rfl) | go_simp | rfl))
                      | refine wpAnyH_take (i := 8) (v := undef) rfl (by kernel_rfl) (by kernel_rfl) (by kernel_rfl) (fun _ _ _ h => h) (Or.inr ⟨by rfl, rfl⟩) (by assumption) ?_
                    try simp only [List.getElem_toArray, List.getElem_cons_zero, List.getElem_cons_succ, Act.put, List.setIfInBounds_toArray, List.set_cons_zero, List.set_cons_succ, Array.toArray_toList]
                    first
                      | (refine wpAnyH_take (i := 9) (v := ?_) rfl (by kernel_rfl) (by kernel_rfl) (by kernel_rfl) (fun _ _ _ h => h) (Or.inl ⟨by rfl, ?_⟩) (by assumption) ?_
                         rotate_left
                         · intro wx hSw
                           obtain ⟨s0, s1, s2⟩ := KS.out wx hSw
                           (first | (go_simp; rfl) | go_simp | rfl))
                      | refine wpAnyH_take (i := 9) (v := undef) rfl (by kernel_rfl) (by kernel_rfl) (by kernel_rfl) (fun _ _ _ h => h) (Or.inr ⟨by rfl, rfl⟩) (by assumption) ?_
                    try simp only [List.getElem_toArray, List.getElem_cons_zero, List.getElem_cons_succ, Act.put, List.setIfInBounds_toArray, List.set_cons_zero, List.set_cons_succ, Array.toArray_toList]
                    first
                      | (refine wpAnyH_take (i := 10) (v := ?_) rfl (by kernel_rfl) (by kernel_rfl) (by kernel_rfl) (fun _ _ _ h => h) (Or.inl ⟨by rfl, ?_⟩) (by assumption) ?_
                         rotate_left
                         · intro wx hSw
                           obtain ⟨s0, s1, s2⟩ := KS.out wx hSw
                           (first | (go_simp; rfl) | go_simp | rfl))
                      | refine wpAnyH_take (i := 10) (v := undef) rfl (by kernel_rfl) (by kernel_rfl) (by kernel_rfl) (fun _ _ _ h => h) (Or.inr ⟨by rfl, rfl⟩) (by assumption) ?_
                    try simp only [List.getElem_toArray, List.getElem_cons_zero, List.getElem_cons_succ, Act.put, List.setIfInBounds_toArray, List.set_cons_zero, List.set_cons_succ, Array.toArray_toList]
                    first
                      | (refine wpAnyH_take (i := 12) (v := ?_) rfl (by kernel_rfl) (by kernel_rfl) (by kernel_rfl) (fun _ _ _ h => h) (Or.inl ⟨by rfl, ?_⟩) (by assumption) ?_
                         rotate_left
                         · intro wx hSw
                           obtain ⟨s0, s1, s2⟩ := KS.out wx hSw
                           (first | (go_simp; rfl) | go_simp | rfl))
                      | refine wpAnyH_take (i := 12) (v := undef) rfl (by kernel_rfl) (by kernel_rfl) (by kernel_rfl) (fun _ _ _ h => h) (Or.inr ⟨by rfl, rfl⟩) (by assumption) ?_
                    try simp only [List.getElem_toArray, List.getElem_cons_zero, List.getElem_cons_succ, Act.put, List.setIfInBounds_toArray, List.set_cons_zero, List.set_cons_succ, Array.toArray_toList]
                    first
                      | (refine wpAnyH_take (i := 13) (v := ?_) rfl (by kernel_rfl) (by kernel_rfl) (by kernel_rfl) (fun _ _ _ h => h) (Or.inl ⟨by rfl, ?_⟩) (by assumption) ?_
                         rotate_left
                         · intro wx hSw
                           obtain ⟨s0, s1, s2⟩ := KS.out wx hSw
                           (first | (go_simp; rfl) | go_simp | rfl))
                      | refine wpAnyH_take (i := 13) (v := undef) rfl (by kernel_rfl) (by kernel_rfl) (by kernel_rfl) (fun _ _ _ h => h) (Or.inr ⟨by rfl, rfl⟩) (by assumption) ?_
                    try simp only [List.getElem_toArray, List.getElem_cons_zero, List.getElem_cons_succ, Act.put, List.setIfInBounds_toArray, List.set_cons_zero, List.set_cons_succ, Array.toArray_toList]
                    first
                      | (refine wpAnyH_take (i := 14) (v := ?_) rfl (by kernel_rfl) (by kernel_rfl) (by kernel_rfl) (fun _ _ _ h => h) (Or.inl ⟨by rfl, ?_⟩) (by assumption) ?_
                         rotate_left
                         · intro wx hSw
                           obtain ⟨s0, s1, s2⟩ := KS.out wx hSw
                           (first | (go_simp; rfl) | go_simp | rfl))
                      | refine wpAnyH_take (i := 14) (v := undef) rfl (by kernel_rfl) (by kernel_rfl) (by kernel_rfl) (fun _ _ _ h => h) (Or.inr ⟨by rfl, rfl⟩) (by assumption) ?_
                    try simp only [List.getElem_toArray, List.getElem_cons_zero, List.getElem_cons_succ, Act.put, List.setIfInBounds_toArray, List.set_cons_zero, List.set_cons_succ, Array.toArray_toList]
                    first
                      | (refine wpAnyH_take (i := 15) (v := ?_) rfl (by kernel_rfl) (by kernel_rfl) (by kernel_rfl) (fun _ _ _ h => h) (Or.inl ⟨by rfl, ?_⟩) (by assumption) ?_
                         rotate_left
                         · intro wx hSw
                           obtain ⟨s0, s1, s2⟩ := KS.out wx hSw
                           (first | (go_simp; rfl) | go_simp | rfl))
                      | refine wpAnyH_take (i := 15) (v := undef) rfl (by kernel_rfl) (by kernel_rfl) (by kernel_rfl) (fun _ _ _ h => h) (Or.inr ⟨by rfl, rfl⟩) (by assumption) ?_
                    try simp only [List.getElem_toArray, List.getElem_cons_zero, List.getElem_cons_succ, Act.put, List.setIfInBounds_toArray, List.set_cons_zero, List.set_cons_succ, Array.toArray_toList]
                    first
                      | (refine wpAnyH_take (i := 16) (v := ?_) rfl (by kernel_rfl) (by kernel_rfl) (by kernel_rfl) (fun _ _ _ h => h) (Or.inl ⟨by rfl, ?_⟩) (by assumption) ?_
                         rotate_left
                         · intro wx hSw
                           obtain ⟨s0, s1, s2⟩ := KS.out wx hSw
                           (first | (go_simp; rfl) | go_simp | rfl))
                      | refine wpAnyH_take (i := 16) (v := undef) rfl (by kernel_rfl) (by kernel_rfl) (by kernel_rfl) (fun _ _ _ h => h) (Or.inr ⟨by rfl, rfl⟩) (by assumption) ?_
                    try simp only [List.getElem_toArray, List.getElem_cons_zero, List.getElem_cons_succ, Act.put, List.setIfInBounds_toArray, List.set_cons_zero, List.set_cons_succ, Array.toArray_toList]
                    refine wpAnyH_ready (rs := [11]) (by kernel_rfl) (by simp) ?_
                    refine AllReadyH.cons rfl (fun K hK => ?_) AllReadyH.nil
                    go_simp
                    refine (HNU.out _ (by (repeat (first | exact Bw4.out | refine bdrew ?_)))).mono ?_
                    rintro e5 w5 ⟨rfl, b5⟩
                    have bb5 : Below (w4).heap.size (w4) w5 := (bdrew (Below.refl _ _)).trans b5
                    have Bw5 := Lib.hid (bstep Bw4.out bb5)
                    have Lw5 := Lib.hid ((bb5.block _ (lt_of_block Lw4.out)).trans Lw4.out)
                    have Rw5 := Lib.hid ((bb5.block _ (lt_of_block Rw4.out)).trans Rw4.out)
                    clear b5 bb5
                    try go_simp
                    refine hK.out _ _ Lw5.out (fun hHeld => ?_)
                    clear hK K
                    try simp only [List.getElem_toArray, List.getElem_cons_zero, List.getElem_cons_succ, Act.put, List.setIfInBounds_toArray, List.set_cons_zero, List.set_cons_succ, Array.toArray_toList]
                    first
                      | (refine wpAnyH_take (i := 17) (v := ?_) rfl (by kernel_rfl) (by kernel_rfl) (by kernel_rfl) (fun _ _ _ h => h) (Or.inl ⟨by rfl, ?_⟩) (by assumption) ?_
                         rotate_left
                         · intro wx hSw
                           obtain ⟨s0, s1, s2⟩ := KS.out wx hSw
                           (first | (go_simp; rfl) | go_simp | rfl))
                      | refine wpAnyH_take (i := 17) (v := undef) rfl (by kernel_rfl) (by kernel_rfl) (by kernel_rfl) (fun _ _ _ h => h) (Or.inr ⟨by rfl, rfl⟩) (by assumption) ?_
                    try simp only [List.getElem_toArray, List.getElem_cons_zero, List.getElem_cons_succ, Act.put, List.setIfInBounds_toArray, List.set_cons_zero, List.set_cons_succ, Array.toArray_toList]
                    refine wpAnyH_done (by kernel_rfl) ?_ _
                    clear hHeld
                    go_wp2_with fail
                    go_roundg g
                    case measure => have := HK.out; omega
                    case rel => exact ⟨k + 1, by have := HK.out; omega, by go_num, HG2, Bw5, Lw5, Rw5⟩
                  · have tv : ((V : Int) != (x : Int)) = true := by rw [bne_iff_ne]; omega
                    have HBAD : Hid (begF bs = some (o, 3)) := Lib.hid (by
                      rw [← HG.out, HS9.out, if_neg hv])
                    clear hv
                    go_wp2_with fail
                    refine wp_region_held_drew (S := fun wx => wx.heap[lb]? = some (.cells rfixC.toArray 112)) (by kernel_rfl) Lw4.out (fun hHeld => ?_)
                    first
                      | (refine wpAnyH_take (i := 0) (v := ?_) rfl (by kernel_rfl) (by kernel_rfl) (by kernel_rfl) (fun _ _ _ h => h) (Or.inl ⟨by rfl, ?_⟩) (by assumption) ?_
                         rotate_left
                         · intro wx hSw
                           obtain ⟨s0, s1, s2⟩ := KS.out wx hSw
                           (first | (go_simp; rfl) | go_simp | rfl))
                      | refine wpAnyH_take (i := 0) (v := undef) rfl (by kernel_rfl) (by kernel_rfl) (by kernel_rfl) (fun _ _ _ h => h) (Or.inr ⟨by rfl, rfl⟩) (by assumption) ?_
                    try simp only [List.getElem_toArray, List.getElem_cons_zero, List.getElem_cons_succ, Act.put, List.setIfInBounds_toArray, List.set_cons_zero, List.set_cons_succ, Array.toArray_toList]
                    first
                      | (refine wpAnyH_take (i := 1) (v := ?_) rfl (by kernel_rfl) (by kernel_rfl) (by kernel_rfl) (fun _ _ _ h => h) (Or.inl ⟨by rfl, ?_⟩) (by assumption) ?_
                         rotate_left
                         · intro wx hSw
                           obtain ⟨s0, s1, s2⟩ := KS.out wx hSw
                           (first | (go_simp; rfl) | go_simp | rfl))
                      | refine wpAnyH_take (i := 1) (v := undef) rfl (by kernel_rfl) (by kernel_rfl) (by kernel_rfl) (fun _ _ _ h => h) (Or.inr ⟨by rfl, rfl⟩) (by assumption) ?_
                    try simp only [List.getElem_toArray, List.getElem_cons_zero, List.getElem_cons_succ, Act.put, List.setIfInBounds_toArray, List.set_cons_zero, List.set_cons_succ, Array.toArray_toList]
                    first
                      | (refine wpAnyH_take (i := 2) (v := ?_) rfl (by kernel_rfl) (by kernel_rfl) (by kernel_rfl) (fun _ _ _ h => h) (Or.inl ⟨by rfl, ?_⟩) (by assumption) ?_
                         rotate_left
                         · intro wx hSw
                           obtain ⟨s0, s1, s2⟩ := KS.out wx hSw
                           (first | (go_simp; rfl) | go_simp | rfl))
                      | refine wpAnyH_take (i := 2) (v := undef) rfl (by kernel_rfl) (by kernel_rfl) (by kernel_rfl) (fun _ _ _ h => h) (Or.inr ⟨by rfl, rfl⟩) (by assumption) ?_
                    try simp only [List.getElem_toArray, List.getElem_cons_zero, List.getElem_cons_succ, Act.put, List.setIfInBounds_toArray, List.set_cons_zero, List.set_cons_succ, Array.toArray_toList]
                    first
                      | (refine wpAnyH_take (i := 3) (v := ?_) rfl (by kernel_rfl) (by kernel_rfl) (by kernel_rfl) (fun _ _ _ h => h) (Or.inl ⟨by rfl, ?_⟩) (by assumption) ?_
                         rotate_left
                         · intro wx hSw
                           obtain ⟨s0, s1, s2⟩ := KS.out wx hSw
                           (first | (go_simp; rfl) | go_simp | rfl))
                      | refine wpAnyH_take (i := 3) (v := undef) rfl (by kernel_rfl) (by kernel_rfl) (by kernel_rfl) (fun _ _ _ h => h) (Or.inr ⟨by rfl, rfl⟩) (by assumption) ?_
                    try simp only [List.getElem_toArray, List.getElem_cons_zero, List.getElem_cons_succ, Act.put, List.setIfInBounds_toArray, List.set_cons_zero, List.set_cons_succ, Array.toArray_toList]
                    first
                      | (refine wpAnyH_take (i := 4) (v := ?_) rfl (by kernel_rfl) (by kernel_rfl) (by kernel_rfl) (fun _ _ _ h => h) (Or.inl ⟨by rfl, ?_⟩) (by assumption) ?_
                         rotate_left
                         · intro wx hSw
                           obtain ⟨s0, s1, s2⟩ := KS.out wx hSw
                           (first | (go_simp; rfl) | go_simp | rfl))
                      | refine wpAnyH_take (i := 4) (v := undef) rfl (by kernel_rfl) (by kernel_rfl) (by kernel_rfl) (fun _ _ _ h => h) (Or.inr ⟨by rfl, rfl⟩) (by assumption) ?_
                    try simp only [List.getElem_toArray, List.getElem_cons_zero, List.getElem_cons_succ, Act.put, List.setIfInBounds_toArray, List.set_cons_zero, List.set_cons_succ, Array.toArray_toList]
                    first
                      | (refine wpAnyH_take (i := 5) (v := ?_) rfl (by kernel_rfl) (by kernel_rfl) (by kernel_rfl) (fun _ _ _ h => h) (Or.inl ⟨by rfl, ?_⟩) (by assumption) ?_
                         rotate_left
                         · intro wx hSw
                           obtain ⟨s0, s1, s2⟩ := KS.out wx hSw
                           (first | (go_simp; rfl) | go_simp | rfl))
                      | refine wpAnyH_take (i := 5) (v := undef) rfl (by kernel_rfl) (by kernel_rfl) (by kernel_rfl) (fun _ _ _ h => h) (Or.inr ⟨by rfl, rfl⟩) (by assumption) ?_
                    try simp only [List.getElem_toArray, List.getElem_cons_zero, List.getElem_cons_succ, Act.put, List.setIfInBounds_toArray, List.set_cons_zero, List.set_cons_succ, Array.toArray_toList]
                    first
                      | (refine wpAnyH_take (i := 6) (v := ?_) rfl (by kernel_rfl) (by kernel_rfl) (by kernel_rfl) (fun _ _ _ h => h) (Or.inl ⟨by rfl, ?_⟩) (by assumption) ?_
                         rotate_left
                         · intro wx hSw
                           obtain ⟨s0, s1, s2⟩ := KS.out wx hSw
                           (first | (go_simp; rfl) | go_simp | rfl))
                      | refine wpAnyH_take (i := 6) (v := undef) rfl (by kernel_rfl) (by kernel_rfl) (by kernel_rfl) (fun _ _ _ h => h) (Or.inr ⟨by rfl, rfl⟩) (by assumption) ?_
                    try simp only [List.getElem_toArray, List.getElem_cons_zero, List.getElem_cons_succ, Act.put, List.setIfInBounds_toArray, List.set_cons_zero, List.set_cons_succ, Array.toArray_toList]
                    first
                      | (refine wpAnyH_take (i := 7) (v := ?_) rfl (by kernel_rfl) (by kernel_rfl) (by kernel_rfl) (fun _ _ _ h => h) (Or.inl ⟨by rfl, ?_⟩) (by assumption) ?_
                         rotate_left
                         · intro wx hSw
                           obtain ⟨s0, s1, s2⟩ := KS.out wx hSw
                           (first | (go_simp; rfl) | go_simp | rfl))
                      | refine wpAnyH_take (i := 7) (v := undef) rfl (by kernel_rfl) (by kernel_rfl) (by kernel_rfl) (fun _ _ _ h => h) (Or.inr ⟨by rfl, rfl⟩) (by assumption) ?_
                    try simp only [List.getElem_toArray, List.getElem_cons_zero, List.getElem_cons_succ, Act.put, List.setIfInBounds_toArray, List.set_cons_zero, List.set_cons_succ, Array.toArray_toList]
                    first
                      | (refine wpAnyH_take (i := 8) (v := ?_) rfl (by kernel_rfl) (by kernel_rfl) (by kernel_rfl) (fun _ _ _ h => h) (Or.inl ⟨by rfl, ?_⟩) (by assumption) ?_
                         rotate_left
                         · intro wx hSw
                           obtain ⟨s0, s1, s2⟩ := KS.out wx hSw
                           (first | (go_simp; rfl) | go_simp | rfl))
                      | refine wpAnyH_take (i := 8) (v := undef) rfl (by kernel_rfl) (by kernel_rfl) (by kernel_rfl) (fun _ _ _ h => h) (Or.inr ⟨by rfl, rfl⟩) (by assumption) ?_
                    try simp only [List.getElem_toArray, List.getElem_cons_zero, List.getElem_cons_succ, Act.put, List.setIfInBounds_toArray, List.set_cons_zero, List.set_cons_succ, Array.toArray_toList]
                    first
                      | (refine wpAnyH_take (i := 9) (v := ?_) rfl (by kernel_rfl) (by kernel_rfl) (by kernel_rfl) (fun _ _ _ h => h) (Or.inl ⟨by rfl, ?_⟩) (by assumption) ?_
                         rotate_left
                         · intro wx hSw
                           obtain ⟨s0, s1, s2⟩ := KS.out wx hSw
                           (first | (go_simp; rfl) | go_simp | rfl))
                      | refine wpAnyH_take (i := 9) (v := undef) rfl (by kernel_rfl) (by kernel_rfl) (by kernel_rfl) (fun _ _ _ h => h) (Or.inr ⟨by rfl, rfl⟩) (by assumption) ?_
                    try simp only [List.getElem_toArray, List.getElem_cons_zero, List.getElem_cons_succ, Act.put, List.setIfInBounds_toArray, List.set_cons_zero, List.set_cons_succ, Array.toArray_toList]
                    first
                      | (refine wpAnyH_take (i := 10) (v := ?_) rfl (by kernel_rfl) (by kernel_rfl) (by kernel_rfl) (fun _ _ _ h => h) (Or.inl ⟨by rfl, ?_⟩) (by assumption) ?_
                         rotate_left
                         · intro wx hSw
                           obtain ⟨s0, s1, s2⟩ := KS.out wx hSw
                           (first | (go_simp; rfl) | go_simp | rfl))
                      | refine wpAnyH_take (i := 10) (v := undef) rfl (by kernel_rfl) (by kernel_rfl) (by kernel_rfl) (fun _ _ _ h => h) (Or.inr ⟨by rfl, rfl⟩) (by assumption) ?_
                    try simp only [List.getElem_toArray, List.getElem_cons_zero, List.getElem_cons_succ, Act.put, List.setIfInBounds_toArray, List.set_cons_zero, List.set_cons_succ, Array.toArray_toList]
                    first
                      | (refine wpAnyH_take (i := 12) (v := ?_) rfl (by kernel_rfl) (by kernel_rfl) (by kernel_rfl) (fun _ _ _ h => h) (Or.inl ⟨by rfl, ?_⟩) (by assumption) ?_
                         rotate_left
                         · intro wx hSw
                           obtain ⟨s0, s1, s2⟩ := KS.out wx hSw
                           (first | (go_simp; rfl) | go_simp | rfl))
                      | refine wpAnyH_take (i := 12) (v := undef) rfl (by kernel_rfl) (by kernel_rfl) (by kernel_rfl) (fun _ _ _ h => h) (Or.inr ⟨by rfl, rfl⟩) (by assumption) ?_
                    try simp only [List.getElem_toArray, List.getElem_cons_zero, List.getElem_cons_succ, Act.put, List.setIfInBounds_toArray, List.set_cons_zero, List.set_cons_succ, Array.toArray_toList]
                    first
                      | (refine wpAnyH_take (i := 13) (v := ?_) rfl (by kernel_rfl) (by kernel_rfl) (by kernel_rfl) (fun _ _ _ h => h) (Or.inl ⟨by rfl, ?_⟩) (by assumption) ?_
                         rotate_left
                         · intro wx hSw
                           obtain ⟨s0, s1, s2⟩ := KS.out wx hSw
                           (first | (go_simp; rfl) | go_simp | rfl))
                      | refine wpAnyH_take (i := 13) (v := undef) rfl (by kernel_rfl) (by kernel_rfl) (by kernel_rfl) (fun _ _ _ h => h) (Or.inr ⟨by rfl, rfl⟩) (by assumption) ?_
                    try simp only [List.getElem_toArray, List.getElem_cons_zero, List.getElem_cons_succ, Act.put, List.setIfInBounds_toArray, List.set_cons_zero, List.set_cons_succ, Array.toArray_toList]
                    first
                      | (refine wpAnyH_take (i := 14) (v := ?_) rfl (by kernel_rfl) (by kernel_rfl) (by kernel_rfl) (fun _ _ _ h => h) (Or.inl ⟨by rfl, ?_⟩) (by assumption) ?_
                         rotate_left
                         · intro wx hSw
                           obtain ⟨s0, s1, s2⟩ := KS.out wx hSw
                           (first | (go_simp; rfl) | go_simp | rfl))
                      | refine wpAnyH_take (i := 14) (v := undef) rfl (by kernel_rfl) (by kernel_rfl) (by kernel_rfl) (fun _ _ _ h => h) (Or.inr ⟨by rfl, rfl⟩) (by assumption) ?_
                    try simp only [List.getElem_toArray, List.getElem_cons_zero, List.getElem_cons_succ, Act.put, List.setIfInBounds_toArray, List.set_cons_zero, List.set_cons_succ, Array.toArray_toList]
                    first
                      | (refine wpAnyH_take (i := 15) (v := ?_) rfl (by kernel_rfl) (by kernel_rfl) (by kernel_rfl) (fun _ _ _ h => h) (Or.inl ⟨by rfl, ?_⟩) (by assumption) ?_
                         rotate_left
                         · intro wx hSw
                           obtain ⟨s0, s1, s2⟩ := KS.out wx hSw
                           (first | (go_simp; rfl) | go_simp | rfl))
                      | refine wpAnyH_take (i := 15) (v := undef) rfl (by kernel_rfl) (by kernel_rfl) (by kernel_rfl) (fun _ _ _ h => h) (Or.inr ⟨by rfl, rfl⟩) (by assumption) ?_
                    try simp only [List.getElem_toArray, List.getElem_cons_zero, List.getElem_cons_succ, Act.put, List.setIfInBounds_toArray, List.set_cons_zero, List.set_cons_succ, Array.toArray_toList]
                    first
                      | (refine wpAnyH_take (i := 16) (v := ?_) rfl (by kernel_rfl) (by kernel_rfl) (by kernel_rfl) (fun _ _ _ h => h) (Or.inl ⟨by rfl, ?_⟩) (by assumption) ?_
                         rotate_left
                         · intro wx hSw
                           obtain ⟨s0, s1, s2⟩ := KS.out wx hSw
                           (first | (go_simp; rfl) | go_simp | rfl))
                      | refine wpAnyH_take (i := 16) (v := undef) rfl (by kernel_rfl) (by kernel_rfl) (by kernel_rfl) (fun _ _ _ h => h) (Or.inr ⟨by rfl, rfl⟩) (by assumption) ?_
                    try simp only [List.getElem_toArray, List.getElem_cons_zero, List.getElem_cons_succ, Act.put, List.setIfInBounds_toArray, List.set_cons_zero, List.set_cons_succ, Array.toArray_toList]
                    refine wpAnyH_ready (rs := [11]) (by kernel_rfl) (by simp) ?_
                    refine AllReadyH.cons rfl (fun K hK => ?_) AllReadyH.nil
                    go_simp
                    refine (HNU.out _ (by (repeat (first | exact Bw4.out | refine bdrew ?_)))).mono ?_
                    rintro e5 w5 ⟨rfl, b5⟩
                    have bb5 : Below (w4).heap.size (w4) w5 := (bdrew (Below.refl _ _)).trans b5
                    have Bw5 := Lib.hid (bstep Bw4.out bb5)
                    have Lw5 := Lib.hid ((bb5.block _ (lt_of_block Lw4.out)).trans Lw4.out)
                    have Rw5 := Lib.hid ((bb5.block _ (lt_of_block Rw4.out)).trans Rw4.out)
                    clear b5 bb5
                    try go_simp
                    refine hK.out _ _ Lw5.out (fun hHeld => ?_)
                    clear hK K
                    try simp only [List.getElem_toArray, List.getElem_cons_zero, List.getElem_cons_succ, Act.put, List.setIfInBounds_toArray, List.set_cons_zero, List.set_cons_succ, Array.toArray_toList]
                    first
                      | (refine wpAnyH_take (i := 17) (v := ?_) rfl (by kernel_rfl) (by kernel_rfl) (by kernel_rfl) (fun _ _ _ h => h) (Or.inl ⟨by rfl, ?_⟩) (by assumption) ?_
                         rotate_left
                         · intro wx hSw
                           obtain ⟨s0, s1, s2⟩ := KS.out wx hSw
                           (first | (go_simp; rfl) | go_simp | rfl))
                      | refine wpAnyH_take (i := 17) (v := undef) rfl (by kernel_rfl) (by kernel_rfl) (by kernel_rfl) (fun _ _ _ h => h) (Or.inr ⟨by rfl, rfl⟩) (by assumption) ?_
                    try simp only [List.getElem_toArray, List.getElem_cons_zero, List.getElem_cons_succ, Act.put, List.setIfInBounds_toArray, List.set_cons_zero, List.set_cons_succ, Array.toArray_toList]
                    refine wpAnyH_done (by kernel_rfl) ?_ _
                    clear hHeld
                    have c0 : w5.cell? ⟨lb, k * 3, none⟩ = some (.int .u64 (o : Int)) := (KS.out w5 Lw5.out).1
                    have HE : Hid (begF bs = some (o, 3)) := Lib.hid (by
                      exact HBAD.out)
                    go_wp2_with fail
                    refine (HAT.out 3 o w5).mono ?_
                    rintro e6 w6 ⟨rfl, hb6⟩
                    have R6 := Lib.hid ((hb6.block _ (lt_of_block Rw5.out)).trans Rw5.out)
                    have B6 := Lib.hid (bstep Bw5.out hb6)
                    have g0 : w6.cell? ⟨rbk, 0, none⟩ = some (.int .i64 0) := by rw [cell_of_row _ _ 0 _ _ _ R6.out]; rfl
                    have g1 : w6.cell? ⟨rbk, 1, none⟩ = some (.bool false) := by rw [cell_of_row _ _ 1 _ _ _ R6.out]; rfl
                    have g2 : w6.cell? ⟨rbk, 2, none⟩ = some (.int .u64 0) := by rw [cell_of_row _ _ 2 _ _ _ R6.out]; rfl
                    have f0 : w6.frozen? ⟨rbk, 0, none⟩ = false := frozen_of_row _ _ _ _ _ R6.out
                    have f1 : w6.frozen? ⟨rbk, 1, none⟩ = false := frozen_of_row _ _ _ _ _ R6.out
                    have f2 : w6.frozen? ⟨rbk, 2, none⟩ = false := frozen_of_row _ _ _ _ _ R6.out
                    obtain ⟨wf, hwf, z0, z1, z2, ez⟩ := set3_cells R6.out (.int .i64 3) (.bool true) (.int .u64 ((o : Nat) : Int))
                    have BF : Hid (Below w.heap.size w wf) := Lib.hid (by rw [← ez]; exact below_set3 B6.out HRB.out _ _ _)
                    clear ez hb6
                    go_wp2_with fail
                    refine bodyPost_ret (by simp [results, Tryd.results40, go_sem, z0, z1, z2]; try rfl) rfl ?_
                    exact HPF.out 3 o wf HE.out BF.out
            · have hC2 : ((C : Int) != 2) = true := by rw [bne_iff_ne]; omega
              have hC3 : ((C : Int) != 3) = true := by rw [bne_iff_ne]; omega
              have HBAD : Hid (begF bs = some (16, 3)) := Lib.hid (by rw [← HG.out, HS8.out, if_pos hA0, if_neg hC0])
              clear hA0 hC0
              rcases hA' with ta | ⟨ta, tb⟩
              all_goals
                have HE : Hid (begF bs = some (16, 3)) := Lib.hid (by
                  exact HBAD.out)
                go_wp2_with fail
                refine (HAT.out 3 16 w4).mono ?_
                rintro e6 w6 ⟨rfl, hb6⟩
                have R6 := Lib.hid ((hb6.block _ (lt_of_block Rw4.out)).trans Rw4.out)
                have B6 := Lib.hid (bstep Bw4.out hb6)
                have g0 : w6.cell? ⟨rbk, 0, none⟩ = some (.int .i64 0) := by rw [cell_of_row _ _ 0 _ _ _ R6.out]; rfl
                have g1 : w6.cell? ⟨rbk, 1, none⟩ = some (.bool false) := by rw [cell_of_row _ _ 1 _ _ _ R6.out]; rfl
                have g2 : w6.cell? ⟨rbk, 2, none⟩ = some (.int .u64 0) := by rw [cell_of_row _ _ 2 _ _ _ R6.out]; rfl
                have f0 : w6.frozen? ⟨rbk, 0, none⟩ = false := frozen_of_row _ _ _ _ _ R6.out
                have f1 : w6.frozen? ⟨rbk, 1, none⟩ = false := frozen_of_row _ _ _ _ _ R6.out
                have f2 : w6.frozen? ⟨rbk, 2, none⟩ = false := frozen_of_row _ _ _ _ _ R6.out
                obtain ⟨wf, hwf, z0, z1, z2, ez⟩ := set3_cells R6.out (.int .i64 3) (.bool true) (.int .u64 16)
                have BF : Hid (Below w.heap.size w wf) := Lib.hid (by rw [← ez]; exact below_set3 B6.out HRB.out _ _ _)
                clear ez hb6
                go_wp2_with fail
                refine bodyPost_ret (by simp [results, Tryd.results40, go_sem, z0, z1, z2]; try rfl) rfl ?_
                exact HPF.out 3 16 wf HE.out BF.out
          · have hA2 : ((A : Int) != 0) = true := by rw [bne_iff_ne]; omega
            have hA3 : ((A : Int) != 3) = true := by rw [bne_iff_ne]; omega
            have HBAD : Hid (begF bs = some (7, 3)) := Lib.hid (by rw [← HG.out, HS8.out, if_neg hA0])
            clear hA0
            have HE : Hid (begF bs = some (7, 3)) := Lib.hid (by
              exact HBAD.out)
            go_wp2_with fail
            refine (HAT.out 3 7 w4).mono ?_
            rintro e6 w6 ⟨rfl, hb6⟩
            have R6 := Lib.hid ((hb6.block _ (lt_of_block Rw4.out)).trans Rw4.out)
            have B6 := Lib.hid (bstep Bw4.out hb6)
            have g0 : w6.cell? ⟨rbk, 0, none⟩ = some (.int .i64 0) := by rw [cell_of_row _ _ 0 _ _ _ R6.out]; rfl
            have g1 : w6.cell? ⟨rbk, 1, none⟩ = some (.bool false) := by rw [cell_of_row _ _ 1 _ _ _ R6.out]; rfl
            have g2 : w6.cell? ⟨rbk, 2, none⟩ = some (.int .u64 0) := by rw [cell_of_row _ _ 2 _ _ _ R6.out]; rfl
            have f0 : w6.frozen? ⟨rbk, 0, none⟩ = false := frozen_of_row _ _ _ _ _ R6.out
            have f1 : w6.frozen? ⟨rbk, 1, none⟩ = false := frozen_of_row _ _ _ _ _ R6.out
            have f2 : w6.frozen? ⟨rbk, 2, none⟩ = false := frozen_of_row _ _ _ _ _ R6.out
            obtain ⟨wf, hwf, z0, z1, z2, ez⟩ := set3_cells R6.out (.int .i64 3) (.bool true) (.int .u64 7)
            have BF : Hid (Below w.heap.size w wf) := Lib.hid (by rw [← ez]; exact below_set3 B6.out HRB.out _ _ _)
            clear ez hb6
            go_wp2_with fail
            refine bodyPost_ret (by simp [results, Tryd.results40, go_sem, z0, z1, z2]; try rfl) rfl ?_
            exact HPF.out 3 7 wf HE.out BF.out
        · have t18 : ((o : Int) == 18) = false := by rw [h18]; exact decide_eq_false hk7
          have HS9 := Lib.hid (HS.out hk7)
          clear hs hs7 h18 e0 e1 e2 hk hV HS HS7 hk7 ho hx hwn hk11
          by_cases hv : V = x
          · have tv : ((V : Int) != (x : Int)) = false := by rw [hv]; simp
            have HG2 : Hid (bcon bs (k + 1) = begF bs) := Lib.hid (by
              rw [← HG.out, HS9.out, if_pos hv])
            clear hv
            go_wp2_with fail
            refine wp_region_held_drew (S := fun wx => wx.heap[lb]? = some (.cells rfixC.toArray 112)) (by kernel_rfl) Lwr.out (fun hHeld => ?_)
            first
              | (refine wpAnyH_take (i := 0) (v := ?_) rfl (by kernel_rfl) (by kernel_rfl) (by kernel_rfl) (fun _ _ _ h => h) (Or.inl ⟨by rfl, ?_⟩) (by assumption) ?_
                 rotate_left
                 · intro wx hSw
                   obtain ⟨s0, s1, s2⟩ := KS.out wx hSw
                   (first | (go_simp; rfl) | go_simp | rfl))
              | refine wpAnyH_take (i := 0) (v := undef) rfl (by kernel_rfl) (by kernel_rfl) (by kernel_rfl) (fun _ _ _ h => h) (Or.inr ⟨by rfl, rfl⟩) (by assumption) ?_
            try simp only [List.getElem_toArray, List.getElem_cons_zero, List.getElem_cons_succ, Act.put, List.setIfInBounds_toArray, List.set_cons_zero, List.set_cons_succ, Array.toArray_toList]
            first
              | (refine wpAnyH_take (i := 1) (v := ?_) rfl (by kernel_rfl) (by kernel_rfl) (by kernel_rfl) (fun _ _ _ h => h) (Or.inl ⟨by rfl, ?_⟩) (by assumption) ?_
                 rotate_left
                 · intro wx hSw
                   obtain ⟨s0, s1, s2⟩ := KS.out wx hSw
                   (first | (go_simp; rfl) | go_simp | rfl))
              | refine wpAnyH_take (i := 1) (v := undef) rfl (by kernel_rfl) (by kernel_rfl) (by kernel_rfl) (fun _ _ _ h => h) (Or.inr ⟨by rfl, rfl⟩) (by assumption) ?_
            try simp only [List.getElem_toArray, List.getElem_cons_zero, List.getElem_cons_succ, Act.put, List.setIfInBounds_toArray, List.set_cons_zero, List.set_cons_succ, Array.toArray_toList]
            first
              | (refine wpAnyH_take (i := 2) (v := ?_) rfl (by kernel_rfl) (by kernel_rfl) (by kernel_rfl) (fun _ _ _ h => h) (Or.inl ⟨by rfl, ?_⟩) (by assumption) ?_
                 rotate_left
                 · intro wx hSw
                   obtain ⟨s0, s1, s2⟩ := KS.out wx hSw
                   (first | (go_simp; rfl) | go_simp | rfl))
              | refine wpAnyH_take (i := 2) (v := undef) rfl (by kernel_rfl) (by kernel_rfl) (by kernel_rfl) (fun _ _ _ h => h) (Or.inr ⟨by rfl, rfl⟩) (by assumption) ?_
            try simp only [List.getElem_toArray, List.getElem_cons_zero, List.getElem_cons_succ, Act.put, List.setIfInBounds_toArray, List.set_cons_zero, List.set_cons_succ, Array.toArray_toList]
            first
              | (refine wpAnyH_take (i := 3) (v := ?_) rfl (by kernel_rfl) (by kernel_rfl) (by kernel_rfl) (fun _ _ _ h => h) (Or.inl ⟨by rfl, ?_⟩) (by assumption) ?_
                 rotate_left
                 · intro wx hSw
                   obtain ⟨s0, s1, s2⟩ := KS.out wx hSw
                   (first | (go_simp; rfl) | go_simp | rfl))
              | refine wpAnyH_take (i := 3) (v := undef) rfl (by kernel_rfl) (by kernel_rfl) (by kernel_rfl) (fun _ _ _ h => h) (Or.inr ⟨by rfl, rfl⟩) (by assumption) ?_
            try simp only [List.getElem_toArray, List.getElem_cons_zero, List.getElem_cons_succ, Act.put, List.setIfInBounds_toArray, List.set_cons_zero, List.set_cons_succ, Array.toArray_toList]
            first
              | (refine wpAnyH_take (i := 4) (v := ?_) rfl (by kernel_rfl) (by kernel_rfl) (by kernel_rfl) (fun _ _ _ h => h) (Or.inl ⟨by rfl, ?_⟩) (by assumption) ?_
                 rotate_left
                 · intro wx hSw
                   obtain ⟨s0, s1, s2⟩ := KS.out wx hSw
                   (first | (go_simp; rfl) | go_simp | rfl))
              | refine wpAnyH_take (i := 4) (v := undef) rfl (by kernel_rfl) (by kernel_rfl) (by kernel_rfl) (fun _ _ _ h => h) (Or.inr ⟨by rfl, rfl⟩) (by assumption) ?_
            try simp only [List.getElem_toArray, List.getElem_cons_zero, List.getElem_cons_succ, Act.put, List.setIfInBounds_toArray, List.set_cons_zero, List.set_cons_succ, Array.toArray_toList]
            first
              | (refine wpAnyH_take (i := 5) (v := ?_) rfl (by kernel_rfl) (by kernel_rfl) (by kernel_rfl) (fun _ _ _ h => h) (Or.inl ⟨by rfl, ?_⟩) (by assumption) ?_
                 rotate_left
                 · intro wx hSw
                   obtain ⟨s0, s1, s2⟩ := KS.out wx hSw
                   (first | (go_simp; rfl) | go_simp | rfl))
              | refine wpAnyH_take (i := 5) (v := undef) rfl (by kernel_rfl) (by kernel_rfl) (by kernel_rfl) (fun _ _ _ h => h) (Or.inr ⟨by rfl, rfl⟩) (by assumption) ?_
            try simp only [List.getElem_toArray, List.getElem_cons_zero, List.getElem_cons_succ, Act.put, List.setIfInBounds_toArray, List.set_cons_zero, List.set_cons_succ, Array.toArray_toList]
            first
              | (refine wpAnyH_take (i := 6) (v := ?_) rfl (by kernel_rfl) (by kernel_rfl) (by kernel_rfl) (fun _ _ _ h => h) (Or.inl ⟨by rfl, ?_⟩) (by assumption) ?_
                 rotate_left
                 · intro wx hSw
                   obtain ⟨s0, s1, s2⟩ := KS.out wx hSw
                   (first | (go_simp; rfl) | go_simp | rfl))
              | refine wpAnyH_take (i := 6) (v := undef) rfl (by kernel_rfl) (by kernel_rfl) (by kernel_rfl) (fun _ _ _ h => h) (Or.inr ⟨by rfl, rfl⟩) (by assumption) ?_
            try simp only [List.getElem_toArray, List.getElem_cons_zero, List.getElem_cons_succ, Act.put, List.setIfInBounds_toArray, List.set_cons_zero, List.set_cons_succ, Array.toArray_toList]
            first
              | (refine wpAnyH_take (i := 7) (v := ?_) rfl (by kernel_rfl) (by kernel_rfl) (by kernel_rfl) (fun _ _ _ h => h) (Or.inl ⟨by rfl, ?_⟩) (by assumption) ?_
                 rotate_left
                 · intro wx hSw
                   obtain ⟨s0, s1, s2⟩ := KS.out wx hSw
                   (first | (go_simp; rfl) | go_simp | rfl))
              | refine wpAnyH_take (i := 7) (v := undef) rfl (by kernel_rfl) (by kernel_rfl) (by kernel_rfl) (fun _ _ _ h => h) (Or.inr ⟨by rfl, rfl⟩) (by assumption) ?_
            try simp only [List.getElem_toArray, List.getElem_cons_zero, List.getElem_cons_succ, Act.put, List.setIfInBounds_toArray, List.set_cons_zero, List.set_cons_succ, Array.toArray_toList]
            first
              | (refine wpAnyH_take (i := 8) (v := ?_) rfl (by kernel_rfl) (by kernel_rfl) (by kernel_rfl) (fun _ _ _ h => h) (Or.inl ⟨by rfl, ?_⟩) (by assumption) ?_
                 rotate_left
                 · intro wx hSw
                   obtain ⟨s0, s1, s2⟩ := KS.out wx hSw
                   (first | (go_simp; rfl) | go_simp | rfl))
              | refine wpAnyH_take (i := 8) (v := undef) rfl (by kernel_rfl) (by kernel_rfl) (by kernel_rfl) (fun _ _ _ h => h) (Or.inr ⟨by rfl, rfl⟩) (by assumption) ?_
            try simp only [List.getElem_toArray, List.getElem_cons_zero, List.getElem_cons_succ, Act.put, List.setIfInBounds_toArray, List.set_cons_zero, List.set_cons_succ, Array.toArray_toList]
            first
              | (refine wpAnyH_take (i := 9) (v := ?_) rfl (by kernel_rfl) (by kernel_rfl) (by kernel_rfl) (fun _ _ _ h => h) (Or.inl ⟨by rfl, ?_⟩) (by assumption) ?_
                 rotate_left
                 · intro wx hSw
                   obtain ⟨s0, s1, s2⟩ := KS.out wx hSw
                   (first | (go_simp; rfl) | go_simp | rfl))
              | refine wpAnyH_take (i := 9) (v := undef) rfl (by kernel_rfl) (by kernel_rfl) (by kernel_rfl) (fun _ _ _ h => h) (Or.inr ⟨by rfl, rfl⟩) (by assumption) ?_
            try simp only [List.getElem_toArray, List.getElem_cons_zero, List.getElem_cons_succ, Act.put, List.setIfInBounds_toArray, List.set_cons_zero, List.set_cons_succ, Array.toArray_toList]
            first
              | (refine wpAnyH_take (i := 10) (v := ?_) rfl (by kernel_rfl) (by kernel_rfl) (by kernel_rfl) (fun _ _ _ h => h) (Or.inl ⟨by rfl, ?_⟩) (by assumption) ?_
                 rotate_left
                 · intro wx hSw
                   obtain ⟨s0, s1, s2⟩ := KS.out wx hSw
                   (first | (go_simp; rfl) | go_simp | rfl))
              | refine wpAnyH_take (i := 10) (v := undef) rfl (by kernel_rfl) (by kernel_rfl) (by kernel_rfl) (fun _ _ _ h => h) (Or.inr ⟨by rfl, rfl⟩) (by assumption) ?_
            try simp only [List.getElem_toArray, List.getElem_cons_zero, List.getElem_cons_succ, Act.put, List.setIfInBounds_toArray, List.set_cons_zero, List.set_cons_succ, Array.toArray_toList]
            first
              | (refine wpAnyH_take (i := 12) (v := ?_) rfl (by kernel_rfl) (by kernel_rfl) (by kernel_rfl) (fun _ _ _ h => h) (Or.inl ⟨by rfl, ?_⟩) (by assumption) ?_
                 rotate_left
                 · intro wx hSw
                   obtain ⟨s0, s1, s2⟩ := KS.out wx hSw
                   (first | (go_simp; rfl) | go_simp | rfl))
              | refine wpAnyH_take (i := 12) (v := undef) rfl (by kernel_rfl) (by kernel_rfl) (by kernel_rfl) (fun _ _ _ h => h) (Or.inr ⟨by rfl, rfl⟩) (by assumption) ?_
            try simp only [List.getElem_toArray, List.getElem_cons_zero, List.getElem_cons_succ, Act.put, List.setIfInBounds_toArray, List.set_cons_zero, List.set_cons_succ, Array.toArray_toList]
            first
              | (refine wpAnyH_take (i := 13) (v := ?_) rfl (by kernel_rfl) (by kernel_rfl) (by kernel_rfl) (fun _ _ _ h => h) (Or.inl ⟨by rfl, ?_⟩) (by assumption) ?_
                 rotate_left
                 · intro wx hSw
                   obtain ⟨s0, s1, s2⟩ := KS.out wx hSw
                   (first | (go_simp; rfl) | go_simp | rfl))
              | refine wpAnyH_take (i := 13) (v := undef) rfl (by kernel_rfl) (by kernel_rfl) (by kernel_rfl) (fun _ _ _ h => h) (Or.inr ⟨by rfl, rfl⟩) (by assumption) ?_
            try simp only [List.getElem_toArray, List.getElem_cons_zero, List.getElem_cons_succ, Act.put, List.setIfInBounds_toArray, List.set_cons_zero, List.set_cons_succ, Array.toArray_toList]
            first
              | (refine wpAnyH_take (i := 14) (v := ?_) rfl (by kernel_rfl) (by kernel_rfl) (by kernel_rfl) (fun _ _ _ h => h) (Or.inl ⟨by rfl, ?_⟩) (by assumption) ?_
                 rotate_left
                 · intro wx hSw
                   obtain ⟨s0, s1, s2⟩ := KS.out wx hSw
                   (first | (go_simp; rfl) | go_simp | rfl))
              | refine wpAnyH_take (i := 14) (v := undef) rfl (by kernel_rfl) (by kernel_rfl) (by kernel_rfl) (fun _ _ _ h => h) (Or.inr ⟨by rfl, rfl⟩) (by assumption) ?_
            try simp only [List.getElem_toArray, List.getElem_cons_zero, List.getElem_cons_succ, Act.put, List.setIfInBounds_toArray, List.set_cons_zero, List.set_cons_succ, Array.toArray_toList]
            first
              | (refine wpAnyH_take (i := 15) (v := ?_) rfl (by kernel_rfl) (by kernel_rfl) (by kernel_rfl) (fun _ _ _ h => h) (Or.inl ⟨by rfl, ?_⟩) (by assumption) ?_
                 rotate_left
                 · intro wx hSw
                   obtain ⟨s0, s1, s2⟩ := KS.out wx hSw
                   (first | (go_simp; rfl) | go_simp | rfl))
              | refine wpAnyH_take (i := 15) (v := undef) rfl (by kernel_rfl) (by kernel_rfl) (by kernel_rfl) (fun _ _ _ h => h) (Or.inr ⟨by rfl, rfl⟩) (by assumption) ?_
            try simp only [List.getElem_toArray, List.getElem_cons_zero, List.getElem_cons_succ, Act.put, List.setIfInBounds_toArray, List.set_cons_zero, List.set_cons_succ, Array.toArray_toList]
            first
              | (refine wpAnyH_take (i := 16) (v := ?_) rfl (by kernel_rfl) (by kernel_rfl) (by kernel_rfl) (fun _ _ _ h => h) (Or.inl ⟨by rfl, ?_⟩) (by assumption) ?_
                 rotate_left
                 · intro wx hSw
                   obtain ⟨s0, s1, s2⟩ := KS.out wx hSw
                   (first | (go_simp; rfl) | go_simp | rfl))
              | refine wpAnyH_take (i := 16) (v := undef) rfl (by kernel_rfl) (by kernel_rfl) (by kernel_rfl) (fun _ _ _ h => h) (Or.inr ⟨by rfl, rfl⟩) (by assumption) ?_
            try simp only [List.getElem_toArray, List.getElem_cons_zero, List.getElem_cons_succ, Act.put, List.setIfInBounds_toArray, List.set_cons_zero, List.set_cons_succ, Array.toArray_toList]
            refine wpAnyH_ready (rs := [11]) (by kernel_rfl) (by simp) ?_
            refine AllReadyH.cons rfl (fun K hK => ?_) AllReadyH.nil
            go_simp
            refine (HNU.out _ (by (repeat (first | exact Bwr.out | refine bdrew ?_)))).mono ?_
            rintro e5 w5 ⟨rfl, b5⟩
            have bb5 : Below (wr).heap.size (wr) w5 := (bdrew (Below.refl _ _)).trans b5
            have Bw5 := Lib.hid (bstep Bwr.out bb5)
            have Lw5 := Lib.hid ((bb5.block _ (lt_of_block Lwr.out)).trans Lwr.out)
            have Rw5 := Lib.hid ((bb5.block _ (lt_of_block Rwr.out)).trans Rwr.out)
            clear b5 bb5
            try go_simp
            refine hK.out _ _ Lw5.out (fun hHeld => ?_)
            clear hK K
            try simp only [List.getElem_toArray, List.getElem_cons_zero, List.getElem_cons_succ, Act.put, List.setIfInBounds_toArray, List.set_cons_zero, List.set_cons_succ, Array.toArray_toList]
            first
              | (refine wpAnyH_take (i := 17) (v := ?_) rfl (by kernel_rfl) (by kernel_rfl) (by kernel_rfl) (fun _ _ _ h => h) (Or.inl ⟨by rfl, ?_⟩) (by assumption) ?_
                 rotate_left
                 · intro wx hSw
                   obtain ⟨s0, s1, s2⟩ := KS.out wx hSw
                   (first | (go_simp; rfl) | go_simp | rfl))
              | refine wpAnyH_take (i := 17) (v := undef) rfl (by kernel_rfl) (by kernel_rfl) (by kernel_rfl) (fun _ _ _ h => h) (Or.inr ⟨by rfl, rfl⟩) (by assumption) ?_
            try simp only [List.getElem_toArray, List.getElem_cons_zero, List.getElem_cons_succ, Act.put, List.setIfInBounds_toArray, List.set_cons_zero, List.set_cons_succ, Array.toArray_toList]
            refine wpAnyH_done (by kernel_rfl) ?_ _
            clear hHeld
            go_wp2_with fail
            go_roundg g
            case measure => have := HK.out; omega
            case rel => exact ⟨k + 1, by have := HK.out; omega, by go_num, HG2, Bw5, Lw5, Rw5⟩
          · have tv : ((V : Int) != (x : Int)) = true := by rw [bne_iff_ne]; omega
            have HBAD : Hid (begF bs = some (o, 3)) := Lib.hid (by
              rw [← HG.out, HS9.out, if_neg hv])
            clear hv
            go_wp2_with fail
            refine wp_region_held_drew (S := fun wx => wx.heap[lb]? = some (.cells rfixC.toArray 112)) (by kernel_rfl) Lwr.out (fun hHeld => ?_)
            first
              | (refine wpAnyH_take (i := 0) (v := ?_) rfl (by kernel_rfl) (by kernel_rfl) (by kernel_rfl) (fun _ _ _ h => h) (Or.inl ⟨by rfl, ?_⟩) (by assumption) ?_
                 rotate_left
                 · intro wx hSw
                   obtain ⟨s0, s1, s2⟩ := KS.out wx hSw
                   (first | (go_simp; rfl) | go_simp | rfl))
              | refine wpAnyH_take (i := 0) (v := undef) rfl (by kernel_rfl) (by kernel_rfl) (by kernel_rfl) (fun _ _ _ h => h) (Or.inr ⟨by rfl, rfl⟩) (by assumption) ?_
            try simp only [List.getElem_toArray, List.getElem_cons_zero, List.getElem_cons_succ, Act.put, List.setIfInBounds_toArray, List.set_cons_zero, List.set_cons_succ, Array.toArray_toList]
            first
              | (refine wpAnyH_take (i := 1) (v := ?_) rfl (by kernel_rfl) (by kernel_rfl) (by kernel_rfl) (fun _ _ _ h => h) (Or.inl ⟨by rfl, ?_⟩) (by assumption) ?_
                 rotate_left
                 · intro wx hSw
                   obtain ⟨s0, s1, s2⟩ := KS.out wx hSw
                   (first | (go_simp; rfl) | go_simp | rfl))
              | refine wpAnyH_take (i := 1) (v := undef) rfl (by kernel_rfl) (by kernel_rfl) (by kernel_rfl) (fun _ _ _ h => h) (Or.inr ⟨by rfl, rfl⟩) (by assumption) ?_
            try simp only [List.getElem_toArray, List.getElem_cons_zero, List.getElem_cons_succ, Act.put, List.setIfInBounds_toArray, List.set_cons_zero, List.set_cons_succ, Array.toArray_toList]
            first
              | (refine wpAnyH_take (i := 2) (v := ?_) rfl (by kernel_rfl) (by kernel_rfl) (by kernel_rfl) (fun _ _ _ h => h) (Or.inl ⟨by rfl, ?_⟩) (by assumption) ?_
                 rotate_left
                 · intro wx hSw
                   obtain ⟨s0, s1, s2⟩ := KS.out wx hSw
                   (first | (go_simp; rfl) | go_simp | rfl))
              | refine wpAnyH_take (i := 2) (v := undef) rfl (by kernel_rfl) (by kernel_rfl) (by kernel_rfl) (fun _ _ _ h => h) (Or.inr ⟨by rfl, rfl⟩) (by assumption) ?_
            try simp only [List.getElem_toArray, List.getElem_cons_zero, List.getElem_cons_succ, Act.put, List.setIfInBounds_toArray, List.set_cons_zero, List.set_cons_succ, Array.toArray_toList]
            first
              | (refine wpAnyH_take (i := 3) (v := ?_) rfl (by kernel_rfl) (by kernel_rfl) (by kernel_rfl) (fun _ _ _ h => h) (Or.inl ⟨by rfl, ?_⟩) (by assumption) ?_
                 rotate_left
                 · intro wx hSw
                   obtain ⟨s0, s1, s2⟩ := KS.out wx hSw
                   (first | (go_simp; rfl) | go_simp | rfl))
              | refine wpAnyH_take (i := 3) (v := undef) rfl (by kernel_rfl) (by kernel_rfl) (by kernel_rfl) (fun _ _ _ h => h) (Or.inr ⟨by rfl, rfl⟩) (by assumption) ?_
            try simp only [List.getElem_toArray, List.getElem_cons_zero, List.getElem_cons_succ, Act.put, List.setIfInBounds_toArray, List.set_cons_zero, List.set_cons_succ, Array.toArray_toList]
            first
              | (refine wpAnyH_take (i := 4) (v := ?_) rfl (by kernel_rfl) (by kernel_rfl) (by kernel_rfl) (fun _ _ _ h => h) (Or.inl ⟨by rfl, ?_⟩) (by assumption) ?_
                 rotate_left
                 · intro wx hSw
                   obtain ⟨s0, s1, s2⟩ := KS.out wx hSw
                   (first | (go_simp; rfl) | go_simp | rfl))
              | refine wpAnyH_take (i := 4) (v := undef) rfl (by kernel_rfl) (by kernel_rfl) (by kernel_rfl) (fun _ _ _ h => h) (Or.inr ⟨by rfl, rfl⟩) (by assumption) ?_
            try simp only [List.getElem_toArray, List.getElem_cons_zero, List.getElem_cons_succ, Act.put, List.setIfInBounds_toArray, List.set_cons_zero, List.set_cons_succ, Array.toArray_toList]
            first
              | (refine wpAnyH_take (i := 5) (v := ?_) rfl (by kernel_rfl) (by kernel_rfl) (by kernel_rfl) (fun _ _ _ h => h) (Or.inl ⟨by rfl, ?_⟩) (by assumption) ?_
                 rotate_left
                 · intro wx hSw
                   obtain ⟨s0, s1, s2⟩ := KS.out wx hSw
                   (first | (go_simp; rfl) | go_simp | rfl))
              | refine wpAnyH_take (i := 5) (v := undef) rfl (by kernel_rfl) (by kernel_rfl) (by kernel_rfl) (fun _ _ _ h => h) (Or.inr ⟨by rfl, rfl⟩) (by assumption) ?_
            try simp only [List.getElem_toArray, List.getElem_cons_zero, List.getElem_cons_succ, Act.put, List.setIfInBounds_toArray, List.set_cons_zero, List.set_cons_succ, Array.toArray_toList]
            first
              | (refine wpAnyH_take (i := 6) (v := ?_) rfl (by kernel_rfl) (by kernel_rfl) (by kernel_rfl) (fun _ _ _ h => h) (Or.inl ⟨by rfl, ?_⟩) (by assumption) ?_
                 rotate_left
                 · intro wx hSw
                   obtain ⟨s0, s1, s2⟩ := KS.out wx hSw
                   (first | (go_simp; rfl) | go_simp | rfl))
              | refine wpAnyH_take (i := 6) (v := undef) rfl (by kernel_rfl) (by kernel_rfl) (by kernel_rfl) (fun _ _ _ h => h) (Or.inr ⟨by rfl, rfl⟩) (by assumption) ?_
            try simp only [List.getElem_toArray, List.getElem_cons_zero, List.getElem_cons_succ, Act.put, List.setIfInBounds_toArray, List.set_cons_zero, List.set_cons_succ, Array.toArray_toList]
            first
              | (refine wpAnyH_take (i := 7) (v := ?_) rfl (by kernel_rfl) (by kernel_rfl) (by kernel_rfl) (fun _ _ _ h => h) (Or.inl ⟨by rfl, ?_⟩) (by assumption) ?_
                 rotate_left
                 · intro wx hSw
                   obtain ⟨s0, s1, s2⟩ := KS.out wx hSw
                   (first | (go_simp; rfl) | go_simp | rfl))
              | refine wpAnyH_take (i := 7) (v := undef) rfl (by kernel_rfl) (by kernel_rfl) (by kernel_rfl) (fun _ _ _ h => h) (Or.inr ⟨by rfl, rfl⟩) (by assumption) ?_
            try simp only [List.getElem_toArray, List.getElem_cons_zero, List.getElem_cons_succ, Act.put, List.setIfInBounds_toArray, List.set_cons_zero, List.set_cons_succ, Array.toArray_toList]
            first
              | (refine wpAnyH_take (i := 8) (v := ?_) rfl (by kernel_rfl) (by kernel_rfl) (by kernel_rfl) (fun _ _ _ h => h) (Or.inl ⟨by rfl, ?_⟩) (by assumption) ?_
                 rotate_left
                 · intro wx hSw
                   obtain ⟨s0, s1, s2⟩ := KS.out wx hSw
                   (first | (go_simp; rfl) | go_simp | rfl))
              | refine wpAnyH_take (i := 8) (v := undef) rfl (by kernel_rfl) (by kernel_rfl) (by kernel_rfl) (fun _ _ _ h => h) (Or.inr ⟨by rfl, rfl⟩) (by assumption) ?_
            try simp only [List.getElem_toArray, List.getElem_cons_zero, List.getElem_cons_succ, Act.put, List.setIfInBounds_toArray, List.set_cons_zero, List.set_cons_succ, Array.toArray_toList]
            first
              | (refine wpAnyH_take (i := 9) (v := ?_) rfl (by kernel_rfl) (by kernel_rfl) (by kernel_rfl) (fun _ _ _ h => h) (Or.inl ⟨by rfl, ?_⟩) (by assumption) ?_
                 rotate_left
                 · intro wx hSw
                   obtain ⟨s0, s1, s2⟩ := KS.out wx hSw
                   (first | (go_simp; rfl) | go_simp | rfl))
              | refine wpAnyH_take (i := 9) (v := undef) rfl (by kernel_rfl) (by kernel_rfl) (by kernel_rfl) (fun _ _ _ h => h) (Or.inr ⟨by rfl, rfl⟩) (by assumption) ?_
            try simp only [List.getElem_toArray, List.getElem_cons_zero, List.getElem_cons_succ, Act.put, List.setIfInBounds_toArray, List.set_cons_zero, List.set_cons_succ, Array.toArray_toList]
            first
              | (refine wpAnyH_take (i := 10) (v := ?_) rfl (by kernel_rfl) (by kernel_rfl) (by kernel_rfl) (fun _ _ _ h => h) (Or.inl ⟨by rfl, ?_⟩) (by assumption) ?_
                 rotate_left
                 · intro wx hSw
                   obtain ⟨s0, s1, s2⟩ := KS.out wx hSw
                   (first | (go_simp; rfl) | go_simp | rfl))
              | refine wpAnyH_take (i := 10) (v := undef) rfl (by kernel_rfl) (by kernel_rfl) (by kernel_rfl) (fun _ _ _ h => h) (Or.inr ⟨by rfl, rfl⟩) (by assumption) ?_
            try simp only [List.getElem_toArray, List.getElem_cons_zero, List.getElem_cons_succ, Act.put, List.setIfInBounds_toArray, List.set_cons_zero, List.set_cons_succ, Array.toArray_toList]
            first
              | (refine wpAnyH_take (i := 12) (v := ?_) rfl (by kernel_rfl) (by kernel_rfl) (by kernel_rfl) (fun _ _ _ h => h) (Or.inl ⟨by rfl, ?_⟩) (by assumption) ?_
                 rotate_left
                 · intro wx hSw
                   obtain ⟨s0, s1, s2⟩ := KS.out wx hSw
                   (first | (go_simp; rfl) | go_simp | rfl))
              | refine wpAnyH_take (i := 12) (v := undef) rfl (by kernel_rfl) (by kernel_rfl) (by kernel_rfl) (fun _ _ _ h => h) (Or.inr ⟨by rfl, rfl⟩) (by assumption) ?_
            try simp only [List.getElem_toArray, List.getElem_cons_zero, List.getElem_cons_succ, Act.put, List.setIfInBounds_toArray, List.set_cons_zero, List.set_cons_succ, Array.toArray_toList]
            first
              | (refine wpAnyH_take (i := 13) (v := ?_) rfl (by kernel_rfl) (by kernel_rfl) (by kernel_rfl) (fun _ _ _ h => h) (Or.inl ⟨by rfl, ?_⟩) (by assumption) ?_
                 rotate_left
                 · intro wx hSw
                   obtain ⟨s0, s1, s2⟩ := KS.out wx hSw
                   (first | (go_simp; rfl) | go_simp | rfl))
              | refine wpAnyH_take (i := 13) (v := undef) rfl (by kernel_rfl) (by kernel_rfl) (by kernel_rfl) (fun _ _ _ h => h) (Or.inr ⟨by rfl, rfl⟩) (by assumption) ?_
            try simp only [List.getElem_toArray, List.getElem_cons_zero, List.getElem_cons_succ, Act.put, List.setIfInBounds_toArray, List.set_cons_zero, List.set_cons_succ, Array.toArray_toList]
            first
              | (refine wpAnyH_take (i := 14) (v := ?_) rfl (by kernel_rfl) (by kernel_rfl) (by kernel_rfl) (fun _ _ _ h => h) (Or.inl ⟨by rfl, ?_⟩) (by assumption) ?_
                 rotate_left
                 · intro wx hSw
                   obtain ⟨s0, s1, s2⟩ := KS.out wx hSw
                   (first | (go_simp; rfl) | go_simp | rfl))
              | refine wpAnyH_take (i := 14) (v := undef) rfl (by kernel_rfl) (by kernel_rfl) (by kernel_rfl) (fun _ _ _ h => h) (Or.inr ⟨by rfl, rfl⟩) (by assumption) ?_
            try simp only [List.getElem_toArray, List.getElem_cons_zero, List.getElem_cons_succ, Act.put, List.setIfInBounds_toArray, List.set_cons_zero, List.set_cons_succ, Array.toArray_toList]
            first
              | (refine wpAnyH_take (i := 15) (v := ?_) rfl (by kernel_rfl) (by kernel_rfl) (by kernel_rfl) (fun _ _ _ h => h) (Or.inl ⟨by rfl, ?_⟩) (by assumption) ?_
                 rotate_left
                 · intro wx hSw
                   obtain ⟨s0, s1, s2⟩ := KS.out wx hSw
                   (first | (go_simp; rfl) | go_simp | rfl))
              | refine wpAnyH_take (i := 15) (v := undef) rfl (by kernel_rfl) (by kernel_rfl) (by kernel_rfl) (fun _ _ _ h => h) (Or.inr ⟨by rfl, rfl⟩) (by assumption) ?_
            try simp only [List.getElem_toArray, List.getElem_cons_zero, List.getElem_cons_succ, Act.put, List.setIfInBounds_toArray, List.set_cons_zero, List.set_cons_succ, Array.toArray_toList]
            first
              | (refine wpAnyH_take (i := 16) (v := ?_) rfl (by kernel_rfl) (by kernel_rfl) (by kernel_rfl) (fun _ _ _ h => h) (Or.inl ⟨by rfl, ?_⟩) (by assumption) ?_
                 rotate_left
                 · intro wx hSw
                   obtain ⟨s0, s1, s2⟩ := KS.out wx hSw
                   (first | (go_simp; rfl) | go_simp | rfl))
              | refine wpAnyH_take (i := 16) (v := undef) rfl (by kernel_rfl) (by kernel_rfl) (by kernel_rfl) (fun _ _ _ h => h) (Or.inr ⟨by rfl, rfl⟩) (by assumption) ?_
            try simp only [List.getElem_toArray, List.getElem_cons_zero, List.getElem_cons_succ, Act.put, List.setIfInBounds_toArray, List.set_cons_zero, List.set_cons_succ, Array.toArray_toList]
            refine wpAnyH_ready (rs := [11]) (by kernel_rfl) (by simp) ?_
            refine AllReadyH.cons rfl (fun K hK => ?_) AllReadyH.nil
            go_simp
            refine (HNU.out _ (by (repeat (first | exact Bwr.out | refine bdrew ?_)))).mono ?_
            rintro e5 w5 ⟨rfl, b5⟩
            have bb5 : Below (wr).heap.size (wr) w5 := (bdrew (Below.refl _ _)).trans b5
            have Bw5 := Lib.hid (bstep Bwr.out bb5)
            have Lw5 := Lib.hid ((bb5.block _ (lt_of_block Lwr.out)).trans Lwr.out)
            have Rw5 := Lib.hid ((bb5.block _ (lt_of_block Rwr.out)).trans Rwr.out)
            clear b5 bb5
            try go_simp
            refine hK.out _ _ Lw5.out (fun hHeld => ?_)
            clear hK K
            try simp only [List.getElem_toArray, List.getElem_cons_zero, List.getElem_cons_succ, Act.put, List.setIfInBounds_toArray, List.set_cons_zero, List.set_cons_succ, Array.toArray_toList]
            first
              | (refine wpAnyH_take (i := 17) (v := ?_) rfl (by kernel_rfl) (by kernel_rfl) (by kernel_rfl) (fun _ _ _ h => h) (Or.inl ⟨by rfl, ?_⟩) (by assumption) ?_
                 rotate_left
                 · intro wx hSw
                   obtain ⟨s0, s1, s2⟩ := KS.out wx hSw
                   (first | (go_simp; rfl) | go_simp | rfl))
              | refine wpAnyH_take (i := 17) (v := undef) rfl (by kernel_rfl) (by kernel_rfl) (by kernel_rfl) (fun _ _ _ h => h) (Or.inr ⟨by rfl, rfl⟩) (by assumption) ?_
            try simp only [List.getElem_toArray, List.getElem_cons_zero, List.getElem_cons_succ, Act.put, List.setIfInBounds_toArray, List.set_cons_zero, List.set_cons_succ, Array.toArray_toList]
            refine wpAnyH_done (by kernel_rfl) ?_ _
            clear hHeld
            have c0 : w5.cell? ⟨lb, k * 3, none⟩ = some (.int .u64 (o : Int)) := (KS.out w5 Lw5.out).1
            have HE : Hid (begF bs = some (o, 3)) := Lib.hid (by
              exact HBAD.out)
            go_wp2_with fail
            refine (HAT.out 3 o w5).mono ?_
            rintro e6 w6 ⟨rfl, hb6⟩
            have R6 := Lib.hid ((hb6.block _ (lt_of_block Rw5.out)).trans Rw5.out)
            have B6 := Lib.hid (bstep Bw5.out hb6)
            have g0 : w6.cell? ⟨rbk, 0, none⟩ = some (.int .i64 0) := by rw [cell_of_row _ _ 0 _ _ _ R6.out]; rfl
            have g1 : w6.cell? ⟨rbk, 1, none⟩ = some (.bool false) := by rw [cell_of_row _ _ 1 _ _ _ R6.out]; rfl
            have g2 : w6.cell? ⟨rbk, 2, none⟩ = some (.int .u64 0) := by rw [cell_of_row _ _ 2 _ _ _ R6.out]; rfl
            have f0 : w6.frozen? ⟨rbk, 0, none⟩ = false := frozen_of_row _ _ _ _ _ R6.out
            have f1 : w6.frozen? ⟨rbk, 1, none⟩ = false := frozen_of_row _ _ _ _ _ R6.out
            have f2 : w6.frozen? ⟨rbk, 2, none⟩ = false := frozen_of_row _ _ _ _ _ R6.out
            obtain ⟨wf, hwf, z0, z1, z2, ez⟩ := set3_cells R6.out (.int .i64 3) (.bool true) (.int .u64 ((o : Nat) : Int))
            have BF : Hid (Below w.heap.size w wf) := Lib.hid (by rw [← ez]; exact below_set3 B6.out HRB.out _ _ _)
            clear ez hb6
            go_wp2_with fail
            refine bodyPost_ret (by simp [results, Tryd.results40, go_sem, z0, z1, z2]; try rfl) rfl ?_
            exact HPF.out 3 o wf HE.out BF.out
end Go.Proofs.YtmjfkcclhbpclaaDoor
/- Layer 4: a program header's numbers, where they stand in the whole file. -/
namespace Go.Proofs.YtmjfkcclhbpclaaDoor
open Go.RowKit
set_option linter.unusedVariables false
set_option linter.unusedSimpArgs false

theorem numF_drop {bs : List Nat} {p : Nat} (h : p ≤ bs.length) (o n : Nat) : numF (bs.drop p) o n = numF bs (p + o) n := by
  unfold numF
  have e : inB (bs.drop p).length o n = inB bs.length (p + o) n := by
    unfold inB
    rw [List.length_drop, decide_eq_decide]
    omega
  rw [e, List.drop_drop]
/-- the numbers of a program header at a place -/
def progAt (bs : List Nat) (p : Nat) : PT := ⟨numF bs p 4, numF bs (p + 4) 4, numF bs (p + 8) 8, numF bs (p + 16) 8, numF bs (p + 32) 8, numF bs (p + 40) 8, numF bs (p + 48) 8⟩
theorem progAt_eq {bs : List Nat} {p : Nat} (h : p ≤ bs.length) : progF (bs.drop p) = progAt bs p := by
  unfold progF progAt
  rw [numF_drop h, numF_drop h, numF_drop h, numF_drop h, numF_drop h, numF_drop h, numF_drop h, Nat.add_zero]
end Go.Proofs.YtmjfkcclhbpclaaDoor
/- Layer 4: reading as the document goes about it. -/
namespace Go.Proofs.YtmjfkcclhbpclaaDoor
open Go.RowKit
set_option linter.unusedVariables false
set_option linter.unusedSimpArgs false

/-- the rest of the program headers, as the document reads them -/
def rprogsF (bs : List Nat) (from_ : Nat) : Nat → Nat → List PT → Except (Nat × Nat) (List PT)
  | 0, _, ps => .ok ps
  | g + 1, k, ps => match rOneF bs.length ps (progAt bs (from_ + 56 * k)) (from_ + 56 * k) with
    | some x => .error x
    | none => rprogsF bs from_ g (k + 1) (ps ++ [progAt bs (from_ + 56 * k)])
theorem progAt_wf {bs : List Nat} (h : ∀ x ∈ bs, x < 256) (p : Nat) (hp : p ≤ bs.length) : (progAt bs p).wf := by
  rw [← progAt_eq hp]
  exact progF_wf (fun x hx => h x (List.mem_of_mem_drop hx))
theorem rprogs_eq {bs : List Nat} (hb : ∀ x ∈ bs, x < 256) (from_ n : Nat) (hin : from_ + 56 * n ≤ bs.length) : ∀ (g k : Nat) (ps : List PT), k + g = n → (∀ q ∈ ps, q.wf) → rprogsF bs from_ g k ps = progsF bs from_ g k ps
  | 0, k, ps, _, _ => rfl
  | g + 1, k, ps, hk, hw => by
    have hp : from_ + 56 * k ≤ bs.length := by omega
    have hwf := progAt_wf hb _ hp
    rw [rprogsF, progsF, progAt_eq hp, rOne_one _ _ _ _ hw]
    cases oneF bs.length ps (progAt bs (from_ + 56 * k)) (from_ + 56 * k) with
    | some x => rfl
    | none => exact rprogs_eq hb from_ n hin g (k + 1) _ (by omega) (fun q hq => by
        rcases List.mem_append.1 hq with hq | hq
        · exact hw q hq
        · rw [List.mem_singleton] at hq; rw [hq]; exact hwf)
/-- reading, in the document's order -/
def rreadF (bs : List Nat) : Except HErr HT :=
  if 1048576 < bs.length then .error (.code 2)
  else match begF bs with
    | some (a, c) => .error (.spot a c)
    | none => if numF bs 56 2 = 0 then .error (.spot 56 3)
      else if 16 < numF bs 56 2 then .error (.spot 56 2)
      else if inB bs.length (numF bs 32 8) (56 * numF bs 56 2) = true then
        match rprogsF bs (numF bs 32 8) (numF bs 56 2) 0 [] with
        | .error (a, c) => .error (.spot a c)
        | .ok ps => match lastF ps with
          | none => .error (.code 6)
          | some _ => .ok ⟨numF bs 16 2, numF bs 24 8, ps⟩
      else .error (.spot 32 4)
theorem rread_eq {bs : List Nat} (hb : ∀ x ∈ bs, x < 256) : rreadF bs = readF bs := by
  unfold rreadF readF begF
  by_cases h1 : 1048576 < bs.length
  · rw [if_pos h1, if_pos h1]
  · rw [if_neg h1, if_neg h1]
    by_cases h2 : bs.length < 64
    · rw [if_pos h2, if_pos h2]
    · rw [if_neg h2, if_neg h2]
      cases constF bs fixedF with
      | some x => rfl
      | none =>
        simp only []
        unfold whereF unF
        by_cases h3 : numF bs 56 2 = 0
        · rw [if_pos h3, if_neg (by rw [decide_eq_true_eq]; omega)]
          rfl
        · rw [if_neg h3, if_pos (show decide (0 < numF bs 56 2) = true from decide_eq_true (by omega))]
          by_cases h4 : 16 < numF bs 56 2
          · rw [if_pos h4, if_neg (show ¬ decide (numF bs 56 2 ≤ 16) = true by rw [decide_eq_true_eq]; omega)]
            rfl
          · rw [if_neg h4, if_pos (show decide (numF bs 56 2 ≤ 16) = true from decide_eq_true (by omega)), Nat.mul_comm 56]
            by_cases h5 : inB bs.length (numF bs 32 8) (numF bs 56 2 * 56) = true
            · rw [if_pos h5, if_pos h5]
              have hin : numF bs 32 8 + 56 * numF bs 56 2 ≤ bs.length := by
                unfold inB at h5
                have := of_decide_eq_true h5
                omega
              rw [rprogs_eq hb _ _ hin _ 0 [] (by omega) (by simp)]
              rfl
            · rw [if_neg h5, if_neg h5]
              rfl
end Go.Proofs.YtmjfkcclhbpclaaDoor
/- Layer 4: the document's own Read: two result boxes; a file that is too long. -/
namespace Go.Proofs.YtmjfkcclhbpclaaDoor
open Go.RowKit
set_option linter.unusedVariables false
set_option linter.unusedSimpArgs false
set_option maxRecDepth 100000

theorem set6_cells {w : World} {h r : Nat} {T T' : TypeId} {u0 u1 u2 v0 v1 v2 : Value} (Rh : w.heap[h]? = some (.cells #[u0, u1, u2] T)) (Rr : w.heap[r]? = some (.cells #[v0, v1, v2] T')) (hne : h ≠ r) (x0 x1 x2 y0 y1 y2 : Value) :
    ∃ w5 w6, ((w.setCell ⟨h, 0, none⟩ x0).setCell ⟨h, 1, none⟩ x1).setCell ⟨h, 2, none⟩ x2 = w5 ∧ ((w5.setCell ⟨r, 0, none⟩ y0).setCell ⟨r, 1, none⟩ y1).setCell ⟨r, 2, none⟩ y2 = w6 ∧
      (w5.cell? ⟨r, 0, none⟩ = some v0 ∧ w5.cell? ⟨r, 1, none⟩ = some v1 ∧ w5.cell? ⟨r, 2, none⟩ = some v2 ∧ w5.frozen? ⟨r, 0, none⟩ = false ∧ w5.frozen? ⟨r, 1, none⟩ = false ∧ w5.frozen? ⟨r, 2, none⟩ = false) ∧
      (w6.cell? ⟨h, 0, none⟩ = some x0 ∧ w6.cell? ⟨h, 1, none⟩ = some x1 ∧ w6.cell? ⟨h, 2, none⟩ = some x2 ∧ w6.cell? ⟨r, 0, none⟩ = some y0 ∧ w6.cell? ⟨r, 1, none⟩ = some y1 ∧ w6.cell? ⟨r, 2, none⟩ = some y2) ∧ set3 (set3 w h x0 x1 x2) r y0 y1 y2 = w6 := by
  have e1 := heap_setCell_same w h 0 _ _ x0 Rh
  have e2 := heap_setCell_same _ h 1 _ _ x1 e1
  have e3 := heap_setCell_same _ h 2 _ _ x2 e2
  have hr : (set3 w h x0 x1 x2).heap[r]? = some (.cells #[v0, v1, v2] T') := (set3_other (Ne.symm hne) x0 x1 x2).trans Rr
  have f1 := heap_setCell_same (set3 w h x0 x1 x2) r 0 _ _ y0 hr
  have f2 := heap_setCell_same _ r 1 _ _ y1 f1
  have f3 := heap_setCell_same _ r 2 _ _ y2 f2
  have hh : (set3 (set3 w h x0 x1 x2) r y0 y1 y2).heap[h]? = _ := (set3_other hne y0 y1 y2).trans e3
  have hr3 : (set3 (set3 w h x0 x1 x2) r y0 y1 y2).heap[r]? = _ := f3
  refine ⟨_, _, rfl, rfl, ⟨?_, ?_, ?_, ?_, ?_, ?_⟩, ⟨?_, ?_, ?_, ?_, ?_, ?_⟩, rfl⟩
  · show (set3 w h x0 x1 x2).cell? _ = _; rw [cell_of_row _ _ 0 _ _ _ hr]; rfl
  · show (set3 w h x0 x1 x2).cell? _ = _; rw [cell_of_row _ _ 1 _ _ _ hr]; rfl
  · show (set3 w h x0 x1 x2).cell? _ = _; rw [cell_of_row _ _ 2 _ _ _ hr]; rfl
  · exact frozen_of_row _ _ _ _ _ hr
  · exact frozen_of_row _ _ _ _ _ hr
  · exact frozen_of_row _ _ _ _ _ hr
  · show (set3 (set3 w h x0 x1 x2) r y0 y1 y2).cell? _ = _; rw [cell_of_row _ _ 0 _ _ _ hh]; rfl
  · show (set3 (set3 w h x0 x1 x2) r y0 y1 y2).cell? _ = _; rw [cell_of_row _ _ 1 _ _ _ hh]; rfl
  · show (set3 (set3 w h x0 x1 x2) r y0 y1 y2).cell? _ = _; rw [cell_of_row _ _ 2 _ _ _ hh]; rfl
  · show (set3 (set3 w h x0 x1 x2) r y0 y1 y2).cell? _ = _; rw [cell_of_row _ _ 0 _ _ _ hr3]; rfl
  · show (set3 (set3 w h x0 x1 x2) r y0 y1 y2).cell? _ = _; rw [cell_of_row _ _ 1 _ _ _ hr3]; rfl
  · show (set3 (set3 w h x0 x1 x2) r y0 y1 y2).cell? _ = _; rw [cell_of_row _ _ 2 _ _ _ hr3]; rfl
def RReadPost (bs : List Nat) (w : World) (e : Ending) (w' : World) : Prop := (match rreadF bs with
  | .error x => e = .returned (.tuple #[.agg #[.int .i64 0, .int .u64 0, .slice none 0 0], badV (some x)])
  | .ok h => ∃ pa pc, e = .returned (.tuple #[.agg #[.int .i64 (h.kind : Int), .int .u64 (h.entry : Int), .slice pa h.ps.length pc], badV none]) ∧ OwnS w' w.heap.size 37 7 (.slice pa h.ps.length pc) (h.ps.map PT.cells) ∧ ∀ p ∈ h.ps, p.wf) ∧ Below w.heap.size w w'
set_option maxHeartbeats 16000000 in
theorem rread_long (a : Option Addr) (m cap : Nat) (bs : List Nat) (w : World) (h : BAny w a m cap bs) (hlong : 1048576 < m) :
    Calls Tryd.prog 17 #[.slice a m cap] w (RReadPost bs w) := by
  have HE : rreadF bs = .error (.code 2) := by unfold rreadF; rw [if_pos (by have := h.len; omega)]
  have HPE : Hid (∀ w', Below w.heap.size w w' → RReadPost bs w (.returned (.tuple #[.agg #[.int .i64 0, .int .u64 0, .slice none 0 0], .agg #[.int .i64 2, .bool false, .int .u64 0]])) w') := Lib.hid (fun w' hb => ⟨by rw [HE]; rfl, hb⟩)
  generalize RReadPost bs w = P at *
  have hml : (m : Int) ≤ 140737488351232 := by have := h.most; omega
  obtain ⟨w1, hw1⟩ : ∃ w1, w.alloc (.cells #[.int .i64 0, .int .u64 0, .slice none 0 0] 25) = w1 := ⟨_, rfl⟩
  obtain ⟨hb, hhb⟩ : ∃ hb, w.heap.size = hb := ⟨_, rfl⟩
  obtain ⟨w2, hw2⟩ : ∃ w2, w1.alloc (.cells #[.int .i64 0, .bool false, .int .u64 0] 43) = w2 := ⟨_, rfl⟩
  obtain ⟨rb, hrb⟩ : ∃ rb, w1.heap.size = rb := ⟨_, rfl⟩
  have B1 : Hid (Below w.heap.size w w1) := Lib.hid (by rw [← hw1]; exact ballo (Below.refl _ _) _)
  have B12 : Hid (Below w1.heap.size w1 w2) := Lib.hid (by rw [← hw2]; exact ballo (Below.refl _ _) _)
  have B2 := Lib.hid (bstep B1.out B12.out)
  have H1 : Hid (w1.heap[hb]? = some (.cells #[.int .i64 0, .int .u64 0, .slice none 0 0] 25)) := Lib.hid (by rw [← hw1, ← hhb]; exact heap_alloc_new _ _)
  have H2 := Lib.hid ((B12.out.block _ (lt_of_block H1.out)).trans H1.out)
  have R2 : Hid (w2.heap[rb]? = some (.cells #[.int .i64 0, .bool false, .int .u64 0] 43)) := Lib.hid (by rw [← hw2, ← hrb]; exact heap_alloc_new _ _)
  have HNE : Hid (hb ≠ rb ∧ w.heap.size ≤ hb ∧ w.heap.size ≤ rb) := Lib.hid (by have h1 := lt_of_block H1.out; have h2 := B1.out.size; omega)
  have t1 : decide ((1048576 : Int) < (m : Int)) = true := decide_eq_true (by omega)
  have g0 : w2.cell? ⟨hb, 0, none⟩ = some (.int .i64 0) := by rw [cell_of_row _ _ 0 _ _ _ H2.out]; rfl
  have g1 : w2.cell? ⟨hb, 1, none⟩ = some (.int .u64 0) := by rw [cell_of_row _ _ 1 _ _ _ H2.out]; rfl
  have g2 : w2.cell? ⟨hb, 2, none⟩ = some (.slice none 0 0) := by rw [cell_of_row _ _ 2 _ _ _ H2.out]; rfl
  have f0 : w2.frozen? ⟨hb, 0, none⟩ = false := frozen_of_row _ _ _ _ _ H2.out
  have f1 : w2.frozen? ⟨hb, 1, none⟩ = false := frozen_of_row _ _ _ _ _ H2.out
  have f2 : w2.frozen? ⟨hb, 2, none⟩ = false := frozen_of_row _ _ _ _ _ H2.out
  obtain ⟨w5, w6, hw5, hw6, ⟨v0, v1, v2, v3, v4, v5⟩, ⟨z0, z1, z2, z3, z4, z5⟩, ez⟩ := set6_cells H2.out R2.out HNE.out.1 (.int .i64 0) (.int .u64 0) (.slice none 0 0) (.int .i64 2) (.bool false) (.int .u64 0)
  have BF : Hid (Below w.heap.size w w6) := Lib.hid (by rw [← ez]; exact below_set3 (below_set3 B2.out HNE.out.2.1 _ _ _) HNE.out.2.2 _ _ _)
  clear h hlong HE ez
  go_enter Tryd.func17, Tryd.ntmps17
  go_wp2_with fail
  refine bodyPost_ret (by simp [results, Tryd.results17, go_sem, z0, z1, z2, z3, z4, z5]; try rfl) rfl ?_
  exact HPE.out _ BF.out
end Go.Proofs.YtmjfkcclhbpclaaDoor
/- Layer 4: the document's own Read: where it stands. -/
namespace Go.Proofs.YtmjfkcclhbpclaaDoor
open Go.RowKit
set_option linter.unusedVariables false
set_option linter.unusedSimpArgs false
set_option maxRecDepth 100000

theorem set_self {w : World} {b j : Nat} {cs : Array Value} {T : TypeId} {v : Value} (h : w.heap[b]? = some (.cells cs T)) (hv : cs.setIfInBounds j v = cs) : w.setCell ⟨b, j, none⟩ v = w := by
  rw [setCell_eq_setRow _ _ _ _ _ _ _ h, hv]
  exact setRow_self _ _ _ _ _ h
theorem begF_code {bs : List Nat} {a c : Nat} (h : begF bs = some (a, c)) : c = 3 ∨ c = 4 := by
  unfold begF at h
  split at h
  · simp only [Option.some.injEq, Prod.mk.injEq] at h
    exact .inr h.2.symm
  · left
    generalize fixedF = l at h
    induction l with
    | nil => cases h
    | cons q l ih =>
      obtain ⟨a0, n, x, y⟩ := q
      rw [constF] at h
      split at h
      · exact ih h
      · simp only [Option.some.injEq, Prod.mk.injEq] at h
        exact h.2.symm
theorem rOneF_code {n : Nat} {ps : List PT} {p : PT} {t a c : Nat} (h : rOneF n ps p t = some (a, c)) : 3 ≤ c ∧ c ≤ 5 := by
  unfold rOneF at h
  repeat' split at h
  all_goals (simp only [Option.some.injEq, Prod.mk.injEq, reduceCtorEq] at h)
  all_goals omega
/-- where the document's reading stands -/
structure RSt (w0 : World) (hb rb xb yb K E : Nat) (ps : List PT) (pa : Option Addr) (n pc : Nat) (wr : World) : Prop where
  h : wr.heap[hb]? = some (.cells #[.int .i64 0, .int .u64 0, .slice none 0 0] 25)
  r : wr.heap[rb]? = some (.cells #[.int .i64 0, .bool false, .int .u64 0] 43)
  x : wr.heap[xb]? = some (.cells #[.int .i64 0, .bool false, .int .u64 0] 43)
  y : wr.heap[yb]? = some (.cells #[.int .i64 (K : Int), .int .u64 (E : Int), .slice pa n pc] 25)
  own : OwnS wr w0.heap.size 37 7 (.slice pa n pc) (ps.map PT.cells)
  len : ps.length = n
  wf : ∀ p ∈ ps, p.wf
  blw : Below w0.heap.size w0 wr
theorem RSt.below {w0 : World} {hb rb xb yb K E : Nat} {ps : List PT} {pa : Option Addr} {n pc : Nat} {wr w' : World} (s : RSt w0 hb rb xb yb K E ps pa n pc wr) (b : Below wr.heap.size wr w') : RSt w0 hb rb xb yb K E ps pa n pc w' :=
  ⟨(b.block _ (lt_of_block s.h)).trans s.h, (b.block _ (lt_of_block s.r)).trans s.r, (b.block _ (lt_of_block s.x)).trans s.x, (b.block _ (lt_of_block s.y)).trans s.y, s.own.below b, s.len, s.wf, s.blw.trans (b.mono s.blw.size)⟩
theorem RSt.next {w0 : World} {hb rb xb yb K E : Nat} {ps : List PT} {pa : Option Addr} {n pc : Nat} {wz w8 : World} {p : PT} {ad8 : Option Addr} {c8 : Nat} (s : RSt w0 hb rb xb yb K E ps pa n pc wz) (hge : w0.heap.size ≤ yb) (hhy : hb ≠ yb) (hp : p.wf)
    (ho8 : OwnS w8 w0.heap.size 37 7 (.slice ad8 (n + 1) c8) (ps.map PT.cells ++ [p.cells])) (hg8 : wz.grownBy w8 (Value.slice pa n pc).ownBlock) :
    RSt w0 hb rb xb yb K E (ps ++ [p]) ad8 (n + 1) c8 (w8.setCell ⟨yb, 2, none⟩ (.slice ad8 (n + 1) c8)) ∧ w8.cell? ⟨yb, 2, none⟩ = some (.slice pa n pc) ∧ w8.frozen? ⟨yb, 2, none⟩ = false := by
  have keep : ∀ (b : Nat) (cs : Array Value) (T : TypeId), wz.heap[b]? = some (.cells cs T) → 37 ≠ T → w8.heap[b]? = some (.cells cs T) := fun b cs T hb hT =>
    (hg8.block _ (lt_of_block hb) (fun e => own_ne s.own.1 hb hT e.symm)).trans hb
  have hy := keep _ _ _ s.y (by decide)
  have hh := keep _ _ _ s.h (by decide)
  have hr := keep _ _ _ s.r (by decide)
  have hx := keep _ _ _ s.x (by decide)
  have hry : rb ≠ yb := fun e => by rw [e, hy] at hr; simp at hr
  have hxy : xb ≠ yb := fun e => by rw [e, hy] at hx; simp at hx
  refine ⟨⟨(heap_setCell_other _ _ _ _ hhy).trans hh, (heap_setCell_other _ _ _ _ hry).trans hr, (heap_setCell_other _ _ _ _ hxy).trans hx, ?_, ⟨?_, ?_⟩, ?_, ?_, ?_⟩, by rw [cell_of_row _ _ 2 _ _ _ hy]; rfl, frozen_of_row _ _ _ _ _ hy⟩
  · rw [heap_setCell_same _ yb 2 _ _ _ hy]
    rfl
  · rw [List.map_append]
    exact ownsRow_setCell_other ho8.1 (own_ne ho8.1 hy (by decide)) _
  · intro q hq
    obtain ⟨x, -, rfl⟩ := List.mem_map.1 hq
    rfl
  · rw [List.length_append, s.len]; rfl
  · intro q hq
    rcases List.mem_append.1 hq with hq | hq
    · exact s.wf q hq
    · rw [List.mem_singleton] at hq; rw [hq]; exact hp
  · exact (s.blw.grown hg8 s.blw.size (fun j hj => (World.ownsRow.lt s.own.1 j hj).1)).setCell (p := ⟨yb, 2, none⟩) hge _
end Go.Proofs.YtmjfkcclhbpclaaDoor
/- Layer 4: what the document asks of a program header: its own walk, whatever the type. -/
namespace Go.Proofs.YtmjfkcclhbpclaaDoor
open Go.RowKit
set_option linter.unusedVariables false
set_option linter.unusedSimpArgs false
set_option maxRecDepth 100000

theorem rprog_any (a : Option Addr) (m cap : Nat) (bs : List Nat) (p : PT) (at_ : Nat) (pa : Option Addr) (pn pc : Nat) (ps : List PT) (w : World) (hml0 : m ≤ 140737488351232) (hp : p.wf) (hat : at_ + 64 < 18446744073709551616) (hps : PRow w pa ps) (hl : ps.length = pn) (hpn : pn ≤ 1048576) :
    Calls Tryd.prog 41 #[.slice a m cap, p.hv, .int .u64 (at_ : Int), .slice pa pn pc] w (RProgPost m ps p at_ w) := by
  cases h2 : isOf p [1, 2, 3, 4, 7] <;> cases h3 : isOf p [1, 2, 7, 1685382482]
  · exact rprog_ff a m cap bs p at_ pa pn pc ps w hml0 hp hat hps hl hpn h2 h3
  · exact rprog_ft a m cap bs p at_ pa pn pc ps w hml0 hp hat hps hl hpn h2 h3
  · exact rprog_tf a m cap bs p at_ pa pn pc ps w hml0 hp hat hps hl hpn h2 h3
  · exact rprog_tt a m cap bs p at_ pa pn pc ps w hml0 hp hat hps hl hpn h2 h3
end Go.Proofs.YtmjfkcclhbpclaaDoor
/- Layer 4: the document's own Read: a file that is not too long. -/
namespace Go.Proofs.YtmjfkcclhbpclaaDoor
open Go.RowKit
set_option linter.unusedVariables false
set_option linter.unusedSimpArgs false
set_option maxRecDepth 100000

theorem own_prow2 {w : World} {B n pc : Nat} {pa : Option Addr} {ps : List PT} (h : OwnS w B 37 7 (.slice pa n pc) (ps.map PT.cells)) (hw : ∀ p ∈ ps, p.wf) : PRow w pa ps := by
  obtain ⟨h1, h2, h3, -⟩ := OwnS.at h
  intro i hi
  refine ⟨hw _ (List.getElem_mem hi), ?_⟩
  obtain ⟨b, o, e, hlt, hc⟩ := h2 i (by simpa using hi)
  exact ⟨b, o, e, hlt, fun j hj => by simpa using hc j hj⟩
theorem own_set3g {w : World} {B : Nat} {v : Value} {rows : List (List Value)} {b : Nat} {cs : Array Value} {T : TypeId} (h : OwnS w B 37 7 v rows) (R : w.heap[b]? = some (.cells cs T)) (hT : 37 ≠ T) (v0 v1 v2 : Value) : OwnS (set3 w b v0 v1 v2) B 37 7 v rows := by
  have hne := own_ne h.1 R hT
  exact ((h.setO (a := ⟨b, 0, none⟩) hne v0).setO (a := ⟨b, 1, none⟩) hne v1).setO (a := ⟨b, 2, none⟩) hne v2
theorem rr_beg {bs : List Nat} (h : ¬ 1048576 < bs.length) {a c : Nat} (hb : begF bs = some (a, c)) : rreadF bs = .error (.spot a c) := by
  rw [rreadF, if_neg h, hb]
theorem rr_none {bs : List Nat} (h : ¬ 1048576 < bs.length) (hb : begF bs = none) (h0 : numF bs 56 2 = 0) : rreadF bs = .error (.spot 56 3) := by
  rw [rreadF, if_neg h, hb]
  simp only []
  rw [if_pos h0]
theorem rr_many {bs : List Nat} (h : ¬ 1048576 < bs.length) (hb : begF bs = none) (h0 : ¬ numF bs 56 2 = 0) (h1 : 16 < numF bs 56 2) : rreadF bs = .error (.spot 56 2) := by
  rw [rreadF, if_neg h, hb]
  simp only []
  rw [if_neg h0, if_pos h1]
theorem rr_in {bs : List Nat} (h : ¬ 1048576 < bs.length) (hb : begF bs = none) (h0 : ¬ numF bs 56 2 = 0) (h1 : ¬ 16 < numF bs 56 2) (h2 : inB bs.length (numF bs 32 8) (56 * numF bs 56 2) = false) : rreadF bs = .error (.spot 32 4) := by
  rw [rreadF, if_neg h, hb]
  simp only []
  rw [if_neg h0, if_neg h1, if_neg (by rw [h2]; decide)]
theorem rr_err {bs : List Nat} (h : ¬ 1048576 < bs.length) (hb : begF bs = none) (h0 : ¬ numF bs 56 2 = 0) (h1 : ¬ 16 < numF bs 56 2) (h2 : inB bs.length (numF bs 32 8) (56 * numF bs 56 2) = true) {a c : Nat} (h3 : rprogsF bs (numF bs 32 8) (numF bs 56 2) 0 [] = .error (a, c)) : rreadF bs = .error (.spot a c) := by
  rw [rreadF, if_neg h, hb]
  simp only []
  rw [if_neg h0, if_neg h1, if_pos h2, h3]
theorem rr_load {bs : List Nat} (h : ¬ 1048576 < bs.length) (hb : begF bs = none) (h0 : ¬ numF bs 56 2 = 0) (h1 : ¬ 16 < numF bs 56 2) (h2 : inB bs.length (numF bs 32 8) (56 * numF bs 56 2) = true) {ps : List PT} (h3 : rprogsF bs (numF bs 32 8) (numF bs 56 2) 0 [] = .ok ps) (h4 : lastF ps = none) : rreadF bs = .error (.code 6) := by
  rw [rreadF, if_neg h, hb]
  simp only []
  rw [if_neg h0, if_neg h1, if_pos h2, h3]
  simp only []
  rw [h4]
theorem rr_ok {bs : List Nat} (h : ¬ 1048576 < bs.length) (hb : begF bs = none) (h0 : ¬ numF bs 56 2 = 0) (h1 : ¬ 16 < numF bs 56 2) (h2 : inB bs.length (numF bs 32 8) (56 * numF bs 56 2) = true) {ps : List PT} (h3 : rprogsF bs (numF bs 32 8) (numF bs 56 2) 0 [] = .ok ps) {q : PT} (h4 : lastF ps = some q) : rreadF bs = .ok ⟨numF bs 16 2, numF bs 24 8, ps⟩ := by
  rw [rreadF, if_neg h, hb]
  simp only []
  rw [if_neg h0, if_neg h1, if_pos h2, h3]
  simp only []
  rw [h4]
set_option maxHeartbeats 64000000 in
theorem rread_short (a : Option Addr) (m cap : Nat) (bs : List Nat) (w : World) (h : BAny w a m cap bs) (hm20 : m ≤ 1048576) :
    Calls Tryd.prog 17 #[.slice a m cap] w (RReadPost bs w) := by
  have HPE : Hid (∀ x w', rreadF bs = .error x → Below w.heap.size w w' → RReadPost bs w (.returned (.tuple #[.agg #[.int .i64 0, .int .u64 0, .slice none 0 0], badV (some x)])) w') := Lib.hid (fun x w' e hb => ⟨by rw [e], hb⟩)
  have HPO : Hid (∀ (K E : Nat) ps pa n pc w', rreadF bs = .ok ⟨K, E, ps⟩ → ps.length = n → OwnS w' w.heap.size 37 7 (.slice pa n pc) (ps.map PT.cells) → (∀ p ∈ ps, p.wf) → Below w.heap.size w w' → RReadPost bs w (.returned (.tuple #[.agg #[.int .i64 (K : Int), .int .u64 (E : Int), .slice pa n pc], .agg #[.int .i64 0, .bool false, .int .u64 0]])) w') := Lib.hid (fun K E ps pa n pc w' e hl ho hw hb => ⟨by rw [e]; subst hl; exact ⟨pa, pc, rfl, ho, hw⟩, hb⟩)
  generalize RReadPost bs w = P at *
  have HAT : Hid (∀ (c k : Nat) (wx : World), Calls Tryd.prog 32 #[.int .i64 (c : Int), .int .u64 (k : Int)] wx fun e w' => e = .returned (.agg #[.int .i64 (c : Int), .bool true, .int .u64 (k : Int)]) ∧ Below wx.heap.size wx w') := Lib.hid (fun c k wx => rat_any (c : Int) k wx)
  have HNM : Hid (∀ (o n : Nat) wx, o < 18446744073709551616 → wide n = true → Below w.heap.size w wx → Calls Tryd.prog 38 #[.slice a m cap, .int .u64 (o : Int), .int .i64 (n : Int)] wx fun e w' => e = .returned (.int .u64 (numF bs o n : Int)) ∧ Below wx.heap.size wx w') := Lib.hid (fun o n wx ho hn hb => rnum_any a m cap o n bs wx (h.below hb) ho hn)
  have HBY := Lib.hid h
  have HLN : Hid (bs.length = m ∧ m ≤ 1048576) := Lib.hid ⟨h.len, hm20⟩
  have hml : (m : Int) ≤ 1048576 := by omega
  have hmw : IntKind.u64.wrap (m : Int) = (m : Int) := by rw [IntKind.wrap_u64]; omega
  obtain ⟨w1, hw1⟩ : ∃ w1, w.alloc (.cells #[.int .i64 0, .int .u64 0, .slice none 0 0] 25) = w1 := ⟨_, rfl⟩
  obtain ⟨hb, hhb⟩ : ∃ hb, w.heap.size = hb := ⟨_, rfl⟩
  obtain ⟨w2, hw2⟩ : ∃ w2, w1.alloc (.cells #[.int .i64 0, .bool false, .int .u64 0] 43) = w2 := ⟨_, rfl⟩
  obtain ⟨rb, hrb⟩ : ∃ rb, w1.heap.size = rb := ⟨_, rfl⟩
  have B1 : Hid (Below w.heap.size w w1) := Lib.hid (by rw [← hw1]; exact ballo (Below.refl _ _) _)
  have B12 : Hid (Below w1.heap.size w1 w2) := Lib.hid (by rw [← hw2]; exact ballo (Below.refl _ _) _)
  have B2 := Lib.hid (bstep B1.out B12.out)
  have H1 : Hid (w1.heap[hb]? = some (.cells #[.int .i64 0, .int .u64 0, .slice none 0 0] 25)) := Lib.hid (by rw [← hw1, ← hhb]; exact heap_alloc_new _ _)
  have H2 := Lib.hid ((B12.out.block _ (lt_of_block H1.out)).trans H1.out)
  have R2 : Hid (w2.heap[rb]? = some (.cells #[.int .i64 0, .bool false, .int .u64 0] 43)) := Lib.hid (by rw [← hw2, ← hrb]; exact heap_alloc_new _ _)
  have HNE : Hid (hb ≠ rb ∧ w.heap.size ≤ hb ∧ w.heap.size ≤ rb) := Lib.hid (by have h1 := lt_of_block H1.out; have h2 := B1.out.size; omega)
  have HBG := Lib.hid (rbegins_any a m cap bs w2 (h.below B2.out))
  have t1 : decide ((1048576 : Int) < (m : Int)) = false := decide_eq_false (by omega)
  have HLG : Hid (¬ 1048576 < bs.length) := Lib.hid (by rw [h.len]; omega)
  clear h hm20
  go_enter Tryd.func17, Tryd.ntmps17
  go_wp2_with fail
  refine HBG.out.mono ?_
  rintro e w3 ⟨rfl, b3⟩
  have H3 := Lib.hid ((b3.block _ (lt_of_block H2.out)).trans H2.out)
  have R3 := Lib.hid ((b3.block _ (lt_of_block R2.out)).trans R2.out)
  have B3 := Lib.hid (bstep B2.out b3)
  clear b3 hw1 hw2 hhb hrb t1 HBG
  cases hbg : begF bs with
  | some x =>
    obtain ⟨at_, c⟩ := x
    have hc := begF_code hbg
    have HE : Hid (rreadF bs = .error (.spot at_ c)) := Lib.hid (rr_beg HLG.out hbg)
    have tc : ((c : Int) != 0) = true := bne_iff_ne.2 (by omega)
    rw [show badOB (some (at_, c)) = Value.agg #[.int .i64 (c : Int), .bool true, .int .u64 (at_ : Int)] from rfl]
    obtain ⟨w4, hw4⟩ : ∃ w4, w3.alloc (.cells #[.int .i64 (c : Int), .bool true, .int .u64 (at_ : Int)] 43) = w4 := ⟨_, rfl⟩
    obtain ⟨xb, hxb⟩ : ∃ xb, w3.heap.size = xb := ⟨_, rfl⟩
    have B34 : Hid (Below w3.heap.size w3 w4) := Lib.hid (by rw [← hw4]; exact ballo (Below.refl _ _) _)
    have B4 := Lib.hid (bstep B3.out B34.out)
    have X4 : Hid (w4.heap[xb]? = some (.cells #[.int .i64 (c : Int), .bool true, .int .u64 (at_ : Int)] 43)) := Lib.hid (by rw [← hw4, ← hxb]; exact heap_alloc_new _ _)
    have H4 := Lib.hid ((B34.out.block _ (lt_of_block H3.out)).trans H3.out)
    have R4 := Lib.hid ((B34.out.block _ (lt_of_block R3.out)).trans R3.out)
    have HNX : Hid (xb ≠ hb ∧ hb ≠ xb ∧ xb ≠ rb ∧ rb ≠ xb) := Lib.hid (by have h1 := lt_of_block H3.out; have h2 := lt_of_block R3.out; omega)
    have g0 : w4.cell? ⟨hb, 0, none⟩ = some (.int .i64 0) := by rw [cell_of_row _ _ 0 _ _ _ H4.out]; rfl
    have f0 : w4.frozen? ⟨hb, 0, none⟩ = false := frozen_of_row _ _ _ _ _ H4.out
    have g1 : w4.cell? ⟨hb, 1, none⟩ = some (.int .u64 0) := by rw [cell_of_row _ _ 1 _ _ _ H4.out]; rfl
    have f1 : w4.frozen? ⟨hb, 1, none⟩ = false := frozen_of_row _ _ _ _ _ H4.out
    have g2 : w4.cell? ⟨hb, 2, none⟩ = some (.slice none 0 0) := by rw [cell_of_row _ _ 2 _ _ _ H4.out]; rfl
    have f2 : w4.frozen? ⟨hb, 2, none⟩ = false := frozen_of_row _ _ _ _ _ H4.out
    obtain ⟨y5, y6, hy5, hy6, ⟨v0, v1, v2, v3, v4, v5⟩, ⟨z0, z1, z2, z3, z4, z5⟩, ez⟩ := set6_cells H4.out R4.out HNE.out.1 (.int .i64 0) (.int .u64 0) (.slice none 0 0) (.int .i64 (c : Int)) (.bool true) (.int .u64 (at_ : Int))
    have BF : Hid (Below w.heap.size w y6) := Lib.hid (by rw [← ez]; exact below_set3 (below_set3 B4.out HNE.out.2.1 _ _ _) HNE.out.2.2 _ _ _)
    have p0 : w4.cell? ⟨rb, 0, none⟩ = some (.int .i64 0) := by rw [cell_of_row _ _ 0 _ _ _ R4.out]; rfl
    have l0 : w4.frozen? ⟨rb, 0, none⟩ = false := frozen_of_row _ _ _ _ _ R4.out
    have p1 : w4.cell? ⟨rb, 1, none⟩ = some (.bool false) := by rw [cell_of_row _ _ 1 _ _ _ R4.out]; rfl
    have l1 : w4.frozen? ⟨rb, 1, none⟩ = false := frozen_of_row _ _ _ _ _ R4.out
    have p2 : w4.cell? ⟨rb, 2, none⟩ = some (.int .u64 0) := by rw [cell_of_row _ _ 2 _ _ _ R4.out]; rfl
    have l2 : w4.frozen? ⟨rb, 2, none⟩ = false := frozen_of_row _ _ _ _ _ R4.out
    obtain ⟨d5, d6, hd5, hd6, ⟨q0, q1, q2, q3, q4, q5⟩, ⟨r0, r1, r2, r3, r4, r5⟩, ed⟩ := set6_cells R4.out H4.out (Ne.symm HNE.out.1) (.int .i64 (c : Int)) (.bool true) (.int .u64 (at_ : Int)) (.int .i64 0) (.int .u64 0) (.slice none 0 0)
    have BG : Hid (Below w.heap.size w d6) := Lib.hid (by rw [← ed]; exact below_set3 (below_set3 B4.out HNE.out.2.2 _ _ _) HNE.out.2.1 _ _ _)
    have X5 : Hid (y5.heap[xb]? = w4.heap[xb]?) := Lib.hid (by rw [← hy5]; exact set3_other HNX.out.1 _ _ _)
    have s0 : w4.cell? ⟨xb, 0, none⟩ = some (.int .i64 (c : Int)) := by rw [cell_of_row _ _ 0 _ _ _ X4.out]; rfl
    have s1 : w4.cell? ⟨xb, 1, none⟩ = some (.bool true) := by rw [cell_of_row _ _ 1 _ _ _ X4.out]; rfl
    have s2 : w4.cell? ⟨xb, 2, none⟩ = some (.int .u64 (at_ : Int)) := by rw [cell_of_row _ _ 2 _ _ _ X4.out]; rfl
    have t0 : y5.cell? ⟨xb, 0, none⟩ = some (.int .i64 (c : Int)) := by rw [cell_of_row _ _ 0 _ _ _ (X5.out.trans X4.out)]; rfl
    have t1 : y5.cell? ⟨xb, 1, none⟩ = some (.bool true) := by rw [cell_of_row _ _ 1 _ _ _ (X5.out.trans X4.out)]; rfl
    have t2 : y5.cell? ⟨xb, 2, none⟩ = some (.int .u64 (at_ : Int)) := by rw [cell_of_row _ _ 2 _ _ _ (X5.out.trans X4.out)]; rfl
    clear ez ed
    clear hbg hc
    go_wp2_with fail
    go_region
    all_goals (
      go_wp2_with fail
      first
        | (refine bodyPost_ret (by simp [results, Tryd.results17, go_sem, z0, z1, z2, z3, z4, z5]; try rfl) rfl ?_
           exact HPE.out (.spot at_ c) _ HE.out BF.out.drew)
        | (refine bodyPost_ret (by simp [results, Tryd.results17, go_sem, r0, r1, r2, r3, r4, r5]; try rfl) rfl ?_
           exact HPE.out (.spot at_ c) _ HE.out BG.out.drew)
    )
  | none =>
    have HBN := Lib.hid hbg
    rw [show badOB none = Value.agg #[.int .i64 0, .bool false, .int .u64 0] from rfl]
    have B4 : Hid (Below w.heap.size w (w3.alloc (.cells #[.int .i64 0, .bool false, .int .u64 0] 43))) := Lib.hid (ballo B3.out _)
    have B34 : Hid (Below w3.heap.size w3 (w3.alloc (.cells #[.int .i64 0, .bool false, .int .u64 0] 43))) := Lib.hid (ballo (Below.refl _ _) _)
    have X4 : Hid ((w3.alloc (.cells #[.int .i64 0, .bool false, .int .u64 0] 43)).heap[w3.heap.size]? = some (.cells #[.int .i64 0, .bool false, .int .u64 0] 43)) := Lib.hid (heap_alloc_new _ _)
    have H4 := Lib.hid ((B34.out.block _ (lt_of_block H3.out)).trans H3.out)
    have R4 := Lib.hid ((B34.out.block _ (lt_of_block R3.out)).trans R3.out)
    have HNX : Hid (w3.heap.size ≠ hb ∧ hb ≠ w3.heap.size ∧ w3.heap.size ≠ rb ∧ rb ≠ w3.heap.size) := Lib.hid (by have h1 := lt_of_block H3.out; have h2 := lt_of_block R3.out; omega)
    have hxg : Hid (w.heap.size ≤ w3.heap.size) := Lib.hid B3.out.size
    clear hbg
    go_wp2_with fail
    clear B34
    generalize (w3.alloc (.cells #[.int .i64 0, .bool false, .int .u64 0] 43)) = w4 at *
    generalize w3.heap.size = xb at *
    refine (HNM.out 56 2 w4 (by decide) (by decide) B4.out).mono ?_
    rintro e w5 ⟨rfl, b5⟩
    have H5 := Lib.hid ((b5.block _ (lt_of_block H4.out)).trans H4.out)
    have R5 := Lib.hid ((b5.block _ (lt_of_block R4.out)).trans R4.out)
    have X5 := Lib.hid ((b5.block _ (lt_of_block X4.out)).trans X4.out)
    have B5 := Lib.hid (bstep B4.out b5)
    clear b5
    obtain ⟨N, hN⟩ : ∃ N, numF bs 56 2 = N := ⟨_, rfl⟩
    rw [hN]
    have HN := Lib.hid hN
    have hN16 : N < 65536 := by rw [← hN]; exact numF_lt HBY.out.row.2 56 2
    clear hN
    have HA1 : Hid (∀ wx, Calls Tryd.prog 32 #[.int .i64 3, .int .u64 56] wx fun e w' => e = .returned (.agg #[.int .i64 3, .bool true, .int .u64 56]) ∧ Below wx.heap.size wx w') := Lib.hid (fun wx => rat_any 3 56 wx)
    have HA2 : Hid (∀ wx, Calls Tryd.prog 32 #[.int .i64 2, .int .u64 56] wx fun e w' => e = .returned (.agg #[.int .i64 2, .bool true, .int .u64 56]) ∧ Below wx.heap.size wx w') := Lib.hid (fun wx => rat_any 2 56 wx)
    have HA3 : Hid (∀ wx, Calls Tryd.prog 32 #[.int .i64 4, .int .u64 32] wx fun e w' => e = .returned (.agg #[.int .i64 4, .bool true, .int .u64 32]) ∧ Below wx.heap.size wx w') := Lib.hid (fun wx => rat_any 4 32 wx)
    by_cases h0 : N = 0
    · have HE : Hid (rreadF bs = .error (.spot 56 3)) := Lib.hid (rr_none HLG.out HBN.out (by rw [HN.out]; exact h0))
      have tn : ((N : Int) == 0) = true := beq_iff_eq.2 (by omega)
      clear h0 hN16
      go_wp2_with fail
      refine (HA1.out _).mono ?_
      rintro e w6 ⟨rfl, b6⟩
      have H6 := Lib.hid ((b6.block _ (lt_of_block H5.out)).trans H5.out)
      have R6 := Lib.hid ((b6.block _ (lt_of_block R5.out)).trans R5.out)
      have B6 := Lib.hid (bstep B5.out b6)
      clear b6
      have g0 : w6.cell? ⟨hb, 0, none⟩ = some (.int .i64 0) := by rw [cell_of_row _ _ 0 _ _ _ H6.out]; rfl
      have f0 : w6.frozen? ⟨hb, 0, none⟩ = false := frozen_of_row _ _ _ _ _ H6.out
      have g1 : w6.cell? ⟨hb, 1, none⟩ = some (.int .u64 0) := by rw [cell_of_row _ _ 1 _ _ _ H6.out]; rfl
      have f1 : w6.frozen? ⟨hb, 1, none⟩ = false := frozen_of_row _ _ _ _ _ H6.out
      have g2 : w6.cell? ⟨hb, 2, none⟩ = some (.slice none 0 0) := by rw [cell_of_row _ _ 2 _ _ _ H6.out]; rfl
      have f2 : w6.frozen? ⟨hb, 2, none⟩ = false := frozen_of_row _ _ _ _ _ H6.out
      obtain ⟨y5, y6, hy5, hy6, ⟨v0, v1, v2, v3, v4, v5⟩, ⟨z0, z1, z2, z3, z4, z5⟩, ez⟩ := set6_cells H6.out R6.out HNE.out.1 (.int .i64 0) (.int .u64 0) (.slice none 0 0) (.int .i64 3) (.bool true) (.int .u64 56)
      have BF : Hid (Below w.heap.size w y6) := Lib.hid (by rw [← ez]; exact below_set3 (below_set3 B6.out HNE.out.2.1 _ _ _) HNE.out.2.2 _ _ _)
      clear ez
      go_wp2_with fail
      refine bodyPost_ret (by simp [results, Tryd.results17, go_sem, z0, z1, z2, z3, z4, z5]; try rfl) rfl ?_
      exact HPE.out (.spot 56 3) _ HE.out BF.out
    · have tn : ((N : Int) == 0) = false := beq_eq_false_iff_ne.2 (by omega)
      by_cases h1 : 16 < N
      · have HE : Hid (rreadF bs = .error (.spot 56 2)) := Lib.hid (rr_many HLG.out HBN.out (by rw [HN.out]; exact h0) (by rw [HN.out]; exact h1))
        have tm : decide ((16 : Int) < (N : Int)) = true := decide_eq_true (by omega)
        clear h0 h1 hN16
        go_wp2_with fail
        refine (HA2.out _).mono ?_
        rintro e w6 ⟨rfl, b6⟩
        have H6 := Lib.hid ((b6.block _ (lt_of_block H5.out)).trans H5.out)
        have R6 := Lib.hid ((b6.block _ (lt_of_block R5.out)).trans R5.out)
        have B6 := Lib.hid (bstep B5.out b6)
        clear b6
        have g0 : w6.cell? ⟨hb, 0, none⟩ = some (.int .i64 0) := by rw [cell_of_row _ _ 0 _ _ _ H6.out]; rfl
        have f0 : w6.frozen? ⟨hb, 0, none⟩ = false := frozen_of_row _ _ _ _ _ H6.out
        have g1 : w6.cell? ⟨hb, 1, none⟩ = some (.int .u64 0) := by rw [cell_of_row _ _ 1 _ _ _ H6.out]; rfl
        have f1 : w6.frozen? ⟨hb, 1, none⟩ = false := frozen_of_row _ _ _ _ _ H6.out
        have g2 : w6.cell? ⟨hb, 2, none⟩ = some (.slice none 0 0) := by rw [cell_of_row _ _ 2 _ _ _ H6.out]; rfl
        have f2 : w6.frozen? ⟨hb, 2, none⟩ = false := frozen_of_row _ _ _ _ _ H6.out
        obtain ⟨y5, y6, hy5, hy6, ⟨v0, v1, v2, v3, v4, v5⟩, ⟨z0, z1, z2, z3, z4, z5⟩, ez⟩ := set6_cells H6.out R6.out HNE.out.1 (.int .i64 0) (.int .u64 0) (.slice none 0 0) (.int .i64 2) (.bool true) (.int .u64 56)
        have BF : Hid (Below w.heap.size w y6) := Lib.hid (by rw [← ez]; exact below_set3 (below_set3 B6.out HNE.out.2.1 _ _ _) HNE.out.2.2 _ _ _)
        clear ez
        go_wp2_with fail
        refine bodyPost_ret (by simp [results, Tryd.results17, go_sem, z0, z1, z2, z3, z4, z5]; try rfl) rfl ?_
        exact HPE.out (.spot 56 2) _ HE.out BF.out
      · have tm : decide ((16 : Int) < (N : Int)) = false := decide_eq_false (by omega)
        have HNZ : Hid (¬ N = 0 ∧ ¬ 16 < N) := Lib.hid ⟨h0, h1⟩
        clear hN16
        go_wp2_with fail
        refine (HNM.out 32 8 w5 (by decide) (by decide) B5.out).mono ?_
        rintro e w6 ⟨rfl, b6⟩
        have H6 := Lib.hid ((b6.block _ (lt_of_block H5.out)).trans H5.out)
        have R6 := Lib.hid ((b6.block _ (lt_of_block R5.out)).trans R5.out)
        have X6 := Lib.hid ((b6.block _ (lt_of_block X5.out)).trans X5.out)
        have B6 := Lib.hid (bstep B5.out b6)
        clear b6
        obtain ⟨F, hF⟩ : ∃ F, numF bs 32 8 = F := ⟨_, rfl⟩
        rw [hF]
        have HF := Lib.hid hF
        have HFL : Hid (F < 18446744073709551616) := Lib.hid (by rw [← hF]; exact numF_lt HBY.out.row.2 32 8)
        obtain ⟨M, hM⟩ : ∃ M, 56 * N = M := ⟨_, rfl⟩
        have hwm : IntKind.u64.wrap ((56 : Int) * (N : Int)) = (M : Int) := by rw [IntKind.wrap_u64]; omega
        have HM := Lib.hid hM
        have HIN := Lib.hid (fun wx => refIn m F M wx (by have := HLN.out; omega) HFL.out (by omega))
        clear hF hM h0 h1 tn tm
        cases hin : inB m F M with
        | false =>
          rw [hin] at HIN
          have HE : Hid (rreadF bs = .error (.spot 32 4)) := Lib.hid (rr_in HLG.out HBN.out (by rw [HN.out]; exact HNZ.out.1) (by rw [HN.out]; exact HNZ.out.2) (by rw [HN.out, HF.out, HLN.out.1, HM.out]; exact hin))
          clear hin
          go_wp2_with fail
          refine (HIN.out _).mono ?_
          rintro e w7 ⟨rfl, rfl⟩
          go_wp2_with fail
          refine (HA3.out _).mono ?_
          rintro e w8 ⟨rfl, b8⟩
          have H8 := Lib.hid ((b8.block _ (lt_of_block H6.out)).trans H6.out)
          have R8 := Lib.hid ((b8.block _ (lt_of_block R6.out)).trans R6.out)
          have B8 := Lib.hid (bstep B6.out b8)
          clear b8
          have g0 : w8.cell? ⟨hb, 0, none⟩ = some (.int .i64 0) := by rw [cell_of_row _ _ 0 _ _ _ H8.out]; rfl
          have f0 : w8.frozen? ⟨hb, 0, none⟩ = false := frozen_of_row _ _ _ _ _ H8.out
          have g1 : w8.cell? ⟨hb, 1, none⟩ = some (.int .u64 0) := by rw [cell_of_row _ _ 1 _ _ _ H8.out]; rfl
          have f1 : w8.frozen? ⟨hb, 1, none⟩ = false := frozen_of_row _ _ _ _ _ H8.out
          have g2 : w8.cell? ⟨hb, 2, none⟩ = some (.slice none 0 0) := by rw [cell_of_row _ _ 2 _ _ _ H8.out]; rfl
          have f2 : w8.frozen? ⟨hb, 2, none⟩ = false := frozen_of_row _ _ _ _ _ H8.out
          obtain ⟨y5, y6, hy5, hy6, ⟨v0, v1, v2, v3, v4, v5⟩, ⟨z0, z1, z2, z3, z4, z5⟩, ez⟩ := set6_cells H8.out R8.out HNE.out.1 (.int .i64 0) (.int .u64 0) (.slice none 0 0) (.int .i64 4) (.bool true) (.int .u64 32)
          have BF : Hid (Below w.heap.size w y6) := Lib.hid (by rw [← ez]; exact below_set3 (below_set3 B8.out HNE.out.2.1 _ _ _) HNE.out.2.2 _ _ _)
          clear ez
          go_wp2_with fail
          refine bodyPost_ret (by simp [results, Tryd.results17, go_sem, z0, z1, z2, z3, z4, z5]; try rfl) rfl ?_
          exact HPE.out (.spot 32 4) _ HE.out BF.out
        | true =>
          rw [hin] at HIN
          have HII : Hid (inB m F M = true) := Lib.hid hin
          have HFM : Hid (F + 56 * N ≤ m) := Lib.hid (by
            unfold inB at hin
            have := of_decide_eq_true hin
            have := HM.out
            omega)
          clear hin
          go_wp2_with fail
          refine (HIN.out _).mono ?_
          rintro e w7 ⟨rfl, rfl⟩
          clear HIN HA1 HA2 HA3 hwm hmw
          go_wp2_with fail
          refine (HNM.out 16 2 w6 (by decide) (by decide) B6.out).mono ?_
          rintro e w8 ⟨rfl, b8⟩
          have H8 := Lib.hid ((b8.block _ (lt_of_block H6.out)).trans H6.out)
          have R8 := Lib.hid ((b8.block _ (lt_of_block R6.out)).trans R6.out)
          have X8 := Lib.hid ((b8.block _ (lt_of_block X6.out)).trans X6.out)
          have B8 := Lib.hid (bstep B6.out b8)
          clear b8
          obtain ⟨K, hK⟩ : ∃ K, numF bs 16 2 = K := ⟨_, rfl⟩
          rw [hK]
          have hK16 : K < 65536 := by rw [← hK]; exact numF_lt HBY.out.row.2 16 2
          have hwK : IntKind.i64.wrap (K : Int) = (K : Int) := by rw [IntKind.wrap_i64]; omega
          have HK := Lib.hid hK
          clear hK
          go_wp2_with fail
          refine (HNM.out 24 8 w8 (by decide) (by decide) B8.out).mono ?_
          rintro e w9 ⟨rfl, b9⟩
          have H9 := Lib.hid ((b9.block _ (lt_of_block H8.out)).trans H8.out)
          have R9 := Lib.hid ((b9.block _ (lt_of_block R8.out)).trans R8.out)
          have X9 := Lib.hid ((b9.block _ (lt_of_block X8.out)).trans X8.out)
          have B9 := Lib.hid (bstep B8.out b9)
          clear b9
          obtain ⟨E, hE⟩ : ∃ E, numF bs 24 8 = E := ⟨_, rfl⟩
          rw [hE]
          have HEE := Lib.hid hE
          clear hE
          obtain ⟨wA, hwA⟩ : ∃ wA, w9.alloc (.cells #[.int .i64 (K : Int), .int .u64 (E : Int), .slice none 0 0] 25) = wA := ⟨_, rfl⟩
          obtain ⟨yb, hyb⟩ : ∃ yb, w9.heap.size = yb := ⟨_, rfl⟩
          have B9A : Hid (Below w9.heap.size w9 wA) := Lib.hid (by rw [← hwA]; exact ballo (Below.refl _ _) _)
          have BA := Lib.hid (bstep B9.out B9A.out)
          have YA : Hid (wA.heap[yb]? = some (.cells #[.int .i64 (K : Int), .int .u64 (E : Int), .slice none 0 0] 25)) := Lib.hid (by rw [← hwA, ← hyb]; exact heap_alloc_new _ _)
          have HSA : Hid (RSt w hb rb xb yb K E [] none 0 0 wA) := Lib.hid ⟨(B9A.out.block _ (lt_of_block H9.out)).trans H9.out, (B9A.out.block _ (lt_of_block R9.out)).trans R9.out, (B9A.out.block _ (lt_of_block X9.out)).trans X9.out, YA.out, OwnS.nil _ _ _ _, rfl, by simp, BA.out⟩
          have HNY : Hid (w.heap.size ≤ yb ∧ hb ≠ yb ∧ rb ≠ yb ∧ xb ≠ yb) := Lib.hid (by
            have h1 := lt_of_block H9.out; have h2 := lt_of_block R9.out; have h3 := lt_of_block X9.out; have h4 := B9.out.size; omega)
          have ky0 : wA.cell? ⟨yb, 2, none⟩ = some (.slice none 0 0) := by rw [cell_of_row _ _ 2 _ _ _ YA.out]; rfl
          have ky1 : wA.frozen? ⟨yb, 2, none⟩ = false := frozen_of_row _ _ _ _ _ YA.out
          have ky2 : wA.setCell ⟨yb, 2, none⟩ (.slice none 0 0) = wA := set_self YA.out rfl
          clear hK16
          go_wp2_with fail
          clear hwA hyb ky0 ky1 ky2 hwK
          obtain ⟨R, hR⟩ : ∃ R, rprogsF bs F N 0 [] = R := ⟨_, rfl⟩
          have HR := Lib.hid hR
          clear hR
          go_loopg [9, 10] N (fun g s9 s10 wr => ∃ (k : Nat) (ps : List PT) (pa : Option Addr) (pc : Nat), k + g = N ∧ s10 = .int .u64 (k : Int) ∧ s9 = .bool (lastF ps).isSome ∧ Hid (RSt w hb rb xb yb K E ps pa k pc wr) ∧ Hid (rprogsF bs F g k ps = R))
          case atStart => exact ⟨0, [], none, 0, by omega, rfl, rfl, HSA, HR⟩
          case round =>
            obtain ⟨k, ps, pa, pc, hk, rfl, rfl, HS, HG⟩ := hrel
            cases gk with
            | zero =>
              have hkn : k = N := by omega
              subst hkn
              have HRR : Hid (R = .ok ps) := Lib.hid HG.out.symm
              have RS := HS.out.r
              have HH_ := Lib.hid HS.out.h
              have RR_ := Lib.hid HS.out.r
              have BB_ := Lib.hid HS.out.blw
              have SS := HS
              have h0 := HNZ.out.1
              have h1 := HNZ.out.2
              clear hk
              cases hl : lastF ps with
              | none =>
                have HE : Hid (rreadF bs = .error (.code 6)) := Lib.hid (rr_load HLG.out HBN.out (by rw [HN.out]; exact h0) (by rw [HN.out]; exact h1) (by rw [HN.out, HF.out, HLN.out.1, HM.out]; exact HII.out) (by rw [HN.out, HF.out, HR.out]; exact HRR.out) hl)
                rw [show (Option.isSome (none : Option PT)) = false from rfl]
                have g0 : wr.cell? ⟨hb, 0, none⟩ = some (.int .i64 0) := by rw [cell_of_row _ _ 0 _ _ _ HH_.out]; rfl
                have f0 : wr.frozen? ⟨hb, 0, none⟩ = false := frozen_of_row _ _ _ _ _ HH_.out
                have g1 : wr.cell? ⟨hb, 1, none⟩ = some (.int .u64 0) := by rw [cell_of_row _ _ 1 _ _ _ HH_.out]; rfl
                have f1 : wr.frozen? ⟨hb, 1, none⟩ = false := frozen_of_row _ _ _ _ _ HH_.out
                have g2 : wr.cell? ⟨hb, 2, none⟩ = some (.slice none 0 0) := by rw [cell_of_row _ _ 2 _ _ _ HH_.out]; rfl
                have f2 : wr.frozen? ⟨hb, 2, none⟩ = false := frozen_of_row _ _ _ _ _ HH_.out
                obtain ⟨y5, y6, hy5, hy6, ⟨v0, v1, v2, v3, v4, v5⟩, ⟨z0, z1, z2, z3, z4, z5⟩, ez⟩ := set6_cells HH_.out RR_.out HNE.out.1 (.int .i64 0) (.int .u64 0) (.slice none 0 0) (.int .i64 6) (.bool false) (.int .u64 0)
                have BF : Hid (Below w.heap.size w y6) := Lib.hid (by rw [← ez]; exact below_set3 (below_set3 BB_.out HNE.out.2.1 _ _ _) HNE.out.2.2 _ _ _)
                clear ez
                clear hl h0 h1 RS
                go_wp2_with fail
                refine bodyPost_ret (by simp [results, Tryd.results17, go_sem, z0, z1, z2, z3, z4, z5]; try rfl) rfl ?_
                exact HPE.out (.code 6) _ HE.out BF.out
              | some q =>
                have HO : Hid (rreadF bs = .ok ⟨K, E, ps⟩) := Lib.hid (by
                  have := rr_ok HLG.out HBN.out (by rw [HN.out]; exact h0) (by rw [HN.out]; exact h1) (by rw [HN.out, HF.out, HLN.out.1, HM.out]; exact HII.out) (by rw [HN.out, HF.out, HR.out]; exact HRR.out) hl
                  rwa [HK.out, HEE.out] at this)
                rw [show (Option.isSome (some q)) = true from rfl]
                have yy0 : wr.cell? ⟨yb, 0, none⟩ = some (.int .i64 (K : Int)) := by rw [cell_of_row _ _ 0 _ _ _ SS.out.y]; rfl
                have yy1 : wr.cell? ⟨yb, 1, none⟩ = some (.int .u64 (E : Int)) := by rw [cell_of_row _ _ 1 _ _ _ SS.out.y]; rfl
                have yy2 : wr.cell? ⟨yb, 2, none⟩ = some (.slice pa k pc) := by rw [cell_of_row _ _ 2 _ _ _ SS.out.y]; rfl
                have g0 : wr.cell? ⟨hb, 0, none⟩ = some (.int .i64 0) := by rw [cell_of_row _ _ 0 _ _ _ HH_.out]; rfl
                have f0 : wr.frozen? ⟨hb, 0, none⟩ = false := frozen_of_row _ _ _ _ _ HH_.out
                have g1 : wr.cell? ⟨hb, 1, none⟩ = some (.int .u64 0) := by rw [cell_of_row _ _ 1 _ _ _ HH_.out]; rfl
                have f1 : wr.frozen? ⟨hb, 1, none⟩ = false := frozen_of_row _ _ _ _ _ HH_.out
                have g2 : wr.cell? ⟨hb, 2, none⟩ = some (.slice none 0 0) := by rw [cell_of_row _ _ 2 _ _ _ HH_.out]; rfl
                have f2 : wr.frozen? ⟨hb, 2, none⟩ = false := frozen_of_row _ _ _ _ _ HH_.out
                obtain ⟨y5, y6, hy5, hy6, ⟨v0, v1, v2, v3, v4, v5⟩, ⟨z0, z1, z2, z3, z4, z5⟩, ez⟩ := set6_cells HH_.out RR_.out HNE.out.1 (.int .i64 (K : Int)) (.int .u64 (E : Int)) (.slice pa k pc) (.int .i64 0) (.bool false) (.int .u64 0)
                have BF : Hid (Below w.heap.size w y6) := Lib.hid (by rw [← ez]; exact below_set3 (below_set3 BB_.out HNE.out.2.1 _ _ _) HNE.out.2.2 _ _ _)
                have HOW : Hid (OwnS y6 w.heap.size 37 7 (.slice pa k pc) (ps.map PT.cells)) := Lib.hid (by rw [← ez]; exact own_set3g (own_set3g SS.out.own HH_.out (by decide) _ _ _) ((set3_other (Ne.symm HNE.out.1) _ _ _).trans RR_.out) (by decide) _ _ _)
                clear hl h0 h1 RS ez
                go_wp2_with fail
                refine bodyPost_ret (by simp [results, Tryd.results17, go_sem, z0, z1, z2, z3, z4, z5]; try rfl) rfl ?_
                exact HPO.out K E ps pa k pc _ HO.out SS.out.len HOW.out SS.out.wf BF.out
            | succ g =>
              obtain ⟨AT, hAT⟩ : ∃ AT, F + 56 * k = AT := ⟨_, rfl⟩
              have hATm : AT + 56 ≤ m := by have := HFM.out; omega
              obtain ⟨A4, hA4⟩ : ∃ A4, AT + 4 = A4 := ⟨_, rfl⟩
              obtain ⟨A8, hA8⟩ : ∃ A8, AT + 8 = A8 := ⟨_, rfl⟩
              obtain ⟨A16, hA16⟩ : ∃ A16, AT + 16 = A16 := ⟨_, rfl⟩
              obtain ⟨A32, hA32⟩ : ∃ A32, AT + 32 = A32 := ⟨_, rfl⟩
              obtain ⟨A40, hA40⟩ : ∃ A40, AT + 40 = A40 := ⟨_, rfl⟩
              obtain ⟨A48, hA48⟩ : ∃ A48, AT + 48 = A48 := ⟨_, rfl⟩
              obtain ⟨M56, hM56⟩ : ∃ M56, 56 * k = M56 := ⟨_, rfl⟩
              have hMA : F + M56 = AT := by omega
              have G1 : Hid (IntKind.u64.wrap ((56 : Int) * (k : Int)) = (M56 : Int)) := Lib.hid (by rw [IntKind.wrap_u64]; omega)
              have G2 : Hid (IntKind.u64.wrap ((F : Int) + (M56 : Int)) = (AT : Int)) := Lib.hid (by rw [IntKind.wrap_u64]; omega)
              have GA4 : Hid (IntKind.u64.wrap ((AT : Int) + 4) = (A4 : Int)) := Lib.hid (by rw [IntKind.wrap_u64]; omega)
              have GA8 : Hid (IntKind.u64.wrap ((AT : Int) + 8) = (A8 : Int)) := Lib.hid (by rw [IntKind.wrap_u64]; omega)
              have GA16 : Hid (IntKind.u64.wrap ((AT : Int) + 16) = (A16 : Int)) := Lib.hid (by rw [IntKind.wrap_u64]; omega)
              have GA32 : Hid (IntKind.u64.wrap ((AT : Int) + 32) = (A32 : Int)) := Lib.hid (by rw [IntKind.wrap_u64]; omega)
              have GA40 : Hid (IntKind.u64.wrap ((AT : Int) + 40) = (A40 : Int)) := Lib.hid (by rw [IntKind.wrap_u64]; omega)
              have GA48 : Hid (IntKind.u64.wrap ((AT : Int) + 48) = (A48 : Int)) := Lib.hid (by rw [IntKind.wrap_u64]; omega)
              obtain ⟨a0, ha0⟩ : ∃ a0, numF bs AT 4 = a0 := ⟨_, rfl⟩
              obtain ⟨a1, ha1⟩ : ∃ a1, numF bs A4 4 = a1 := ⟨_, rfl⟩
              obtain ⟨a2, ha2⟩ : ∃ a2, numF bs A8 8 = a2 := ⟨_, rfl⟩
              obtain ⟨a3, ha3⟩ : ∃ a3, numF bs A16 8 = a3 := ⟨_, rfl⟩
              obtain ⟨a4, ha4⟩ : ∃ a4, numF bs A32 8 = a4 := ⟨_, rfl⟩
              obtain ⟨a5, ha5⟩ : ∃ a5, numF bs A40 8 = a5 := ⟨_, rfl⟩
              obtain ⟨a6, ha6⟩ : ∃ a6, numF bs A48 8 = a6 := ⟨_, rfl⟩
              have hp : progAt bs AT = ⟨a0, a1, a2, a3, a4, a5, a6⟩ := by unfold progAt; rw [hA4, hA8, hA16, hA32, hA40, hA48, ha0, ha1, ha2, ha3, ha4, ha5, ha6]
              have hpw : PT.wf ⟨a0, a1, a2, a3, a4, a5, a6⟩ := by rw [← hp]; exact progAt_wf HBY.out.row.2 AT (by have := HLN.out; omega)
              have HPW := Lib.hid hpw
              have C0 : Hid (IntKind.u32.wrap (a0 : Int) = (a0 : Int)) := Lib.hid (by obtain ⟨h0, h1, -⟩ := hpw; simp only [] at h0 h1; rw [IntKind.wrap_u32]; omega)
              have C1 : Hid (IntKind.u32.wrap (a1 : Int) = (a1 : Int)) := Lib.hid (by obtain ⟨h0, h1, -⟩ := hpw; simp only [] at h0 h1; rw [IntKind.wrap_u32]; omega)
              have HN0 : Hid (∀ wx, Below w.heap.size w wx → Calls Tryd.prog 38 #[.slice a m cap, .int .u64 (AT : Int), .int .i64 4] wx fun e w' => e = .returned (.int .u64 (a0 : Int)) ∧ Below wx.heap.size wx w') := Lib.hid (fun wx hb => by have := HNM.out AT 4 wx (by omega) (by decide) hb; rw [ha0] at this; exact this)
              have HN1 : Hid (∀ wx, Below w.heap.size w wx → Calls Tryd.prog 38 #[.slice a m cap, .int .u64 (A4 : Int), .int .i64 4] wx fun e w' => e = .returned (.int .u64 (a1 : Int)) ∧ Below wx.heap.size wx w') := Lib.hid (fun wx hb => by have := HNM.out A4 4 wx (by omega) (by decide) hb; rw [ha1] at this; exact this)
              have HN2 : Hid (∀ wx, Below w.heap.size w wx → Calls Tryd.prog 38 #[.slice a m cap, .int .u64 (A8 : Int), .int .i64 8] wx fun e w' => e = .returned (.int .u64 (a2 : Int)) ∧ Below wx.heap.size wx w') := Lib.hid (fun wx hb => by have := HNM.out A8 8 wx (by omega) (by decide) hb; rw [ha2] at this; exact this)
              have HN3 : Hid (∀ wx, Below w.heap.size w wx → Calls Tryd.prog 38 #[.slice a m cap, .int .u64 (A16 : Int), .int .i64 8] wx fun e w' => e = .returned (.int .u64 (a3 : Int)) ∧ Below wx.heap.size wx w') := Lib.hid (fun wx hb => by have := HNM.out A16 8 wx (by omega) (by decide) hb; rw [ha3] at this; exact this)
              have HN4 : Hid (∀ wx, Below w.heap.size w wx → Calls Tryd.prog 38 #[.slice a m cap, .int .u64 (A32 : Int), .int .i64 8] wx fun e w' => e = .returned (.int .u64 (a4 : Int)) ∧ Below wx.heap.size wx w') := Lib.hid (fun wx hb => by have := HNM.out A32 8 wx (by omega) (by decide) hb; rw [ha4] at this; exact this)
              have HN5 : Hid (∀ wx, Below w.heap.size w wx → Calls Tryd.prog 38 #[.slice a m cap, .int .u64 (A40 : Int), .int .i64 8] wx fun e w' => e = .returned (.int .u64 (a5 : Int)) ∧ Below wx.heap.size wx w') := Lib.hid (fun wx hb => by have := HNM.out A40 8 wx (by omega) (by decide) hb; rw [ha5] at this; exact this)
              have HN6 : Hid (∀ wx, Below w.heap.size w wx → Calls Tryd.prog 38 #[.slice a m cap, .int .u64 (A48 : Int), .int .i64 8] wx fun e w' => e = .returned (.int .u64 (a6 : Int)) ∧ Below wx.heap.size wx w') := Lib.hid (fun wx hb => by have := HNM.out A48 8 wx (by omega) (by decide) hb; rw [ha6] at this; exact this)
              have HGE : Hid (∀ x, rOneF m ps ⟨a0, a1, a2, a3, a4, a5, a6⟩ AT = some x → R = .error x) := Lib.hid (fun x hx => by have h := HG.out; rw [rprogsF, hAT, hp, HLN.out.1, hx] at h; exact h.symm)
              have HGN : Hid (rOneF m ps ⟨a0, a1, a2, a3, a4, a5, a6⟩ AT = none → rprogsF bs F g (k + 1) (ps ++ [⟨a0, a1, a2, a3, a4, a5, a6⟩]) = R) := Lib.hid (fun hx => by have h := HG.out; rw [rprogsF, hAT, hp, HLN.out.1, hx] at h; exact h)
              have HAT : Hid (AT + 64 < 18446744073709551616) := Lib.hid (by have := HLN.out; omega)
              have HK16 : Hid (k < 16) := Lib.hid (by have := HNZ.out; omega)
              have tk : k < N := by omega
              have HKK := Lib.hid hk
              clear hk hATm hA4 hA8 hA16 hA32 hA40 hA48 ha0 ha1 ha2 ha3 ha4 ha5 ha6 hp hpw hAT hM56 hMA
              have g1 := G1.out
              have g2 := G2.out
              have gA4 := GA4.out
              have gA8 := GA8.out
              have gA16 := GA16.out
              have gA32 := GA32.out
              have gA40 := GA40.out
              have gA48 := GA48.out
              have hc0 := C0.out
              have hc1 := C1.out
              clear G1 G2 GA4 GA8 GA16 GA32 GA40 GA48 C0 C1
              have S0 := HS
              have BS0 : Hid (Below w.heap.size w wr) := Lib.hid HS.out.blw
              go_wp2_with fail
              refine (HN0.out _ BS0.out).mono ?_
              rintro e x1 ⟨rfl, c1⟩
              have S1 := Lib.hid (S0.out.below c1)
              have BS1 := Lib.hid (S1.out.blw)
              clear c1
              go_wp2_with fail
              refine (HN1.out _ BS1.out).mono ?_
              rintro e x2 ⟨rfl, c2⟩
              have S2 := Lib.hid (S1.out.below c2)
              have BS2 := Lib.hid (S2.out.blw)
              clear c2
              go_wp2_with fail
              refine (HN2.out _ BS2.out).mono ?_
              rintro e x3 ⟨rfl, c3⟩
              have S3 := Lib.hid (S2.out.below c3)
              have BS3 := Lib.hid (S3.out.blw)
              clear c3
              go_wp2_with fail
              refine (HN3.out _ BS3.out).mono ?_
              rintro e x4 ⟨rfl, c4⟩
              have S4 := Lib.hid (S3.out.below c4)
              have BS4 := Lib.hid (S4.out.blw)
              clear c4
              go_wp2_with fail
              refine (HN4.out _ BS4.out).mono ?_
              rintro e x5 ⟨rfl, c5⟩
              have S5 := Lib.hid (S4.out.below c5)
              have BS5 := Lib.hid (S5.out.blw)
              clear c5
              go_wp2_with fail
              refine (HN5.out _ BS5.out).mono ?_
              rintro e x6 ⟨rfl, c6⟩
              have S6 := Lib.hid (S5.out.below c6)
              have BS6 := Lib.hid (S6.out.blw)
              clear c6
              go_wp2_with fail
              refine (HN6.out _ BS6.out).mono ?_
              rintro e x7 ⟨rfl, c7⟩
              have S7 := Lib.hid (S6.out.below c7)
              have BS7 := Lib.hid (S7.out.blw)
              clear c7
              obtain ⟨wp, hwp⟩ : ∃ wp, x7.alloc (.cells #[.int .u32 (a0 : Int), .int .u32 (a1 : Int), .int .u64 (a2 : Int), .int .u64 (a3 : Int), .int .u64 (a4 : Int), .int .u64 (a5 : Int), .int .u64 (a6 : Int)] 37) = wp := ⟨_, rfl⟩
              obtain ⟨pb, hpb⟩ : ∃ pb, x7.heap.size = pb := ⟨_, rfl⟩
              have B7p : Hid (Below x7.heap.size x7 wp) := Lib.hid (by rw [← hwp]; exact ballo (Below.refl _ _) _)
              have PP : Hid (wp.heap[pb]? = some (.cells #[.int .u32 (a0 : Int), .int .u32 (a1 : Int), .int .u64 (a2 : Int), .int .u64 (a3 : Int), .int .u64 (a4 : Int), .int .u64 (a5 : Int), .int .u64 (a6 : Int)] 37)) := Lib.hid (by rw [← hwp, ← hpb]; exact heap_alloc_new _ _)
              have SP := Lib.hid (S7.out.below B7p.out)
              obtain ⟨p0, p1, p2, p3, p4, p5, p6⟩ := out_cells PP.out
              have py2 : wp.cell? ⟨yb, 2, none⟩ = some (.slice pa k pc) := by rw [cell_of_row _ _ 2 _ _ _ SP.out.y]; rfl
              clear HN0 HN1 HN2 HN3 HN4 HN5 HN6 g1 g2 gA4 gA8 gA16 gA32 gA40 gA48
              have HPG : Hid (Calls Tryd.prog 41 #[.slice a m cap, .agg #[.int .u32 (a0 : Int), .int .u32 (a1 : Int), .int .u64 (a2 : Int), .int .u64 (a3 : Int), .int .u64 (a4 : Int), .int .u64 (a5 : Int), .int .u64 (a6 : Int)], .int .u64 (AT : Int), .slice pa k pc] wp (RProgPost m ps ⟨a0, a1, a2, a3, a4, a5, a6⟩ AT wp)) := Lib.hid (rprog_any a m cap bs ⟨a0, a1, a2, a3, a4, a5, a6⟩ AT pa k pc ps wp (by have := HLN.out; omega) HPW.out HAT.out (own_prow2 SP.out.own SP.out.wf) SP.out.len (by have := HK16.out; omega))
              go_wp2_with fail
              clear hwp hpb hc0 hc1
              refine HPG.out.mono ?_
              rintro e wq ⟨rfl, cq⟩
              have SQ := Lib.hid (SP.out.below cq)
              have PQ := Lib.hid ((cq.block _ (lt_of_block PP.out)).trans PP.out)
              clear cq p0 p1 p2 p3 p4 p5 p6 py2 HPG
              have xq0 : wq.cell? ⟨xb, 0, none⟩ = some (.int .i64 0) := by rw [cell_of_row _ _ 0 _ _ _ SQ.out.x]; rfl
              have xq1 : wq.cell? ⟨xb, 1, none⟩ = some (.bool false) := by rw [cell_of_row _ _ 1 _ _ _ SQ.out.x]; rfl
              have xq2 : wq.cell? ⟨xb, 2, none⟩ = some (.int .u64 0) := by rw [cell_of_row _ _ 2 _ _ _ SQ.out.x]; rfl
              have xf0 : wq.frozen? ⟨xb, 0, none⟩ = false := frozen_of_row _ _ _ _ _ SQ.out.x
              have xf1 : wq.frozen? ⟨xb, 1, none⟩ = false := frozen_of_row _ _ _ _ _ SQ.out.x
              have xf2 : wq.frozen? ⟨xb, 2, none⟩ = false := frozen_of_row _ _ _ _ _ SQ.out.x
              cases ho : rOneF m ps ⟨a0, a1, a2, a3, a4, a5, a6⟩ AT with
              | some x =>
                obtain ⟨at_, c⟩ := x
                have hc := rOneF_code ho
                have HE1 := Lib.hid (HGE.out _ ho)
                have HE : Hid (rreadF bs = .error (.spot at_ c)) := Lib.hid (rr_err HLG.out HBN.out (by rw [HN.out]; exact HNZ.out.1) (by rw [HN.out]; exact HNZ.out.2) (by rw [HN.out, HF.out, HLN.out.1, HM.out]; exact HII.out) (by rw [HN.out, HF.out, HR.out]; exact HE1.out))
                have tc : ((c : Int) != 0) = true := bne_iff_ne.2 (by omega)
                rw [show badO (some (at_, c)) = Value.agg #[.int .i64 (c : Int), .bool true, .int .u64 (at_ : Int)] from rfl]
                obtain ⟨wf, hwf, e0, e1, e2, ewf⟩ := set3_cells SQ.out.x (.int .i64 (c : Int)) (.bool true) (.int .u64 (at_ : Int))
                have XF : Hid (wf.heap[xb]? = some (.cells #[.int .i64 (c : Int), .bool true, .int .u64 (at_ : Int)] 43)) := Lib.hid (by
                  rw [← hwf]
                  have h1 := heap_setCell_same wq xb 0 _ _ (.int .i64 (c : Int)) SQ.out.x
                  have h2 := heap_setCell_same _ xb 1 _ _ (.bool true) h1
                  exact heap_setCell_same _ xb 2 _ _ (.int .u64 (at_ : Int)) h2)
                have HF_ : Hid (wf.heap[hb]? = some (.cells #[.int .i64 0, .int .u64 0, .slice none 0 0] 25)) := Lib.hid (by rw [← ewf]; exact (set3_other HNX.out.2.1 _ _ _).trans SQ.out.h)
                have RF : Hid (wf.heap[rb]? = some (.cells #[.int .i64 0, .bool false, .int .u64 0] 43)) := Lib.hid (by rw [← ewf]; exact (set3_other HNX.out.2.2.2 _ _ _).trans SQ.out.r)
                have BWF : Hid (Below w.heap.size w wf) := Lib.hid (by rw [← ewf]; exact below_set3 SQ.out.blw hxg.out _ _ _)
                clear ewf ho hc
                have g0 : wf.cell? ⟨hb, 0, none⟩ = some (.int .i64 0) := by rw [cell_of_row _ _ 0 _ _ _ HF_.out]; rfl
                have f0 : wf.frozen? ⟨hb, 0, none⟩ = false := frozen_of_row _ _ _ _ _ HF_.out
                have g1 : wf.cell? ⟨hb, 1, none⟩ = some (.int .u64 0) := by rw [cell_of_row _ _ 1 _ _ _ HF_.out]; rfl
                have f1 : wf.frozen? ⟨hb, 1, none⟩ = false := frozen_of_row _ _ _ _ _ HF_.out
                have g2 : wf.cell? ⟨hb, 2, none⟩ = some (.slice none 0 0) := by rw [cell_of_row _ _ 2 _ _ _ HF_.out]; rfl
                have f2 : wf.frozen? ⟨hb, 2, none⟩ = false := frozen_of_row _ _ _ _ _ HF_.out
                obtain ⟨y5, y6, hy5, hy6, ⟨v0, v1, v2, v3, v4, v5⟩, ⟨z0, z1, z2, z3, z4, z5⟩, ez⟩ := set6_cells HF_.out RF.out HNE.out.1 (.int .i64 0) (.int .u64 0) (.slice none 0 0) (.int .i64 (c : Int)) (.bool true) (.int .u64 (at_ : Int))
                have BF : Hid (Below w.heap.size w y6) := Lib.hid (by rw [← ez]; exact below_set3 (below_set3 BWF.out HNE.out.2.1 _ _ _) HNE.out.2.2 _ _ _)
                have p0 : wf.cell? ⟨rb, 0, none⟩ = some (.int .i64 0) := by rw [cell_of_row _ _ 0 _ _ _ RF.out]; rfl
                have l0 : wf.frozen? ⟨rb, 0, none⟩ = false := frozen_of_row _ _ _ _ _ RF.out
                have p1 : wf.cell? ⟨rb, 1, none⟩ = some (.bool false) := by rw [cell_of_row _ _ 1 _ _ _ RF.out]; rfl
                have l1 : wf.frozen? ⟨rb, 1, none⟩ = false := frozen_of_row _ _ _ _ _ RF.out
                have p2 : wf.cell? ⟨rb, 2, none⟩ = some (.int .u64 0) := by rw [cell_of_row _ _ 2 _ _ _ RF.out]; rfl
                have l2 : wf.frozen? ⟨rb, 2, none⟩ = false := frozen_of_row _ _ _ _ _ RF.out
                obtain ⟨d5, d6, hd5, hd6, ⟨q0, q1, q2, q3, q4, q5⟩, ⟨r0, r1, r2, r3, r4, r5⟩, ed⟩ := set6_cells RF.out HF_.out (Ne.symm HNE.out.1) (.int .i64 (c : Int)) (.bool true) (.int .u64 (at_ : Int)) (.int .i64 0) (.int .u64 0) (.slice none 0 0)
                have BG : Hid (Below w.heap.size w d6) := Lib.hid (by rw [← ed]; exact below_set3 (below_set3 BWF.out HNE.out.2.2 _ _ _) HNE.out.2.1 _ _ _)
                have X5 : Hid (y5.heap[xb]? = wf.heap[xb]?) := Lib.hid (by rw [← hy5]; exact set3_other HNX.out.1 _ _ _)
                have s0 : wf.cell? ⟨xb, 0, none⟩ = some (.int .i64 (c : Int)) := by rw [cell_of_row _ _ 0 _ _ _ XF.out]; rfl
                have s1 : wf.cell? ⟨xb, 1, none⟩ = some (.bool true) := by rw [cell_of_row _ _ 1 _ _ _ XF.out]; rfl
                have s2 : wf.cell? ⟨xb, 2, none⟩ = some (.int .u64 (at_ : Int)) := by rw [cell_of_row _ _ 2 _ _ _ XF.out]; rfl
                have t0 : y5.cell? ⟨xb, 0, none⟩ = some (.int .i64 (c : Int)) := by rw [cell_of_row _ _ 0 _ _ _ (X5.out.trans XF.out)]; rfl
                have t1 : y5.cell? ⟨xb, 1, none⟩ = some (.bool true) := by rw [cell_of_row _ _ 1 _ _ _ (X5.out.trans XF.out)]; rfl
                have t2 : y5.cell? ⟨xb, 2, none⟩ = some (.int .u64 (at_ : Int)) := by rw [cell_of_row _ _ 2 _ _ _ (X5.out.trans XF.out)]; rfl
                clear ez ed
                go_wp2_with fail
                go_region
                all_goals (
                  go_wp2_with fail
                  first
                    | (refine bodyPost_ret (by simp [results, Tryd.results17, go_sem, z0, z1, z2, z3, z4, z5]; try rfl) rfl ?_
                       exact HPE.out (.spot at_ c) _ HE.out BF.out.drew)
                    | (refine bodyPost_ret (by simp [results, Tryd.results17, go_sem, r0, r1, r2, r3, r4, r5]; try rfl) rfl ?_
                       exact HPE.out (.spot at_ c) _ HE.out BG.out.drew)
                )
              | none =>
                have HN1 := Lib.hid (HGN.out ho)
                rw [show badO none = Value.agg #[.int .i64 0, .bool false, .int .u64 0] from rfl]
                have k0 : wq.setCell ⟨xb, 0, none⟩ (.int .i64 0) = wq := set_self SQ.out.x rfl
                have k1 : wq.setCell ⟨xb, 1, none⟩ (.bool false) = wq := set_self SQ.out.x rfl
                have k2 : wq.setCell ⟨xb, 2, none⟩ (.int .u64 0) = wq := set_self SQ.out.x rfl
                obtain ⟨p0, p1, p2, p3, p4, p5, p6⟩ := out_cells PQ.out
                have py2 : wq.cell? ⟨yb, 2, none⟩ = some (.slice pa k pc) := by rw [cell_of_row _ _ 2 _ _ _ SQ.out.y]; rfl
                obtain ⟨LB, hLB⟩ : ∃ LB, (lastF ps).isSome = LB := ⟨_, rfl⟩
                have HLB : Hid ((lastF (ps ++ [⟨a0, a1, a2, a3, a4, a5, a6⟩])).isSome = (LB || decide (a0 = 1))) := Lib.hid (by
                  rw [lastF_snoc, ← hLB]
                  by_cases h1 : a0 = 1
                  · rw [if_pos h1, decide_eq_true h1, Bool.or_true]; rfl
                  · rw [if_neg h1, decide_eq_false h1, Bool.or_false])
                simp only [hLB]
                have HLEN : Hid ((ps.map PT.cells).length = k) := Lib.hid (by rw [List.length_map]; exact SQ.out.len)
                have HKM : Hid (k + 1 ≤ maxLen ∧ (k + 1) * 48 ≤ 140737488355328) := Lib.hid (by have := HK16.out; unfold maxLen; omega)
                have HSZ : Hid (w.heap.size ≤ wq.heap.size) := Lib.hid SQ.out.blw.size
                have HFIN : Hid (∀ ad8 c8 w8, OwnS w8 w.heap.size 37 7 (.slice ad8 (k + 1) c8) (ps.map PT.cells ++ [[.int .u32 (a0 : Int), .int .u32 (a1 : Int), .int .u64 (a2 : Int), .int .u64 (a3 : Int), .int .u64 (a4 : Int), .int .u64 (a5 : Int), .int .u64 (a6 : Int)]]) → (wq.alloc (.cells #[.int .u32 (a0 : Int), .int .u32 (a1 : Int), .int .u64 (a2 : Int), .int .u64 (a3 : Int), .int .u64 (a4 : Int), .int .u64 (a5 : Int), .int .u64 (a6 : Int)] 37)).grownBy w8 (Value.slice pa k pc).ownBlock → RSt w hb rb xb yb K E (ps ++ [⟨a0, a1, a2, a3, a4, a5, a6⟩]) ad8 (k + 1) c8 (w8.setCell ⟨yb, 2, none⟩ (.slice ad8 (k + 1) c8)) ∧ w8.cell? ⟨yb, 2, none⟩ = some (.slice pa k pc) ∧ w8.frozen? ⟨yb, 2, none⟩ = false) := Lib.hid (fun ad8 c8 w8 ho8 hg8 => RSt.next (SQ.out.below (ballo (Below.refl _ _) _)) HNY.out.1 HNY.out.2.1 HPW.out ho8 hg8)
                clear ho hLB
                cases LB
                · by_cases h1 : a0 = 1
                  · have t1 : ((a0 : Int) == 1) = true := beq_iff_eq.2 (by omega)
                    have HLC : Hid ((lastF (ps ++ [⟨a0, a1, a2, a3, a4, a5, a6⟩])).isSome = true) := Lib.hid (by rw [HLB.out, decide_eq_true h1]; rfl)
                    clear h1 HLB
                    go_wp2_with (at_builtin; go_loud (
                     refine wpList_grow_row rfl (.tmp 111) (.tmp 113) pRow rfl w.heap.size (.slice pa k pc) (ps.map PT.cells) k [.int .u32 (a0 : Int), .int .u32 (a1 : Int), .int .u64 (a2 : Int), .int .u64 (a3 : Int), .int .u64 (a4 : Int), .int .u64 (a5 : Int), .int .u64 (a6 : Int)] rfl rfl HLEN.out rfl (by intro u hu; simp only [List.mem_cons, List.not_mem_nil, or_false] at hu; rcases hu with rfl | rfl | rfl | rfl | rfl | rfl | rfl <;> rfl) SQ.out.own HKM.out.1 HKM.out.2 HSZ.out ?_); intro ad8 c8 w8 ho8 hg8; have HX8 := HFIN.out _ _ _ ho8 hg8; have HN8 := Lib.hid HX8.1; have e8 := HX8.2.1; have f8 := HX8.2.2; clear ho8 hg8 HX8)
                    go_roundg g
                    case measure => have := HKK.out; omega
                    case rel => exact ⟨k + 1, _, ad8, c8, by have := HKK.out; omega, (by first | rfl | (rw [IntKind.wrap_u64]; congr 1; omega) | (congr 1; rw [IntKind.wrap_u64]; have := HK16.out; omega)), by rw [HLC.out], HN8, HN1⟩
                  · have t1 : ((a0 : Int) == 1) = false := beq_eq_false_iff_ne.2 (by omega)
                    have HLC : Hid ((lastF (ps ++ [⟨a0, a1, a2, a3, a4, a5, a6⟩])).isSome = false) := Lib.hid (by rw [HLB.out, decide_eq_false h1]; rfl)
                    clear h1 HLB
                    go_wp2_with (at_builtin; go_loud (
                     refine wpList_grow_row rfl (.tmp 111) (.tmp 113) pRow rfl w.heap.size (.slice pa k pc) (ps.map PT.cells) k [.int .u32 (a0 : Int), .int .u32 (a1 : Int), .int .u64 (a2 : Int), .int .u64 (a3 : Int), .int .u64 (a4 : Int), .int .u64 (a5 : Int), .int .u64 (a6 : Int)] rfl rfl HLEN.out rfl (by intro u hu; simp only [List.mem_cons, List.not_mem_nil, or_false] at hu; rcases hu with rfl | rfl | rfl | rfl | rfl | rfl | rfl <;> rfl) SQ.out.own HKM.out.1 HKM.out.2 HSZ.out ?_); intro ad8 c8 w8 ho8 hg8; have HX8 := HFIN.out _ _ _ ho8 hg8; have HN8 := Lib.hid HX8.1; have e8 := HX8.2.1; have f8 := HX8.2.2; clear ho8 hg8 HX8)
                    go_roundg g
                    case measure => have := HKK.out; omega
                    case rel => exact ⟨k + 1, _, ad8, c8, by have := HKK.out; omega, (by first | rfl | (rw [IntKind.wrap_u64]; congr 1; omega) | (congr 1; rw [IntKind.wrap_u64]; have := HK16.out; omega)), by rw [HLC.out], HN8, HN1⟩
                · have HLC : Hid ((lastF (ps ++ [⟨a0, a1, a2, a3, a4, a5, a6⟩])).isSome = true) := Lib.hid (by rw [HLB.out]; rfl)
                  clear HLB
                  go_wp2_with (at_builtin; go_loud (
                   refine wpList_grow_row rfl (.tmp 111) (.tmp 113) pRow rfl w.heap.size (.slice pa k pc) (ps.map PT.cells) k [.int .u32 (a0 : Int), .int .u32 (a1 : Int), .int .u64 (a2 : Int), .int .u64 (a3 : Int), .int .u64 (a4 : Int), .int .u64 (a5 : Int), .int .u64 (a6 : Int)] rfl rfl HLEN.out rfl (by intro u hu; simp only [List.mem_cons, List.not_mem_nil, or_false] at hu; rcases hu with rfl | rfl | rfl | rfl | rfl | rfl | rfl <;> rfl) SQ.out.own HKM.out.1 HKM.out.2 HSZ.out ?_); intro ad8 c8 w8 ho8 hg8; have HX8 := HFIN.out _ _ _ ho8 hg8; have HN8 := Lib.hid HX8.1; have e8 := HX8.2.1; have f8 := HX8.2.2; clear ho8 hg8 HX8)
                  go_roundg g
                  case measure => have := HKK.out; omega
                  case rel => exact ⟨k + 1, _, ad8, c8, by have := HKK.out; omega, (by first | rfl | (rw [IntKind.wrap_u64]; congr 1; omega) | (congr 1; rw [IntKind.wrap_u64]; have := HK16.out; omega)), by rw [HLC.out], HN8, HN1⟩
end Go.Proofs.YtmjfkcclhbpclaaDoor
