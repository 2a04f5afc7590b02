/- Layer 4: a note is read. -/
import Derived.Test.YtmjfkcclhbpclaaDoorHeadNtF
import Derived.Deep.DeepCutAuto
import Derived.Deep.RegionHeld3
import Derived.Deep.RegionWith
namespace Go.Proofs.YtmjfkcclhbpclaaDoor
open Go.RowKit
set_option linter.unusedVariables false
set_option linter.unusedSimpArgs false
set_option maxRecDepth 100000

theorem ErrAt.set3n {w : World} {v : Value} {x : Option (Nat × Nat)} {b : Nat} {cs : Array Value} {T : TypeId} (h : ErrAt w v x) (R : w.heap[b]? = some (.cells cs T)) (hT : T ≠ 95) (v0 v1 v2 : Value) : ErrAt (set3 w b v0 v1 v2) v x := by
  cases x with
  | none => exact h
  | some x =>
    obtain ⟨sb, e, hs⟩ := h
    refine ⟨sb, e, (set3_other (fun e2 => ?_) v0 v1 v2).trans hs⟩
    rw [e2, R] at hs
    simp only [Option.some.injEq, Obj.cells.injEq] at hs
    exact hT hs.2.1
theorem set3_row {w : World} {b : Nat} {T : TypeId} {u0 u1 u2 : Value} (R : w.heap[b]? = some (.cells #[u0, u1, u2] T)) (v0 v1 v2 : Value) : (set3 w b v0 v1 v2).heap[b]? = some (.cells #[v0, v1, v2] T) := by
  have e1 := heap_setCell_same w b 0 _ _ v0 R
  have e2 := heap_setCell_same _ b 1 _ _ v1 e1
  exact heap_setCell_same _ b 2 _ _ v2 e2
theorem own_set3i {w : World} {B : Nat} {k : IntKind} {e : TypeId} {v : Value} {xs : List Int} {b : Nat} {cs : Array Value} {T : TypeId} (h : OwnI w B e k v xs) (R : w.heap[b]? = some (.cells cs T)) (hT : e ≠ T) (v0 v1 v2 : Value) : OwnI (set3 w b v0 v1 v2) B e k v xs := by
  have hne := own_ne h R hT
  exact ((h.setO (a := ⟨b, 0, none⟩) hne v0).setO (a := ⟨b, 1, none⟩) hne v1).setO (a := ⟨b, 2, none⟩) hne v2
def NotePost (bs : List Nat) (p e : Nat) (w : World) (ed : Ending) (w' : World) : Prop := (match noteF bs p e with
  | .error c => ∃ v, ed = .returned (.tuple #[.agg #[.string ⟨#[]⟩, .int .u32 0, .slice none 0 0], .int .u64 0, v]) ∧ ErrAt w' v (some (p, c))
  | .ok (t, s) => ∃ ad c, ed = .returned (.tuple #[.agg #[.string t.nm, .int .u32 (t.ty : Int), .slice ad t.data.length c], .int .u64 (s : Int), .nilIface]) ∧ OwnI w' w.heap.size 5 .u8 (.slice ad t.data.length c) (toI t.data)) ∧ Below w.heap.size w w'
/-- a note's box is made -/
def BoxN (w7 : World) (T Dn : Nat) (xs : List Int) (p : Value) (wx : World) : Prop := ∃ x ad c, p = .pointer (some ⟨x, 0, none⟩) ∧ w7.heap.size ≤ x ∧ wx.heap[x]? = some (.cells #[.string ⟨#[]⟩, .int .u32 (T : Int), .slice ad Dn c] 55) ∧ OwnI wx w7.heap.size 5 .u8 (.slice ad Dn c) xs ∧ Below w7.heap.size w7 wx
set_option maxHeartbeats 64000000 in
theorem note_any (bb oo cap p e : Nat) (bs : List Nat) (w : World) (h : BRow w (some ⟨bb, oo, none⟩) bs) (hl : bs.length ≤ 1048576) (he : e ≤ bs.length) (hp : p ≤ e) (hc : e - p ≤ cap) :
    Calls Tryd.prog 36 #[.slice (some ⟨bb, oo + p, none⟩) (e - p) cap, .int .u64 (p : Int)] w (NotePost bs p e w) := by
  have HPE : Hid (∀ v c w', noteF bs p e = .error c → ErrAt w' v (some (p, c)) → Below w.heap.size w w' → NotePost bs p e w (.returned (.tuple #[.agg #[.string ⟨#[]⟩, .int .u32 0, .slice none 0 0], .int .u64 0, v])) w') := Lib.hid (fun v c w' e1 hv hb => ⟨by rw [e1]; exact ⟨v, rfl, hv⟩, hb⟩)
  have HPO : Hid (∀ nm ty da s n ad c w', noteF bs p e = .ok (⟨nm, ty, da⟩, s) → da.length = n → OwnI w' w.heap.size 5 .u8 (.slice ad n c) (toI da) → Below w.heap.size w w' → NotePost bs p e w (.returned (.tuple #[.agg #[.string nm, .int .u32 (ty : Int), .slice ad n c], .int .u64 (s : Int), .nilIface])) w') := Lib.hid (fun nm ty da s n ad c w' e1 hn ho hb => ⟨by rw [e1]; subst hn; exact ⟨ad, c, rfl, ho⟩, hb⟩)
  generalize NotePost bs p e w = P at *
  obtain ⟨M, hM⟩ : ∃ M, e - p = M := ⟨_, rfl⟩
  obtain ⟨ys, hys⟩ : ∃ ys, (bs.drop p).take (e - p) = ys := ⟨_, rfl⟩
  have HYR : Hid (BRow w (some ⟨bb, oo + p, none⟩) ys ∧ ys.length = M) := Lib.hid (by rw [← hys]; exact ⟨part_row h he hp, by rw [part_len he hp, hM]⟩)
  have HNP : Hid (∀ o n, o + n ≤ M → numF ys o n = numF bs (p + o) n) := Lib.hid (fun o n ho => by rw [← hys]; exact numF_part he hp (by omega))
  have HYB : Hid (∀ i, i < M → ys.getD i 0 = bs.getD (p + i) 0) := Lib.hid (fun i hi => by
    rw [← hys, List.getD_eq_getElem?_getD, List.getD_eq_getElem?_getD, List.getElem?_take_of_lt (by omega), List.getElem?_drop])
  have HYD : Hid (∀ o n, o + n ≤ M → (ys.drop o).take n = (bs.drop (p + o)).take n) := Lib.hid (fun o n ho => by
    rw [← hys, List.drop_take, List.drop_drop, List.take_take, Nat.min_eq_left (by omega)])
  have HNT : Hid (noteF bs p e = if M < 12 then .error 4
    else if ¬ (up4F (numF bs p 4) ≤ M - 12 ∧ numF bs (p + 4) 4 ≤ M - 12 - up4F (numF bs p 4)) then .error 4
    else if 0 < numF bs p 4 ∧ bs.getD (p + 12 + numF bs p 4 - 1) 0 ≠ 0 then .error 29
    else .ok (⟨nameF ((bs.drop (p + 12)).take (numF bs p 4 - 1)), numF bs (p + 8) 4, (bs.drop (p + 12 + up4F (numF bs p 4))).take (numF bs (p + 4) 4)⟩, 12 + up4F (numF bs p 4) + up4F (numF bs (p + 4) 4))) := Lib.hid (by unfold noteF; rw [hM])
  generalize noteF bs p e = R at *
  rw [hM] at hc ⊢
  have hM20 : M ≤ 1048576 := by omega
  have hp20 : p ≤ 1048576 := by omega
  have HBL := Lib.hid (fun x hx => h.2 x hx)
  have HC : Hid (M ≤ cap) := Lib.hid hc
  generalize oo + p = OP at *
  clear h hl he hp hc hM hys
  obtain ⟨w1, hw1⟩ : ∃ w1, w.alloc (.cells #[.string ⟨#[]⟩, .int .u32 0, .slice none 0 0] 55) = w1 := ⟨_, rfl⟩
  obtain ⟨nb, hnb⟩ : ∃ nb, w.heap.size = nb := ⟨_, rfl⟩
  have B1 : Hid (Below w.heap.size w w1) := Lib.hid (by rw [← hw1]; exact ballo (Below.refl _ _) _)
  have R1 : Hid (w1.heap[nb]? = some (.cells #[.string ⟨#[]⟩, .int .u32 0, .slice none 0 0] 55)) := Lib.hid (by rw [← hw1, ← hnb]; exact heap_alloc_new _ _)
  have HNB : Hid (w.heap.size ≤ nb) := Lib.hid (Nat.le_of_eq hnb)
  have HSP : Hid (∀ (c : Nat) wx, Calls Tryd.prog 21 #[.int .u64 (p : Int), .int .i64 (c : Int)] wx (TestPost (some (p, c)) wx)) := Lib.hid (fun c wx => hspot_any p c wx (by omega))
  have HS4 : Hid (∀ wx, Calls Tryd.prog 21 #[.int .u64 (p : Int), .int .i64 4] wx (TestPost (some (p, 4)) wx)) := Lib.hid (fun wx => HSP.out 4 wx)
  have HS9 : Hid (∀ wx, Calls Tryd.prog 21 #[.int .u64 (p : Int), .int .i64 29] wx (TestPost (some (p, 29)) wx)) := Lib.hid (fun wx => HSP.out 29 wx)
  have HNM : Hid (∀ (o n : Nat) wx, o < 64 → wide n = true → Below w.heap.size w wx → Calls Tryd.prog 44 #[.slice (some ⟨bb, OP, none⟩) M cap, .int .u64 (o : Int), .int .i64 (n : Int)] wx fun e w' => e = .returned (.int .u64 (numF ys o n : Int)) ∧ Below wx.heap.size wx w') := Lib.hid (fun o n wx ho hn hb => number_any _ M cap o n ys wx (HYR.out.1.below hb) HYR.out.2 (by omega) (fun e => by cases e) HC.out (by omega) hn)
  have hmw : IntKind.u64.wrap (M : Int) = (M : Int) := by rw [IntKind.wrap_u64]; omega
  by_cases h12 : M < 12
  · have t1 : decide ((M : Int) < 12) = true := decide_eq_true (by omega)
    have HE : Hid (R = .error 4) := Lib.hid (by rw [HNT.out, if_pos h12])
    clear h12 HNT
    go_enter Tryd.func36, Tryd.ntmps36
    go_wp2_with fail
    refine (HS4.out _).mono ?_
    rintro e5 w2 ⟨⟨v, rfl, hv⟩, b2⟩
    have R2 := Lib.hid ((b2.block _ (lt_of_block R1.out)).trans R1.out)
    have B2 := Lib.hid (bstep B1.out b2)
    have V2 := Lib.hid hv
    obtain ⟨sb, rfl, -⟩ := hv
    have g0 : w2.cell? ⟨nb, 0, none⟩ = some (.string ⟨#[]⟩) := by rw [cell_of_row _ _ 0 _ _ _ R2.out]; rfl
    have f0 : w2.frozen? ⟨nb, 0, none⟩ = false := frozen_of_row _ _ _ _ _ R2.out
    have g1 : w2.cell? ⟨nb, 1, none⟩ = some (.int .u32 0) := by rw [cell_of_row _ _ 1 _ _ _ R2.out]; rfl
    have f1 : w2.frozen? ⟨nb, 1, none⟩ = false := frozen_of_row _ _ _ _ _ R2.out
    have g2 : w2.cell? ⟨nb, 2, none⟩ = some (.slice none 0 0) := by rw [cell_of_row _ _ 2 _ _ _ R2.out]; rfl
    have f2 : w2.frozen? ⟨nb, 2, none⟩ = false := frozen_of_row _ _ _ _ _ R2.out
    obtain ⟨wf, hwf, z0, z1, z2, ez⟩ := set3_cells R2.out (.string ⟨#[]⟩) (.int .u32 0) (.slice none 0 0)
    have EB : Hid (Below w.heap.size w wf) := Lib.hid (by rw [← ez]; exact below_set3 B2.out HNB.out _ _ _)
    have EV : Hid (ErrAt wf (.iface 90 (.pointer (some ⟨sb, 0, none⟩))) (some (p, 4))) := Lib.hid (by rw [← ez]; exact ErrAt.set3n V2.out R2.out (by decide) _ _ _)
    clear b2 ez
    go_wp2_with fail
    refine bodyPost_ret (by simp [results, Tryd.results36, go_sem, z0, z1, z2]; try rfl) rfl ?_
    exact HPE.out _ 4 wf HE.out EV.out EB.out
  · have t1 : decide ((M : Int) < 12) = false := decide_eq_false (by omega)
    have H12 : Hid (12 ≤ M) := Lib.hid (by omega)
    have HNT2 : Hid (R = _) := Lib.hid (HNT.out.trans (if_neg h12))
    clear h12 HNT hmw
    obtain ⟨N, hN⟩ : ∃ N, numF bs p 4 = N := ⟨_, rfl⟩
    obtain ⟨Dn, hD⟩ : ∃ Dn, numF bs (p + 4) 4 = Dn := ⟨_, rfl⟩
    obtain ⟨T, hT⟩ : ∃ T, numF bs (p + 8) 4 = T := ⟨_, rfl⟩
    have HN32 : Hid (N < 4294967296 ∧ Dn < 4294967296 ∧ T < 4294967296) := Lib.hid ⟨by rw [← hN]; exact numF_lt HBL.out _ 4, by rw [← hD]; exact numF_lt HBL.out _ 4, by rw [← hT]; exact numF_lt HBL.out _ 4⟩
    rw [hN, hD, hT] at HNT2
    have HN0 : Hid (∀ wx, Below w.heap.size w wx → Calls Tryd.prog 44 #[.slice (some ⟨bb, OP, none⟩) M cap, .int .u64 0, .int .i64 4] wx fun e w' => e = .returned (.int .u64 (N : Int)) ∧ Below wx.heap.size wx w') := Lib.hid (fun wx hb => by
      have := HNM.out 0 4 wx (by decide) (by decide) hb
      rw [HNP.out 0 4 (by have := H12.out; omega), Nat.add_zero, hN] at this
      exact this)
    have HN4 : Hid (∀ wx, Below w.heap.size w wx → Calls Tryd.prog 44 #[.slice (some ⟨bb, OP, none⟩) M cap, .int .u64 4, .int .i64 4] wx fun e w' => e = .returned (.int .u64 (Dn : Int)) ∧ Below wx.heap.size wx w') := Lib.hid (fun wx hb => by
      have := HNM.out 4 4 wx (by decide) (by decide) hb
      rw [HNP.out 4 4 (by have := H12.out; omega), hD] at this
      exact this)
    have HN8 : Hid (∀ wx, Below w.heap.size w wx → Calls Tryd.prog 44 #[.slice (some ⟨bb, OP, none⟩) M cap, .int .u64 8, .int .i64 4] wx fun e w' => e = .returned (.int .u64 (T : Int)) ∧ Below wx.heap.size wx w') := Lib.hid (fun wx hb => by
      have := HNM.out 8 4 wx (by decide) (by decide) hb
      rw [HNP.out 8 4 (by have := H12.out; omega), hT] at this
      exact this)
    clear hN hD hT HNM
    obtain ⟨U, hU⟩ : ∃ U, up4F N = U := ⟨_, rfl⟩
    obtain ⟨UD, hUD⟩ : ∃ UD, up4F Dn = UD := ⟨_, rfl⟩
    have HU : Hid (∀ wx, Calls Tryd.prog 56 #[.int .u64 (N : Int)] wx fun e w' => e = .returned (.int .u64 (U : Int)) ∧ wx = w') := Lib.hid (fun wx => by have := up4_any N HN32.out.1 wx; rwa [hU] at this)
    have HUD : Hid (∀ wx, Calls Tryd.prog 56 #[.int .u64 (Dn : Int)] wx fun e w' => e = .returned (.int .u64 (UD : Int)) ∧ wx = w') := Lib.hid (fun wx => by have := up4_any Dn HN32.out.2.1 wx; rwa [hUD] at this)
    have HUL : Hid (N ≤ U ∧ U ≤ N + 3 ∧ Dn ≤ UD ∧ UD ≤ Dn + 3) := Lib.hid (by have h1 := up4F_le N; have h2 := up4F_le Dn; omega)
    rw [hU, hUD] at HNT2
    obtain ⟨BG, hBG⟩ : ∃ BG, 12 + U = BG := ⟨_, rfl⟩
    have HBG := Lib.hid hBG
    have hIN := Lib.hid (fun wx => in_any M BG Dn wx (by omega) (by have := HN32.out; have := HUL.out; omega) (by have := HN32.out; omega))
    have hb64 : IntKind.u64.wrap ((12 : Int) + (U : Int)) = (BG : Int) := by have := HN32.out; have := HUL.out; rw [IntKind.wrap_u64]; omega
    have hmw : IntKind.u64.wrap (M : Int) = (M : Int) := by rw [IntKind.wrap_u64]; omega
    clear hU hUD hBG
    go_enter Tryd.func36, Tryd.ntmps36
    go_wp2_with fail
    refine (HN0.out _ B1.out).mono ?_
    rintro e2 w2 ⟨rfl, b2⟩
    have R2 := Lib.hid ((b2.block _ (lt_of_block R1.out)).trans R1.out)
    have B2 := Lib.hid (bstep B1.out b2)
    clear b2 hw1 hnb t1
    go_wp2_with fail
    refine (HN4.out _ B2.out).mono ?_
    rintro e3 w3 ⟨rfl, b3⟩
    have R3 := Lib.hid ((b3.block _ (lt_of_block R2.out)).trans R2.out)
    have B3 := Lib.hid (bstep B2.out b3)
    clear b3
    go_wp2_with fail
    refine (HU.out _).mono ?_
    rintro e4 w4 ⟨rfl, rfl⟩
    go_wp2_with fail
    refine (hIN.out _).mono ?_
    rintro e5 w5 ⟨rfl, rfl⟩
    clear hmw hb64
    cases hin : inB M BG Dn with
    | false =>
      have HE : Hid (R = .error 4) := Lib.hid (by
        rw [HNT2.out, if_pos]
        intro hc
        unfold inB at hin
        have := of_decide_eq_false hin
        have := H12.out
        have := HBG.out
        omega)
      clear hin
      go_wp2_with fail
      refine (HS4.out _).mono ?_
      rintro e5 w6 ⟨⟨v, rfl, hv⟩, b6⟩
      have R6 := Lib.hid ((b6.block _ (lt_of_block R3.out)).trans R3.out)
      have B6 := Lib.hid (bstep B3.out b6)
      have V6 := Lib.hid hv
      obtain ⟨sb, rfl, -⟩ := hv
      have g0 : w6.cell? ⟨nb, 0, none⟩ = some (.string ⟨#[]⟩) := by rw [cell_of_row _ _ 0 _ _ _ R6.out]; rfl
      have f0 : w6.frozen? ⟨nb, 0, none⟩ = false := frozen_of_row _ _ _ _ _ R6.out
      have g1 : w6.cell? ⟨nb, 1, none⟩ = some (.int .u32 0) := by rw [cell_of_row _ _ 1 _ _ _ R6.out]; rfl
      have f1 : w6.frozen? ⟨nb, 1, none⟩ = false := frozen_of_row _ _ _ _ _ R6.out
      have g2 : w6.cell? ⟨nb, 2, none⟩ = some (.slice none 0 0) := by rw [cell_of_row _ _ 2 _ _ _ R6.out]; rfl
      have f2 : w6.frozen? ⟨nb, 2, none⟩ = false := frozen_of_row _ _ _ _ _ R6.out
      obtain ⟨wf, hwf, z0, z1, z2, ez⟩ := set3_cells R6.out (.string ⟨#[]⟩) (.int .u32 0) (.slice none 0 0)
      have EB : Hid (Below w.heap.size w wf) := Lib.hid (by rw [← ez]; exact below_set3 B6.out HNB.out _ _ _)
      have EV : Hid (ErrAt wf (.iface 90 (.pointer (some ⟨sb, 0, none⟩))) (some (p, 4))) := Lib.hid (by rw [← ez]; exact ErrAt.set3n V6.out R6.out (by decide) _ _ _)
      clear b6 ez
      go_wp2_with fail
      refine bodyPost_ret (by simp [results, Tryd.results36, go_sem, z0, z1, z2]; try rfl) rfl ?_
      exact HPE.out _ 4 wf HE.out EV.out EB.out
    | true =>
      have HI : Hid (U ≤ M - 12 ∧ Dn ≤ M - 12 - U ∧ BG + Dn ≤ M ∧ BG ≤ M) := Lib.hid (by
        unfold inB at hin
        have := of_decide_eq_true hin
        have := H12.out
        have := HBG.out
        omega)
      have HNT3 : Hid (R = _) := Lib.hid (HNT2.out.trans (if_neg (fun hc => hc ⟨HI.out.1, HI.out.2.1⟩)))
      obtain ⟨DL, hDL⟩ : ∃ DL, (bs.drop (p + 12 + U)).take Dn = DL := ⟨_, rfl⟩
      rw [hDL] at HNT3
      have HDL : Hid ((ys.drop BG).take Dn = DL ∧ DL.length = Dn) := Lib.hid (by
        have h1 := HYD.out BG Dn HI.out.2.2.1
        rw [← HBG.out, ← Nat.add_assoc, hDL, HBG.out] at h1
        refine ⟨h1, ?_⟩
        rw [← h1, List.length_take, List.length_drop, HYR.out.2]
        have := HI.out
        omega)
      obtain ⟨BE, hBE⟩ : ∃ BE, BG + Dn = BE := ⟨_, rfl⟩
      have BE64 : Hid (IntKind.u64.wrap ((BG : Int) + (Dn : Int)) = (BE : Int)) := Lib.hid (by have := HI.out; rw [IntKind.wrap_u64]; omega)
      have HBE := Lib.hid hBE
      clear hDL hin hBE
      go_upto_region 8 with fail
      go_cut [11] (fun pv wx => Hid (BoxN w3 T Dn (toI DL) pv wx))
      case first =>
        have j0 : (0 : Int) ≤ (BG : Int) := by omega
        have j1 : (BG : Int) ≤ (BE : Int) := by have := HBE.out; omega
        have j2 : (BE : Int) ≤ (cap : Int) := by have := HBE.out; have := HI.out; have := HC.out; omega
        have j3 : ((BE : Int) - (BG : Int)).toNat = Dn := by have := HBE.out; omega
        have j4 : BE - BG = Dn := by have := HBE.out; omega
        have j5 : BG ≤ BE := by have := HBE.out; omega
        have j6 : BE ≤ cap := by have := HBE.out; have := HI.out; have := HC.out; omega
        have HTW : Hid (IntKind.u32.wrap (T : Int) = (T : Int)) := Lib.hid (by have := HN32.out; rw [IntKind.wrap_u32]; omega)
        by_cases hcap : cap = BG
        · subst hcap
          have HD0 : Hid (Dn = 0) := Lib.hid (by have := HBE.out; have := HI.out; have := HC.out; omega)
          have HCL : Hid (∀ wx, Below w3.heap.size w3 wx → Calls Tryd.prog 57 #[.slice (some ⟨bb, OP, none⟩) Dn 0] wx fun e w' => (∃ ad c', e = .returned (.slice ad Dn c') ∧ OwnI w' wx.heap.size 5 .u8 (.slice ad Dn c') (toI DL)) ∧ Below wx.heap.size wx w') := Lib.hid (fun wx hb => by
            have h0 : DL = [] := List.length_eq_zero_iff.1 (by rw [HDL.out.2]; exact HD0.out)
            exact sclone_any ⟨bb, OP, none⟩ Dn 0 (toI DL) wx (by rw [toI_length]; exact HDL.out.2) (by rw [h0]; exact fun i hi => by simp [toI] at hi) (by have := HD0.out; omega) (by have := HD0.out; omega) rfl)
          have KS : Hid (∀ wx, Below w3.heap.size w3 wx → True ∧ True) := Lib.hid (fun _ _ => ⟨trivial, trivial⟩)
          have be64 := BE64.out
          have ht := HTW.out
          refine wp_region_held_drew (S := fun wx => Below w3.heap.size w3 wx) (by kernel_rfl) ((Below.refl _ _).drew) (fun hHeld => ?_)
          first
            | (refine wpAnyH_take (i := 0) (v := ?_) rfl (by kernel_rfl) (by kernel_rfl) (by kernel_rfl) (fun _ _ _ h => h) (Or.inl ⟨by rfl, ?_⟩) (by assumption) ?_
               rotate_left
               · intro wx hSw
                 obtain ⟨s0, s1⟩ := KS.out wx hSw
                 (first | (go_simp; rfl) | go_simp | rfl))
            | refine wpAnyH_take (i := 0) (v := undef) rfl (by kernel_rfl) (by kernel_rfl) (by kernel_rfl) (fun _ _ _ h => h) (Or.inr ⟨by rfl, rfl⟩) (by assumption) ?_
          try simp only [List.getElem_toArray, List.getElem_cons_zero, List.getElem_cons_succ, Act.put, List.setIfInBounds_toArray, List.set_cons_zero, List.set_cons_succ, Array.toArray_toList]
          first
            | (refine wpAnyH_take (i := 3) (v := ?_) rfl (by kernel_rfl) (by kernel_rfl) (by kernel_rfl) (fun _ _ _ h => h) (Or.inl ⟨by rfl, ?_⟩) (by assumption) ?_
               rotate_left
               · intro wx hSw
                 obtain ⟨s0, s1⟩ := KS.out wx hSw
                 (first | (go_simp; rfl) | go_simp | rfl))
            | refine wpAnyH_take (i := 3) (v := undef) rfl (by kernel_rfl) (by kernel_rfl) (by kernel_rfl) (fun _ _ _ h => h) (Or.inr ⟨by rfl, rfl⟩) (by assumption) ?_
          try simp only [List.getElem_toArray, List.getElem_cons_zero, List.getElem_cons_succ, Act.put, List.setIfInBounds_toArray, List.set_cons_zero, List.set_cons_succ, Array.toArray_toList]
          first
            | (refine wpAnyH_take (i := 4) (v := ?_) rfl (by kernel_rfl) (by kernel_rfl) (by kernel_rfl) (fun _ _ _ h => h) (Or.inl ⟨by rfl, ?_⟩) (by assumption) ?_
               rotate_left
               · intro wx hSw
                 obtain ⟨s0, s1⟩ := KS.out wx hSw
                 (first | (go_simp; rfl) | go_simp | rfl))
            | refine wpAnyH_take (i := 4) (v := undef) rfl (by kernel_rfl) (by kernel_rfl) (by kernel_rfl) (fun _ _ _ h => h) (Or.inr ⟨by rfl, rfl⟩) (by assumption) ?_
          try simp only [List.getElem_toArray, List.getElem_cons_zero, List.getElem_cons_succ, Act.put, List.setIfInBounds_toArray, List.set_cons_zero, List.set_cons_succ, Array.toArray_toList]
          first
            | (refine wpAnyH_take (i := 5) (v := ?_) rfl (by kernel_rfl) (by kernel_rfl) (by kernel_rfl) (fun _ _ _ h => h) (Or.inl ⟨by rfl, ?_⟩) (by assumption) ?_
               rotate_left
               · intro wx hSw
                 obtain ⟨s0, s1⟩ := KS.out wx hSw
                 (first | (go_simp; rfl) | go_simp | rfl))
            | refine wpAnyH_take (i := 5) (v := undef) rfl (by kernel_rfl) (by kernel_rfl) (by kernel_rfl) (fun _ _ _ h => h) (Or.inr ⟨by rfl, rfl⟩) (by assumption) ?_
          try simp only [List.getElem_toArray, List.getElem_cons_zero, List.getElem_cons_succ, Act.put, List.setIfInBounds_toArray, List.set_cons_zero, List.set_cons_succ, Array.toArray_toList]
          first
            | (refine wpAnyH_take (i := 6) (v := ?_) rfl (by kernel_rfl) (by kernel_rfl) (by kernel_rfl) (fun _ _ _ h => h) (Or.inl ⟨by rfl, ?_⟩) (by assumption) ?_
               rotate_left
               · intro wx hSw
                 obtain ⟨s0, s1⟩ := KS.out wx hSw
                 (first | (go_simp; rfl) | go_simp | rfl))
            | refine wpAnyH_take (i := 6) (v := undef) rfl (by kernel_rfl) (by kernel_rfl) (by kernel_rfl) (fun _ _ _ h => h) (Or.inr ⟨by rfl, rfl⟩) (by assumption) ?_
          try simp only [List.getElem_toArray, List.getElem_cons_zero, List.getElem_cons_succ, Act.put, List.setIfInBounds_toArray, List.set_cons_zero, List.set_cons_succ, Array.toArray_toList]
          first
            | (refine wpAnyH_take (i := 7) (v := ?_) rfl (by kernel_rfl) (by kernel_rfl) (by kernel_rfl) (fun _ _ _ h => h) (Or.inl ⟨by rfl, ?_⟩) (by assumption) ?_
               rotate_left
               · intro wx hSw
                 obtain ⟨s0, s1⟩ := KS.out wx hSw
                 (first | (go_simp; rfl) | go_simp | rfl))
            | refine wpAnyH_take (i := 7) (v := undef) rfl (by kernel_rfl) (by kernel_rfl) (by kernel_rfl) (fun _ _ _ h => h) (Or.inr ⟨by rfl, rfl⟩) (by assumption) ?_
          try simp only [List.getElem_toArray, List.getElem_cons_zero, List.getElem_cons_succ, Act.put, List.setIfInBounds_toArray, List.set_cons_zero, List.set_cons_succ, Array.toArray_toList]
          first
            | (refine wpAnyH_take (i := 8) (v := ?_) rfl (by kernel_rfl) (by kernel_rfl) (by kernel_rfl) (fun _ _ _ h => h) (Or.inl ⟨by rfl, ?_⟩) (by assumption) ?_
               rotate_left
               · intro wx hSw
                 obtain ⟨s0, s1⟩ := KS.out wx hSw
                 (first | (go_simp; rfl) | go_simp | rfl))
            | refine wpAnyH_take (i := 8) (v := undef) rfl (by kernel_rfl) (by kernel_rfl) (by kernel_rfl) (fun _ _ _ h => h) (Or.inr ⟨by rfl, rfl⟩) (by assumption) ?_
          try simp only [List.getElem_toArray, List.getElem_cons_zero, List.getElem_cons_succ, Act.put, List.setIfInBounds_toArray, List.set_cons_zero, List.set_cons_succ, Array.toArray_toList]
          refine wpAnyH_ready (rs := [1, 11]) (by kernel_rfl) (by simp) ?_
          refine AllReadyH.cons rfl (fun K hK => ?_) (AllReadyH.cons rfl (fun K hK => ?_) AllReadyH.nil)
          · go_simp
            refine (HN8.out _ (bstep B3.out (by assumption))).mono ?_
            rintro e6 w6 ⟨rfl, b6⟩
            have C6 := Stp.mk b6
            try go_simp
            refine hK.out _ _ (bstep (by assumption) b6) (fun hHeld => ?_)
            clear hK K b6
            try simp only [List.getElem_toArray, List.getElem_cons_zero, List.getElem_cons_succ, Act.put, List.setIfInBounds_toArray, List.set_cons_zero, List.set_cons_succ, Array.toArray_toList]
            first
              | (refine wpAnyH_take (i := 2) (v := ?_) rfl (by kernel_rfl) (by kernel_rfl) (by kernel_rfl) (fun _ _ _ h => h) (Or.inl ⟨by rfl, ?_⟩) (by assumption) ?_
                 rotate_left
                 · intro wx hSw
                   obtain ⟨s0, s1⟩ := KS.out wx hSw
                   (first | (go_simp; rfl) | go_simp | rfl))
              | refine wpAnyH_take (i := 2) (v := undef) rfl (by kernel_rfl) (by kernel_rfl) (by kernel_rfl) (fun _ _ _ h => h) (Or.inr ⟨by rfl, rfl⟩) (by assumption) ?_
            try simp only [List.getElem_toArray, List.getElem_cons_zero, List.getElem_cons_succ, Act.put, List.setIfInBounds_toArray, List.set_cons_zero, List.set_cons_succ, Array.toArray_toList]
            refine wpAnyH_ready (rs := [9, 11]) (by kernel_rfl) (by simp) ?_
            refine AllReadyH.cons rfl (fun K hK => ?_) (AllReadyH.cons rfl (fun K hK => ?_) AllReadyH.nil)
            · go_simp
              refine (HCL.out _ (by assumption)).mono ?_
              rintro e7 w7 ⟨⟨ad, c7, rfl, o7⟩, b7⟩
              have O7 : Hid (OwnI w7 w3.heap.size 5 .u8 (.slice ad Dn c7) (toI DL)) := Lib.hid (OwnI.mono o7 (Below.size (by assumption)))
              have B37 : Hid (w3.heap.size ≤ w7.heap.size) := Lib.hid (Nat.le_trans (Below.size (w := w3) (by assumption)) b7.size)
              clear o7
              try go_simp
              refine hK.out _ _ (bstep (by assumption) b7) (fun hHeld => ?_)
              clear hK K b7
              try simp only [List.getElem_toArray, List.getElem_cons_zero, List.getElem_cons_succ, Act.put, List.setIfInBounds_toArray, List.set_cons_zero, List.set_cons_succ, Array.toArray_toList]
              first
                | (refine wpAnyH_take (i := 10) (v := ?_) rfl (by kernel_rfl) (by kernel_rfl) (by kernel_rfl) (fun _ _ _ h => h) (Or.inl ⟨by rfl, ?_⟩) (by assumption) ?_
                   rotate_left
                   · intro wx hSw
                     obtain ⟨s0, s1⟩ := KS.out wx hSw
                     (first | (go_simp; rfl) | go_simp | rfl))
                | refine wpAnyH_take (i := 10) (v := undef) rfl (by kernel_rfl) (by kernel_rfl) (by kernel_rfl) (fun _ _ _ h => h) (Or.inr ⟨by rfl, rfl⟩) (by assumption) ?_
              try simp only [List.getElem_toArray, List.getElem_cons_zero, List.getElem_cons_succ, Act.put, List.setIfInBounds_toArray, List.set_cons_zero, List.set_cons_succ, Array.toArray_toList]
              refine wpAnyH_ready (rs := [11]) (by kernel_rfl) (by simp) ?_
              refine AllReadyH.cons rfl (fun K hK => ?_) AllReadyH.nil
              go_simp
              refine hK.out _ _ (ballo (by assumption) _) (fun hHeld => ?_)
              clear hK K
              try simp only [List.getElem_toArray, List.getElem_cons_zero, List.getElem_cons_succ, Act.put, List.setIfInBounds_toArray, List.set_cons_zero, List.set_cons_succ, Array.toArray_toList]
              refine wpAnyH_ready (rs := [12]) (by kernel_rfl) (by simp) ?_
              refine AllReadyH.cons rfl (fun K hK => ?_) AllReadyH.nil
              go_simp
              refine hK.out _ _ (ballo (by assumption) _) (fun hHeld => ?_)
              clear hK K
              try simp only [List.getElem_toArray, List.getElem_cons_zero, List.getElem_cons_succ, Act.put, List.setIfInBounds_toArray, List.set_cons_zero, List.set_cons_succ, Array.toArray_toList]
              refine wpAnyH_done (by kernel_rfl) ?_ _
              have HB9 := Lib.hid hHeld
              clear hHeld
              go_wp2_with fail
              go_meet
              case rel => exact Lib.hid ⟨w7.heap.size, ad, c7, rfl, B37.out , heap_alloc_new _ _, O7.out.allocO _, HB9.out⟩
            · go_simp
              have B36 : Hid (w3.heap.size ≤ w6.heap.size) := Lib.hid (Below.size (by assumption))
              refine hK.out _ _ (ballo (by assumption) _) (fun hHeld => ?_)
              clear hK K
              try simp only [List.getElem_toArray, List.getElem_cons_zero, List.getElem_cons_succ, Act.put, List.setIfInBounds_toArray, List.set_cons_zero, List.set_cons_succ, Array.toArray_toList]
              refine wpAnyH_ready (rs := [9]) (by kernel_rfl) (by simp) ?_
              refine AllReadyH.cons rfl (fun K hK => ?_) AllReadyH.nil
              go_simp
              refine (HCL.out _ (by assumption)).mono ?_
              rintro e7 w7 ⟨⟨ad, c7, rfl, o7⟩, b7⟩
              have O7 : Hid (OwnI w7 w3.heap.size 5 .u8 (.slice ad Dn c7) (toI DL)) := Lib.hid (OwnI.mono o7 (Below.size (by assumption)))
              have XB : Hid (w7.heap[w6.heap.size]? = some (.cells #[.string ⟨#[]⟩, .int .u32 0, .slice none 0 0] 55)) := Lib.hid ((b7.block _ (lt_of_block (heap_alloc_new w6 (.cells #[.string ⟨#[]⟩, .int .u32 0, .slice none 0 0] 55)))).trans (heap_alloc_new w6 (.cells #[.string ⟨#[]⟩, .int .u32 0, .slice none 0 0] 55)))
              have q0 : w7.cell? ⟨w6.heap.size, 0, none⟩ = some (.string ⟨#[]⟩) := by rw [cell_of_row _ _ 0 _ _ _ XB.out]; rfl
              have q1 : w7.cell? ⟨w6.heap.size, 1, none⟩ = some (.int .u32 0) := by rw [cell_of_row _ _ 1 _ _ _ XB.out]; rfl
              have q2 : w7.cell? ⟨w6.heap.size, 2, none⟩ = some (.slice none 0 0) := by rw [cell_of_row _ _ 2 _ _ _ XB.out]; rfl
              have r0 : w7.frozen? ⟨w6.heap.size, 0, none⟩ = false := frozen_of_row _ _ _ _ _ XB.out
              have r1 : w7.frozen? ⟨w6.heap.size, 1, none⟩ = false := frozen_of_row _ _ _ _ _ XB.out
              have r2 : w7.frozen? ⟨w6.heap.size, 2, none⟩ = false := frozen_of_row _ _ _ _ _ XB.out
              obtain ⟨wf, hwf, z0, z1, z2, ez⟩ := set3_cells XB.out (.string ⟨#[]⟩) (.int .u32 (T : Int)) (.slice ad Dn c7)
              have EZ := Lib.hid ez
              clear ez
              clear o7
              try go_simp
              refine hK.out _ _ (bstep (by assumption) b7) (fun hHeld => ?_)
              clear hK K b7
              try simp only [List.getElem_toArray, List.getElem_cons_zero, List.getElem_cons_succ, Act.put, List.setIfInBounds_toArray, List.set_cons_zero, List.set_cons_succ, Array.toArray_toList]
              first
                | (refine wpAnyH_take (i := 10) (v := ?_) rfl (by kernel_rfl) (by kernel_rfl) (by kernel_rfl) (fun _ _ _ h => h) (Or.inl ⟨by rfl, ?_⟩) (by assumption) ?_
                   rotate_left
                   · intro wx hSw
                     obtain ⟨s0, s1⟩ := KS.out wx hSw
                     (first | (go_simp; rfl) | go_simp | rfl))
                | refine wpAnyH_take (i := 10) (v := undef) rfl (by kernel_rfl) (by kernel_rfl) (by kernel_rfl) (fun _ _ _ h => h) (Or.inr ⟨by rfl, rfl⟩) (by assumption) ?_
              try simp only [List.getElem_toArray, List.getElem_cons_zero, List.getElem_cons_succ, Act.put, List.setIfInBounds_toArray, List.set_cons_zero, List.set_cons_succ, Array.toArray_toList]
              refine wpAnyH_ready (rs := [12]) (by kernel_rfl) (by simp) ?_
              refine AllReadyH.cons rfl (fun K hK => ?_) AllReadyH.nil
              go_simp
              refine hK.out _ _ (by rw [← EZ.out]; exact below_set3 (by assumption) B36.out _ _ _) (fun hHeld => ?_)
              clear hK K
              try simp only [List.getElem_toArray, List.getElem_cons_zero, List.getElem_cons_succ, Act.put, List.setIfInBounds_toArray, List.set_cons_zero, List.set_cons_succ, Array.toArray_toList]
              refine wpAnyH_done (by kernel_rfl) ?_ _
              have HB9 := Lib.hid hHeld
              clear hHeld
              go_wp2_with fail
              go_meet
              case rel => exact Lib.hid ⟨w6.heap.size, ad, c7, rfl, B36.out, by rw [← EZ.out]; exact set3_row XB.out _ _ _, by rw [← EZ.out]; exact own_set3i O7.out XB.out (by decide) _ _ _, HB9.out⟩
          · go_simp
            refine hK.out _ _ (ballo (by assumption) _) (fun hHeld => ?_)
            clear hK K
            try simp only [List.getElem_toArray, List.getElem_cons_zero, List.getElem_cons_succ, Act.put, List.setIfInBounds_toArray, List.set_cons_zero, List.set_cons_succ, Array.toArray_toList]
            refine wpAnyH_ready (rs := [1]) (by kernel_rfl) (by simp) ?_
            refine AllReadyH.cons rfl (fun K hK => ?_) AllReadyH.nil
            go_simp
            refine (HN8.out _ (bstep B3.out (by assumption))).mono ?_
            rintro e6 w6 ⟨rfl, b6⟩
            have XA : Hid (w6.heap[w3.heap.size]? = some (.cells #[.string ⟨#[]⟩, .int .u32 0, .slice none 0 0] 55)) := Lib.hid ((b6.block _ (lt_of_block (heap_alloc_new _ (.cells #[.string ⟨#[]⟩, .int .u32 0, .slice none 0 0] 55)))).trans (heap_alloc_new _ (.cells #[.string ⟨#[]⟩, .int .u32 0, .slice none 0 0] 55)))
            have C6 := Stp.mk b6
            try go_simp
            refine hK.out _ _ (bstep (by assumption) b6) (fun hHeld => ?_)
            clear hK K b6
            try simp only [List.getElem_toArray, List.getElem_cons_zero, List.getElem_cons_succ, Act.put, List.setIfInBounds_toArray, List.set_cons_zero, List.set_cons_succ, Array.toArray_toList]
            first
              | (refine wpAnyH_take (i := 2) (v := ?_) rfl (by kernel_rfl) (by kernel_rfl) (by kernel_rfl) (fun _ _ _ h => h) (Or.inl ⟨by rfl, ?_⟩) (by assumption) ?_
                 rotate_left
                 · intro wx hSw
                   obtain ⟨s0, s1⟩ := KS.out wx hSw
                   (first | (go_simp; rfl) | go_simp | rfl))
              | refine wpAnyH_take (i := 2) (v := undef) rfl (by kernel_rfl) (by kernel_rfl) (by kernel_rfl) (fun _ _ _ h => h) (Or.inr ⟨by rfl, rfl⟩) (by assumption) ?_
            try simp only [List.getElem_toArray, List.getElem_cons_zero, List.getElem_cons_succ, Act.put, List.setIfInBounds_toArray, List.set_cons_zero, List.set_cons_succ, Array.toArray_toList]
            refine wpAnyH_ready (rs := [9]) (by kernel_rfl) (by simp) ?_
            refine AllReadyH.cons rfl (fun K hK => ?_) AllReadyH.nil
            go_simp
            refine (HCL.out _ (by assumption)).mono ?_
            rintro e7 w7 ⟨⟨ad, c7, rfl, o7⟩, b7⟩
            have O7 : Hid (OwnI w7 w3.heap.size 5 .u8 (.slice ad Dn c7) (toI DL)) := Lib.hid (OwnI.mono o7 (Below.size (by assumption)))
            have XB : Hid (w7.heap[w3.heap.size]? = some (.cells #[.string ⟨#[]⟩, .int .u32 0, .slice none 0 0] 55)) := Lib.hid ((b7.block _ (lt_of_block XA.out)).trans XA.out)
            have q0 : w7.cell? ⟨w3.heap.size, 0, none⟩ = some (.string ⟨#[]⟩) := by rw [cell_of_row _ _ 0 _ _ _ XB.out]; rfl
            have q1 : w7.cell? ⟨w3.heap.size, 1, none⟩ = some (.int .u32 0) := by rw [cell_of_row _ _ 1 _ _ _ XB.out]; rfl
            have q2 : w7.cell? ⟨w3.heap.size, 2, none⟩ = some (.slice none 0 0) := by rw [cell_of_row _ _ 2 _ _ _ XB.out]; rfl
            have r0 : w7.frozen? ⟨w3.heap.size, 0, none⟩ = false := frozen_of_row _ _ _ _ _ XB.out
            have r1 : w7.frozen? ⟨w3.heap.size, 1, none⟩ = false := frozen_of_row _ _ _ _ _ XB.out
            have r2 : w7.frozen? ⟨w3.heap.size, 2, none⟩ = false := frozen_of_row _ _ _ _ _ XB.out
            obtain ⟨wf, hwf, z0, z1, z2, ez⟩ := set3_cells XB.out (.string ⟨#[]⟩) (.int .u32 (T : Int)) (.slice ad Dn c7)
            have EZ := Lib.hid ez
            clear ez
            clear o7
            try go_simp
            refine hK.out _ _ (bstep (by assumption) b7) (fun hHeld => ?_)
            clear hK K b7
            try simp only [List.getElem_toArray, List.getElem_cons_zero, List.getElem_cons_succ, Act.put, List.setIfInBounds_toArray, List.set_cons_zero, List.set_cons_succ, Array.toArray_toList]
            first
              | (refine wpAnyH_take (i := 10) (v := ?_) rfl (by kernel_rfl) (by kernel_rfl) (by kernel_rfl) (fun _ _ _ h => h) (Or.inl ⟨by rfl, ?_⟩) (by assumption) ?_
                 rotate_left
                 · intro wx hSw
                   obtain ⟨s0, s1⟩ := KS.out wx hSw
                   (first | (go_simp; rfl) | go_simp | rfl))
              | refine wpAnyH_take (i := 10) (v := undef) rfl (by kernel_rfl) (by kernel_rfl) (by kernel_rfl) (fun _ _ _ h => h) (Or.inr ⟨by rfl, rfl⟩) (by assumption) ?_
            try simp only [List.getElem_toArray, List.getElem_cons_zero, List.getElem_cons_succ, Act.put, List.setIfInBounds_toArray, List.set_cons_zero, List.set_cons_succ, Array.toArray_toList]
            refine wpAnyH_ready (rs := [12]) (by kernel_rfl) (by simp) ?_
            refine AllReadyH.cons rfl (fun K hK => ?_) AllReadyH.nil
            go_simp
            refine hK.out _ _ (by rw [← EZ.out]; exact below_set3 (by assumption) (Nat.le_refl _) _ _ _) (fun hHeld => ?_)
            clear hK K
            try simp only [List.getElem_toArray, List.getElem_cons_zero, List.getElem_cons_succ, Act.put, List.setIfInBounds_toArray, List.set_cons_zero, List.set_cons_succ, Array.toArray_toList]
            refine wpAnyH_done (by kernel_rfl) ?_ _
            have HB9 := Lib.hid hHeld
            clear hHeld
            go_wp2_with fail
            go_meet
            case rel => exact Lib.hid ⟨w3.heap.size, ad, c7, rfl, (Nat.le_refl _), by rw [← EZ.out]; exact set3_row XB.out _ _ _, by rw [← EZ.out]; exact own_set3i O7.out XB.out (by decide) _ _ _, HB9.out⟩
        · have HCL : Hid (∀ wx, Below w3.heap.size w3 wx → Calls Tryd.prog 57 #[.slice (some ⟨bb, OP + BG, none⟩) Dn (cap - BG)] wx fun e w' => (∃ ad c', e = .returned (.slice ad Dn c') ∧ OwnI w' wx.heap.size 5 .u8 (.slice ad Dn c') (toI DL)) ∧ Below wx.heap.size wx w') := Lib.hid (fun wx hb => by
            have hr := ((HYR.out.1.below B3.out).below hb).1.cut BG Dn
            rw [cut_toI, HDL.out.1] at hr
            exact sclone_any ⟨bb, OP + BG, none⟩ Dn (cap - BG) (toI DL) wx (by rw [toI_length]; exact HDL.out.2) (by simpa [WideShapes.add_plain] using hr) (by have := HI.out; omega) (by have := HI.out; have := HC.out; omega) rfl)
          have KS : Hid (∀ wx, Below w3.heap.size w3 wx → True ∧ True) := Lib.hid (fun _ _ => ⟨trivial, trivial⟩)
          have be64 := BE64.out
          have ht := HTW.out
          refine wp_region_held_drew (S := fun wx => Below w3.heap.size w3 wx) (by kernel_rfl) ((Below.refl _ _).drew) (fun hHeld => ?_)
          first
            | (refine wpAnyH_take (i := 0) (v := ?_) rfl (by kernel_rfl) (by kernel_rfl) (by kernel_rfl) (fun _ _ _ h => h) (Or.inl ⟨by rfl, ?_⟩) (by assumption) ?_
               rotate_left
               · intro wx hSw
                 obtain ⟨s0, s1⟩ := KS.out wx hSw
                 (first | (go_simp; rfl) | go_simp | rfl))
            | refine wpAnyH_take (i := 0) (v := undef) rfl (by kernel_rfl) (by kernel_rfl) (by kernel_rfl) (fun _ _ _ h => h) (Or.inr ⟨by rfl, rfl⟩) (by assumption) ?_
          try simp only [List.getElem_toArray, List.getElem_cons_zero, List.getElem_cons_succ, Act.put, List.setIfInBounds_toArray, List.set_cons_zero, List.set_cons_succ, Array.toArray_toList]
          first
            | (refine wpAnyH_take (i := 3) (v := ?_) rfl (by kernel_rfl) (by kernel_rfl) (by kernel_rfl) (fun _ _ _ h => h) (Or.inl ⟨by rfl, ?_⟩) (by assumption) ?_
               rotate_left
               · intro wx hSw
                 obtain ⟨s0, s1⟩ := KS.out wx hSw
                 (first | (go_simp; rfl) | go_simp | rfl))
            | refine wpAnyH_take (i := 3) (v := undef) rfl (by kernel_rfl) (by kernel_rfl) (by kernel_rfl) (fun _ _ _ h => h) (Or.inr ⟨by rfl, rfl⟩) (by assumption) ?_
          try simp only [List.getElem_toArray, List.getElem_cons_zero, List.getElem_cons_succ, Act.put, List.setIfInBounds_toArray, List.set_cons_zero, List.set_cons_succ, Array.toArray_toList]
          first
            | (refine wpAnyH_take (i := 4) (v := ?_) rfl (by kernel_rfl) (by kernel_rfl) (by kernel_rfl) (fun _ _ _ h => h) (Or.inl ⟨by rfl, ?_⟩) (by assumption) ?_
               rotate_left
               · intro wx hSw
                 obtain ⟨s0, s1⟩ := KS.out wx hSw
                 (first | (go_simp; rfl) | go_simp | rfl))
            | refine wpAnyH_take (i := 4) (v := undef) rfl (by kernel_rfl) (by kernel_rfl) (by kernel_rfl) (fun _ _ _ h => h) (Or.inr ⟨by rfl, rfl⟩) (by assumption) ?_
          try simp only [List.getElem_toArray, List.getElem_cons_zero, List.getElem_cons_succ, Act.put, List.setIfInBounds_toArray, List.set_cons_zero, List.set_cons_succ, Array.toArray_toList]
          first
            | (refine wpAnyH_take (i := 5) (v := ?_) rfl (by kernel_rfl) (by kernel_rfl) (by kernel_rfl) (fun _ _ _ h => h) (Or.inl ⟨by rfl, ?_⟩) (by assumption) ?_
               rotate_left
               · intro wx hSw
                 obtain ⟨s0, s1⟩ := KS.out wx hSw
                 (first | (go_simp; rfl) | go_simp | rfl))
            | refine wpAnyH_take (i := 5) (v := undef) rfl (by kernel_rfl) (by kernel_rfl) (by kernel_rfl) (fun _ _ _ h => h) (Or.inr ⟨by rfl, rfl⟩) (by assumption) ?_
          try simp only [List.getElem_toArray, List.getElem_cons_zero, List.getElem_cons_succ, Act.put, List.setIfInBounds_toArray, List.set_cons_zero, List.set_cons_succ, Array.toArray_toList]
          first
            | (refine wpAnyH_take (i := 6) (v := ?_) rfl (by kernel_rfl) (by kernel_rfl) (by kernel_rfl) (fun _ _ _ h => h) (Or.inl ⟨by rfl, ?_⟩) (by assumption) ?_
               rotate_left
               · intro wx hSw
                 obtain ⟨s0, s1⟩ := KS.out wx hSw
                 (first | (go_simp; rfl) | go_simp | rfl))
            | refine wpAnyH_take (i := 6) (v := undef) rfl (by kernel_rfl) (by kernel_rfl) (by kernel_rfl) (fun _ _ _ h => h) (Or.inr ⟨by rfl, rfl⟩) (by assumption) ?_
          try simp only [List.getElem_toArray, List.getElem_cons_zero, List.getElem_cons_succ, Act.put, List.setIfInBounds_toArray, List.set_cons_zero, List.set_cons_succ, Array.toArray_toList]
          first
            | (refine wpAnyH_take (i := 7) (v := ?_) rfl (by kernel_rfl) (by kernel_rfl) (by kernel_rfl) (fun _ _ _ h => h) (Or.inl ⟨by rfl, ?_⟩) (by assumption) ?_
               rotate_left
               · intro wx hSw
                 obtain ⟨s0, s1⟩ := KS.out wx hSw
                 (first | (go_simp; rfl) | go_simp | rfl))
            | refine wpAnyH_take (i := 7) (v := undef) rfl (by kernel_rfl) (by kernel_rfl) (by kernel_rfl) (fun _ _ _ h => h) (Or.inr ⟨by rfl, rfl⟩) (by assumption) ?_
          try simp only [List.getElem_toArray, List.getElem_cons_zero, List.getElem_cons_succ, Act.put, List.setIfInBounds_toArray, List.set_cons_zero, List.set_cons_succ, Array.toArray_toList]
          first
            | (refine wpAnyH_take (i := 8) (v := ?_) rfl (by kernel_rfl) (by kernel_rfl) (by kernel_rfl) (fun _ _ _ h => h) (Or.inl ⟨by rfl, ?_⟩) (by assumption) ?_
               rotate_left
               · intro wx hSw
                 obtain ⟨s0, s1⟩ := KS.out wx hSw
                 (first | (go_simp; rfl) | go_simp | rfl))
            | refine wpAnyH_take (i := 8) (v := undef) rfl (by kernel_rfl) (by kernel_rfl) (by kernel_rfl) (fun _ _ _ h => h) (Or.inr ⟨by rfl, rfl⟩) (by assumption) ?_
          try simp only [List.getElem_toArray, List.getElem_cons_zero, List.getElem_cons_succ, Act.put, List.setIfInBounds_toArray, List.set_cons_zero, List.set_cons_succ, Array.toArray_toList]
          refine wpAnyH_ready (rs := [1, 11]) (by kernel_rfl) (by simp) ?_
          refine AllReadyH.cons rfl (fun K hK => ?_) (AllReadyH.cons rfl (fun K hK => ?_) AllReadyH.nil)
          · go_simp
            refine (HN8.out _ (bstep B3.out (by assumption))).mono ?_
            rintro e6 w6 ⟨rfl, b6⟩
            have C6 := Stp.mk b6
            try go_simp
            refine hK.out _ _ (bstep (by assumption) b6) (fun hHeld => ?_)
            clear hK K b6
            try simp only [List.getElem_toArray, List.getElem_cons_zero, List.getElem_cons_succ, Act.put, List.setIfInBounds_toArray, List.set_cons_zero, List.set_cons_succ, Array.toArray_toList]
            first
              | (refine wpAnyH_take (i := 2) (v := ?_) rfl (by kernel_rfl) (by kernel_rfl) (by kernel_rfl) (fun _ _ _ h => h) (Or.inl ⟨by rfl, ?_⟩) (by assumption) ?_
                 rotate_left
                 · intro wx hSw
                   obtain ⟨s0, s1⟩ := KS.out wx hSw
                   (first | (go_simp; rfl) | go_simp | rfl))
              | refine wpAnyH_take (i := 2) (v := undef) rfl (by kernel_rfl) (by kernel_rfl) (by kernel_rfl) (fun _ _ _ h => h) (Or.inr ⟨by rfl, rfl⟩) (by assumption) ?_
            try simp only [List.getElem_toArray, List.getElem_cons_zero, List.getElem_cons_succ, Act.put, List.setIfInBounds_toArray, List.set_cons_zero, List.set_cons_succ, Array.toArray_toList]
            refine wpAnyH_ready (rs := [9, 11]) (by kernel_rfl) (by simp) ?_
            refine AllReadyH.cons rfl (fun K hK => ?_) (AllReadyH.cons rfl (fun K hK => ?_) AllReadyH.nil)
            · go_simp
              refine (HCL.out _ (by assumption)).mono ?_
              rintro e7 w7 ⟨⟨ad, c7, rfl, o7⟩, b7⟩
              have O7 : Hid (OwnI w7 w3.heap.size 5 .u8 (.slice ad Dn c7) (toI DL)) := Lib.hid (OwnI.mono o7 (Below.size (by assumption)))
              have B37 : Hid (w3.heap.size ≤ w7.heap.size) := Lib.hid (Nat.le_trans (Below.size (w := w3) (by assumption)) b7.size)
              clear o7
              try go_simp
              refine hK.out _ _ (bstep (by assumption) b7) (fun hHeld => ?_)
              clear hK K b7
              try simp only [List.getElem_toArray, List.getElem_cons_zero, List.getElem_cons_succ, Act.put, List.setIfInBounds_toArray, List.set_cons_zero, List.set_cons_succ, Array.toArray_toList]
              first
                | (refine wpAnyH_take (i := 10) (v := ?_) rfl (by kernel_rfl) (by kernel_rfl) (by kernel_rfl) (fun _ _ _ h => h) (Or.inl ⟨by rfl, ?_⟩) (by assumption) ?_
                   rotate_left
                   · intro wx hSw
                     obtain ⟨s0, s1⟩ := KS.out wx hSw
                     (first | (go_simp; rfl) | go_simp | rfl))
                | refine wpAnyH_take (i := 10) (v := undef) rfl (by kernel_rfl) (by kernel_rfl) (by kernel_rfl) (fun _ _ _ h => h) (Or.inr ⟨by rfl, rfl⟩) (by assumption) ?_
              try simp only [List.getElem_toArray, List.getElem_cons_zero, List.getElem_cons_succ, Act.put, List.setIfInBounds_toArray, List.set_cons_zero, List.set_cons_succ, Array.toArray_toList]
              refine wpAnyH_ready (rs := [11]) (by kernel_rfl) (by simp) ?_
              refine AllReadyH.cons rfl (fun K hK => ?_) AllReadyH.nil
              go_simp
              refine hK.out _ _ (ballo (by assumption) _) (fun hHeld => ?_)
              clear hK K
              try simp only [List.getElem_toArray, List.getElem_cons_zero, List.getElem_cons_succ, Act.put, List.setIfInBounds_toArray, List.set_cons_zero, List.set_cons_succ, Array.toArray_toList]
              refine wpAnyH_ready (rs := [12]) (by kernel_rfl) (by simp) ?_
              refine AllReadyH.cons rfl (fun K hK => ?_) AllReadyH.nil
              go_simp
              refine hK.out _ _ (ballo (by assumption) _) (fun hHeld => ?_)
              clear hK K
              try simp only [List.getElem_toArray, List.getElem_cons_zero, List.getElem_cons_succ, Act.put, List.setIfInBounds_toArray, List.set_cons_zero, List.set_cons_succ, Array.toArray_toList]
              refine wpAnyH_done (by kernel_rfl) ?_ _
              have HB9 := Lib.hid hHeld
              clear hHeld
              go_wp2_with fail
              go_meet
              case rel => exact Lib.hid ⟨w7.heap.size, ad, c7, rfl, B37.out , heap_alloc_new _ _, O7.out.allocO _, HB9.out⟩
            · go_simp
              have B36 : Hid (w3.heap.size ≤ w6.heap.size) := Lib.hid (Below.size (by assumption))
              refine hK.out _ _ (ballo (by assumption) _) (fun hHeld => ?_)
              clear hK K
              try simp only [List.getElem_toArray, List.getElem_cons_zero, List.getElem_cons_succ, Act.put, List.setIfInBounds_toArray, List.set_cons_zero, List.set_cons_succ, Array.toArray_toList]
              refine wpAnyH_ready (rs := [9]) (by kernel_rfl) (by simp) ?_
              refine AllReadyH.cons rfl (fun K hK => ?_) AllReadyH.nil
              go_simp
              refine (HCL.out _ (by assumption)).mono ?_
              rintro e7 w7 ⟨⟨ad, c7, rfl, o7⟩, b7⟩
              have O7 : Hid (OwnI w7 w3.heap.size 5 .u8 (.slice ad Dn c7) (toI DL)) := Lib.hid (OwnI.mono o7 (Below.size (by assumption)))
              have XB : Hid (w7.heap[w6.heap.size]? = some (.cells #[.string ⟨#[]⟩, .int .u32 0, .slice none 0 0] 55)) := Lib.hid ((b7.block _ (lt_of_block (heap_alloc_new w6 (.cells #[.string ⟨#[]⟩, .int .u32 0, .slice none 0 0] 55)))).trans (heap_alloc_new w6 (.cells #[.string ⟨#[]⟩, .int .u32 0, .slice none 0 0] 55)))
              have q0 : w7.cell? ⟨w6.heap.size, 0, none⟩ = some (.string ⟨#[]⟩) := by rw [cell_of_row _ _ 0 _ _ _ XB.out]; rfl
              have q1 : w7.cell? ⟨w6.heap.size, 1, none⟩ = some (.int .u32 0) := by rw [cell_of_row _ _ 1 _ _ _ XB.out]; rfl
              have q2 : w7.cell? ⟨w6.heap.size, 2, none⟩ = some (.slice none 0 0) := by rw [cell_of_row _ _ 2 _ _ _ XB.out]; rfl
              have r0 : w7.frozen? ⟨w6.heap.size, 0, none⟩ = false := frozen_of_row _ _ _ _ _ XB.out
              have r1 : w7.frozen? ⟨w6.heap.size, 1, none⟩ = false := frozen_of_row _ _ _ _ _ XB.out
              have r2 : w7.frozen? ⟨w6.heap.size, 2, none⟩ = false := frozen_of_row _ _ _ _ _ XB.out
              obtain ⟨wf, hwf, z0, z1, z2, ez⟩ := set3_cells XB.out (.string ⟨#[]⟩) (.int .u32 (T : Int)) (.slice ad Dn c7)
              have EZ := Lib.hid ez
              clear ez
              clear o7
              try go_simp
              refine hK.out _ _ (bstep (by assumption) b7) (fun hHeld => ?_)
              clear hK K b7
              try simp only [List.getElem_toArray, List.getElem_cons_zero, List.getElem_cons_succ, Act.put, List.setIfInBounds_toArray, List.set_cons_zero, List.set_cons_succ, Array.toArray_toList]
              first
                | (refine wpAnyH_take (i := 10) (v := ?_) rfl (by kernel_rfl) (by kernel_rfl) (by kernel_rfl) (fun _ _ _ h => h) (Or.inl ⟨by rfl, ?_⟩) (by assumption) ?_
                   rotate_left
                   · intro wx hSw
                     obtain ⟨s0, s1⟩ := KS.out wx hSw
                     (first | (go_simp; rfl) | go_simp | rfl))
                | refine wpAnyH_take (i := 10) (v := undef) rfl (by kernel_rfl) (by kernel_rfl) (by kernel_rfl) (fun _ _ _ h => h) (Or.inr ⟨by rfl, rfl⟩) (by assumption) ?_
              try simp only [List.getElem_toArray, List.getElem_cons_zero, List.getElem_cons_succ, Act.put, List.setIfInBounds_toArray, List.set_cons_zero, List.set_cons_succ, Array.toArray_toList]
              refine wpAnyH_ready (rs := [12]) (by kernel_rfl) (by simp) ?_
              refine AllReadyH.cons rfl (fun K hK => ?_) AllReadyH.nil
              go_simp
              refine hK.out _ _ (by rw [← EZ.out]; exact below_set3 (by assumption) B36.out _ _ _) (fun hHeld => ?_)
              clear hK K
              try simp only [List.getElem_toArray, List.getElem_cons_zero, List.getElem_cons_succ, Act.put, List.setIfInBounds_toArray, List.set_cons_zero, List.set_cons_succ, Array.toArray_toList]
              refine wpAnyH_done (by kernel_rfl) ?_ _
              have HB9 := Lib.hid hHeld
              clear hHeld
              go_wp2_with fail
              go_meet
              case rel => exact Lib.hid ⟨w6.heap.size, ad, c7, rfl, B36.out, by rw [← EZ.out]; exact set3_row XB.out _ _ _, by rw [← EZ.out]; exact own_set3i O7.out XB.out (by decide) _ _ _, HB9.out⟩
          · go_simp
            refine hK.out _ _ (ballo (by assumption) _) (fun hHeld => ?_)
            clear hK K
            try simp only [List.getElem_toArray, List.getElem_cons_zero, List.getElem_cons_succ, Act.put, List.setIfInBounds_toArray, List.set_cons_zero, List.set_cons_succ, Array.toArray_toList]
            refine wpAnyH_ready (rs := [1]) (by kernel_rfl) (by simp) ?_
            refine AllReadyH.cons rfl (fun K hK => ?_) AllReadyH.nil
            go_simp
            refine (HN8.out _ (bstep B3.out (by assumption))).mono ?_
            rintro e6 w6 ⟨rfl, b6⟩
            have XA : Hid (w6.heap[w3.heap.size]? = some (.cells #[.string ⟨#[]⟩, .int .u32 0, .slice none 0 0] 55)) := Lib.hid ((b6.block _ (lt_of_block (heap_alloc_new _ (.cells #[.string ⟨#[]⟩, .int .u32 0, .slice none 0 0] 55)))).trans (heap_alloc_new _ (.cells #[.string ⟨#[]⟩, .int .u32 0, .slice none 0 0] 55)))
            have C6 := Stp.mk b6
            try go_simp
            refine hK.out _ _ (bstep (by assumption) b6) (fun hHeld => ?_)
            clear hK K b6
            try simp only [List.getElem_toArray, List.getElem_cons_zero, List.getElem_cons_succ, Act.put, List.setIfInBounds_toArray, List.set_cons_zero, List.set_cons_succ, Array.toArray_toList]
            first
              | (refine wpAnyH_take (i := 2) (v := ?_) rfl (by kernel_rfl) (by kernel_rfl) (by kernel_rfl) (fun _ _ _ h => h) (Or.inl ⟨by rfl, ?_⟩) (by assumption) ?_
                 rotate_left
                 · intro wx hSw
                   obtain ⟨s0, s1⟩ := KS.out wx hSw
                   (first | (go_simp; rfl) | go_simp | rfl))
              | refine wpAnyH_take (i := 2) (v := undef) rfl (by kernel_rfl) (by kernel_rfl) (by kernel_rfl) (fun _ _ _ h => h) (Or.inr ⟨by rfl, rfl⟩) (by assumption) ?_
            try simp only [List.getElem_toArray, List.getElem_cons_zero, List.getElem_cons_succ, Act.put, List.setIfInBounds_toArray, List.set_cons_zero, List.set_cons_succ, Array.toArray_toList]
            refine wpAnyH_ready (rs := [9]) (by kernel_rfl) (by simp) ?_
            refine AllReadyH.cons rfl (fun K hK => ?_) AllReadyH.nil
            go_simp
            refine (HCL.out _ (by assumption)).mono ?_
            rintro e7 w7 ⟨⟨ad, c7, rfl, o7⟩, b7⟩
            have O7 : Hid (OwnI w7 w3.heap.size 5 .u8 (.slice ad Dn c7) (toI DL)) := Lib.hid (OwnI.mono o7 (Below.size (by assumption)))
            have XB : Hid (w7.heap[w3.heap.size]? = some (.cells #[.string ⟨#[]⟩, .int .u32 0, .slice none 0 0] 55)) := Lib.hid ((b7.block _ (lt_of_block XA.out)).trans XA.out)
            have q0 : w7.cell? ⟨w3.heap.size, 0, none⟩ = some (.string ⟨#[]⟩) := by rw [cell_of_row _ _ 0 _ _ _ XB.out]; rfl
            have q1 : w7.cell? ⟨w3.heap.size, 1, none⟩ = some (.int .u32 0) := by rw [cell_of_row _ _ 1 _ _ _ XB.out]; rfl
            have q2 : w7.cell? ⟨w3.heap.size, 2, none⟩ = some (.slice none 0 0) := by rw [cell_of_row _ _ 2 _ _ _ XB.out]; rfl
            have r0 : w7.frozen? ⟨w3.heap.size, 0, none⟩ = false := frozen_of_row _ _ _ _ _ XB.out
            have r1 : w7.frozen? ⟨w3.heap.size, 1, none⟩ = false := frozen_of_row _ _ _ _ _ XB.out
            have r2 : w7.frozen? ⟨w3.heap.size, 2, none⟩ = false := frozen_of_row _ _ _ _ _ XB.out
            obtain ⟨wf, hwf, z0, z1, z2, ez⟩ := set3_cells XB.out (.string ⟨#[]⟩) (.int .u32 (T : Int)) (.slice ad Dn c7)
            have EZ := Lib.hid ez
            clear ez
            clear o7
            try go_simp
            refine hK.out _ _ (bstep (by assumption) b7) (fun hHeld => ?_)
            clear hK K b7
            try simp only [List.getElem_toArray, List.getElem_cons_zero, List.getElem_cons_succ, Act.put, List.setIfInBounds_toArray, List.set_cons_zero, List.set_cons_succ, Array.toArray_toList]
            first
              | (refine wpAnyH_take (i := 10) (v := ?_) rfl (by kernel_rfl) (by kernel_rfl) (by kernel_rfl) (fun _ _ _ h => h) (Or.inl ⟨by rfl, ?_⟩) (by assumption) ?_
                 rotate_left
                 · intro wx hSw
                   obtain ⟨s0, s1⟩ := KS.out wx hSw
                   (first | (go_simp; rfl) | go_simp | rfl))
              | refine wpAnyH_take (i := 10) (v := undef) rfl (by kernel_rfl) (by kernel_rfl) (by kernel_rfl) (fun _ _ _ h => h) (Or.inr ⟨by rfl, rfl⟩) (by assumption) ?_
            try simp only [List.getElem_toArray, List.getElem_cons_zero, List.getElem_cons_succ, Act.put, List.setIfInBounds_toArray, List.set_cons_zero, List.set_cons_succ, Array.toArray_toList]
            refine wpAnyH_ready (rs := [12]) (by kernel_rfl) (by simp) ?_
            refine AllReadyH.cons rfl (fun K hK => ?_) AllReadyH.nil
            go_simp
            refine hK.out _ _ (by rw [← EZ.out]; exact below_set3 (by assumption) (Nat.le_refl _) _ _ _) (fun hHeld => ?_)
            clear hK K
            try simp only [List.getElem_toArray, List.getElem_cons_zero, List.getElem_cons_succ, Act.put, List.setIfInBounds_toArray, List.set_cons_zero, List.set_cons_succ, Array.toArray_toList]
            refine wpAnyH_done (by kernel_rfl) ?_ _
            have HB9 := Lib.hid hHeld
            clear hHeld
            go_wp2_with fail
            go_meet
            case rel => exact Lib.hid ⟨w3.heap.size, ad, c7, rfl, (Nat.le_refl _), by rw [← EZ.out]; exact set3_row XB.out _ _ _, by rw [← EZ.out]; exact own_set3i O7.out XB.out (by decide) _ _ _, HB9.out⟩
      case rest =>
        obtain ⟨x, ad, c, rfl, hx, hxr, hxo, hxb⟩ := hcut.out
        obtain ⟨w8, rfl⟩ : ∃ w8 : World, w8 = wc := ⟨_, rfl⟩
        have X8 := Lib.hid hxr
        have O8 := Lib.hid hxo
        have B38 := Lib.hid hxb
        have B8 := Lib.hid (bstep B3.out hxb)
        have R8 := Lib.hid ((hxb.block _ (lt_of_block R3.out)).trans R3.out)
        have HXN : Hid (x ≠ nb ∧ nb ≠ x ∧ w3.heap.size ≤ x) := Lib.hid (by have := lt_of_block R3.out; omega)
        have HX0 : Hid (w.heap.size ≤ x ∧ w.heap.size ≤ w3.heap.size) := Lib.hid (by have := B3.out.size; omega)
        clear hcut hx hxr hxo hxb HN0 HN4 HN8 hIN BE64
        go_upto_region 9 with fail
        go_cut [47] (fun tv wx => tv = .bool (decide (0 < N)) ∧ w8 = wx)
        case first =>
          by_cases h0 : 0 < N
          · have t1 : decide ((0 : Int) < (N : Int)) = true := decide_eq_true (by omega)
            go_wp2_with fail
            go_meet
            case rel => exact ⟨by simp [h0], rfl⟩
          · have t1 : decide ((0 : Int) < (N : Int)) = false := decide_eq_false (by omega)
            go_wp2_with fail
            go_meet
            case rel => exact ⟨by simp [h0], rfl⟩
        case rest =>
          obtain ⟨rfl, rfl⟩ := hcut
          go_upto_if 47 with fail
          go_cut [50] (fun _ wx => Hid (∃ nm, R = .ok (⟨nm, T, DL⟩, 12 + U + UD) ∧ wx.heap[x]? = some (.cells #[.string nm, .int .u32 (T : Int), .slice ad Dn c] 55) ∧ wx.heap[nb]? = some (.cells #[.string ⟨#[]⟩, .int .u32 0, .slice none 0 0] 55) ∧ OwnI wx w.heap.size 5 .u8 (.slice ad Dn c) (toI DL) ∧ Below w.heap.size w wx))
          case first =>
            by_cases h0 : 0 < N
            · have hd0 : decide (0 < N) = true := decide_eq_true h0
              obtain ⟨I1, hI1⟩ : ∃ I1, 12 + N = I1 := ⟨_, rfl⟩
              obtain ⟨IX, hIX⟩ : ∃ IX, 11 + N = IX := ⟨_, rfl⟩
              obtain ⟨N1, hN1⟩ : ∃ N1, N - 1 = N1 := ⟨_, rfl⟩
              have HIX : Hid (IX < M ∧ 12 ≤ IX ∧ IX - 12 = N1 ∧ IX ≤ cap ∧ 12 < cap ∧ 12 + N1 ≤ M ∧ p + 12 + N - 1 = p + IX) := Lib.hid (by have := HUL.out; have := HI.out; have := HC.out; have := H12.out; omega)
              have W1 : Hid (IntKind.u64.wrap ((12 : Int) + (N : Int)) = (I1 : Int)) := Lib.hid (by have := HN32.out; rw [IntKind.wrap_u64]; omega)
              have W2 : Hid (IntKind.u64.wrap ((I1 : Int) - 1) = (IX : Int)) := Lib.hid (by have := HN32.out; rw [IntKind.wrap_u64]; omega)
              obtain ⟨b0, o0, e0, -, hcl, -⟩ := (HYR.out.1.below B8.out).at (i := IX) (by rw [HYR.out.2]; exact HIX.out.1)
              simp only [Option.some.injEq, Addr.mk.injEq, and_true] at e0
              obtain ⟨rfl, rfl⟩ := e0
              rw [HYB.out IX HIX.out.1] at hcl
              obtain ⟨BY, hBY⟩ : ∃ BY, bs.getD (p + IX) 0 = BY := ⟨_, rfl⟩
              rw [hBY] at hcl
              have HNT4 := HNT3.out
              rw [HIX.out.2.2.2.2.2.2, hBY, hN1] at HNT4
              have HNT5 := Lib.hid HNT4
              clear HNT4
              have i0 : (0 : Int) ≤ (IX : Int) := by omega
              have i1 : (IX : Int) < (M : Int) := by have := HIX.out; omega
              clear hI1 hIX hN1 hBY
              by_cases hz : BY = 0
              · have t1 : ((BY : Int) != 0) = false := by rw [hz]; rfl
                have HR1 : Hid (R = _) := Lib.hid (HNT5.out.trans (if_neg (fun hc => hc.2 hz)))
                obtain ⟨NL, hNL⟩ : ∃ NL, (bs.drop (p + 12)).take N1 = NL := ⟨_, rfl⟩
                rw [hNL] at HR1
                obtain ⟨NM, hNM⟩ : ∃ NM, nameF NL = NM := ⟨_, rfl⟩
                rw [hNM] at HR1
                have hcv : (convert 26 9 (.slice (some ⟨bb, OP + 12, none⟩) N1 (cap - 12))).run Tryd.prog w8 = .ok (.string NM) w8 := by
                  have hyl : (ys.drop 12).take N1 = NL := by rw [HYD.out 12 N1 HIX.out.2.2.2.2.2.1, hNL]
                  have hrw := (HYR.out.1.below B8.out).1.cut 12 N1
                  rw [cut_toI, hyl] at hrw
                  have hnl : NL.length = N1 := by rw [← hyl, List.length_take, List.length_drop, HYR.out.2]; have := HIX.out; omega
                  rw [← hNM]
                  refine conv_bytes w8 bb (OP + 12) (cap - 12) (toI NL) N1 (by rw [toI_length, hnl]) (fun i hi => ?_)
                  obtain ⟨b', o', e', hc'⟩ := hrw i (by rw [toI_length, hnl]; exact hi)
                  simp only [Option.map_some, Option.some.injEq, WideShapes.add_plain, Addr.mk.injEq, and_true] at e'
                  obtain ⟨rfl, rfl⟩ := e'
                  exact hc'
                have j0 : (12 : Int) ≤ (IX : Int) := by have := HIX.out; omega
                have j1 : (IX : Int) ≤ (cap : Int) := by have := HIX.out; omega
                have j2 : ((IX : Int) - 12).toNat = N1 := by have := HIX.out; omega
                have j3 : IX - 12 = N1 := HIX.out.2.2.1
                have j4 : ((cap : Int) - 12).toNat = cap - 12 := by omega
                have j5 : ¬ cap = 12 := by have := HIX.out; omega
                have j6 : (12 : Int) ≤ (cap : Int) := by have := HIX.out; omega
                have x0 : w8.cell? ⟨x, 0, none⟩ = some (.string ⟨#[]⟩) := by rw [cell_of_row _ _ 0 _ _ _ X8.out]; rfl
                have xf : w8.frozen? ⟨x, 0, none⟩ = false := frozen_of_row _ _ _ _ _ X8.out
                have g1 := W1.out
                have g2 := W2.out
                clear hNL hNM hz h0 W1 W2
                rw [hd0]
                go_wp2_with fail
                go_meet
                case rel => exact Lib.hid ⟨NM, HR1.out, heap_setCell_same w8 x 0 _ _ (.string NM) X8.out, (heap_setCell_other w8 ⟨x, 0, none⟩ nb _ HXN.out.2.1).trans R8.out, (OwnI.mono O8.out HX0.out.2).setO (a := ⟨x, 0, none⟩) (own_ne O8.out X8.out (by decide)) _, B8.out.setCell (p := ⟨x, 0, none⟩) HX0.out.1 _⟩
              · have t1 : ((BY : Int) != 0) = true := bne_iff_ne.2 (by omega)
                have HE : Hid (R = .error 29) := Lib.hid (HNT5.out.trans (if_pos ⟨h0, hz⟩))
                have g1 := W1.out
                have g2 := W2.out
                clear hz h0 W1 W2
                rw [hd0]
                go_wp2_with fail
                refine (HS9.out _).mono ?_
                rintro e5 w9 ⟨⟨v, rfl, hv⟩, b9⟩
                have R9 := Lib.hid ((b9.block _ (lt_of_block R8.out)).trans R8.out)
                have B9 := Lib.hid (bstep B8.out b9)
                have V9 := Lib.hid hv
                obtain ⟨sb, rfl, -⟩ := hv
                have g0 : w9.cell? ⟨nb, 0, none⟩ = some (.string ⟨#[]⟩) := by rw [cell_of_row _ _ 0 _ _ _ R9.out]; rfl
                have f0 : w9.frozen? ⟨nb, 0, none⟩ = false := frozen_of_row _ _ _ _ _ R9.out
                have g1 : w9.cell? ⟨nb, 1, none⟩ = some (.int .u32 0) := by rw [cell_of_row _ _ 1 _ _ _ R9.out]; rfl
                have f1 : w9.frozen? ⟨nb, 1, none⟩ = false := frozen_of_row _ _ _ _ _ R9.out
                have g2 : w9.cell? ⟨nb, 2, none⟩ = some (.slice none 0 0) := by rw [cell_of_row _ _ 2 _ _ _ R9.out]; rfl
                have f2 : w9.frozen? ⟨nb, 2, none⟩ = false := frozen_of_row _ _ _ _ _ R9.out
                obtain ⟨wf, hwf, z0, z1, z2, ez⟩ := set3_cells R9.out (.string ⟨#[]⟩) (.int .u32 0) (.slice none 0 0)
                have EB : Hid (Below w.heap.size w wf) := Lib.hid (by rw [← ez]; exact below_set3 B9.out HNB.out _ _ _)
                have EV : Hid (ErrAt wf (.iface 90 (.pointer (some ⟨sb, 0, none⟩))) (some (p, 29))) := Lib.hid (by rw [← ez]; exact ErrAt.set3n V9.out R9.out (by decide) _ _ _)
                clear b9 ez
                go_wp2_with fail
                refine bodyPost_ret (by simp [results, Tryd.results36, go_sem, z0, z1, z2]; try rfl) rfl ?_
                exact HPE.out _ 29 wf HE.out EV.out EB.out
            · have hd0 : decide (0 < N) = false := decide_eq_false h0
              have HR1 : Hid (R = .ok (⟨⟨#[]⟩, T, DL⟩, 12 + U + UD)) := Lib.hid (by
                rw [HNT3.out, if_neg (fun hc => h0 hc.1)]
                obtain rfl : N = 0 := by omega
                rfl)
              rw [hd0]
              clear h0
              go_wp2_with fail
              go_meet
              case rel => exact Lib.hid ⟨_, HR1.out, X8.out, R8.out, OwnI.mono O8.out HX0.out.2, B8.out⟩
          case rest =>
            obtain ⟨nm, hR, hx9, hn9, ho9, hb9⟩ := hcut.out
            obtain ⟨w9, rfl⟩ : ∃ w9 : World, w9 = wc := ⟨_, rfl⟩
            have HR9 := Lib.hid hR
            have X9 := Lib.hid hx9
            have N9 := Lib.hid hn9
            have O9 := Lib.hid ho9
            have B9 := Lib.hid hb9
            clear hcut hR hx9 hn9 ho9 hb9 O8 X8 R8
            have s0 : w9.cell? ⟨x, 0, none⟩ = some (.string nm) := by rw [cell_of_row _ _ 0 _ _ _ X9.out]; rfl
            have s1 : w9.cell? ⟨x, 1, none⟩ = some (.int .u32 (T : Int)) := by rw [cell_of_row _ _ 1 _ _ _ X9.out]; rfl
            have s2 : w9.cell? ⟨x, 2, none⟩ = some (.slice ad Dn c) := by rw [cell_of_row _ _ 2 _ _ _ X9.out]; rfl
            have g0 : w9.cell? ⟨nb, 0, none⟩ = some (.string ⟨#[]⟩) := by rw [cell_of_row _ _ 0 _ _ _ N9.out]; rfl
            have f0 : w9.frozen? ⟨nb, 0, none⟩ = false := frozen_of_row _ _ _ _ _ N9.out
            have g1 : w9.cell? ⟨nb, 1, none⟩ = some (.int .u32 0) := by rw [cell_of_row _ _ 1 _ _ _ N9.out]; rfl
            have f1 : w9.frozen? ⟨nb, 1, none⟩ = false := frozen_of_row _ _ _ _ _ N9.out
            have g2 : w9.cell? ⟨nb, 2, none⟩ = some (.slice none 0 0) := by rw [cell_of_row _ _ 2 _ _ _ N9.out]; rfl
            have f2 : w9.frozen? ⟨nb, 2, none⟩ = false := frozen_of_row _ _ _ _ _ N9.out
            obtain ⟨wf, hwf, z0, z1, z2, ez⟩ := set3_cells N9.out (.string nm) (.int .u32 (T : Int)) (.slice ad Dn c)
            have EB : Hid (Below w.heap.size w wf) := Lib.hid (by rw [← ez]; exact below_set3 B9.out HNB.out _ _ _)
            have EO : Hid (OwnI wf w.heap.size 5 .u8 (.slice ad Dn c) (toI DL)) := Lib.hid (by rw [← ez]; exact own_set3i O9.out N9.out (by decide) _ _ _)
            obtain ⟨SZ, hSZ⟩ : ∃ SZ, 12 + U + UD = SZ := ⟨_, rfl⟩
            rw [hSZ] at HR9
            have W3 : Hid (IntKind.u64.wrap ((BG : Int) + (UD : Int)) = (SZ : Int)) := Lib.hid (by have := HN32.out; have := HUL.out; have := HBG.out; rw [IntKind.wrap_u64]; omega)
            have hws := W3.out
            clear hSZ ez W3
            go_upto_region 13 with fail
            go_region_with (go_at_call 56; refine (HUD.out _).mono ?_; rintro e9 w' ⟨rfl, rfl⟩)
            all_goals (
              go_wp2_with fail
              refine bodyPost_ret (by simp [results, Tryd.results36, go_sem, z0, z1, z2]; try rfl) rfl ?_
              first
                | exact HPO.out nm T DL SZ Dn ad c _ HR9.out HDL.out.2 EO.out EB.out
                | exact HPO.out nm T DL SZ Dn ad c _ HR9.out HDL.out.2 (EO.out.below (Below.refl _ _).drew) EB.out.drew)
end Go.Proofs.YtmjfkcclhbpclaaDoor
