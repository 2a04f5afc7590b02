/- Layer 2: the least place with so many pages free. -/
import Derived.Test.YtjiifaeehhpkcaaVmNum
import Derived.Test.YtjiifaeehhpkcaaSpanUp
import Derived.Deep.LoopGhost
import Derived.WalkMore
namespace Go.Proofs.Ytjiifaeehhpkcaa
open Go.RowKit
set_option linter.unusedVariables false
set_option linter.unusedSimpArgs false

/-- past the pages in the way, which stand by rising numbers -/
def findL (n : Nat) : List Nat → Nat → Nat
  | [], a => a
  | k :: r, a => if k * 4096 < a then findL n r a else if n ≤ (k * 4096 - a) / 4096 then a else findL n r (k * 4096 + 4096)
def findV (n a : Nat) : Value := if belowF a n = true then .tuple #[.int .u64 (a : Int), .nilIface] else .tuple #[.int .u64 0, errV 7]
/-- where it is looked for first -/
def fromF (a : Nat) : Nat := (max a 4096 + 4095) / 4096 * 4096

theorem enc_toI (xs : List Nat) : xs.map encU = (toI xs).map (Value.int .u64) := by
  unfold toI encU
  rw [List.map_map]
  rfl

set_option maxRecDepth 100000 in
set_option maxHeartbeats 8000000 in
theorem find_few (mb : Nat) (S : Nat → Prop) (q c : Nat) (V : Nat → Option Pg) (g : Nat) (F : Nat → Option Nat) (a n : Nat) (w : World) (h : VmAt w mb S q c V g F) (hc : c ≤ 1) (ha : a < 140737488355328) (hn1 : 1 ≤ n) (hn2 : n < 9223372036854775808) :
    Calls Try.prog 21 #[.pointer (some ⟨mb, 0, none⟩), .int .u64 (a : Int), .int .i64 (n : Int)] w fun e w' => ∃ xs, AllOf (fun k => V k ≠ none) c xs ∧ e = .returned (findV n (findL n xs (fromF a))) ∧ Below w.heap.size w w' := by
  have HN := Lib.hid (numbers_few mb S q c V g F)
  have H := Lib.hid h
  have HC := Lib.hid hc
  have hU := fun wx => up_any (max a 4096) 4096 wx (by omega) (by omega)
  have hpop : Pop.pop 4096 = 1 := Pop.pop_pow ⟨12, by omega⟩
  have hfr : upF (max a 4096) 4096 = (((fromF a : Nat) : Int), 0) := by
    unfold upF fromF
    rw [if_neg (by rw [hpop]; simp), if_pos (by omega)]
  rw [hfr] at hU
  replace hU : ∀ wx, Calls Try.prog 40 #[.int .u64 ((max a 4096 : Nat) : Int), .int .u64 4096] wx fun e w' => e = .returned (.tuple #[.int .u64 ((fromF a : Nat) : Int), .nilIface]) ∧ Below wx.heap.size wx w' := hU
  have HUP := Lib.hid hU
  have hfb : fromF a ≤ 140737488359424 := by unfold fromF; omega
  have HFB := Lib.hid hfb
  have i1 : ¬ (n : Int) < 1 := by omega
  have HNB := Lib.hid (And.intro hn1 hn2)
  have HV35 : Hid (∀ k, V k ≠ none → k < 34359738368) := Lib.hid h.low
  obtain ⟨fr, hfr2⟩ : ∃ fr, fromF a = fr := ⟨_, rfl⟩
  rw [hfr2] at HUP HFB ⊢
  have hcase : ((4096 : Int) ≤ (a : Int) ∧ ∃ x : Int, x = (a : Int) ∧ ∀ wx, Calls Try.prog 40 #[.int .u64 x, .int .u64 4096] wx fun e w' => e = .returned (.tuple #[.int .u64 ((fr : Nat) : Int), .nilIface]) ∧ Below wx.heap.size wx w') ∨ (¬ (4096 : Int) ≤ (a : Int) ∧ ∃ x : Int, x = 4096 ∧ ∀ wx, Calls Try.prog 40 #[.int .u64 x, .int .u64 4096] wx fun e w' => e = .returned (.tuple #[.int .u64 ((fr : Nat) : Int), .nilIface]) ∧ Below wx.heap.size wx w') := by
    by_cases h4 : 4096 ≤ a
    · refine .inl ⟨by omega, _, rfl, fun wx => ?_⟩
      have := HUP.out wx
      rw [show max a 4096 = a by omega] at this
      exact this
    · refine .inr ⟨by omega, _, rfl, fun wx => ?_⟩
      have := HUP.out wx
      rw [show max a 4096 = 4096 by omega] at this
      exact this
  clear h hc hU hpop hfr hfb hn1 hn2 ha hfr2 HUP
  rcases hcase with ⟨hca, x, rfl, hUP⟩ | ⟨hca, x, rfl, hUP⟩
  all_goals (
    have HUP2 := Lib.hid hUP
    clear hUP
    go_enter Try.func21, Try.ntmps21
    go_wp2_with fail
    refine (HUP2.out w).mono ?_
    rintro e w1 ⟨rfl, hb1⟩
    have B1 := Lib.hid hb1
    have HNU := Lib.hid (HN.out w1 (H.out.below hb1) HC.out)
    clear hb1 HUP2 HN H
    go_wp2_with fail
    refine HNU.out.mono ?_
    rintro e w2 ⟨v, xs, rfl, hall, hrow, hb2⟩
    rw [enc_toI] at hrow
    have hown : OwnI w2 w1.heap.size 22 .u64 v (toI xs) := by
      unfold OwnI
      rw [toI_length]
      exact hrow
    obtain ⟨ra, rc, rfl, hrw, -, -, -⟩ := hown.row
    rw [toI_length]
    have B2 := Lib.hid (bstep B1.out hb2)
    have HROW := Lib.hid hrw
    have HALL := Lib.hid hall
    have HXL : Hid (xs.length ≤ 1) := Lib.hid (Nat.le_trans hall.2.2 HC.out)
    obtain ⟨m, hm⟩ : ∃ m, xs.length = m := ⟨_, rfl⟩
    rw [hm] at HXL ⊢
    have HM := Lib.hid hm
    clear hall hrow hb2 hown hrw HNU hm
    go_wp2_with fail
    go_loopg [8, 28] m (fun f y x wr => ∃ (k at_ : Nat), x = .int .i64 (k : Int) ∧ y = .int .u64 (at_ : Int) ∧ Hid (k + f = m ∧ at_ ≤ 140737488359424 ∧ findL n (xs.drop k) at_ = findL n xs fr) ∧ w2 = wr)
    case atStart => exact ⟨0, fr, rfl, rfl, Lib.hid ⟨by omega, HFB.out, by rw [List.drop_zero]⟩, rfl⟩
    case round =>
      obtain ⟨k, at_, rfl, rfl, HK, rfl⟩ := hrel
      obtain ⟨hk1, hk2, hk3⟩ := HK.out
      cases gk with
      | zero =>
        have hfe : findL n xs fr = at_ := by rw [← hk3, List.drop_of_length_le (by rw [HM.out]; omega)]; rfl
        have hkm : k = m := by omega
        clear hk1 hk3 HK
        subst hkm
        have HFV : Hid (findV n (findL n xs fr) = findV n at_) := Lib.hid (by rw [hfe])
        have hbe := below_any at_ n w2 (by omega) (by have := HNB.out; omega)
        have e9 : IntKind.u64.wrap (n : Int) = (n : Int) := by rw [IntKind.wrap_u64]; have := HNB.out; omega
        unfold findV at HFV
        have HBE := Lib.hid hbe
        generalize belowF at_ n = bl at *
        clear hk2 hfe
        cases bl with
        | true =>
          go_wp2_with (go_at_call 41; refine HBE.out.mono ?_; rintro e w' ⟨rfl, rfl⟩)
          go_ret2
          exact ⟨xs, HALL.out, by show _ = Ending.returned (findV n (findL n xs fr)); unfold findV; rw [HFV.out]; rfl, B2.out⟩
        | false =>
          go_wp2_with (go_at_call 41; refine HBE.out.mono ?_; rintro e w' ⟨rfl, rfl⟩)
          go_ret2
          exact ⟨xs, HALL.out, by show _ = Ending.returned (findV n (findL n xs fr)); unfold findV; rw [HFV.out]; rfl, B2.out⟩
      | succ f =>
        have hkx : k < xs.length := by rw [HM.out]; omega
        obtain ⟨b, o, rfl, hcell⟩ := HROW.out k (by rw [toI_length]; exact hkx)
        rw [toI_getD, List.getD_eq_getElem?_getD, List.getElem?_eq_getElem hkx, Option.getD_some] at hcell
        have hcc : w2.cell? ⟨b, o + k, none⟩ = some (.int .u64 ((xs[k] : Nat) : Int)) := hcell
        have hd : xs.drop k = xs[k] :: xs.drop (k + 1) := List.drop_eq_getElem_cons hkx
        have hx35 := HV35.out xs[k] ((HALL.out.2.1 xs[k]).1 (List.getElem_mem hkx))
        rw [hd] at hk3
        have hkm : (k : Int) < (m : Int) := by omega
        have hk64 : (k : Int) ≤ 65536 := by have := HXL.out; omega
        generalize xs[k] = u at *
        clear hcell hd hkx
        have e2 : IntKind.u64.wrap ((u : Int) * 4096) = ((u * 4096 : Nat) : Int) := by rw [IntKind.wrap_u64]; omega
        by_cases c1 : u * 4096 < at_
        · have HN2 : Hid ((k + 1) + f = m ∧ at_ ≤ 140737488359424 ∧ findL n (xs.drop (k + 1)) at_ = findL n xs fr) := Lib.hid ⟨by omega, hk2, by rw [← hk3, findL, if_pos c1]⟩
          have c1i : ((u * 4096 : Nat) : Int) < (at_ : Int) := by omega
          generalize u * 4096 = bg at *
          clear hk1 hk2 hk3 HK c1 hx35
          go_wp2_with fail
          go_roundg f
          case measure => omega
          case rel => exact ⟨k + 1, at_, by go_num, rfl, HN2, rfl⟩
        · have c1i : ¬ ((u * 4096 : Nat) : Int) < (at_ : Int) := by omega
          have e3 : IntKind.u64.wrap (((u * 4096 : Nat) : Int) - (at_ : Int)) = ((u * 4096 - at_ : Nat) : Int) := by rw [IntKind.wrap_u64]; omega
          have e4 : ((u * 4096 - at_ : Nat) : Int).tdiv 4096 = (((u * 4096 - at_) / 4096 : Nat) : Int) := by rw [Int.tdiv_eq_ediv_of_nonneg (by omega)]; omega
          have e5 : IntKind.u64.wrap (((u * 4096 - at_) / 4096 : Nat) : Int) = (((u * 4096 - at_) / 4096 : Nat) : Int) := by rw [IntKind.wrap_u64]; omega
          have e8 : IntKind.u64.wrap (n : Int) = (n : Int) := by rw [IntKind.wrap_u64]; have := HNB.out; omega
          by_cases c2 : n ≤ (u * 4096 - at_) / 4096
          · have hfe : findL n xs fr = at_ := by rw [← hk3, findL, if_neg c1, if_pos c2]
            have c2i : (n : Int) ≤ (((u * 4096 - at_) / 4096 : Nat) : Int) := by omega
            have HFV : Hid (findV n (findL n xs fr) = findV n at_) := Lib.hid (by rw [hfe])
            have hbe := below_any at_ n w2 (by omega) (by have := HNB.out; omega)
            have e9 : IntKind.u64.wrap (n : Int) = (n : Int) := by rw [IntKind.wrap_u64]; have := HNB.out; omega
            unfold findV at HFV
            have HBE := Lib.hid hbe
            generalize belowF at_ n = bl at *
            generalize (u * 4096 - at_) / 4096 = qq at *
            generalize u * 4096 - at_ = dd at *
            generalize u * 4096 = bg at *
            clear hk1 hk2 hk3 HK c1 c2 hx35 hfe
            cases bl with
            | true =>
              go_wp2_with (go_at_call 41; refine HBE.out.mono ?_; rintro e w' ⟨rfl, rfl⟩)
              go_ret2
              exact ⟨xs, HALL.out, by show _ = Ending.returned (findV n (findL n xs fr)); unfold findV; rw [HFV.out]; rfl, B2.out⟩
            | false =>
              go_wp2_with (go_at_call 41; refine HBE.out.mono ?_; rintro e w' ⟨rfl, rfl⟩)
              go_ret2
              exact ⟨xs, HALL.out, by show _ = Ending.returned (findV n (findL n xs fr)); unfold findV; rw [HFV.out]; rfl, B2.out⟩
          · have c2i : ¬ (n : Int) ≤ (((u * 4096 - at_) / 4096 : Nat) : Int) := by omega
            have e6 : IntKind.u64.wrap (((u * 4096 : Nat) : Int) + 4096) = ((u * 4096 + 4096 : Nat) : Int) := by rw [IntKind.wrap_u64]; omega
            have HN2 : Hid ((k + 1) + f = m ∧ u * 4096 + 4096 ≤ 140737488359424 ∧ findL n (xs.drop (k + 1)) (u * 4096 + 4096) = findL n xs fr) := Lib.hid ⟨by omega, by omega, by rw [← hk3, findL, if_neg c1, if_neg c2]⟩
            generalize (u * 4096 - at_) / 4096 = qq at *
            generalize u * 4096 - at_ = dd at *
            obtain ⟨a2, ha2⟩ : ∃ a2, u * 4096 + 4096 = a2 := ⟨_, rfl⟩
            rw [ha2] at e6 HN2
            clear ha2
            generalize u * 4096 = bg at *
            clear hk1 hk2 hk3 HK c1 c2 hx35
            go_wp2_with fail
            go_roundg f
            case measure => omega
            case rel => exact ⟨k + 1, a2, by go_num, rfl, HN2, rfl⟩)
end Go.Proofs.Ytjiifaeehhpkcaa
