/- Layer 8: a chain of things: the program's answer, whatever is done with each. -/
import Derived.Test.YtnaejlfjlennhaaGreatDoorVersItem
import Derived.Deep.LoopGhost
import Derived.IntWalk
import Derived.WalkMore
namespace Go.Proofs.YtnaejlfjlennhaaGreatDoor
open Go.RowKit Go.Maps
set_option linter.unusedVariables false
set_option linter.unusedSimpArgs false

/-- what is done with each thing of a chain: of the function value F with what it captured; what it keeps in memory: Q -/
structure Stepper (r : RD) {σ : Type} (f : σ → List Nat → Nat → σ × Nat) (size : Nat) (F : FuncId) (p1 p2 : Value) (Q : Nat → σ → World → Prop) : Prop where
  run : ∀ (args : Array Value) (w : World), (callFunc F args).run Tryz.prog w = .ok (.enter F args) w
  ok : ∀ {k s w}, Q k s w → r.ok w
  below : ∀ {k s w w'}, Q k s w → Below w.heap.size w w' → Q k s w'
  code : ∀ s b at_, (f s b at_).2 < 30
  step : ∀ {k s w1 w} {b : List Nat} {at_ c : Nat} {ad : Option Addr}, Q (k + 1) s w1 → Below w1.heap.size w1 w → OwnI w w1.heap.size 5 .u8 (.slice ad b.length c) (toI b) → (∀ x ∈ b, x < 256) → b.length = size → at_ < 18446744073709551616 →
    Calls Tryz.prog F #[.slice ad b.length c, .int .u64 (at_ : Int), p1, p2] w fun e w' => e = .returned (errV ((f s b at_).2 : Int)) ∧ Q k (f s b at_).1 w' ∧ OwnI w' w1.heap.size 5 .u8 (.slice ad b.length c) (toI b)

theorem OwnI.row2v {w : World} {B n cap : Nat} {e : TypeId} {k : IntKind} {ad : Option Addr} {xs : List Int} (h : OwnI w B e k (.slice ad n cap) xs) : Row k w ad xs := by
  obtain ⟨a, c, hv, hr, -⟩ := h.row
  simp only [Value.slice.injEq] at hv
  obtain ⟨rfl, -, -⟩ := hv
  exact hr
theorem OwnI.cap2v {w : World} {B n cap : Nat} {e : TypeId} {k : IntKind} {ad : Option Addr} {xs : List Int} (h : OwnI w B e k (.slice ad n cap) xs) : n ≤ cap := by
  obtain ⟨a, c, hv, hr, hc, -⟩ := h.row
  simp only [Value.slice.injEq] at hv
  obtain ⟨-, rfl, rfl⟩ := hv
  exact hc
theorem OwnI.shape2v {w : World} {B n cap : Nat} {e : TypeId} {k : IntKind} {ad : Option Addr} {xs : List Int} (h : OwnI w B e k (.slice ad n cap) xs) (hn : 0 < n) : ∃ g, ad = some ⟨g, 0, none⟩ := by
  rcases h.2 with ⟨h1, h2⟩ | ⟨g, c, cur, hv, -⟩
  · simp at h1; omega
  · simp only [Value.slice.injEq] at hv
    exact ⟨g, hv.1⟩
theorem errV4x : errV ((4 : Nat) : Int) = .iface 56 (.int .i64 4) := rfl
theorem errV0x : errV ((0 : Nat) : Int) = .nilIface := rfl
theorem errVp {c : Nat} (h : 0 < c) : errV (c : Int) = .iface 56 (.int .i64 (c : Int)) := by unfold errV; rw [if_neg (by omega)]
theorem sliceF_two (bs : List Nat) (ps : List PT) (addr size : Nat) : (∃ b, sliceF bs ps addr size = (b, 0) ∧ b.length = size) ∨ sliceF bs ps addr size = ([], 4) := by
  unfold sliceF
  split
  · rename_i h
    exact .inl ⟨_, rfl, by simp; omega⟩
  · exact .inr rfl
theorem itemF_two (bs : List Nat) (ps : List PT) (fr step size : Nat) (hb : ∀ x ∈ bs, x < 256) : (∃ b at_, itemF bs ps fr step size = (b, at_, 0) ∧ b.length = size ∧ at_ < 18446744073709551616 ∧ ∀ x ∈ b, x < 256) ∨ ∃ at_, itemF bs ps fr step size = ([], at_, 4) := by
  by_cases h : 18446744073709551616 ≤ fr + step
  · exact .inr ⟨0, itemF_beyond h⟩
  · rw [itemF_in (by omega)]
    rcases sliceF_two bs ps (fr + step) size with ⟨b, e, hl⟩ | e
    · refine .inl ⟨b, fr + step, by rw [e], hl, by omega, ?_⟩
      intro x hx
      have : b = (sliceF bs ps (fr + step) size).1 := by rw [e]
      rw [this] at hx
      unfold sliceF at hx
      split at hx
      · exact hb x (List.mem_of_mem_drop (List.mem_of_mem_take hx))
      · cases hx
    · exact .inr ⟨fr + step, by rw [e]⟩

set_option maxRecDepth 100000 in
set_option maxHeartbeats 8000000 in
theorem chain_any (r : RD) {σ : Type} {f : σ → List Nat → Nat → σ × Nat} {size F : Nat} {p1 p2 : Value} {Q : Nat → σ → World → Prop} (S : Stepper r f size F p1 p2 Q) (hsz : size = 8 ∨ size = 16 ∨ size = 20)
    (fr step n : Nat) (s : σ) (w : World) (h1 : fr < 18446744073709551616) (h2 : step < 18446744073709551616) (hn : n ≤ 65536) (hq : Q n s w) :
    Calls Tryz.prog 91 #[rdV r, .int .u64 (fr : Int), .int .u64 (step : Int), .int .u64 (size : Int), .int .u64 (n : Int), .func (.func F) #[] #[p1, p2]] w fun e w' => e = .returned (errV ((chainV f r.bs r.ps size n fr step s).2 : Int)) ∧ ∃ k, Q k (chainV f r.bs r.ps size n fr step s).1 w' := by
  have HI := Lib.hid (fun (w1 : World) (k : Nat) (s1 : σ) (a b : Nat) (hq1 : Q k s1 w1) (ha : a < 18446744073709551616) (hb : b < 18446744073709551616) => item_any r w1 (S.ok hq1) a b size ha hb (by omega))
  have hrun := S.run
  have HS := Lib.hid S
  have HT := Lib.hid (fun (a b : Nat) => itemF_two r.bs r.ps a b size (S.ok hq).hb.2)
  obtain ⟨X, hX⟩ : ∃ X, chainV f r.bs r.ps size n fr step s = X := ⟨_, rfl⟩
  rw [hX]
  have HX := Lib.hid hX
  have HQ := Lib.hid hq
  clear hX hq S
  unfold rdV at *
  rcases hsz with rfl | rfl | rfl
  · go_enter Tryz.func91, Tryz.ntmps91
    go_wp2_with fail
    go_loopg [1, 2, 12, 13, 14, 15, 16, 17] n (fun g a b x left v14 v15 v16 v17 wr => ∃ (fr' st' : Nat) (s' : σ), left = .int .u64 (g : Int) ∧ a = .int .u64 (fr' : Int) ∧ b = .int .u64 (st' : Int) ∧ x = .nilIface ∧ fr' < 18446744073709551616 ∧ st' < 18446744073709551616 ∧ g ≤ 65536 ∧
      Hid (chainV f r.bs r.ps 8 g fr' st' s' = X) ∧ Hid (Q g s' wr))
    case atStart => exact ⟨fr, step, s, rfl, rfl, rfl, rfl, h1, h2, hn, HX, HQ⟩
    case round =>
      obtain ⟨fr', st', s', rfl, rfl, rfl, rfl, hf1, hf2, hg, HG, HQ'⟩ := hrel
      cases gk with
      | zero =>
        go_wp2_with fail
        go_ret
        have e : X = (s', 0) := HG.out.symm
        rw [e]
        exact ⟨rfl, _, HQ'.out⟩
      | succ g =>
        have hg0 : (0 : Int) < ((g + 1 : Nat) : Int) := by omega
        have hitem := HI.out wr _ s' fr' st' HQ'.out hf1 hf2
        rcases HT.out fr' st' with ⟨b, at_, hit, hbl, hat, hb256⟩ | ⟨at_, hit⟩
        · have HIT := Lib.hid hit
          rw [hit] at hitem
          have HITEM := Lib.hid hitem
          clear hitem hit
          obtain ⟨s2, c2, hst⟩ : ∃ s2 c2, f s' b at_ = (s2, c2) := ⟨_, _, rfl⟩
          have HST := Lib.hid hst
          have HC2 : Hid (c2 < 30) := Lib.hid (by have := HS.out.code s' b at_; rw [hst] at this; exact this)
          have HB256 := Lib.hid hb256
          clear hst hb256
          have HBL := Lib.hid hbl
          go_wp2_with fail
          refine HITEM.out.mono ?_
          rintro e w2 ⟨ad, c, he, ho, hb2⟩
          have hstep := HS.out.step (at_ := at_) HQ'.out hb2 ho HB256.out HBL.out hat
          simp only at he
          rw [hbl] at he
          replace he := he.trans (rfl : _ = Ending.returned (.tuple #[.slice ad _ c, .int .u64 (at_ : Int), .nilIface]))
          subst he
          rw [HST.out, hbl] at hstep
          have HSTEP := Lib.hid hstep
          clear hstep ho hb2 HITEM hbl
          go_wp2_with fail
          refine HSTEP.out.mono ?_
          rintro e w3 ⟨rfl, hq3, ho3⟩
          have HQ3 := Lib.hid hq3
          have HO3 := Lib.hid ho3
          clear hq3 ho3 HSTEP
          by_cases hc2 : c2 = 0
          · subst hc2
            have ho3 := HO3.out
            obtain ⟨g3, rfl⟩ := ho3.shape2v (by omega)
            have hc3 := ho3.cap2v
            have hrow : BRow w3 (some ⟨g3, 0, none⟩) b := ⟨ho3.row2v, HB256.out⟩
            have HN := Lib.hid (number_any (some ⟨g3, 0 + (4), none⟩) (c - (4)) (b.drop (4)) w3 (by
              have := hrow.cut (4) 4
              rw [List.take_of_length_le (by rw [List.length_drop, HBL.out]; decide)] at this
              exact this) (by rw [List.length_drop, HBL.out]; omega))
            have e4 : (b.drop (4)).length = 4 := by rw [List.length_drop, HBL.out]
            rw [e4] at HN
            have hnx : numOf (b.drop (4)) < 18446744073709551616 := by
              have h5 := numOf_lt (b.drop (4)) (fun x hx => HB256.out x (List.mem_of_mem_drop hx))
              rw [e4] at h5
              omega
            have HFORM := Lib.hid (fun (hz : numOf (b.drop (4)) = 0) (hn0 : 0 < g) => chainV_form (n := g) HIT.out HST.out hz hn0)
            have HON := Lib.hid (fun (hz : ¬ (numOf (b.drop (4)) = 0 ∧ 0 < g)) => chainV_on (n := g) HIT.out HST.out hz)
            have ecap : ((c : Int) - (4)).toNat = c - (4) := by omega
            have icap : (8 : Int) ≤ (c : Int) := by omega
            clear hrow e4 ho3 hc3
            generalize numOf (b.drop (4)) = nx at *
            have HNX := Lib.hid hnx
            simp only [errV0x]
            by_cases hz : nx = 0 ∧ 0 < g
            · obtain ⟨rfl, hg1⟩ := hz
              have HX2 : Hid (X = (s2, 3)) := Lib.hid (by rw [← HG.out]; exact HFORM.out rfl hg1)
              have hg2 : (1 : Int) < ((g + 1 : Nat) : Int) := by omega
              clear HFORM HON
              go_wp2_with (go_at_call 48; refine HN.out.mono ?_; rintro e w4 ⟨rfl, rfl⟩)
              go_ret
              rw [HX2.out]
              exact ⟨rfl, _, HQ3.out⟩
            · have HX2 := Lib.hid ((HON.out hz).symm.trans HG.out)
              clear HFORM HON
              by_cases hz0 : nx = 0
              · subst hz0
                have hg2 : ¬ (1 : Int) < ((g + 1 : Nat) : Int) := by omega
                clear hz
                go_wp2_with (go_at_call 48; refine HN.out.mono ?_; rintro e w4 ⟨rfl, rfl⟩)
                go_roundg g
                case measure => omega
                case rel => exact ⟨at_, 0, s2, by go_num, rfl, rfl, rfl, hat, by omega, by omega, HX2, HQ3⟩
              · have hz1 : ((nx : Int) == 0) = false := beq_eq_false_iff_ne.2 (by omega)
                clear hz
                go_wp2_with (go_at_call 48; refine HN.out.mono ?_; rintro e w4 ⟨rfl, rfl⟩)
                go_roundg g
                case measure => omega
                case rel => exact ⟨at_, nx, s2, by go_num, rfl, rfl, rfl, hat, HNX.out, by omega, HX2, HQ3⟩
          · have HX2 : Hid (X = (s2, c2)) := Lib.hid (by rw [← HG.out]; exact chainV_read HIT.out HST.out hc2)
            rw [errVp (by omega)]
            go_wp2_with fail
            go_ret
            rw [HX2.out]
            exact ⟨(by show _ = Ending.returned (errV (c2 : Int)); rw [errVp (by omega)]; rfl), _, HQ3.out⟩
        · have HIT := Lib.hid hit
          rw [hit] at hitem
          have HITEM := Lib.hid hitem
          clear hitem hit
          go_wp2_with fail
          refine HITEM.out.mono ?_
          rintro e w2 ⟨ad, c, rfl, ho, hb2⟩
          have HQ2 := Lib.hid (HS.out.below HQ'.out hb2)
          clear ho hb2 HITEM
          simp only [errV4x]
          go_wp2_with fail
          go_ret
          have e : X = (s', 4) := by rw [← HG.out]; exact chainV_item HIT.out (by decide)
          rw [e]
          exact ⟨rfl, _, HQ2.out⟩
  · go_enter Tryz.func91, Tryz.ntmps91
    go_wp2_with fail
    go_loopg [1, 2, 12, 13, 14, 15, 16, 17] n (fun g a b x left v14 v15 v16 v17 wr => ∃ (fr' st' : Nat) (s' : σ), left = .int .u64 (g : Int) ∧ a = .int .u64 (fr' : Int) ∧ b = .int .u64 (st' : Int) ∧ x = .nilIface ∧ fr' < 18446744073709551616 ∧ st' < 18446744073709551616 ∧ g ≤ 65536 ∧
      Hid (chainV f r.bs r.ps 16 g fr' st' s' = X) ∧ Hid (Q g s' wr))
    case atStart => exact ⟨fr, step, s, rfl, rfl, rfl, rfl, h1, h2, hn, HX, HQ⟩
    case round =>
      obtain ⟨fr', st', s', rfl, rfl, rfl, rfl, hf1, hf2, hg, HG, HQ'⟩ := hrel
      cases gk with
      | zero =>
        go_wp2_with fail
        go_ret
        have e : X = (s', 0) := HG.out.symm
        rw [e]
        exact ⟨rfl, _, HQ'.out⟩
      | succ g =>
        have hg0 : (0 : Int) < ((g + 1 : Nat) : Int) := by omega
        have hitem := HI.out wr _ s' fr' st' HQ'.out hf1 hf2
        rcases HT.out fr' st' with ⟨b, at_, hit, hbl, hat, hb256⟩ | ⟨at_, hit⟩
        · have HIT := Lib.hid hit
          rw [hit] at hitem
          have HITEM := Lib.hid hitem
          clear hitem hit
          obtain ⟨s2, c2, hst⟩ : ∃ s2 c2, f s' b at_ = (s2, c2) := ⟨_, _, rfl⟩
          have HST := Lib.hid hst
          have HC2 : Hid (c2 < 30) := Lib.hid (by have := HS.out.code s' b at_; rw [hst] at this; exact this)
          have HB256 := Lib.hid hb256
          clear hst hb256
          have HBL := Lib.hid hbl
          go_wp2_with fail
          refine HITEM.out.mono ?_
          rintro e w2 ⟨ad, c, he, ho, hb2⟩
          have hstep := HS.out.step (at_ := at_) HQ'.out hb2 ho HB256.out HBL.out hat
          simp only at he
          rw [hbl] at he
          replace he := he.trans (rfl : _ = Ending.returned (.tuple #[.slice ad _ c, .int .u64 (at_ : Int), .nilIface]))
          subst he
          rw [HST.out, hbl] at hstep
          have HSTEP := Lib.hid hstep
          clear hstep ho hb2 HITEM hbl
          go_wp2_with fail
          refine HSTEP.out.mono ?_
          rintro e w3 ⟨rfl, hq3, ho3⟩
          have HQ3 := Lib.hid hq3
          have HO3 := Lib.hid ho3
          clear hq3 ho3 HSTEP
          by_cases hc2 : c2 = 0
          · subst hc2
            have ho3 := HO3.out
            obtain ⟨g3, rfl⟩ := ho3.shape2v (by omega)
            have hc3 := ho3.cap2v
            have hrow : BRow w3 (some ⟨g3, 0, none⟩) b := ⟨ho3.row2v, HB256.out⟩
            have HN := Lib.hid (number_any (some ⟨g3, 0 + (12), none⟩) (c - (12)) (b.drop (12)) w3 (by
              have := hrow.cut (12) 4
              rw [List.take_of_length_le (by rw [List.length_drop, HBL.out]; decide)] at this
              exact this) (by rw [List.length_drop, HBL.out]; omega))
            have e4 : (b.drop (12)).length = 4 := by rw [List.length_drop, HBL.out]
            rw [e4] at HN
            have hnx : numOf (b.drop (12)) < 18446744073709551616 := by
              have h5 := numOf_lt (b.drop (12)) (fun x hx => HB256.out x (List.mem_of_mem_drop hx))
              rw [e4] at h5
              omega
            have HFORM := Lib.hid (fun (hz : numOf (b.drop (12)) = 0) (hn0 : 0 < g) => chainV_form (n := g) HIT.out HST.out hz hn0)
            have HON := Lib.hid (fun (hz : ¬ (numOf (b.drop (12)) = 0 ∧ 0 < g)) => chainV_on (n := g) HIT.out HST.out hz)
            have ecap : ((c : Int) - (12)).toNat = c - (12) := by omega
            have icap : (16 : Int) ≤ (c : Int) := by omega
            clear hrow e4 ho3 hc3
            generalize numOf (b.drop (12)) = nx at *
            have HNX := Lib.hid hnx
            simp only [errV0x]
            by_cases hz : nx = 0 ∧ 0 < g
            · obtain ⟨rfl, hg1⟩ := hz
              have HX2 : Hid (X = (s2, 3)) := Lib.hid (by rw [← HG.out]; exact HFORM.out rfl hg1)
              have hg2 : (1 : Int) < ((g + 1 : Nat) : Int) := by omega
              clear HFORM HON
              go_wp2_with (go_at_call 48; refine HN.out.mono ?_; rintro e w4 ⟨rfl, rfl⟩)
              go_ret
              rw [HX2.out]
              exact ⟨rfl, _, HQ3.out⟩
            · have HX2 := Lib.hid ((HON.out hz).symm.trans HG.out)
              clear HFORM HON
              by_cases hz0 : nx = 0
              · subst hz0
                have hg2 : ¬ (1 : Int) < ((g + 1 : Nat) : Int) := by omega
                clear hz
                go_wp2_with (go_at_call 48; refine HN.out.mono ?_; rintro e w4 ⟨rfl, rfl⟩)
                go_roundg g
                case measure => omega
                case rel => exact ⟨at_, 0, s2, by go_num, rfl, rfl, rfl, hat, by omega, by omega, HX2, HQ3⟩
              · have hz1 : ((nx : Int) == 0) = false := beq_eq_false_iff_ne.2 (by omega)
                clear hz
                go_wp2_with (go_at_call 48; refine HN.out.mono ?_; rintro e w4 ⟨rfl, rfl⟩)
                go_roundg g
                case measure => omega
                case rel => exact ⟨at_, nx, s2, by go_num, rfl, rfl, rfl, hat, HNX.out, by omega, HX2, HQ3⟩
          · have HX2 : Hid (X = (s2, c2)) := Lib.hid (by rw [← HG.out]; exact chainV_read HIT.out HST.out hc2)
            rw [errVp (by omega)]
            go_wp2_with fail
            go_ret
            rw [HX2.out]
            exact ⟨(by show _ = Ending.returned (errV (c2 : Int)); rw [errVp (by omega)]; rfl), _, HQ3.out⟩
        · have HIT := Lib.hid hit
          rw [hit] at hitem
          have HITEM := Lib.hid hitem
          clear hitem hit
          go_wp2_with fail
          refine HITEM.out.mono ?_
          rintro e w2 ⟨ad, c, rfl, ho, hb2⟩
          have HQ2 := Lib.hid (HS.out.below HQ'.out hb2)
          clear ho hb2 HITEM
          simp only [errV4x]
          go_wp2_with fail
          go_ret
          have e : X = (s', 4) := by rw [← HG.out]; exact chainV_item HIT.out (by decide)
          rw [e]
          exact ⟨rfl, _, HQ2.out⟩
  · go_enter Tryz.func91, Tryz.ntmps91
    go_wp2_with fail
    go_loopg [1, 2, 12, 13, 14, 15, 16, 17] n (fun g a b x left v14 v15 v16 v17 wr => ∃ (fr' st' : Nat) (s' : σ), left = .int .u64 (g : Int) ∧ a = .int .u64 (fr' : Int) ∧ b = .int .u64 (st' : Int) ∧ x = .nilIface ∧ fr' < 18446744073709551616 ∧ st' < 18446744073709551616 ∧ g ≤ 65536 ∧
      Hid (chainV f r.bs r.ps 20 g fr' st' s' = X) ∧ Hid (Q g s' wr))
    case atStart => exact ⟨fr, step, s, rfl, rfl, rfl, rfl, h1, h2, hn, HX, HQ⟩
    case round =>
      obtain ⟨fr', st', s', rfl, rfl, rfl, rfl, hf1, hf2, hg, HG, HQ'⟩ := hrel
      cases gk with
      | zero =>
        go_wp2_with fail
        go_ret
        have e : X = (s', 0) := HG.out.symm
        rw [e]
        exact ⟨rfl, _, HQ'.out⟩
      | succ g =>
        have hg0 : (0 : Int) < ((g + 1 : Nat) : Int) := by omega
        have hitem := HI.out wr _ s' fr' st' HQ'.out hf1 hf2
        rcases HT.out fr' st' with ⟨b, at_, hit, hbl, hat, hb256⟩ | ⟨at_, hit⟩
        · have HIT := Lib.hid hit
          rw [hit] at hitem
          have HITEM := Lib.hid hitem
          clear hitem hit
          obtain ⟨s2, c2, hst⟩ : ∃ s2 c2, f s' b at_ = (s2, c2) := ⟨_, _, rfl⟩
          have HST := Lib.hid hst
          have HC2 : Hid (c2 < 30) := Lib.hid (by have := HS.out.code s' b at_; rw [hst] at this; exact this)
          have HB256 := Lib.hid hb256
          clear hst hb256
          have HBL := Lib.hid hbl
          go_wp2_with fail
          refine HITEM.out.mono ?_
          rintro e w2 ⟨ad, c, he, ho, hb2⟩
          have hstep := HS.out.step (at_ := at_) HQ'.out hb2 ho HB256.out HBL.out hat
          simp only at he
          rw [hbl] at he
          replace he := he.trans (rfl : _ = Ending.returned (.tuple #[.slice ad _ c, .int .u64 (at_ : Int), .nilIface]))
          subst he
          rw [HST.out, hbl] at hstep
          have HSTEP := Lib.hid hstep
          clear hstep ho hb2 HITEM hbl
          go_wp2_with fail
          refine HSTEP.out.mono ?_
          rintro e w3 ⟨rfl, hq3, ho3⟩
          have HQ3 := Lib.hid hq3
          have HO3 := Lib.hid ho3
          clear hq3 ho3 HSTEP
          by_cases hc2 : c2 = 0
          · subst hc2
            have ho3 := HO3.out
            obtain ⟨g3, rfl⟩ := ho3.shape2v (by omega)
            have hc3 := ho3.cap2v
            have hrow : BRow w3 (some ⟨g3, 0, none⟩) b := ⟨ho3.row2v, HB256.out⟩
            have HN := Lib.hid (number_any (some ⟨g3, 0 + (16), none⟩) (c - (16)) (b.drop (16)) w3 (by
              have := hrow.cut (16) 4
              rw [List.take_of_length_le (by rw [List.length_drop, HBL.out]; decide)] at this
              exact this) (by rw [List.length_drop, HBL.out]; omega))
            have e4 : (b.drop (16)).length = 4 := by rw [List.length_drop, HBL.out]
            rw [e4] at HN
            have hnx : numOf (b.drop (16)) < 18446744073709551616 := by
              have h5 := numOf_lt (b.drop (16)) (fun x hx => HB256.out x (List.mem_of_mem_drop hx))
              rw [e4] at h5
              omega
            have HFORM := Lib.hid (fun (hz : numOf (b.drop (16)) = 0) (hn0 : 0 < g) => chainV_form (n := g) HIT.out HST.out hz hn0)
            have HON := Lib.hid (fun (hz : ¬ (numOf (b.drop (16)) = 0 ∧ 0 < g)) => chainV_on (n := g) HIT.out HST.out hz)
            have ecap : ((c : Int) - (16)).toNat = c - (16) := by omega
            have icap : (20 : Int) ≤ (c : Int) := by omega
            clear hrow e4 ho3 hc3
            generalize numOf (b.drop (16)) = nx at *
            have HNX := Lib.hid hnx
            simp only [errV0x]
            by_cases hz : nx = 0 ∧ 0 < g
            · obtain ⟨rfl, hg1⟩ := hz
              have HX2 : Hid (X = (s2, 3)) := Lib.hid (by rw [← HG.out]; exact HFORM.out rfl hg1)
              have hg2 : (1 : Int) < ((g + 1 : Nat) : Int) := by omega
              clear HFORM HON
              go_wp2_with (go_at_call 48; refine HN.out.mono ?_; rintro e w4 ⟨rfl, rfl⟩)
              go_ret
              rw [HX2.out]
              exact ⟨rfl, _, HQ3.out⟩
            · have HX2 := Lib.hid ((HON.out hz).symm.trans HG.out)
              clear HFORM HON
              by_cases hz0 : nx = 0
              · subst hz0
                have hg2 : ¬ (1 : Int) < ((g + 1 : Nat) : Int) := by omega
                clear hz
                go_wp2_with (go_at_call 48; refine HN.out.mono ?_; rintro e w4 ⟨rfl, rfl⟩)
                go_roundg g
                case measure => omega
                case rel => exact ⟨at_, 0, s2, by go_num, rfl, rfl, rfl, hat, by omega, by omega, HX2, HQ3⟩
              · have hz1 : ((nx : Int) == 0) = false := beq_eq_false_iff_ne.2 (by omega)
                clear hz
                go_wp2_with (go_at_call 48; refine HN.out.mono ?_; rintro e w4 ⟨rfl, rfl⟩)
                go_roundg g
                case measure => omega
                case rel => exact ⟨at_, nx, s2, by go_num, rfl, rfl, rfl, hat, HNX.out, by omega, HX2, HQ3⟩
          · have HX2 : Hid (X = (s2, c2)) := Lib.hid (by rw [← HG.out]; exact chainV_read HIT.out HST.out hc2)
            rw [errVp (by omega)]
            go_wp2_with fail
            go_ret
            rw [HX2.out]
            exact ⟨(by show _ = Ending.returned (errV (c2 : Int)); rw [errVp (by omega)]; rfl), _, HQ3.out⟩
        · have HIT := Lib.hid hit
          rw [hit] at hitem
          have HITEM := Lib.hid hitem
          clear hitem hit
          go_wp2_with fail
          refine HITEM.out.mono ?_
          rintro e w2 ⟨ad, c, rfl, ho, hb2⟩
          have HQ2 := Lib.hid (HS.out.below HQ'.out hb2)
          clear ho hb2 HITEM
          simp only [errV4x]
          go_wp2_with fail
          go_ret
          have e : X = (s', 4) := by rw [← HG.out]; exact chainV_item HIT.out (by decide)
          rw [e]
          exact ⟨rfl, _, HQ2.out⟩
end Go.Proofs.YtnaejlfjlennhaaGreatDoor
