/- Layer 4: where the pages of the last PtLoad end; of some types there may be one program header only. -/
import Derived.Test.YtmjfkcclhbpclaaDoorHeadLast
namespace Go.Proofs.YtmjfkcclhbpclaaDoor
open Go.RowKit
set_option linter.unusedVariables false
set_option linter.unusedSimpArgs false

theorem ballo {a w : World} (h : Below a.heap.size a w) (o : Obj) : Below a.heap.size a (w.alloc o) := h.alloc h.size o
theorem bdrew {a w : World} (h : Below a.heap.size a w) : Below a.heap.size a w.drew := h.drew
/-- one step of a chain of worlds, told as a thing of its own -/
structure Stp (a b : World) : Prop where
  mk ::
  is : Below a.heap.size a b
theorem bsteps {a b c : World} (h : Below a.heap.size a b) (k : Stp b c) : Below a.heap.size a c := bstep h k.is
theorem upF_nat (a to : Nat) : 0 ≤ (upF a to).1 := by
  unfold upF
  split
  · exact Int.le_refl _
  · split
    · exact Int.natCast_nonneg _
    · exact Int.le_refl _
set_option maxRecDepth 100000 in
set_option maxHeartbeats 4000000 in
theorem loadend_any (r : HRd) (ps : List PT) (w : World) (h : r.at w) (hp : PRow w r.pa ps) (hn : ps.length = r.pn) (hnl : r.pn ≤ 140737488351232) (hwf : ∀ p ∈ ps, p.wf) :
    Calls Tryd.prog 78 #[.pointer (some ⟨r.rb, 0, none⟩)] w fun e w' => e = .returned (.int .u64 (endF ps : Int)) ∧ Below w.heap.size w w' := by
  have HL := Lib.hid (lastload_any r ps w h hp hn hnl)
  obtain ⟨q, hq⟩ : ∃ q, (lastF ps).getD PT.zero = q := ⟨_, rfl⟩
  have hqw : q.wf := by
    rw [← hq]
    have key : ∀ l : List PT, (∀ p ∈ l, p.wf) → ((lastF l).getD PT.zero).wf := fun l => by
      induction l with
      | nil => intro _; exact ⟨by decide, by decide, by decide, by decide, by decide, by decide, by decide⟩
      | cons p l ih =>
        intro hl
        have h1 := ih (fun p hp => hl p (List.mem_cons_of_mem _ hp))
        unfold lastF
        cases hf : lastF l with
        | some x => rw [hf] at h1; exact h1
        | none =>
          by_cases ht : p.ty = 1
          · simp only [if_pos ht, Option.getD_some]; exact hl p (by simp)
          · simp only [if_neg ht]; rw [hf] at h1; exact h1
    exact key ps hwf
  obtain ⟨s, hs⟩ : ∃ s, (lastF ps).isSome = s := ⟨_, rfl⟩
  have HUP : Hid (∀ wx, Calls Tryd.prog 87 #[.int .u64 (((q.vaddr + q.memsz) % 18446744073709551616 : Nat) : Int), .int .u64 4096] wx fun e w' => (∃ ev, e = .returned (.tuple #[.int .u64 (endF ps : Int), ev])) ∧ Below wx.heap.size wx w') := Lib.hid (fun wx => by
    refine (up_any ((q.vaddr + q.memsz) % 18446744073709551616) 4096 wx (Nat.mod_lt _ (by decide)) (by decide)).mono ?_
    rintro e w' ⟨rfl, hb⟩
    have e1 : (endF ps : Int) = (upF ((q.vaddr + q.memsz) % 18446744073709551616) 4096).1 := by
      unfold endF
      rw [hq]
      have := upF_nat ((q.vaddr + q.memsz) % 18446744073709551616) 4096
      omega
    rw [e1]
    exact ⟨⟨_, rfl⟩, hb⟩)
  generalize endF ps = E at *
  rw [hq, hs] at HL
  obtain ⟨rb, k0, k1, k2, k3, ra, rm, rcap, pa, n, pc⟩ := r
  obtain ⟨a0, a1, a2, a3, a4, a5, a6⟩ := q
  obtain ⟨-, -, -, h3, -, h5, -⟩ := hqw
  simp only [] at h3 h5
  have hw1 : IntKind.u64.wrap ((a3 : Int) + (a5 : Int)) = (((a3 + a5) % 18446744073709551616 : Nat) : Int) := by rw [IntKind.wrap_u64]; omega
  simp only [] at HUP
  generalize (a3 + a5) % 18446744073709551616 = z at *
  unfold PT.hv PT.cells at HL
  simp only [] at HL ⊢
  have HB1 : Hid (∀ wx, Below w.heap.size w wx → Below w.heap.size w (wx.alloc (.cells #[.int .u32 a0, .int .u32 a1, .int .u64 a2, .int .u64 a3, .int .u64 a4, .int .u64 a5, .int .u64 a6] 37))) := Lib.hid (fun wx hb => ballo hb _)
  clear h hp hn hnl hwf hq hs h3 h5
  go_enter Tryd.func78, Tryd.ntmps78
  go_wp2_with fail
  refine HL.out.mono ?_
  rintro e w2 ⟨rfl, hb2⟩
  have B2 := Lib.hid (HB1.out w2 hb2)
  clear hb2 HL
  go_wp2_with fail
  refine (HUP.out _).mono ?_
  rintro e w3 ⟨⟨ev, rfl⟩, hb3⟩
  have B3 := Lib.hid (bstep B2.out hb3)
  clear hb3
  go_wp2_with fail
  go_ret
  exact ⟨rfl, B3.out⟩

/-- the place of the first program header of which something holds; -1 -/
def IdxOf (h : PT → Bool) (ps : List PT) (z : Int) : Prop := (∃ k, ∃ hk : k < ps.length, z = (k : Int) ∧ h ps[k] = true ∧ ∀ j, (hj : j < ps.length) → j < k → h ps[j] = false) ∨ (z = -1 ∧ ∀ j, (hj : j < ps.length) → h ps[j] = false)
theorem IdxOf.any {h : PT → Bool} {ps : List PT} {z : Int} (hz : IdxOf h ps z) : decide (0 ≤ z) = ps.any h := by
  rcases hz with ⟨k, hk, rfl, h1, -⟩ | ⟨rfl, h1⟩
  · rw [decide_eq_true (by omega)]
    exact (List.any_eq_true.2 ⟨_, List.getElem_mem hk, h1⟩).symm
  · rw [decide_eq_false (by omega)]
    symm
    rw [List.any_eq_false]
    intro x hx
    obtain ⟨j, hj, rfl⟩ := List.getElem_of_mem hx
    rw [h1 j hj]
    decide
set_option maxRecDepth 100000 in
set_option maxHeartbeats 8000000 in
theorem indexFunc_any (Fn : Nat) (caps : Array Value) (h : PT → Bool) (a : Option Addr) (n cap : Nat) (ps : List PT) (w : World) (H0 : PRow w a ps) (hl : ps.length = n) (hn : n ≤ 140737488351232)
    (hen : ∀ (args : Array Value) (w : World), (callFunc Fn args).run Tryd.prog w = .ok (.enter Fn args) w)
    (hF : ∀ (p : PT) (wx : World), p.wf → Below w.heap.size w wx → Calls Tryd.prog Fn (#[p.hv] ++ caps) wx fun e w' => e = .returned (.bool (h p)) ∧ Below wx.heap.size wx w') :
    Calls Tryd.prog 27 #[.slice a n cap, .func (.func Fn) #[] caps] w fun e w' => (∃ z, e = .returned (.int .i64 z) ∧ IdxOf h ps z) ∧ Below w.heap.size w w' := by
  have H := Lib.hid H0
  have HL := Lib.hid hl
  have HN := Lib.hid hn
  have HFn := Lib.hid hF
  have hnn : (n : Int) ≤ 140737488351232 := by omega
  clear H0 hl hF hn
  go_enter Tryd.func27, Tryd.ntmps27
  go_wp2_with fail
  go_loopg [8] n (fun g iv wr => ∃ k : Nat, k + g = n ∧ iv = .int .i64 (k : Int) ∧ Hid (∀ j, (hj : j < ps.length) → j < k → h ps[j] = false) ∧ Hid (Below w.heap.size w wr))
  case atStart => exact ⟨0, by omega, rfl, Lib.hid (fun j _ h => by omega), Lib.hid (Below.refl _ _)⟩
  case round =>
    obtain ⟨k, hk, rfl, HJ, HB⟩ := hrel
    cases gk with
    | zero =>
      have hkn : k = n := by omega
      subst hkn
      clear hk
      go_wp2_with fail
      go_ret
      exact ⟨⟨_, rfl, .inr ⟨rfl, fun j hj => HJ.out j hj (by have := HL.out; omega)⟩⟩, HB.out⟩
    | succ g =>
      have hkl : k < ps.length := by have := HL.out; omega
      obtain ⟨hwf, b, o, rfl, hb, hc⟩ := (H.out.below HB.out) k hkl
      have HC := Lib.hid (HFn.out ps[k] wr hwf HB.out)
      have HQ : Hid (∀ R, h ps[k] = R → ∀ hj : k < ps.length, h ps[k] = R) := Lib.hid (fun R e _ => e)
      obtain ⟨R, hR⟩ : ∃ R, h ps[k] = R := ⟨_, rfl⟩
      have HR : Hid (∀ hj : k < ps.length, h ps[k] = R) := Lib.hid (fun _ => hR)
      rw [hR] at HC
      have c0 := hc 0 (by omega)
      have c1 := hc 1 (by omega)
      have c2 := hc 2 (by omega)
      have c3 := hc 3 (by omega)
      have c4 := hc 4 (by omega)
      have c5 := hc 5 (by omega)
      have c6 := hc 6 (by omega)
      simp only [PT.cells, List.getElem?_cons_zero, List.getElem?_cons_succ, Nat.add_zero] at c0 c1 c2 c3 c4 c5 c6
      have HK := Lib.hid hk
      have i0 : (0 : Int) ≤ (k : Int) := by omega
      have i1 : (k : Int) < (n : Int) := by omega
      unfold PT.hv PT.cells at HC
      clear hc hwf HQ hR hk
      generalize ps[k] = p at HC c0 c1 c2 c3 c4 c5 c6
      clear hkl
      obtain ⟨a0, a1, a2, a3, a4, a5, a6⟩ := p
      simp only [] at HC c0 c1 c2 c3 c4 c5 c6
      go_wp2_with fail
      refine HC.out.mono ?_
      rintro e w2 ⟨rfl, hb2⟩
      have B2 := Lib.hid (bstep HB.out hb2)
      clear hb2 HC c0 c1 c2 c3 c4 c5 c6
      cases R with
      | true =>
        go_wp2_with fail
        go_ret
        have hkl : k < ps.length := by have := HL.out; have := HK.out; omega
        exact ⟨⟨_, rfl, .inl ⟨k, hkl, rfl, HR.out hkl, HJ.out⟩⟩, B2.out⟩
      | false =>
        go_wp2_with fail
        go_roundg g
        case measure => have := HK.out; omega
        case rel => exact ⟨k + 1, by have := HK.out; omega, by go_num, Lib.hid (fun j hj hjk => by
          by_cases h : j < k
          · exact HJ.out j hj h
          · obtain rfl : j = k := by omega
            exact HR.out hj), B2⟩
theorem enters_alone1 : ∀ (args : Array Value) (w : World), (callFunc 70 args).run Tryd.prog w = .ok (.enter 70 args) w := enters_of Tryd.func70 (by kernel_rfl) rfl
set_option maxRecDepth 100000 in
set_option maxHeartbeats 4000000 in
theorem alone1_any (p q : PT) (b : Nat) (w : World) (hb : w.cell? ⟨b, 0, none⟩ = some (.int .u32 (p.ty : Int))) :
    Calls Tryd.prog 70 #[q.hv, .pointer (some ⟨b, 0, none⟩)] w fun e w' => e = .returned (.bool (q.ty == p.ty)) ∧ Below w.heap.size w w' := by
  have hlt : b < w.heap.size := by simpa using World.block_lt_of_cell? w _ hb
  have B1 : Hid (Below w.heap.size w (w.alloc (.cells q.cells.toArray 37))) := Lib.hid (ballo (Below.refl _ _) _)
  have hb1 : (w.alloc (.cells q.cells.toArray 37)).cell? ⟨b, 0, none⟩ = some (.int .u32 (p.ty : Int)) := by rw [World.cell?_alloc_lt _ _ ⟨b, 0, none⟩ hlt]; exact hb
  obtain ⟨y, hy⟩ : ∃ y, p.ty = y := ⟨_, rfl⟩
  rw [hy] at hb1 ⊢
  clear hb hlt hy
  obtain ⟨a0, a1, a2, a3, a4, a5, a6⟩ := q
  obtain ⟨R, hR⟩ : ∃ R, (a0 == y) = R := ⟨_, rfl⟩
  have te : ((a0 : Int) == (y : Int)) = R := by rw [← hR, Bool.eq_iff_iff, beq_iff_eq, beq_iff_eq]; omega
  unfold PT.hv
  unfold PT.cells at *
  simp only [] at *
  rw [hR]
  have HTE := Lib.hid te
  clear hR te
  go_enter Tryd.func70, Tryd.ntmps70
  go_wp2_with fail
  go_ret
  exact ⟨by rw [← HTE.out]; try rfl, B1.out⟩
set_option maxRecDepth 100000 in
set_option maxHeartbeats 4000000 in
theorem containsFunc_any (Fn : Nat) (caps : Array Value) (h : PT → Bool) (a : Option Addr) (n cap : Nat) (ps : List PT) (w : World) (H0 : PRow w a ps) (hl : ps.length = n) (hn : n ≤ 140737488351232)
    (hen : ∀ (args : Array Value) (w : World), (callFunc Fn args).run Tryd.prog w = .ok (.enter Fn args) w)
    (hF : ∀ (p : PT) (wx : World), p.wf → Below w.heap.size w wx → Calls Tryd.prog Fn (#[p.hv] ++ caps) wx fun e w' => e = .returned (.bool (h p)) ∧ Below wx.heap.size wx w') :
    Calls Tryd.prog 72 #[.slice a n cap, .func (.func Fn) #[] caps] w fun e w' => e = .returned (.bool (ps.any h)) ∧ Below w.heap.size w w' := by
  have HI := Lib.hid (indexFunc_any Fn caps h a n cap ps w H0 hl hn hen hF)
  obtain ⟨R, hR⟩ : ∃ R, ps.any h = R := ⟨_, rfl⟩
  have HR : Hid (∀ z, IdxOf h ps z → decide (0 ≤ z) = R) := Lib.hid (fun z hz => by rw [← hR]; exact hz.any)
  rw [hR]
  clear H0 hl hn hen hF hR
  go_enter Tryd.func72, Tryd.ntmps72
  go_wp2_with fail
  refine HI.out.mono ?_
  rintro e w' ⟨⟨z, rfl, hz⟩, hb⟩
  have t1 := HR.out z hz
  have B1 := Lib.hid hb
  clear hz hb
  go_wp2_with fail
  go_ret
  exact ⟨by rw [← t1]; try rfl, B1.out⟩

def aloneT : Array Value := #[.int .u32 2, .int .u32 3, .int .u32 7, .int .u32 1685382482, .int .u32 1685382481]
set_option maxRecDepth 100000 in
set_option maxHeartbeats 8000000 in
theorem alone_any (r : HRd) (ps : List PT) (p : PT) (at_ : Nat) (w : World) (h : r.at w) (hp : PRow w r.pa ps) (hn : ps.length = r.pn) (hnl : r.pn ≤ 140737488351232) (ha : at_ < 18446744073709551616) :
    Calls Tryd.prog 48 #[.pointer (some ⟨r.rb, 0, none⟩), p.hv, .int .u64 (at_ : Int)] w fun e w' => (∃ v, e = .returned v ∧ TestV v w' (unF (aloneF ps p) at_ 5)) ∧ Below w.heap.size w w' := by
  obtain ⟨w1, hw1⟩ : ∃ w1, w.alloc (.cells p.cells.toArray 37) = w1 := ⟨_, rfl⟩
  obtain ⟨B, hB⟩ : ∃ B, w.heap.size = B := ⟨_, rfl⟩
  have hb1 : Below w.heap.size w w1 := by rw [← hw1]; exact ballo (Below.refl _ _) _
  have x1 : w1.heap[B]? = some (.cells p.cells.toArray 37) := by rw [← hw1, ← hB]; exact heap_alloc_new _ _
  obtain ⟨w2, hw2⟩ : ∃ w2, w1.alloc (.cells aloneT 35) = w2 := ⟨_, rfl⟩
  have hb2 : Below w1.heap.size w1 w2 := by rw [← hw2]; exact ballo (Below.refl _ _) _
  have HIS : Hid (Calls Tryd.prog 71 #[p.hv, .slice (some ⟨w1.heap.size, 0, none⟩) 5 5] w2 fun e w' => e = .returned (.bool (isOf p [2, 3, 7, 1685382482, 1685382481])) ∧ Below w2.heap.size w2 w') := Lib.hid (is_any p w1.heap.size 5 5 [2, 3, 7, 1685382482, 1685382481] w2 (by rw [← hw2]; exact URow.lit w1 [2, 3, 7, 1685382482, 1685382481] aloneT rfl _) rfl (by decide))
  have HCF : Hid (∀ wx, Below w1.heap.size w1 wx → Calls Tryd.prog 72 #[.slice r.pa r.pn r.pc, .func (.func 70) #[] #[.pointer (some ⟨B, 0, none⟩)]] wx fun e w' => e = .returned (.bool (ps.any fun q => q.ty == p.ty)) ∧ Below wx.heap.size wx w') := Lib.hid (fun wx hx => by
    refine containsFunc_any _ #[.pointer (some ⟨B, 0, none⟩)] (fun q => q.ty == p.ty) r.pa r.pn r.pc ps wx (fun i hi => ?_) hn hnl enters_alone1 (fun q wy hq hy => ?_)
    · obtain ⟨q, b, o, e, hl, hcs⟩ := hp i hi
      have hbx := bstep hb1 hx
      exact ⟨q, b, o, e, Nat.lt_of_lt_of_le hl hbx.size, fun j hj => (hbx.cell (p := ⟨b, o + i * 7 + j, none⟩) hl).trans (hcs j hj)⟩
    · have hbx := (bstep hx hy).block _ (lt_of_block x1)
      exact alone1_any p q B wy (by rw [cell_of_row _ _ 0 _ _ _ (hbx.trans x1)]; rfl))
  have HUN : Hid (∀ ok wx, Calls Tryd.prog 45 #[.bool ok, .int .u64 (at_ : Int), .int .i64 5] wx fun e w' => (∃ v, e = .returned v ∧ TestV v w' (unF ok at_ 5)) ∧ Below wx.heap.size wx w') := Lib.hid (fun ok wx => unless_any ok at_ 5 wx ha)
  have HAL : Hid (∀ wx, Below w1.heap.size w1 wx → wx.cell? ⟨r.rb, 5, none⟩ = some (.slice r.pa r.pn r.pc)) := Lib.hid (fun wx hx => by rw [(h.below (bstep hb1 hx)).get]; rfl)
  obtain ⟨R1, hR1⟩ : ∃ R1, isOf p [2, 3, 7, 1685382482, 1685382481] = R1 := ⟨_, rfl⟩
  obtain ⟨R2, hR2⟩ : ∃ R2, (ps.any fun q => q.ty == p.ty) = R2 := ⟨_, rfl⟩
  have hal : aloneF ps p = (!R1 || !R2) := by unfold aloneF; rw [hR1, hR2]
  rw [hal]
  rw [hR1] at HIS
  rw [hR2] at HCF
  have HB1 := Lib.hid hb1
  have HB2 := Lib.hid hb2
  have HBB := Lib.hid hB
  obtain ⟨a0, a1, a2, a3, a4, a5, a6⟩ := p
  unfold PT.hv PT.cells at *
  unfold aloneT at hw2
  simp only [] at *
  obtain ⟨c0, c1, c2, c3, c4, c5, c6⟩ := out_cells x1
  obtain ⟨rb, k0, k1, k2, k3, ra, rm, rcap, pa, n, pc⟩ := r
  simp only [] at *
  clear h hp hn hnl ha hal hR1 hR2 hb1 hb2 x1
  go_enter Tryd.func48, Tryd.ntmps48
  go_wp2_with fail
  refine HIS.out.mono ?_
  rintro e w3 ⟨rfl, hb3⟩
  have B3 : Hid (Below w1.heap.size w1 w3) := Lib.hid (bstep HB2.out hb3)
  have m5 := HAL.out w3 B3.out
  clear hb3 c0 c1 c2 c3 c4 c5 c6
  cases R1 with
  | false =>
    go_wp2_with fail
    refine (HUN.out true w3).mono ?_
    rintro e w5 ⟨⟨v, rfl, hv⟩, hb5⟩
    have HV := Lib.hid hv
    have B5 := Lib.hid (bstep HB1.out (bstep B3.out hb5))
    clear hv hb5
    go_wp2_with fail
    go_ret
    exact ⟨⟨v, rfl, HV.out⟩, by first | exact B5.out | (rw [HBB.out] at B5; exact B5.out)⟩
  | true =>
    have HC := Lib.hid (HCF.out w3 B3.out)
    go_wp2_with fail
    refine HC.out.mono ?_
    rintro e w4 ⟨rfl, hb4⟩
    have B4 : Hid (Below w1.heap.size w1 w4) := Lib.hid (bstep B3.out hb4)
    clear hb4
    have HU := Lib.hid (HUN.out (!R2) w4)
    go_wp2_with fail
    refine HU.out.mono ?_
    rintro e w5 ⟨⟨v, rfl, hv⟩, hb5⟩
    have HV := Lib.hid hv
    have B5 := Lib.hid (bstep HB1.out (bstep B4.out hb5))
    clear hv hb5
    go_wp2_with fail
    go_ret
    exact ⟨⟨v, rfl, HV.out⟩, by first | exact B5.out | (rw [HBB.out] at B5; exact B5.out)⟩
end Go.Proofs.YtmjfkcclhbpclaaDoor
