/- Layer 16: what is reached by breadth, the program's answer: its function literal. -/
import Derived.Test.YtfckgagpfpnelaaGraphScope
import Derived.Test.YtfckgagpfpnelaaBox
namespace Go.Proofs.Ytfckgagpfpnelaa
open Go.RowKit
set_option linter.unusedVariables false
set_option linter.unusedSimpArgs false

theorem isObject_any (a : Option Addr) (n cap : Nat) (x : Int) (w : World) (hn : n ≤ 1048576) :
    Calls Try.prog 20 #[.slice a n cap, .int .i64 x] w fun e w' => e = .returned (.bool (isObj n x)) ∧ w = w' := by
  unfold isObj
  by_cases h : 0 ≤ x
  · have hd : decide (0 ≤ x) = true := by rw [decide_eq_true_eq]; exact h
    rw [hd, Bool.true_and]
    go_enter Try.func20, Try.ntmps20
    go_wp2
    go_ret
    exact ⟨rfl, rfl⟩
  · have hd : decide (0 ≤ x) = false := by rw [decide_eq_false_iff_not]; exact h
    rw [hd, Bool.false_and]
    go_enter Try.func20, Try.ntmps20
    go_wp2
    go_ret
    exact ⟨rfl, rfl⟩

/-- what the literal works on: the dependencies, the marks, the list -/
structure Sc (w0 : World) (n bd bx bl lb : Nat) (da : Option Addr) (dc : Nat) (l : List Nat) (w : World) : Prop where
  deps : InBox w bd (.slice da n dc) 22
  mbox : InBox w bx (.slice (some ⟨lb, 0, none⟩) n n) 29
  marks : OwnB w w0.heap.size 4 lb n l
  list : ∃ al cl, InBox w bl (.slice al l.length cl) 23 ∧ OwnI w w0.heap.size 3 .i64 (.slice al l.length cl) (toI l)
  good : Good n l
  blk : w0.heap.size ≤ bl
  below : Below w0.heap.size w0 w

theorem InBox.ne {w : World} {b b' : Nat} {v v' : Value} {T T' : TypeId} (h : InBox w b v T) (h' : InBox w b' v' T') (hne : T ≠ T') : b ≠ b' := by
  intro e
  subst e
  unfold InBox at h h'
  rw [h] at h'
  simp only [Option.some.injEq, Obj.cells.injEq] at h'
  exact hne h'.2.1
theorem OwnB.ne {w : World} {B g n b : Nat} {e T : TypeId} {l : List Nat} {v : Value} (h : OwnB w B e g n l) (hb : InBox w b v T) (hne : e ≠ T) : b ≠ g := by
  intro e1
  exact hb.apart h hne (by rw [e1]; rfl)
/-- behind a mark, an append and a store of the list -/
theorem Sc.next {w0 w w' : World} {n bd bx bl lb : Nat} {da : Option Addr} {dc : Nat} {l : List Nat} {y : Nat} {al : Option Addr} {cl : Nat} (h : Sc w0 n bd bx bl lb da dc l w) (hy : y < n) (hm : y ∉ l)
    (hown : OwnI w w0.heap.size 3 .i64 (.slice al l.length cl) (toI l)) (hg : ((w.setCell ⟨lb, y, none⟩ (.bool true)).alloc (.cells #[.int .i64 (y : Int)] 3)).grownBy w' (Value.slice al l.length cl).ownBlock)
    {ad : Option Addr} {c : Nat} (ho : OwnI w' w0.heap.size 3 .i64 (.slice ad (l.length + 1) c) (toI l ++ [(y : Int)])) (hbx : InBox w bl (.slice al l.length cl) 23) :
    Sc w0 n bd bx bl lb da dc (l ++ [y]) (w'.setCell ⟨bl, 0, none⟩ (.slice ad (l.length + 1) c)) := by
  have d1 := h.marks.ne h.deps (by decide)
  have d2 := h.marks.ne h.mbox (by decide)
  have d3 := h.marks.ne hbx (by decide)
  have e1 := h.deps.ne hbx (by decide)
  have e2 := h.mbox.ne hbx (by decide)
  have a1 := h.deps.apart hown (by decide)
  have a2 := h.mbox.apart hown (by decide)
  have a3 := hbx.apart hown (by decide)
  have m1 : OwnB ((w.setCell ⟨lb, y, none⟩ (.bool true)).alloc (.cells #[.int .i64 (y : Int)] 3)) w0.heap.size 4 lb n (l ++ [y]) := (h.marks.set hy).alloc _
  have o1 : OwnI ((w.setCell ⟨lb, y, none⟩ (.bool true)).alloc (.cells #[.int .i64 (y : Int)] 3)) w0.heap.size 3 .i64 (.slice al l.length cl) (toI l) := (hown.setO (by
    rcases own_apart h.marks hown (by decide) with h1 | h1
    · rw [h1]; simp
    · exact h1) _).allocO _
  have m2 := m1.grown hg o1 (by decide)
  have hT : toI l ++ [(y : Int)] = toI (l ++ [y]) := by simp [toI]
  rw [hT] at ho
  have hb1 : Below w0.heap.size w0 ((w.setCell ⟨lb, y, none⟩ (.bool true)).alloc (.cells #[.int .i64 (y : Int)] 3)) := (h.below.setCell h.marks.blockGe.1 _).alloc (by simp [World.setCell]; exact h.below.size) _
  have hb2 := hb1.grown hg hb1.size (fun j hj => (World.ownsRow.lt o1 j hj).1)
  have a4 : (Value.slice ad (l.length + 1) c).ownBlock ≠ some bl := InBox.apart (((hbx.setOther (Ne.symm d3) _).alloc _).grown hg a3) ho (by decide)
  refine ⟨?_, ?_, ?_, ⟨ad, c, ?_, ?_⟩, ?_, h.blk, ?_⟩
  · exact (((h.deps.setOther (Ne.symm d1) _).alloc _).grown hg a1).setOther (Ne.symm e1) _
  · exact (((h.mbox.setOther (Ne.symm d2) _).alloc _).grown hg a2).setOther (Ne.symm e2) _
  · exact m2.setOther d3 _
  · have := (((hbx.setOther (Ne.symm d3) (.bool true)).alloc (.cells #[.int .i64 (y : Int)] 3)).grown hg a3).set (.slice ad (l.length + 1) c)
    simpa using this
  · have := ho.setO (a := ⟨bl, 0, none⟩) a4 (.slice ad (l.length + 1) c)
    simpa using this
  · refine ⟨?_, fun z hz => ?_⟩
    · rw [List.nodup_append]
      refine ⟨h.good.1, by simp, ?_⟩
      intro a ha b hb e
      simp only [List.mem_singleton] at hb
      subst hb
      exact hm (e ▸ ha)
    · rcases List.mem_append.1 hz with hz | hz
      · exact h.good.2 z hz
      · simp only [List.mem_singleton] at hz
        omega
  · exact hb2.setCell h.blk _

set_option maxRecDepth 100000 in
set_option maxHeartbeats 4000000 in
theorem lay_any (w0 w : World) (n bd bx bl lb : Nat) (da : Option Addr) (dc : Nat) (l : List Nat) (am : Option Addr) (cm : Nat) (xs : List Int) (hn : n ≤ 1048576) (hs : Sc w0 n bd bx bl lb da dc l w) (hr : Row .i64 w0 am xs) (hx : I64s xs) (hxl : xs.length ≤ 140737488351232) :
    Calls Try.prog 19 #[.slice am xs.length cm, .pointer (some ⟨bd, 0, none⟩), .pointer (some ⟨bx, 0, none⟩), .pointer (some ⟨bl, 0, none⟩)] w fun e w' => e = .returned (.tuple #[]) ∧ Sc w0 n bd bx bl lb da dc (layF n l xs) w' := by
  have HR := Lib.hid hr
  have HX := Lib.hid hx
  have HL := Lib.hid (fun k (hk : k < xs.length) => layF_one n l xs hk)
  obtain ⟨R, hR⟩ : ∃ R, layF n l xs = R := ⟨_, rfl⟩
  rw [hR]
  have HRR : Hid (layF n l (xs.take xs.length) = R) := Lib.hid (by rw [List.take_length]; exact hR)
  have HS := Lib.hid hs
  clear hr hx hR hs
  go_enter Try.func19, Try.ntmps19
  go_wp2
  go_loopg [9] xs.length (fun g i wr => ∃ (k : Nat) (l' : List Nat), k + g = xs.length ∧ i = .int .i64 (k : Int) ∧ Hid (layF n l (xs.take k) = l') ∧ Hid (Sc w0 n bd bx bl lb da dc l' wr))
  case atStart => exact ⟨0, l, by omega, rfl, Lib.hid (by simp [layF]), HS⟩
  case round =>
    obtain ⟨k, l', hk, rfl, HK, SC⟩ := hrel
    cases gk with
    | zero =>
      have hk' : k = xs.length := by omega
      subst hk'
      have : l' = R := HK.out.symm.trans HRR.out
      subst this
      go_wp2
      go_returns
      exact ⟨rfl, SC.out⟩
    | succ g =>
      have hlt : k < xs.length := by omega
      obtain ⟨b, o, rfl, hc⟩ := (HR.out.below SC.out.below) k hlt
      have hxb := HX.out.at hlt
      have HST := Lib.hid (HL.out k hlt)
      rw [HK.out] at HST
      have hd := SC.out.deps.cell
      have hm := SC.out.mbox.cell
      generalize xs.getD k 0 = x at *
      go_wp2_with fail
      refine (isObject_any da n dc x wr hn).mono ?_
      rintro e w5 ⟨rfl, rfl⟩
      cases ho : isObj n x with
      | false =>
        have HS' : Hid (layF n l (xs.take (k + 1)) = l') := Lib.hid (by rw [HST.out, ho]; simp)
        clear ho
        go_wp2
        go_roundg g
        case measure => omega
        case rel => exact ⟨k + 1, l', by omega, by go_num, HS', SC⟩
      | true =>
        obtain ⟨h0, hxn⟩ := isObj_iff.1 ho
        obtain ⟨y, rfl⟩ := Int.eq_ofNat_of_zero_le h0
        rw [Int.toNat_natCast] at hxn
        have hmk := SC.out.marks.cell hxn
        by_cases hy : y ∈ l'
        · have HS' : Hid (layF n l (xs.take (k + 1)) = l') := Lib.hid (by rw [HST.out, if_neg (fun h => h.2 (by simpa using hy))])
          have hdy : decide (y ∈ l') = true := by rw [decide_eq_true_eq]; exact hy
          rw [hdy] at hmk
          clear hdy hy ho
          go_wp2
          go_roundg g
          case measure => omega
          case rel => exact ⟨k + 1, l', by omega, by go_num, HS', SC⟩
        · have HS' : Hid (layF n l (xs.take (k + 1)) = l' ++ [y]) := Lib.hid (by rw [HST.out, if_pos ⟨ho, by simpa using hy⟩]; simp)
          have hdy : decide (y ∈ l') = false := by rw [decide_eq_false_iff_not]; exact hy
          rw [hdy] at hmk
          have hmf := SC.out.marks.free y
          obtain ⟨al, cl, hbx, hown⟩ := SC.out.list
          have hcl := hbx.cell
          have hne := SC.out.marks.ne hbx (by decide)
          have hne' := Ne.symm hne
          have HB := Lib.hid hbx
          have HY := Lib.hid hy
          have HOW := Lib.hid hown
          have hle := nodup_le SC.out.good
          have HW1 : Hid (OwnI (wr.setCell ⟨lb, y, none⟩ (.bool true)) w0.heap.size 3 .i64 (.slice al l'.length cl) (toI l')) := Lib.hid (hown.setO (by
            rcases own_apart SC.out.marks hown (by decide) with h1 | h1
            · rw [h1]; simp
            · exact h1) _)
          have hsz : w0.heap.size ≤ (wr.setCell ⟨lb, y, none⟩ (.bool true)).heap.size := by simp [World.setCell]; exact SC.out.below.size
          have HZ := Lib.hid hsz
          have HA3 := Lib.hid (hbx.apart hown (show 3 ≠ 23 by decide))
          clear hdy hy ho hbx hown hsz
          go_wp2_with (at_builtin; go_loud (refine wpList_grow rfl (.tmp 26) (.tmp 28) slice64 rfl w0.heap.size (.slice al l'.length cl) (toI l') l'.length (y : Int) rfl (by change Value.slice (some ⟨wr.heap.size, 0, none⟩) 1 1 = _; simp [World.setCell]) (toI_length _) HW1.out (by unfold maxLen; omega) (by omega) HZ.out ?_); intro ad5 c5 w6 hown5 hgr5; have O5 := Lib.hid hown5; have G5 := Lib.hid hgr5; have hb6 := (((HB.out.setOther (Ne.symm hne) (.bool true)).alloc (.cells #[.int .i64 (y : Int)] 3)).grown hgr5 HA3.out); have hc6 := hb6.cell; have hf6 := hb6.free; clear hown5 hgr5 hb6)
          go_roundg g
          case measure => omega
          case rel => exact ⟨k + 1, l' ++ [y], by omega, by go_num, HS', Lib.hid (SC.out.next hxn HY.out HOW.out G5.out O5.out HB.out)⟩
end Go.Proofs.Ytfckgagpfpnelaa
