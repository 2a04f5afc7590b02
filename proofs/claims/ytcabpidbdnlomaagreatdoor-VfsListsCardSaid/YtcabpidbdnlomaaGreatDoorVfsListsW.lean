/- Layer 3: List of the program and of the document tell the same names. -/
import Derived.Test.YtcabpidbdnlomaaGreatDoorVfsListE
import Derived.Test.YtcabpidbdnlomaaGreatDoorVfsSort
import Derived.Test.YtcabpidbdnlomaaGreatDoorRefListD
import Derived.Test.YtcabpidbdnlomaaGreatDoorVfsBothW
import Derived.Test.YtcabpidbdnlomaaGreatDoorVfsShown
namespace Go.Proofs.YtcabpidbdnlomaaGreatDoor
open Go.RowKit
open Go.Sort
set_option linter.unusedVariables false
set_option linter.unusedSimpArgs false

/-- whatever path: one list of names, one number -/
def ListsP (TT : List ByteArray) (c : Int) (tb rb : Nat) (t : ByteArray) (w : World) : Prop :=
  (0 ≤ c ∧ c ≤ 30) ∧
  (∀ wx, Below w.heap.size w wx → Calls Tryz.prog 6 #[.pointer (some ⟨tb, 0, none⟩), .string t] wx fun e w' => (∃ ad cap, e = .returned (.tuple #[.slice ad TT.length cap, errV c]) ∧ OwnT w' wx.heap.size 9 (.slice ad TT.length cap) TT) ∧ Below wx.heap.size wx w') ∧
  (∀ wx, Below w.heap.size w wx → Calls Tryz.prog 7 #[.pointer (some ⟨rb, 0, none⟩), .string t] wx fun e w' => (∃ ad cap, e = .returned (.tuple #[.slice ad TT.length cap, .int .i64 c]) ∧ OwnT w' wx.heap.size 9 (.slice ad TT.length cap) TT) ∧ Below wx.heap.size wx w')
theorem lists_same (tb gm c rb rc : Nat) (a : Option Addr) (L3 : List Nd) (F : ByteArray → Option Ent) (t : ByteArray) (w : World) (hat : TreeAt w tb gm c F) (hc : c ≤ 1025) (hti : TreeIn F) (href : RefAt w rb a rc L3) (his : RefIs L3 F) (hin : ∀ i, (h : i < L3.length) → NdIn L3[i]) (hnm : ∀ ss, KeysOf F ss → ∀ p, (namesIn p ss).Perm (lastsF p L3)) (ht : t.size ≤ 140737488351232) : ∃ TT n, ListsP TT n tb rb t w := by
  cases hf : folF F t with
  | error n =>
    have hcs := folF_err hti.ok hf
    refine ⟨[], (n : Int), by omega, fun wx hb => ?_, fun wx hb => ?_⟩
    · refine (list_err tb gm c F t wx (hat.below hb) hti (by omega) n hf).mono ?_
      rintro e w' ⟨rfl, hb'⟩
      exact ⟨⟨none, 0, rfl, OwnT.nil _ _ _⟩, hb'⟩
    · refine (rlist_err rb rc a L3 F t wx (href.below hb) his hti ht n hf).mono ?_
      rintro e w' ⟨rfl, hb'⟩
      exact ⟨⟨none, 0, rfl, OwnT.nil _ _ _⟩, hb'⟩
  | ok p =>
    by_cases hk : ((F p).getD Ent.zero).kind = 1
    · refine ⟨((lastsF p L3).mergeSort fun x y => decide (x ≤ y)).map mkP, 0, by omega, fun wx hb => ?_, fun wx hb => ?_⟩
      · refine (list_dirN sorts_texts tb gm c F t p wx (hat.below hb) hti hc (by omega) hf hk).mono ?_
        rintro e w' ⟨⟨ad, cap, ss, hks, rfl, hown⟩, hb'⟩
        have hp := hnm ss hks p
        have hl := hp.length_eq
        rw [show (namesIn p ss).mergeSort (fun x y => decide (x ≤ y)) = (lastsF p L3).mergeSort (fun x y => decide (x ≤ y)) from mergeSort_of_perm hp] at hown
        rw [hl] at hown
        refine ⟨⟨ad, cap, ?_, ?_⟩, hb'⟩
        · rw [List.length_map, List.length_mergeSort, hl]
          rfl
        · rw [List.length_map, List.length_mergeSort]
          exact hown
      · refine (rlist_dir rb rc a L3 F t p wx (href.below hb) his hti ht hin hf hk).mono ?_
        rintro e w' ⟨⟨ad, n, cap, R, rfl, hp, hs, hn, hown⟩, hb'⟩
        have hR : R = (lastsF p L3).mergeSort (fun x y => decide (x ≤ y)) := by
          rw [← show R.mergeSort (fun x y => decide (x ≤ y)) = (lastsF p L3).mergeSort (fun x y => decide (x ≤ y)) from mergeSort_of_perm hp]
          exact (List.mergeSort_of_pairwise (hs.imp (fun h => decide_eq_true h))).symm
        subst hn
        rw [← hR, List.length_map]
        exact ⟨⟨ad, cap, rfl, hown⟩, hb'⟩
    · refine ⟨[], 16, by omega, fun wx hb => ?_, fun wx hb => ?_⟩
      · refine (list_file tb gm c F t p wx (hat.below hb) hti (by omega) hf hk).mono ?_
        rintro e w' ⟨rfl, hb'⟩
        exact ⟨⟨none, 0, rfl, OwnT.nil _ _ _⟩, hb'⟩
      · refine (rlist_file rb rc a L3 F t p wx (href.below hb) his hti ht hf hk).mono ?_
        rintro e w' ⟨rfl, hb'⟩
        exact ⟨⟨none, 0, rfl, OwnT.nil _ _ _⟩, hb'⟩
end Go.Proofs.YtcabpidbdnlomaaGreatDoor
/- Layer 3: the law VfsLists. -/
namespace Go.Proofs.YtcabpidbdnlomaaGreatDoor
open Go.RowKit
set_option linter.unusedVariables false
set_option linter.unusedSimpArgs false

theorem OwnT.cellB {w : World} {B : Nat} {e : TypeId} {ad : Option Addr} {n cap : Nat} {T : List ByteArray} (h : OwnT w B e (.slice ad n cap) T) {j : Nat} {x : ByteArray} (hx : T[j]? = some x) : ∃ g, ad = some ⟨g, 0, none⟩ ∧ B ≤ g ∧ g < w.heap.size ∧ w.cell? ⟨g, j, none⟩ = some (.string x) := by
  obtain ⟨h1, -, -⟩ := h.row
  have hj : j < T.length := (List.getElem?_eq_some_iff.1 hx).1
  obtain ⟨b, o, rfl, hb, h2⟩ := h1 j hj
  obtain ⟨g, cur, e2, hge, -⟩ := own_at h
  simp only [Addr.mk.injEq, and_true] at e2
  obtain ⟨rfl, rfl⟩ := e2
  rw [Nat.zero_add] at h2
  exact ⟨b, rfl, hge, hb, by rw [h2]; simp [List.getD, hx]⟩
theorem OwnT.setB {w : World} {B : Nat} {e : TypeId} {g n cap : Nat} {T : List ByteArray} (h : OwnT w B e (.slice (some ⟨g, 0, none⟩) n cap) T) (hn : n = T.length) (j : Nat) (x : ByteArray) : OwnT (w.setCell ⟨g, j, none⟩ (.string x)) B e (.slice (some ⟨g, 0, none⟩) n cap) (T.set j x) := by
  subst hn
  unfold OwnT
  have := (World.ownsRow.stored h j (.string x)).1
  rw [List.length_set, List.map_set]
  exact this
theorem OwnT.setOther {w : World} {B : Nat} {e : TypeId} {v : Value} {T : List ByteArray} (h : OwnT w B e v T) {a : Addr} (ha : v.ownBlock ≠ some a.block) (u : Value) : OwnT (w.setCell a u) B e v T := ownsRow_setCell_other h ha u

set_option maxRecDepth 100000 in
set_option maxHeartbeats 16000000 in
theorem vfsLists_at (a : Option Addr) (n cap : Nat) (L : List Nd) (D : Nat → List Nat) (pa : Option Addr) (pn pc : Nat) (T : List ByteArray) (w : World) (hr : NdRow w a L) (hn : L.length = n) (hnl : n * 72 ≤ 140737488351232) (hD : ∀ i, (hi : i < L.length) → NdOk w L[i] (D i)) (hT : TRow w pa T) (hpn : T.length = pn) (hpl : pn ≤ 140737488351232) (hts : ∀ t ∈ T, t.size ≤ 140737488351232) (hg : ErrType w) :
    Calls Tryz.prog 3 #[.slice a n cap, .slice pa pn pc] w fun e w' => e = .returned (.bool true) ∧ Below w.heap.size w w' := by
  have HSH := Lib.hid (shown_true w hg)
  have HBO : Hid (∀ wx, Below w.heap.size w wx → Calls Tryz.prog 5 #[.slice a n cap] wx fun e w' => BothPost e w' ∧ Below wx.heap.size wx w') := Lib.hid (fun wx hb => both_any a n cap L D wx (hr.below hb) hn hnl (fun i hi => (hD i hi).below hb) (hg.below hb))
  have HPN := Lib.hid hpn
  have HTR := Lib.hid hT
  have HTS := Lib.hid hts
  have HPL := Lib.hid hpl
  clear hr hn hnl hD hT hpn hpl hts hg
  go_enter Tryz.func3, Tryz.ntmps3
  go_wp2_with fail
  refine HSH.out.mono ?_
  rintro e w1 ⟨rfl, hb1⟩
  have B1 := Lib.hid hb1
  clear hb1
  go_wp2_with fail
  refine (HBO.out w1 B1.out).mono ?_
  rintro e w3 ⟨hp, hb3⟩
  have B3 := Lib.hid (bstep B1.out hb3)
  clear hb3
  rcases hp with rfl | ⟨tb, gm, c, rb, ra, rc, L3, F, rfl, hat, hc, hti, href, his, hin, hnm⟩
  · go_wp2_with fail
    go_ret
    exact ⟨rfl, B3.out⟩
  have HLS : Hid (∀ t wx, t.size ≤ 140737488351232 → Below w3.heap.size w3 wx → ∃ TT n, ListsP TT n tb rb t wx) := Lib.hid (fun t wx ht hb => lists_same tb gm c rb rc ra L3 F t wx (hat.below hb) hc hti (href.below hb) his hin hnm ht)
  clear hat hc hti href his hin hnm HBO HSH
  go_wp2_with fail
  go_loopg [9] pn (fun g1 iv wr => ∃ i : Nat, i + g1 = pn ∧ iv = .int .i64 (i : Int) ∧ Hid (Below w3.heap.size w3 wr))
  case atStart => exact ⟨0, by omega, rfl, Lib.hid (Below.refl _ _)⟩
  case round =>
    obtain ⟨i, hi, rfl, HB⟩ := hrel
    have HKK := Lib.hid hi
    cases gk with
    | zero =>
      have hin : i = pn := by omega
      subst hin
      clear hi
      go_wp2_with fail
      go_ret
      exact ⟨rfl, bstep B3.out HB.out⟩
    | succ g2 =>
      have hlt : i < pn := by omega
      have hiT : i < T.length := by rw [HPN.out]; exact hlt
      obtain ⟨b1, o1, rfl, hbl, p0⟩ := (HTR.out.below (bstep B3.out HB.out)) i hiT
      obtain ⟨t, ht⟩ : ∃ t, T[i]'hiT = t := ⟨_, rfl⟩
      have hg : T.getD i .empty = t := by rw [← ht]; simp [List.getD, hiT]
      rw [hg] at p0
      have hts : t.size ≤ 140737488351232 := by rw [← ht]; exact HTS.out _ (List.getElem_mem hiT)
      obtain ⟨TT, cn, hcn, hl1, hl2⟩ := HLS.out t wr hts HB.out
      have HL1 := Lib.hid (hl1 wr (Below.refl _ _))
      have HL2 := Lib.hid hl2
      have HCN := Lib.hid hcn
      have HP0 := Lib.hid p0
      have HBL := Lib.hid hbl
      obtain ⟨m, hm⟩ : ∃ m, TT.length = m := ⟨_, rfl⟩
      rw [hm] at HL1 HL2
      have HM := Lib.hid hm
      have HCO : Hid (∀ wx, Calls Tryz.prog 8 #[errV cn] wx fun e w' => e = .returned (.int .i64 cn) ∧ wx = w') := Lib.hid (fun wx => code_any cn wx hcn.1 hcn.2)
      generalize errV cn = ev at *
      have tm : ((m : Int) != (m : Int)) = false := by simp
      have tc : ((cn : Int) != (cn : Int)) = false := by simp
      clear hi hiT ht hg hts hbl hl1 hl2 hcn hm
      go_wp2_with fail
      refine HL1.out.mono ?_
      rintro e w4 ⟨⟨na, nc, rfl, ho4⟩, hb4⟩
      have B4 : Hid (Below w3.heap.size w3 w4) := Lib.hid (bstep HB.out hb4)
      have b4 := Lib.hid hb4
      have O4 := Lib.hid (ho4.mono HB.out.size)
      have p4 : w4.cell? ⟨b1, o1 + i, none⟩ = some (.string t) := (hb4.cell (p := ⟨b1, o1 + i, none⟩) HBL.out).trans HP0.out
      clear hb4 ho4 p0
      go_wp2_with fail
      refine (HL2.out w4 b4.out).mono ?_
      rintro e w5 ⟨⟨wa, wc, rfl, ho5⟩, hb5⟩
      have B5 : Hid (Below w3.heap.size w3 w5) := Lib.hid (bstep B4.out hb5)
      have O5 := Lib.hid (O4.out.below hb5)
      have W5 := Lib.hid ho5
      have HNA : Hid (∀ g, na = some ⟨g, 0, none⟩ → w3.heap.size ≤ g ∧ g < w4.heap.size) := Lib.hid (fun g e => by
        have h := O4.out
        rw [e] at h
        exact OwnT.geT h)
      clear hb5 ho5 p4
      go_wp2_with fail
      refine (HCO.out w5).mono ?_
      rintro e w' ⟨rfl, rfl⟩
      go_wp2_with fail
      go_loopg [14] m (fun g1 kv wr => ∃ (k : Nat) (T' : List ByteArray), k + g1 = m ∧ kv = .int .i64 (k : Int) ∧ Hid (T'.length = m ∧ ∀ j, k ≤ j → T'[j]? = TT[j]?) ∧ Hid (OwnT wr w3.heap.size 9 (.slice na m nc) T') ∧ Hid (OwnT wr w4.heap.size 9 (.slice wa m wc) TT) ∧ Hid (Below w3.heap.size w3 wr))
      case atStart => exact ⟨0, TT, by omega, rfl, Lib.hid ⟨HM.out, fun j _ => rfl⟩, O5, W5, B5⟩
      case round =>
        clear O4 O5 W5 B5 HB HP0
        obtain ⟨k, T', hk, rfl, HT', ON, OW, HB⟩ := hrel
        cases gk with
        | zero =>
          have hkm : k = m := by omega
          subst hkm
          clear hk
          go_wp2_with fail
          go_roundg g2
          case measure => have := HKK.out; omega
          case rel => exact ⟨i + 1, by have := HKK.out; omega, (by have := HKK.out; have := HPL.out; rw [IntWalk.wrap64_in _ ⟨by omega, by omega⟩]; rfl), HB⟩
        | succ g3 =>
          have hkT : k < TT.length := by rw [HM.out]; omega
          obtain ⟨x, hx⟩ : ∃ x, TT[k]? = some x := ⟨_, List.getElem?_eq_getElem hkT⟩
          have hx' : T'[k]? = some x := by rw [HT'.out.2 k (Nat.le_refl _)]; exact hx
          obtain ⟨g, rfl, hge, hgl, q0⟩ := ON.out.cellB hx'
          obtain ⟨g', rfl, hge', hgl', q1⟩ := OW.out.cellB hx
          have i0 : (0 : Int) ≤ (k : Int) := by omega
          have i1 : (k : Int) < (m : Int) := by omega
          have HKM : Hid (k + (g3 + 1) = m ∧ m ≤ 9223372036854775807) := Lib.hid ⟨hk, by
            have := ON.out.row.2
            have h7 := World.ownsRow.lt ON.out g rfl
            rcases (show World.ownsRow _ _ _ _ _ _ _ from ON.out).2 with ⟨h', -⟩ | ⟨g2, cap', cur, h', -, -, h8, h9, -⟩
            · simp at h'
            · simp only [Value.slice.injEq] at h'
              unfold maxLen at h9
              omega⟩
          have HGG : Hid (w3.heap.size ≤ g ∧ g < wr.heap.size ∧ g ≠ g') := Lib.hid ⟨hge, hgl, by have := (HNA.out g rfl).2; omega⟩
          have te : (x.toList == x.toList) = true := by simp
          clear hx hx' hkT hge hge' hgl hgl' hk
          go_wp2_with fail
          go_quiet (fail)
          have hBD : Below wr.heap.size wr (wr.drewN nq) := below_drewN (Below.refl _ _) _
          have O6 := Lib.hid (ON.out.below hBD)
          have W6 := Lib.hid (OW.out.below hBD)
          have B6 : Hid (Below w3.heap.size w3 (wr.drewN nq)) := Lib.hid (bstep HB.out hBD)
          have r0 : (wr.drewN nq).cell? ⟨g, k, none⟩ = some (.string x) := by rw [hBD.cell (p := ⟨g, k, none⟩) HGG.out.2.1]; exact q0
          have f0 := O6.out.freeT (by rw [HT'.out.1]) k
          generalize wr.drewN nq = wd at O6 W6 B6 r0 f0 ⊢
          clear hBD q0 q1
          have O7 : Hid (OwnT (wd.setCell ⟨g, k, none⟩ (.string ⟨#[120]⟩)) w3.heap.size 9 (.slice (some ⟨g, 0, none⟩) m nc) (T'.set k ⟨#[120]⟩)) := Lib.hid (O6.out.setB (by rw [HT'.out.1]) k _)
          have W7 : Hid (OwnT (wd.setCell ⟨g, k, none⟩ (.string ⟨#[120]⟩)) w4.heap.size 9 (.slice (some ⟨g', 0, none⟩) m wc) TT) := Lib.hid (W6.out.setOther (fun e => HGG.out.2.2 (Option.some.inj e).symm) _)
          have B7 : Hid (Below w3.heap.size w3 (wd.setCell ⟨g, k, none⟩ (.string ⟨#[120]⟩))) := Lib.hid (B6.out.setCell (p := ⟨g, k, none⟩) HGG.out.1 _)
          have HT2 : Hid ((T'.set k ⟨#[120]⟩).length = m ∧ ∀ j, k + 1 ≤ j → (T'.set k ⟨#[120]⟩)[j]? = TT[j]?) := Lib.hid ⟨by rw [List.length_set]; exact HT'.out.1, fun j hj => by rw [List.getElem?_set_ne (by omega)]; exact HT'.out.2 j (by omega)⟩
          go_wp2_with fail
          go_roundg g3
          case measure => have := HKM.out; omega
          case rel => exact ⟨k + 1, _, by have := HKM.out; omega, (by have := HKM.out; rw [IntWalk.wrap64_in _ ⟨by omega, by omega⟩]; rfl), HT2, O7, W7, B7⟩
end Go.Proofs.YtcabpidbdnlomaaGreatDoor
