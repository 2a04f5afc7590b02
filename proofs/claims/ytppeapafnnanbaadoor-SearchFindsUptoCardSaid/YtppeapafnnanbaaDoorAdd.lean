/- Layer 14: a list's directories are laid behind those that are there. -/
import Derived.Test.YtppeapafnnanbaaDoorContains
import Derived.Test.YtppeapafnnanbaaDoorExpand
namespace Go.Proofs.YtppeapafnnanbaaDoor
open Go.RowKit
set_option linter.unusedVariables false
set_option linter.unusedSimpArgs false

def dirOf (origin : ByteArray) (part : List UInt8) : ByteArray := if part = [] then mkT [47] else mkT (expF (mkT part) origin).1
def addStep (secure : Bool) (origin : ByteArray) (acc : List ByteArray) (part : List UInt8) : List ByteArray :=
  if ((expF (mkT part) origin).2 && secure) || inB acc (dirOf origin part) then acc else acc ++ [dirOf origin part]
def addF (secure : Bool) (origin : ByteArray) (acc : List ByteArray) (parts : List (List UInt8)) : List ByteArray := parts.foldl (addStep secure origin) acc
theorem addStep_len (secure : Bool) (origin : ByteArray) (acc : List ByteArray) (part : List UInt8) : (addStep secure origin acc part).length ≤ acc.length + 1 := by
  unfold addStep
  split
  · omega
  · simp
/-- where the directories stand, and who asks -/
def DSt (W0 : World) (lb ab : Nat) (cs : Array Value) (acc : List ByteArray) (w : World) : Prop :=
  ∃ ad c, InBox w lb (.slice ad acc.length c) 45 ∧ OwnT w W0.heap.size 9 (.slice ad acc.length c) acc ∧ w.heap[ab]? = some (.cells cs 25) ∧ Below W0.heap.size W0 w
theorem mkT_data (l : List UInt8) : (mkT l).data.toList = l := rfl

set_option maxRecDepth 100000 in
set_option maxHeartbeats 8000000 in
theorem add_any (F : Nat) (p : Nat → Bool) (hen : ∀ (args : Array Value) (w : World), (callFunc F args).run Tryd.prog w = .ok (.enter F args) w)
    (HFn : ∀ (r : Nat) (w : World), Calls Tryd.prog F #[.int .i32 (r : Int)] w fun e w' => e = .returned (.bool (p r)) ∧ w = w') (hp : ∀ r, 128 ≤ r → p r = false)
    (W0 : World) (lb ab : Nat) (cs : Array Value) (acc : List ByteArray) (secure : Bool) (list origin : ByteArray) (w : World) (hd : DSt W0 lb ab cs acc w) (hlb : W0.heap.size ≤ lb) (hne : ¬ lb = ab) (hsec : cs[3]? = some (.bool secure))
    (hs : list.size ≤ 1099511627776) (ho : origin.size ≤ 140737488351232) (hE : ∀ l ∈ cutF p list.data.toList, (expF (mkT l) origin).1.length ≤ 140737488355328 ∧ l.length ≤ 140737488351232) (hacc : acc.length + (cutF p list.data.toList).length ≤ 1099511627776) :
    Calls Tryd.prog 25 #[.string list, .string origin, .func (.func F) #[] #[], .pointer (some ⟨ab, 0, none⟩), .pointer (some ⟨lb, 0, none⟩)] w fun e w' => e = .returned (.tuple #[]) ∧ DSt W0 lb ab cs (addF secure origin acc (cutF p list.data.toList)) w' := by
  have HCUT := Lib.hid (cut_any F p hen list w hs HFn hp)
  have hpos : 0 < (cutF p list.data.toList).length := cutGo_pos p _ _
  obtain ⟨pl, hpl⟩ : ∃ pl, cutF p list.data.toList = pl := ⟨_, rfl⟩
  rw [hpl] at HCUT hE hacc hpos ⊢
  obtain ⟨R, hR⟩ : ∃ R, addF secure origin acc pl = R := ⟨_, rfl⟩
  have HR : Hid (addF secure origin acc (pl.drop 0) = R) := Lib.hid hR
  rw [hR]
  have HEX := Lib.hid hE
  have HACC := Lib.hid hacc
  have HNE := Lib.hid hne
  obtain ⟨ad0, c0, hx0, ho0, ha0, hb0⟩ := hd
  have X0 := Lib.hid hx0; have O0 := Lib.hid ho0; have A0 := Lib.hid ha0; have B0 := Lib.hid hb0
  clear hen HFn hp hs hpl hR hE hacc hx0 ho0 ha0 hb0
  go_enter Tryd.func25, Tryd.ntmps25
  go_wp2_with fail
  refine HCUT.out.mono ?_
  rintro e w1 ⟨pa, pc, rfl, hpo, hb1⟩
  obtain ⟨gp, rfl⟩ : ∃ gp, pa = some ⟨gp, 0, none⟩ := by
    rcases hpo.2 with ⟨h1, h2⟩ | ⟨g, c', cur, hv, -⟩
    · simp only [Value.slice.injEq, List.length_map] at h1; omega
    · simp only [Value.slice.injEq] at hv
      exact ⟨g, hv.1⟩
  have hgp := (World.ownsRow.lt hpo gp rfl).1
  have PO := Lib.hid hpo
  have X1 := Lib.hid (X0.out.below hb1); have O1 := Lib.hid (O0.out.below hb1)
  have A1 : Hid (w1.heap[ab]? = some (.cells cs 25)) := Lib.hid ((hb1.block _ (lt_of_block A0.out)).trans A0.out)
  have B1 := Lib.hid (B0.out.trans (hb1.mono B0.out.size))
  have N1 : Hid (¬ (Value.slice ad0 acc.length c0).ownBlock = some gp) := Lib.hid (fun e => by
    have := (World.ownsRow.lt O0.out gp e).2
    omega)
  have HGP := Lib.hid hgp
  obtain ⟨np, hnp⟩ : ∃ np, (pl.map mkT).length = np := ⟨_, rfl⟩
  have HNP : Hid (pl.length = np) := Lib.hid (by rw [← hnp, List.length_map])
  rw [hnp] at PO ⊢
  have hnpb : np ≤ 1099511627776 := by have := HNP.out; have := HACC.out; omega
  clear hpo hb1 hgp hnp HCUT X0 O0 A0 B0
  go_wp2_with fail
  go_loopg [16] np (fun g i wr => ∃ (k : Nat) (acc' : List ByteArray) (ad : Option Addr) (c : Nat), k + g = np ∧ i = .int .i64 (k : Int) ∧ Hid (addF secure origin acc' (pl.drop k) = R) ∧ Hid (acc'.length ≤ acc.length + k) ∧ Hid (InBox wr lb (.slice ad acc'.length c) 45) ∧
    Hid (OwnT wr W0.heap.size 9 (.slice ad acc'.length c) acc') ∧ Hid (¬ (Value.slice ad acc'.length c).ownBlock = some gp) ∧ Hid (OwnT wr w.heap.size 9 (.slice (some ⟨gp, 0, none⟩) np pc) (pl.map mkT)) ∧ Hid (wr.heap[ab]? = some (.cells cs 25)) ∧ Hid (Below W0.heap.size W0 wr))
  case atStart => exact ⟨0, acc, ad0, c0, by omega, rfl, HR, Lib.hid (Nat.le_refl _), X1, O1, N1, PO, A1, B1⟩
  case round =>
    obtain ⟨k, acc', ad, c, hk, rfl, HG, HL, XR, OR, NR, PR, AR, BR⟩ := hrel
    clear X1 O1 N1 PO A1 B1 HR
    cases gk with
    | zero =>
      have hke : k = np := by omega
      subst hke
      have HRE : Hid (R = acc') := Lib.hid (by rw [← HG.out, List.drop_of_length_le (by rw [HNP.out]; exact Nat.le_refl _)]; rfl)
      clear hk
      go_wp2_with fail
      go_end0
      rw [HRE.out]
      exact ⟨rfl, ad, c, XR.out, OR.out, AR.out, BR.out⟩
    | succ g =>
      have hlt : k < np := by omega
      obtain ⟨tb, ofs, e1, -, htc⟩ := PR.out.row.1 k (by rw [List.length_map, HNP.out]; exact hlt)
      cases e1
      have hkpl : k < pl.length := by rw [HNP.out]; exact hlt
      have hpart : (pl.map mkT).getD k .empty = mkT pl[k] := by simp [List.getD, hkpl]
      rw [hpart, Nat.zero_add] at htc
      have HDROP : Hid (pl.drop k = pl[k] :: pl.drop (k + 1)) := Lib.hid (List.drop_eq_getElem_cons hkpl)
      have HEK := Lib.hid (HEX.out pl[k] (List.getElem_mem _))
      have HKK := Lib.hid hk
      generalize pl[k] = part at *
      clear hpart hkpl hk
      have HNXT : Hid (addF secure origin (addStep secure origin acc' part) (pl.drop (k + 1)) = R) := Lib.hid (by rw [← HG.out, HDROP.out]; rfl)
      have HXP := Lib.hid (expand_any (mkT part) origin wr (by have := HEK.out.2; show part.toArray.size ≤ _; simp; omega) (by omega) HEK.out.1)
      have HST : Hid (addStep secure origin acc' part = if ((expF (mkT part) origin).2 && secure) || inB acc' (dirOf origin part) then acc' else acc' ++ [dirOf origin part]) := Lib.hid rfl
      have HDO : Hid (dirOf origin part = if part = [] then mkT [47] else mkT (expF (mkT part) origin).1) := Lib.hid rfl
      obtain ⟨tx, own, hex⟩ : ∃ tx own, expF (mkT part) origin = (tx, own) := ⟨_, _, rfl⟩
      rw [hex] at HXP HST HDO
      obtain ⟨D, hD⟩ : ∃ D, dirOf origin part = D := ⟨_, rfl⟩
      rw [hD] at HST HDO
      clear hex hD HEK
      go_wp2_with fail
      refine HXP.out.mono ?_
      rintro e w2 ⟨rfl, hb2⟩
      have X2 := Lib.hid (XR.out.below hb2); have O2 := Lib.hid (OR.out.below hb2); have P2 := Lib.hid (PR.out.below hb2)
      have A2 : Hid (w2.heap[ab]? = some (.cells cs 25)) := Lib.hid ((hb2.block _ (lt_of_block AR.out)).trans AR.out)
      have B2 := Lib.hid (BR.out.trans (hb2.mono BR.out.size))
      have hsc : w2.cell? ⟨ab, 3, none⟩ = some (.bool secure) := by rw [cell_of_row _ _ _ _ _ _ A2.out]; exact hsec
      have hlc := X2.out.cell
      have hlf := X2.out.free
      clear hb2 HXP XR OR PR AR BR htc
      rcases part with _ | ⟨ch, rt⟩
      · obtain rfl : D = (⟨#[47]⟩ : ByteArray) := by rw [HDO.out]; rfl
        have HCT := Lib.hid (contains_any ad c acc' (⟨#[47]⟩ : ByteArray) w2 O2.out.row.1 (by have := HL.out; have := HACC.out; have := HNP.out; omega))
        clear HDO
        unfold mkT at *
        cases own <;> cases secure
        · skip
          go_wp2_with fail
          refine HCT.out.mono ?_
          rintro e w3 ⟨rfl, rfl⟩
          cases hin : inB acc' (⟨#[47]⟩ : ByteArray) with
          | true =>
            have HACC2 : Hid (addStep false origin acc' [] = acc') := Lib.hid (by rw [HST.out, if_pos (by rw [hin]; simp)])
            rw [HACC2.out] at HNXT
            clear HST HACC2 hin
            go_wp2_with fail
            go_roundg g
            case measure => omega
            case rel => exact ⟨k + 1, acc', ad, c, by have := HKK.out; omega, by go_num, HNXT, Lib.hid (by have := HL.out; omega), X2, O2, NR, P2, A2, B2⟩
          | false =>
            have HACC2 : Hid (addStep false origin acc' [] = acc' ++ [(⟨#[47]⟩ : ByteArray)]) := Lib.hid (by rw [HST.out, if_neg (by rw [hin]; simp)])
            rw [HACC2.out] at HNXT
            clear HST HACC2 hin
            have hnw : (w2.alloc (.cells #[.string (⟨#[47]⟩ : ByteArray)] 9)).cell? ⟨w2.heap.size, 0, none⟩ = some (.string (⟨#[47]⟩ : ByteArray)) := by rw [World.cell?_alloc_new]; rfl
            have HNW := Lib.hid hnw
            have OA := Lib.hid (O2.out.allocT (.cells #[.string (⟨#[47]⟩ : ByteArray)] 9))
            have PA := Lib.hid (P2.out.allocT (.cells #[.string (⟨#[47]⟩ : ByteArray)] 9))
            have XA := Lib.hid (X2.out.alloc (.cells #[.string (⟨#[47]⟩ : ByteArray)] 9))
            have BA := Lib.hid (B2.out.alloc B2.out.size (.cells #[.string (⟨#[47]⟩ : ByteArray)] 9))
            have AA : Hid ((w2.alloc (.cells #[.string (⟨#[47]⟩ : ByteArray)] 9)).heap[ab]? = some (.cells cs 25)) := Lib.hid ((heap_alloc_old _ _ (lt_of_block A2.out)).trans A2.out)
            have HSZ2 : Hid ((w2.alloc (.cells #[.string (⟨#[47]⟩ : ByteArray)] 9)).heap.size = w2.heap.size + 1) := Lib.hid (by simp)
            have HGP2 : Hid (gp < w2.heap.size) := Lib.hid (World.ownsRow.lt P2.out gp rfl).2
            have HNX : Hid ((Value.slice ad acc'.length c).ownBlock ≠ some lb) := Lib.hid (XA.out.apart OA.out (by decide))
            have HNA : Hid ((Value.slice ad acc'.length c).ownBlock ≠ some ab) := Lib.hid (fun e => by
              rcases OA.out.2 with ⟨h1, h2⟩ | ⟨g', c', cur, hv, -, hg', -⟩
              · rw [h1] at e; simp [Value.ownBlock] at e
              · rw [hv] at e
                simp only [Value.ownBlock, Option.some.injEq] at e
                subst e
                rw [AA.out] at hg'
                simp only [Option.some.injEq, Obj.cells.injEq] at hg'
                exact absurd hg'.2.1 (by decide))
            have L1 : Hid (acc'.length + 1 ≤ maxLen) := Lib.hid (by have := HL.out; have := HACC.out; have := HNP.out; unfold maxLen; omega)
            have L2 : Hid ((acc'.length + 1) * 16 ≤ 140737488355328) := Lib.hid (by have := HL.out; have := HACC.out; have := HNP.out; omega)
            clear hnw
            go_wp2_with (at_builtin; go_loud (refine wpList_text_g rfl (.tmp 38) (.tmp 40) texts_t text_info rfl W0.heap.size (.slice ad acc'.length c) acc' acc'.length ⟨w2.heap.size, 0, none⟩ 1 (⟨#[47]⟩ : ByteArray) rfl (by rfl) HNW.out rfl OA.out L1.out L2.out BA.out.size (w2.heap.size + 1) HSZ2.out ?_); intro g5 c5 w5 hown5 hgr5 hor5; have O5 := Lib.hid hown5; have X5 := Lib.hid (XA.out.grown hgr5 HNX.out); have G5 := Lib.hid hgr5; have R5 := Lib.hid hor5; have hlc5 := X5.out.cell; have hlf5 := X5.out.free; clear hown5 hgr5 hor5)
            have A5 : Hid (w5.heap[ab]? = some (.cells cs 25)) := Lib.hid ((G5.out.block ab (lt_of_block AA.out) (fun e => HNA.out e.symm)).trans AA.out)
            have P5 := Lib.hid (World.ownsRow.kept PA.out G5.out (.inr (fun e => NR.out e.symm)))
            have B5 := Lib.hid (BA.out.grown G5.out BA.out.size (fun j hj => (World.ownsRow.lt OA.out j hj).1))
            have N5 : Hid (¬ (Value.slice (some ⟨g5, 0, none⟩) (acc' ++ [(⟨#[47]⟩ : ByteArray)]).length c5).ownBlock = some gp) := Lib.hid (fun e => by
              simp only [Value.ownBlock, Option.some.injEq] at e
              subst e
              rcases R5.out with h1 | h1
              · exact NR.out h1
              · have := HGP2.out; omega)
            have e9 : acc'.length + 1 = (acc' ++ [(⟨#[47]⟩ : ByteArray)]).length := by simp
            have O6 : Hid (OwnT w5 W0.heap.size 9 (.slice (some ⟨g5, 0, none⟩) (acc' ++ [(⟨#[47]⟩ : ByteArray)]).length c5) (acc' ++ [(⟨#[47]⟩ : ByteArray)])) := Lib.hid (by rw [← e9]; exact O5.out)
            have hg5l : ¬ g5 = lb := fun e => by
              have h1 := X5.out.apart O5.out (by decide)
              simp only [Value.ownBlock, ne_eq, Option.some.injEq] at h1
              exact h1 e
            have O7 := Lib.hid (ownsRow_setCell_other O6.out (a := ⟨lb, 0, none⟩) (by simp only [Value.ownBlock, ne_eq, Option.some.injEq]; exact hg5l) (.slice (some ⟨g5, 0, none⟩) (acc' ++ [(⟨#[47]⟩ : ByteArray)]).length c5))
            have X7 := Lib.hid (X5.out.set (.slice (some ⟨g5, 0, none⟩) (acc' ++ [(⟨#[47]⟩ : ByteArray)]).length c5))
            have P7 := Lib.hid (ownsRow_setCell_other P5.out (a := ⟨lb, 0, none⟩) (X5.out.apart P5.out (by decide)) (.slice (some ⟨g5, 0, none⟩) (acc' ++ [(⟨#[47]⟩ : ByteArray)]).length c5))
            have A7 : Hid ((w5.setCell ⟨lb, 0, none⟩ (.slice (some ⟨g5, 0, none⟩) (acc' ++ [(⟨#[47]⟩ : ByteArray)]).length c5)).heap[ab]? = some (.cells cs 25)) := Lib.hid ((heap_setCell_other w5 _ ab _ (fun e => HNE.out e.symm)).trans A5.out)
            have B7 := Lib.hid (B5.out.setCell (p := ⟨lb, 0, none⟩) hlb (.slice (some ⟨g5, 0, none⟩) (acc' ++ [(⟨#[47]⟩ : ByteArray)]).length c5))
            have E9 := Lib.hid e9
            clear e9 hlc5 hlf5 hlc hlf hsc
            rw [E9.out]
            go_roundg g
            case measure => omega
            case rel => exact ⟨k + 1, acc' ++ [(⟨#[47]⟩ : ByteArray)], _, c5, by have := HKK.out; omega, by go_num, HNXT, Lib.hid (by have := HL.out; simp; omega), X7, O7, N5, P7, A7, B7⟩
        · skip
          go_wp2_with fail
          refine HCT.out.mono ?_
          rintro e w3 ⟨rfl, rfl⟩
          cases hin : inB acc' (⟨#[47]⟩ : ByteArray) with
          | true =>
            have HACC2 : Hid (addStep true origin acc' [] = acc') := Lib.hid (by rw [HST.out, if_pos (by rw [hin]; simp)])
            rw [HACC2.out] at HNXT
            clear HST HACC2 hin
            go_wp2_with fail
            go_roundg g
            case measure => omega
            case rel => exact ⟨k + 1, acc', ad, c, by have := HKK.out; omega, by go_num, HNXT, Lib.hid (by have := HL.out; omega), X2, O2, NR, P2, A2, B2⟩
          | false =>
            have HACC2 : Hid (addStep true origin acc' [] = acc' ++ [(⟨#[47]⟩ : ByteArray)]) := Lib.hid (by rw [HST.out, if_neg (by rw [hin]; simp)])
            rw [HACC2.out] at HNXT
            clear HST HACC2 hin
            have hnw : (w2.alloc (.cells #[.string (⟨#[47]⟩ : ByteArray)] 9)).cell? ⟨w2.heap.size, 0, none⟩ = some (.string (⟨#[47]⟩ : ByteArray)) := by rw [World.cell?_alloc_new]; rfl
            have HNW := Lib.hid hnw
            have OA := Lib.hid (O2.out.allocT (.cells #[.string (⟨#[47]⟩ : ByteArray)] 9))
            have PA := Lib.hid (P2.out.allocT (.cells #[.string (⟨#[47]⟩ : ByteArray)] 9))
            have XA := Lib.hid (X2.out.alloc (.cells #[.string (⟨#[47]⟩ : ByteArray)] 9))
            have BA := Lib.hid (B2.out.alloc B2.out.size (.cells #[.string (⟨#[47]⟩ : ByteArray)] 9))
            have AA : Hid ((w2.alloc (.cells #[.string (⟨#[47]⟩ : ByteArray)] 9)).heap[ab]? = some (.cells cs 25)) := Lib.hid ((heap_alloc_old _ _ (lt_of_block A2.out)).trans A2.out)
            have HSZ2 : Hid ((w2.alloc (.cells #[.string (⟨#[47]⟩ : ByteArray)] 9)).heap.size = w2.heap.size + 1) := Lib.hid (by simp)
            have HGP2 : Hid (gp < w2.heap.size) := Lib.hid (World.ownsRow.lt P2.out gp rfl).2
            have HNX : Hid ((Value.slice ad acc'.length c).ownBlock ≠ some lb) := Lib.hid (XA.out.apart OA.out (by decide))
            have HNA : Hid ((Value.slice ad acc'.length c).ownBlock ≠ some ab) := Lib.hid (fun e => by
              rcases OA.out.2 with ⟨h1, h2⟩ | ⟨g', c', cur, hv, -, hg', -⟩
              · rw [h1] at e; simp [Value.ownBlock] at e
              · rw [hv] at e
                simp only [Value.ownBlock, Option.some.injEq] at e
                subst e
                rw [AA.out] at hg'
                simp only [Option.some.injEq, Obj.cells.injEq] at hg'
                exact absurd hg'.2.1 (by decide))
            have L1 : Hid (acc'.length + 1 ≤ maxLen) := Lib.hid (by have := HL.out; have := HACC.out; have := HNP.out; unfold maxLen; omega)
            have L2 : Hid ((acc'.length + 1) * 16 ≤ 140737488355328) := Lib.hid (by have := HL.out; have := HACC.out; have := HNP.out; omega)
            clear hnw
            go_wp2_with (at_builtin; go_loud (refine wpList_text_g rfl (.tmp 38) (.tmp 40) texts_t text_info rfl W0.heap.size (.slice ad acc'.length c) acc' acc'.length ⟨w2.heap.size, 0, none⟩ 1 (⟨#[47]⟩ : ByteArray) rfl (by rfl) HNW.out rfl OA.out L1.out L2.out BA.out.size (w2.heap.size + 1) HSZ2.out ?_); intro g5 c5 w5 hown5 hgr5 hor5; have O5 := Lib.hid hown5; have X5 := Lib.hid (XA.out.grown hgr5 HNX.out); have G5 := Lib.hid hgr5; have R5 := Lib.hid hor5; have hlc5 := X5.out.cell; have hlf5 := X5.out.free; clear hown5 hgr5 hor5)
            have A5 : Hid (w5.heap[ab]? = some (.cells cs 25)) := Lib.hid ((G5.out.block ab (lt_of_block AA.out) (fun e => HNA.out e.symm)).trans AA.out)
            have P5 := Lib.hid (World.ownsRow.kept PA.out G5.out (.inr (fun e => NR.out e.symm)))
            have B5 := Lib.hid (BA.out.grown G5.out BA.out.size (fun j hj => (World.ownsRow.lt OA.out j hj).1))
            have N5 : Hid (¬ (Value.slice (some ⟨g5, 0, none⟩) (acc' ++ [(⟨#[47]⟩ : ByteArray)]).length c5).ownBlock = some gp) := Lib.hid (fun e => by
              simp only [Value.ownBlock, Option.some.injEq] at e
              subst e
              rcases R5.out with h1 | h1
              · exact NR.out h1
              · have := HGP2.out; omega)
            have e9 : acc'.length + 1 = (acc' ++ [(⟨#[47]⟩ : ByteArray)]).length := by simp
            have O6 : Hid (OwnT w5 W0.heap.size 9 (.slice (some ⟨g5, 0, none⟩) (acc' ++ [(⟨#[47]⟩ : ByteArray)]).length c5) (acc' ++ [(⟨#[47]⟩ : ByteArray)])) := Lib.hid (by rw [← e9]; exact O5.out)
            have hg5l : ¬ g5 = lb := fun e => by
              have h1 := X5.out.apart O5.out (by decide)
              simp only [Value.ownBlock, ne_eq, Option.some.injEq] at h1
              exact h1 e
            have O7 := Lib.hid (ownsRow_setCell_other O6.out (a := ⟨lb, 0, none⟩) (by simp only [Value.ownBlock, ne_eq, Option.some.injEq]; exact hg5l) (.slice (some ⟨g5, 0, none⟩) (acc' ++ [(⟨#[47]⟩ : ByteArray)]).length c5))
            have X7 := Lib.hid (X5.out.set (.slice (some ⟨g5, 0, none⟩) (acc' ++ [(⟨#[47]⟩ : ByteArray)]).length c5))
            have P7 := Lib.hid (ownsRow_setCell_other P5.out (a := ⟨lb, 0, none⟩) (X5.out.apart P5.out (by decide)) (.slice (some ⟨g5, 0, none⟩) (acc' ++ [(⟨#[47]⟩ : ByteArray)]).length c5))
            have A7 : Hid ((w5.setCell ⟨lb, 0, none⟩ (.slice (some ⟨g5, 0, none⟩) (acc' ++ [(⟨#[47]⟩ : ByteArray)]).length c5)).heap[ab]? = some (.cells cs 25)) := Lib.hid ((heap_setCell_other w5 _ ab _ (fun e => HNE.out e.symm)).trans A5.out)
            have B7 := Lib.hid (B5.out.setCell (p := ⟨lb, 0, none⟩) hlb (.slice (some ⟨g5, 0, none⟩) (acc' ++ [(⟨#[47]⟩ : ByteArray)]).length c5))
            have E9 := Lib.hid e9
            clear e9 hlc5 hlf5 hlc hlf hsc
            rw [E9.out]
            go_roundg g
            case measure => omega
            case rel => exact ⟨k + 1, acc' ++ [(⟨#[47]⟩ : ByteArray)], _, c5, by have := HKK.out; omega, by go_num, HNXT, Lib.hid (by have := HL.out; simp; omega), X7, O7, N5, P7, A7, B7⟩
        · skip
          go_wp2_with fail
          refine HCT.out.mono ?_
          rintro e w3 ⟨rfl, rfl⟩
          cases hin : inB acc' (⟨#[47]⟩ : ByteArray) with
          | true =>
            have HACC2 : Hid (addStep false origin acc' [] = acc') := Lib.hid (by rw [HST.out, if_pos (by rw [hin]; simp)])
            rw [HACC2.out] at HNXT
            clear HST HACC2 hin
            go_wp2_with fail
            go_roundg g
            case measure => omega
            case rel => exact ⟨k + 1, acc', ad, c, by have := HKK.out; omega, by go_num, HNXT, Lib.hid (by have := HL.out; omega), X2, O2, NR, P2, A2, B2⟩
          | false =>
            have HACC2 : Hid (addStep false origin acc' [] = acc' ++ [(⟨#[47]⟩ : ByteArray)]) := Lib.hid (by rw [HST.out, if_neg (by rw [hin]; simp)])
            rw [HACC2.out] at HNXT
            clear HST HACC2 hin
            have hnw : (w2.alloc (.cells #[.string (⟨#[47]⟩ : ByteArray)] 9)).cell? ⟨w2.heap.size, 0, none⟩ = some (.string (⟨#[47]⟩ : ByteArray)) := by rw [World.cell?_alloc_new]; rfl
            have HNW := Lib.hid hnw
            have OA := Lib.hid (O2.out.allocT (.cells #[.string (⟨#[47]⟩ : ByteArray)] 9))
            have PA := Lib.hid (P2.out.allocT (.cells #[.string (⟨#[47]⟩ : ByteArray)] 9))
            have XA := Lib.hid (X2.out.alloc (.cells #[.string (⟨#[47]⟩ : ByteArray)] 9))
            have BA := Lib.hid (B2.out.alloc B2.out.size (.cells #[.string (⟨#[47]⟩ : ByteArray)] 9))
            have AA : Hid ((w2.alloc (.cells #[.string (⟨#[47]⟩ : ByteArray)] 9)).heap[ab]? = some (.cells cs 25)) := Lib.hid ((heap_alloc_old _ _ (lt_of_block A2.out)).trans A2.out)
            have HSZ2 : Hid ((w2.alloc (.cells #[.string (⟨#[47]⟩ : ByteArray)] 9)).heap.size = w2.heap.size + 1) := Lib.hid (by simp)
            have HGP2 : Hid (gp < w2.heap.size) := Lib.hid (World.ownsRow.lt P2.out gp rfl).2
            have HNX : Hid ((Value.slice ad acc'.length c).ownBlock ≠ some lb) := Lib.hid (XA.out.apart OA.out (by decide))
            have HNA : Hid ((Value.slice ad acc'.length c).ownBlock ≠ some ab) := Lib.hid (fun e => by
              rcases OA.out.2 with ⟨h1, h2⟩ | ⟨g', c', cur, hv, -, hg', -⟩
              · rw [h1] at e; simp [Value.ownBlock] at e
              · rw [hv] at e
                simp only [Value.ownBlock, Option.some.injEq] at e
                subst e
                rw [AA.out] at hg'
                simp only [Option.some.injEq, Obj.cells.injEq] at hg'
                exact absurd hg'.2.1 (by decide))
            have L1 : Hid (acc'.length + 1 ≤ maxLen) := Lib.hid (by have := HL.out; have := HACC.out; have := HNP.out; unfold maxLen; omega)
            have L2 : Hid ((acc'.length + 1) * 16 ≤ 140737488355328) := Lib.hid (by have := HL.out; have := HACC.out; have := HNP.out; omega)
            clear hnw
            go_wp2_with (at_builtin; go_loud (refine wpList_text_g rfl (.tmp 38) (.tmp 40) texts_t text_info rfl W0.heap.size (.slice ad acc'.length c) acc' acc'.length ⟨w2.heap.size, 0, none⟩ 1 (⟨#[47]⟩ : ByteArray) rfl (by rfl) HNW.out rfl OA.out L1.out L2.out BA.out.size (w2.heap.size + 1) HSZ2.out ?_); intro g5 c5 w5 hown5 hgr5 hor5; have O5 := Lib.hid hown5; have X5 := Lib.hid (XA.out.grown hgr5 HNX.out); have G5 := Lib.hid hgr5; have R5 := Lib.hid hor5; have hlc5 := X5.out.cell; have hlf5 := X5.out.free; clear hown5 hgr5 hor5)
            have A5 : Hid (w5.heap[ab]? = some (.cells cs 25)) := Lib.hid ((G5.out.block ab (lt_of_block AA.out) (fun e => HNA.out e.symm)).trans AA.out)
            have P5 := Lib.hid (World.ownsRow.kept PA.out G5.out (.inr (fun e => NR.out e.symm)))
            have B5 := Lib.hid (BA.out.grown G5.out BA.out.size (fun j hj => (World.ownsRow.lt OA.out j hj).1))
            have N5 : Hid (¬ (Value.slice (some ⟨g5, 0, none⟩) (acc' ++ [(⟨#[47]⟩ : ByteArray)]).length c5).ownBlock = some gp) := Lib.hid (fun e => by
              simp only [Value.ownBlock, Option.some.injEq] at e
              subst e
              rcases R5.out with h1 | h1
              · exact NR.out h1
              · have := HGP2.out; omega)
            have e9 : acc'.length + 1 = (acc' ++ [(⟨#[47]⟩ : ByteArray)]).length := by simp
            have O6 : Hid (OwnT w5 W0.heap.size 9 (.slice (some ⟨g5, 0, none⟩) (acc' ++ [(⟨#[47]⟩ : ByteArray)]).length c5) (acc' ++ [(⟨#[47]⟩ : ByteArray)])) := Lib.hid (by rw [← e9]; exact O5.out)
            have hg5l : ¬ g5 = lb := fun e => by
              have h1 := X5.out.apart O5.out (by decide)
              simp only [Value.ownBlock, ne_eq, Option.some.injEq] at h1
              exact h1 e
            have O7 := Lib.hid (ownsRow_setCell_other O6.out (a := ⟨lb, 0, none⟩) (by simp only [Value.ownBlock, ne_eq, Option.some.injEq]; exact hg5l) (.slice (some ⟨g5, 0, none⟩) (acc' ++ [(⟨#[47]⟩ : ByteArray)]).length c5))
            have X7 := Lib.hid (X5.out.set (.slice (some ⟨g5, 0, none⟩) (acc' ++ [(⟨#[47]⟩ : ByteArray)]).length c5))
            have P7 := Lib.hid (ownsRow_setCell_other P5.out (a := ⟨lb, 0, none⟩) (X5.out.apart P5.out (by decide)) (.slice (some ⟨g5, 0, none⟩) (acc' ++ [(⟨#[47]⟩ : ByteArray)]).length c5))
            have A7 : Hid ((w5.setCell ⟨lb, 0, none⟩ (.slice (some ⟨g5, 0, none⟩) (acc' ++ [(⟨#[47]⟩ : ByteArray)]).length c5)).heap[ab]? = some (.cells cs 25)) := Lib.hid ((heap_setCell_other w5 _ ab _ (fun e => HNE.out e.symm)).trans A5.out)
            have B7 := Lib.hid (B5.out.setCell (p := ⟨lb, 0, none⟩) hlb (.slice (some ⟨g5, 0, none⟩) (acc' ++ [(⟨#[47]⟩ : ByteArray)]).length c5))
            have E9 := Lib.hid e9
            clear e9 hlc5 hlf5 hlc hlf hsc
            rw [E9.out]
            go_roundg g
            case measure => omega
            case rel => exact ⟨k + 1, acc' ++ [(⟨#[47]⟩ : ByteArray)], _, c5, by have := HKK.out; omega, by go_num, HNXT, Lib.hid (by have := HL.out; simp; omega), X7, O7, N5, P7, A7, B7⟩
        · skip
          have HACC2 : Hid (addStep true origin acc' [] = acc') := Lib.hid (by rw [HST.out, if_pos (by simp)])
          rw [HACC2.out] at HNXT
          clear HST HACC2
          go_wp2_with fail
          go_roundg g
          case measure => omega
          case rel => exact ⟨k + 1, acc', ad, c, by have := HKK.out; omega, by go_num, HNXT, Lib.hid (by have := HL.out; omega), X2, O2, NR, P2, A2, B2⟩
      · obtain rfl : D = (⟨tx.toArray⟩ : ByteArray) := by rw [HDO.out]; rfl
        have HCT := Lib.hid (contains_any ad c acc' (⟨tx.toArray⟩ : ByteArray) w2 O2.out.row.1 (by have := HL.out; have := HACC.out; have := HNP.out; omega))
        clear HDO
        unfold mkT at *
        cases own <;> cases secure
        · skip
          go_wp2_with fail
          refine HCT.out.mono ?_
          rintro e w3 ⟨rfl, rfl⟩
          cases hin : inB acc' (⟨tx.toArray⟩ : ByteArray) with
          | true =>
            have HACC2 : Hid (addStep false origin acc' (ch :: rt) = acc') := Lib.hid (by rw [HST.out, if_pos (by rw [hin]; simp)])
            rw [HACC2.out] at HNXT
            clear HST HACC2 hin
            go_wp2_with fail
            go_roundg g
            case measure => omega
            case rel => exact ⟨k + 1, acc', ad, c, by have := HKK.out; omega, by go_num, HNXT, Lib.hid (by have := HL.out; omega), X2, O2, NR, P2, A2, B2⟩
          | false =>
            have HACC2 : Hid (addStep false origin acc' (ch :: rt) = acc' ++ [(⟨tx.toArray⟩ : ByteArray)]) := Lib.hid (by rw [HST.out, if_neg (by rw [hin]; simp)])
            rw [HACC2.out] at HNXT
            clear HST HACC2 hin
            have hnw : (w2.alloc (.cells #[.string (⟨tx.toArray⟩ : ByteArray)] 9)).cell? ⟨w2.heap.size, 0, none⟩ = some (.string (⟨tx.toArray⟩ : ByteArray)) := by rw [World.cell?_alloc_new]; rfl
            have HNW := Lib.hid hnw
            have OA := Lib.hid (O2.out.allocT (.cells #[.string (⟨tx.toArray⟩ : ByteArray)] 9))
            have PA := Lib.hid (P2.out.allocT (.cells #[.string (⟨tx.toArray⟩ : ByteArray)] 9))
            have XA := Lib.hid (X2.out.alloc (.cells #[.string (⟨tx.toArray⟩ : ByteArray)] 9))
            have BA := Lib.hid (B2.out.alloc B2.out.size (.cells #[.string (⟨tx.toArray⟩ : ByteArray)] 9))
            have AA : Hid ((w2.alloc (.cells #[.string (⟨tx.toArray⟩ : ByteArray)] 9)).heap[ab]? = some (.cells cs 25)) := Lib.hid ((heap_alloc_old _ _ (lt_of_block A2.out)).trans A2.out)
            have HSZ2 : Hid ((w2.alloc (.cells #[.string (⟨tx.toArray⟩ : ByteArray)] 9)).heap.size = w2.heap.size + 1) := Lib.hid (by simp)
            have HGP2 : Hid (gp < w2.heap.size) := Lib.hid (World.ownsRow.lt P2.out gp rfl).2
            have HNX : Hid ((Value.slice ad acc'.length c).ownBlock ≠ some lb) := Lib.hid (XA.out.apart OA.out (by decide))
            have HNA : Hid ((Value.slice ad acc'.length c).ownBlock ≠ some ab) := Lib.hid (fun e => by
              rcases OA.out.2 with ⟨h1, h2⟩ | ⟨g', c', cur, hv, -, hg', -⟩
              · rw [h1] at e; simp [Value.ownBlock] at e
              · rw [hv] at e
                simp only [Value.ownBlock, Option.some.injEq] at e
                subst e
                rw [AA.out] at hg'
                simp only [Option.some.injEq, Obj.cells.injEq] at hg'
                exact absurd hg'.2.1 (by decide))
            have L1 : Hid (acc'.length + 1 ≤ maxLen) := Lib.hid (by have := HL.out; have := HACC.out; have := HNP.out; unfold maxLen; omega)
            have L2 : Hid ((acc'.length + 1) * 16 ≤ 140737488355328) := Lib.hid (by have := HL.out; have := HACC.out; have := HNP.out; omega)
            clear hnw
            go_wp2_with (at_builtin; go_loud (refine wpList_text_g rfl (.tmp 38) (.tmp 40) texts_t text_info rfl W0.heap.size (.slice ad acc'.length c) acc' acc'.length ⟨w2.heap.size, 0, none⟩ 1 (⟨tx.toArray⟩ : ByteArray) rfl (by rfl) HNW.out rfl OA.out L1.out L2.out BA.out.size (w2.heap.size + 1) HSZ2.out ?_); intro g5 c5 w5 hown5 hgr5 hor5; have O5 := Lib.hid hown5; have X5 := Lib.hid (XA.out.grown hgr5 HNX.out); have G5 := Lib.hid hgr5; have R5 := Lib.hid hor5; have hlc5 := X5.out.cell; have hlf5 := X5.out.free; clear hown5 hgr5 hor5)
            have A5 : Hid (w5.heap[ab]? = some (.cells cs 25)) := Lib.hid ((G5.out.block ab (lt_of_block AA.out) (fun e => HNA.out e.symm)).trans AA.out)
            have P5 := Lib.hid (World.ownsRow.kept PA.out G5.out (.inr (fun e => NR.out e.symm)))
            have B5 := Lib.hid (BA.out.grown G5.out BA.out.size (fun j hj => (World.ownsRow.lt OA.out j hj).1))
            have N5 : Hid (¬ (Value.slice (some ⟨g5, 0, none⟩) (acc' ++ [(⟨tx.toArray⟩ : ByteArray)]).length c5).ownBlock = some gp) := Lib.hid (fun e => by
              simp only [Value.ownBlock, Option.some.injEq] at e
              subst e
              rcases R5.out with h1 | h1
              · exact NR.out h1
              · have := HGP2.out; omega)
            have e9 : acc'.length + 1 = (acc' ++ [(⟨tx.toArray⟩ : ByteArray)]).length := by simp
            have O6 : Hid (OwnT w5 W0.heap.size 9 (.slice (some ⟨g5, 0, none⟩) (acc' ++ [(⟨tx.toArray⟩ : ByteArray)]).length c5) (acc' ++ [(⟨tx.toArray⟩ : ByteArray)])) := Lib.hid (by rw [← e9]; exact O5.out)
            have hg5l : ¬ g5 = lb := fun e => by
              have h1 := X5.out.apart O5.out (by decide)
              simp only [Value.ownBlock, ne_eq, Option.some.injEq] at h1
              exact h1 e
            have O7 := Lib.hid (ownsRow_setCell_other O6.out (a := ⟨lb, 0, none⟩) (by simp only [Value.ownBlock, ne_eq, Option.some.injEq]; exact hg5l) (.slice (some ⟨g5, 0, none⟩) (acc' ++ [(⟨tx.toArray⟩ : ByteArray)]).length c5))
            have X7 := Lib.hid (X5.out.set (.slice (some ⟨g5, 0, none⟩) (acc' ++ [(⟨tx.toArray⟩ : ByteArray)]).length c5))
            have P7 := Lib.hid (ownsRow_setCell_other P5.out (a := ⟨lb, 0, none⟩) (X5.out.apart P5.out (by decide)) (.slice (some ⟨g5, 0, none⟩) (acc' ++ [(⟨tx.toArray⟩ : ByteArray)]).length c5))
            have A7 : Hid ((w5.setCell ⟨lb, 0, none⟩ (.slice (some ⟨g5, 0, none⟩) (acc' ++ [(⟨tx.toArray⟩ : ByteArray)]).length c5)).heap[ab]? = some (.cells cs 25)) := Lib.hid ((heap_setCell_other w5 _ ab _ (fun e => HNE.out e.symm)).trans A5.out)
            have B7 := Lib.hid (B5.out.setCell (p := ⟨lb, 0, none⟩) hlb (.slice (some ⟨g5, 0, none⟩) (acc' ++ [(⟨tx.toArray⟩ : ByteArray)]).length c5))
            have E9 := Lib.hid e9
            clear e9 hlc5 hlf5 hlc hlf hsc
            rw [E9.out]
            go_roundg g
            case measure => omega
            case rel => exact ⟨k + 1, acc' ++ [(⟨tx.toArray⟩ : ByteArray)], _, c5, by have := HKK.out; omega, by go_num, HNXT, Lib.hid (by have := HL.out; simp; omega), X7, O7, N5, P7, A7, B7⟩
        · skip
          go_wp2_with fail
          refine HCT.out.mono ?_
          rintro e w3 ⟨rfl, rfl⟩
          cases hin : inB acc' (⟨tx.toArray⟩ : ByteArray) with
          | true =>
            have HACC2 : Hid (addStep true origin acc' (ch :: rt) = acc') := Lib.hid (by rw [HST.out, if_pos (by rw [hin]; simp)])
            rw [HACC2.out] at HNXT
            clear HST HACC2 hin
            go_wp2_with fail
            go_roundg g
            case measure => omega
            case rel => exact ⟨k + 1, acc', ad, c, by have := HKK.out; omega, by go_num, HNXT, Lib.hid (by have := HL.out; omega), X2, O2, NR, P2, A2, B2⟩
          | false =>
            have HACC2 : Hid (addStep true origin acc' (ch :: rt) = acc' ++ [(⟨tx.toArray⟩ : ByteArray)]) := Lib.hid (by rw [HST.out, if_neg (by rw [hin]; simp)])
            rw [HACC2.out] at HNXT
            clear HST HACC2 hin
            have hnw : (w2.alloc (.cells #[.string (⟨tx.toArray⟩ : ByteArray)] 9)).cell? ⟨w2.heap.size, 0, none⟩ = some (.string (⟨tx.toArray⟩ : ByteArray)) := by rw [World.cell?_alloc_new]; rfl
            have HNW := Lib.hid hnw
            have OA := Lib.hid (O2.out.allocT (.cells #[.string (⟨tx.toArray⟩ : ByteArray)] 9))
            have PA := Lib.hid (P2.out.allocT (.cells #[.string (⟨tx.toArray⟩ : ByteArray)] 9))
            have XA := Lib.hid (X2.out.alloc (.cells #[.string (⟨tx.toArray⟩ : ByteArray)] 9))
            have BA := Lib.hid (B2.out.alloc B2.out.size (.cells #[.string (⟨tx.toArray⟩ : ByteArray)] 9))
            have AA : Hid ((w2.alloc (.cells #[.string (⟨tx.toArray⟩ : ByteArray)] 9)).heap[ab]? = some (.cells cs 25)) := Lib.hid ((heap_alloc_old _ _ (lt_of_block A2.out)).trans A2.out)
            have HSZ2 : Hid ((w2.alloc (.cells #[.string (⟨tx.toArray⟩ : ByteArray)] 9)).heap.size = w2.heap.size + 1) := Lib.hid (by simp)
            have HGP2 : Hid (gp < w2.heap.size) := Lib.hid (World.ownsRow.lt P2.out gp rfl).2
            have HNX : Hid ((Value.slice ad acc'.length c).ownBlock ≠ some lb) := Lib.hid (XA.out.apart OA.out (by decide))
            have HNA : Hid ((Value.slice ad acc'.length c).ownBlock ≠ some ab) := Lib.hid (fun e => by
              rcases OA.out.2 with ⟨h1, h2⟩ | ⟨g', c', cur, hv, -, hg', -⟩
              · rw [h1] at e; simp [Value.ownBlock] at e
              · rw [hv] at e
                simp only [Value.ownBlock, Option.some.injEq] at e
                subst e
                rw [AA.out] at hg'
                simp only [Option.some.injEq, Obj.cells.injEq] at hg'
                exact absurd hg'.2.1 (by decide))
            have L1 : Hid (acc'.length + 1 ≤ maxLen) := Lib.hid (by have := HL.out; have := HACC.out; have := HNP.out; unfold maxLen; omega)
            have L2 : Hid ((acc'.length + 1) * 16 ≤ 140737488355328) := Lib.hid (by have := HL.out; have := HACC.out; have := HNP.out; omega)
            clear hnw
            go_wp2_with (at_builtin; go_loud (refine wpList_text_g rfl (.tmp 38) (.tmp 40) texts_t text_info rfl W0.heap.size (.slice ad acc'.length c) acc' acc'.length ⟨w2.heap.size, 0, none⟩ 1 (⟨tx.toArray⟩ : ByteArray) rfl (by rfl) HNW.out rfl OA.out L1.out L2.out BA.out.size (w2.heap.size + 1) HSZ2.out ?_); intro g5 c5 w5 hown5 hgr5 hor5; have O5 := Lib.hid hown5; have X5 := Lib.hid (XA.out.grown hgr5 HNX.out); have G5 := Lib.hid hgr5; have R5 := Lib.hid hor5; have hlc5 := X5.out.cell; have hlf5 := X5.out.free; clear hown5 hgr5 hor5)
            have A5 : Hid (w5.heap[ab]? = some (.cells cs 25)) := Lib.hid ((G5.out.block ab (lt_of_block AA.out) (fun e => HNA.out e.symm)).trans AA.out)
            have P5 := Lib.hid (World.ownsRow.kept PA.out G5.out (.inr (fun e => NR.out e.symm)))
            have B5 := Lib.hid (BA.out.grown G5.out BA.out.size (fun j hj => (World.ownsRow.lt OA.out j hj).1))
            have N5 : Hid (¬ (Value.slice (some ⟨g5, 0, none⟩) (acc' ++ [(⟨tx.toArray⟩ : ByteArray)]).length c5).ownBlock = some gp) := Lib.hid (fun e => by
              simp only [Value.ownBlock, Option.some.injEq] at e
              subst e
              rcases R5.out with h1 | h1
              · exact NR.out h1
              · have := HGP2.out; omega)
            have e9 : acc'.length + 1 = (acc' ++ [(⟨tx.toArray⟩ : ByteArray)]).length := by simp
            have O6 : Hid (OwnT w5 W0.heap.size 9 (.slice (some ⟨g5, 0, none⟩) (acc' ++ [(⟨tx.toArray⟩ : ByteArray)]).length c5) (acc' ++ [(⟨tx.toArray⟩ : ByteArray)])) := Lib.hid (by rw [← e9]; exact O5.out)
            have hg5l : ¬ g5 = lb := fun e => by
              have h1 := X5.out.apart O5.out (by decide)
              simp only [Value.ownBlock, ne_eq, Option.some.injEq] at h1
              exact h1 e
            have O7 := Lib.hid (ownsRow_setCell_other O6.out (a := ⟨lb, 0, none⟩) (by simp only [Value.ownBlock, ne_eq, Option.some.injEq]; exact hg5l) (.slice (some ⟨g5, 0, none⟩) (acc' ++ [(⟨tx.toArray⟩ : ByteArray)]).length c5))
            have X7 := Lib.hid (X5.out.set (.slice (some ⟨g5, 0, none⟩) (acc' ++ [(⟨tx.toArray⟩ : ByteArray)]).length c5))
            have P7 := Lib.hid (ownsRow_setCell_other P5.out (a := ⟨lb, 0, none⟩) (X5.out.apart P5.out (by decide)) (.slice (some ⟨g5, 0, none⟩) (acc' ++ [(⟨tx.toArray⟩ : ByteArray)]).length c5))
            have A7 : Hid ((w5.setCell ⟨lb, 0, none⟩ (.slice (some ⟨g5, 0, none⟩) (acc' ++ [(⟨tx.toArray⟩ : ByteArray)]).length c5)).heap[ab]? = some (.cells cs 25)) := Lib.hid ((heap_setCell_other w5 _ ab _ (fun e => HNE.out e.symm)).trans A5.out)
            have B7 := Lib.hid (B5.out.setCell (p := ⟨lb, 0, none⟩) hlb (.slice (some ⟨g5, 0, none⟩) (acc' ++ [(⟨tx.toArray⟩ : ByteArray)]).length c5))
            have E9 := Lib.hid e9
            clear e9 hlc5 hlf5 hlc hlf hsc
            rw [E9.out]
            go_roundg g
            case measure => omega
            case rel => exact ⟨k + 1, acc' ++ [(⟨tx.toArray⟩ : ByteArray)], _, c5, by have := HKK.out; omega, by go_num, HNXT, Lib.hid (by have := HL.out; simp; omega), X7, O7, N5, P7, A7, B7⟩
        · skip
          go_wp2_with fail
          refine HCT.out.mono ?_
          rintro e w3 ⟨rfl, rfl⟩
          cases hin : inB acc' (⟨tx.toArray⟩ : ByteArray) with
          | true =>
            have HACC2 : Hid (addStep false origin acc' (ch :: rt) = acc') := Lib.hid (by rw [HST.out, if_pos (by rw [hin]; simp)])
            rw [HACC2.out] at HNXT
            clear HST HACC2 hin
            go_wp2_with fail
            go_roundg g
            case measure => omega
            case rel => exact ⟨k + 1, acc', ad, c, by have := HKK.out; omega, by go_num, HNXT, Lib.hid (by have := HL.out; omega), X2, O2, NR, P2, A2, B2⟩
          | false =>
            have HACC2 : Hid (addStep false origin acc' (ch :: rt) = acc' ++ [(⟨tx.toArray⟩ : ByteArray)]) := Lib.hid (by rw [HST.out, if_neg (by rw [hin]; simp)])
            rw [HACC2.out] at HNXT
            clear HST HACC2 hin
            have hnw : (w2.alloc (.cells #[.string (⟨tx.toArray⟩ : ByteArray)] 9)).cell? ⟨w2.heap.size, 0, none⟩ = some (.string (⟨tx.toArray⟩ : ByteArray)) := by rw [World.cell?_alloc_new]; rfl
            have HNW := Lib.hid hnw
            have OA := Lib.hid (O2.out.allocT (.cells #[.string (⟨tx.toArray⟩ : ByteArray)] 9))
            have PA := Lib.hid (P2.out.allocT (.cells #[.string (⟨tx.toArray⟩ : ByteArray)] 9))
            have XA := Lib.hid (X2.out.alloc (.cells #[.string (⟨tx.toArray⟩ : ByteArray)] 9))
            have BA := Lib.hid (B2.out.alloc B2.out.size (.cells #[.string (⟨tx.toArray⟩ : ByteArray)] 9))
            have AA : Hid ((w2.alloc (.cells #[.string (⟨tx.toArray⟩ : ByteArray)] 9)).heap[ab]? = some (.cells cs 25)) := Lib.hid ((heap_alloc_old _ _ (lt_of_block A2.out)).trans A2.out)
            have HSZ2 : Hid ((w2.alloc (.cells #[.string (⟨tx.toArray⟩ : ByteArray)] 9)).heap.size = w2.heap.size + 1) := Lib.hid (by simp)
            have HGP2 : Hid (gp < w2.heap.size) := Lib.hid (World.ownsRow.lt P2.out gp rfl).2
            have HNX : Hid ((Value.slice ad acc'.length c).ownBlock ≠ some lb) := Lib.hid (XA.out.apart OA.out (by decide))
            have HNA : Hid ((Value.slice ad acc'.length c).ownBlock ≠ some ab) := Lib.hid (fun e => by
              rcases OA.out.2 with ⟨h1, h2⟩ | ⟨g', c', cur, hv, -, hg', -⟩
              · rw [h1] at e; simp [Value.ownBlock] at e
              · rw [hv] at e
                simp only [Value.ownBlock, Option.some.injEq] at e
                subst e
                rw [AA.out] at hg'
                simp only [Option.some.injEq, Obj.cells.injEq] at hg'
                exact absurd hg'.2.1 (by decide))
            have L1 : Hid (acc'.length + 1 ≤ maxLen) := Lib.hid (by have := HL.out; have := HACC.out; have := HNP.out; unfold maxLen; omega)
            have L2 : Hid ((acc'.length + 1) * 16 ≤ 140737488355328) := Lib.hid (by have := HL.out; have := HACC.out; have := HNP.out; omega)
            clear hnw
            go_wp2_with (at_builtin; go_loud (refine wpList_text_g rfl (.tmp 38) (.tmp 40) texts_t text_info rfl W0.heap.size (.slice ad acc'.length c) acc' acc'.length ⟨w2.heap.size, 0, none⟩ 1 (⟨tx.toArray⟩ : ByteArray) rfl (by rfl) HNW.out rfl OA.out L1.out L2.out BA.out.size (w2.heap.size + 1) HSZ2.out ?_); intro g5 c5 w5 hown5 hgr5 hor5; have O5 := Lib.hid hown5; have X5 := Lib.hid (XA.out.grown hgr5 HNX.out); have G5 := Lib.hid hgr5; have R5 := Lib.hid hor5; have hlc5 := X5.out.cell; have hlf5 := X5.out.free; clear hown5 hgr5 hor5)
            have A5 : Hid (w5.heap[ab]? = some (.cells cs 25)) := Lib.hid ((G5.out.block ab (lt_of_block AA.out) (fun e => HNA.out e.symm)).trans AA.out)
            have P5 := Lib.hid (World.ownsRow.kept PA.out G5.out (.inr (fun e => NR.out e.symm)))
            have B5 := Lib.hid (BA.out.grown G5.out BA.out.size (fun j hj => (World.ownsRow.lt OA.out j hj).1))
            have N5 : Hid (¬ (Value.slice (some ⟨g5, 0, none⟩) (acc' ++ [(⟨tx.toArray⟩ : ByteArray)]).length c5).ownBlock = some gp) := Lib.hid (fun e => by
              simp only [Value.ownBlock, Option.some.injEq] at e
              subst e
              rcases R5.out with h1 | h1
              · exact NR.out h1
              · have := HGP2.out; omega)
            have e9 : acc'.length + 1 = (acc' ++ [(⟨tx.toArray⟩ : ByteArray)]).length := by simp
            have O6 : Hid (OwnT w5 W0.heap.size 9 (.slice (some ⟨g5, 0, none⟩) (acc' ++ [(⟨tx.toArray⟩ : ByteArray)]).length c5) (acc' ++ [(⟨tx.toArray⟩ : ByteArray)])) := Lib.hid (by rw [← e9]; exact O5.out)
            have hg5l : ¬ g5 = lb := fun e => by
              have h1 := X5.out.apart O5.out (by decide)
              simp only [Value.ownBlock, ne_eq, Option.some.injEq] at h1
              exact h1 e
            have O7 := Lib.hid (ownsRow_setCell_other O6.out (a := ⟨lb, 0, none⟩) (by simp only [Value.ownBlock, ne_eq, Option.some.injEq]; exact hg5l) (.slice (some ⟨g5, 0, none⟩) (acc' ++ [(⟨tx.toArray⟩ : ByteArray)]).length c5))
            have X7 := Lib.hid (X5.out.set (.slice (some ⟨g5, 0, none⟩) (acc' ++ [(⟨tx.toArray⟩ : ByteArray)]).length c5))
            have P7 := Lib.hid (ownsRow_setCell_other P5.out (a := ⟨lb, 0, none⟩) (X5.out.apart P5.out (by decide)) (.slice (some ⟨g5, 0, none⟩) (acc' ++ [(⟨tx.toArray⟩ : ByteArray)]).length c5))
            have A7 : Hid ((w5.setCell ⟨lb, 0, none⟩ (.slice (some ⟨g5, 0, none⟩) (acc' ++ [(⟨tx.toArray⟩ : ByteArray)]).length c5)).heap[ab]? = some (.cells cs 25)) := Lib.hid ((heap_setCell_other w5 _ ab _ (fun e => HNE.out e.symm)).trans A5.out)
            have B7 := Lib.hid (B5.out.setCell (p := ⟨lb, 0, none⟩) hlb (.slice (some ⟨g5, 0, none⟩) (acc' ++ [(⟨tx.toArray⟩ : ByteArray)]).length c5))
            have E9 := Lib.hid e9
            clear e9 hlc5 hlf5 hlc hlf hsc
            rw [E9.out]
            go_roundg g
            case measure => omega
            case rel => exact ⟨k + 1, acc' ++ [(⟨tx.toArray⟩ : ByteArray)], _, c5, by have := HKK.out; omega, by go_num, HNXT, Lib.hid (by have := HL.out; simp; omega), X7, O7, N5, P7, A7, B7⟩
        · skip
          have HACC2 : Hid (addStep true origin acc' (ch :: rt) = acc') := Lib.hid (by rw [HST.out, if_pos (by simp)])
          rw [HACC2.out] at HNXT
          clear HST HACC2
          go_wp2_with fail
          go_roundg g
          case measure => omega
          case rel => exact ⟨k + 1, acc', ad, c, by have := HKK.out; omega, by go_num, HNXT, Lib.hid (by have := HL.out; omega), X2, O2, NR, P2, A2, B2⟩
end Go.Proofs.YtppeapafnnanbaaDoor
