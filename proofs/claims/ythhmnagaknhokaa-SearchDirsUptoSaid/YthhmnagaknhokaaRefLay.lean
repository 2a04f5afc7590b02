/- Layer 14, the document's answer: a list's directories behind those that are there. -/
import Derived.Test.YthhmnagaknhokaaRefCut
import Derived.Test.YthhmnagaknhokaaAdd
namespace Go.Proofs.Ythhmnagaknhokaa
open Go.RowKit
set_option linter.unusedVariables false
set_option linter.unusedSimpArgs false

/-- the directories so far, and who asks -/
def LSt (W0 : World) (ab : Nat) (cs : Array Value) (v : Value) (acc : List ByteArray) (w : World) : Prop :=
  OwnT w W0.heap.size 9 v acc ∧ w.heap[ab]? = some (.cells cs 28) ∧ Below W0.heap.size W0 w
def LayAns (W0 : World) (ab : Nat) (cs : Array Value) (R : List ByteArray) (e : Ending) (w' : World) : Prop :=
  ∃ ad c, e = .returned (.slice ad R.length c) ∧ LSt W0 ab cs (.slice ad R.length c) R w'
theorem LSt.below {W0 w w' : World} {ab : Nat} {cs : Array Value} {v : Value} {acc : List ByteArray} (h : LSt W0 ab cs v acc w) (hb : Below w.heap.size w w') : LSt W0 ab cs v acc w' :=
  ⟨h.1.below hb, (hb.block _ (lt_of_block h.2.1)).trans h.2.1, h.2.2.trans (hb.mono h.2.2.size)⟩
theorem inB_snoc (T : List ByteArray) (m : Nat) (hm : m < T.length) (x : ByteArray) : inB (T.take (m + 1)) x = (inB (T.take m) x || ((T.getD m .empty).toList == x.toList)) := by
  unfold inB
  rw [List.take_succ_eq_append_getElem hm, List.any_append]
  simp [List.getD, hm, Lib.toList_data]

set_option maxRecDepth 100000 in
set_option maxHeartbeats 8000000 in
theorem refLay_any (p : Nat → Bool) (W0 : World) (ab : Nat) (cs : Array Value) (ad0 : Option Addr) (c0 : Nat) (acc : List ByteArray) (secure : Bool) (list sep origin : ByteArray) (w : World) (hd : LSt W0 ab cs (.slice ad0 acc.length c0) acc w)
    (hs : list.size ≤ 1099511627776) (ho : origin.size ≤ 140737488351232) (hsep : sep.size ≤ 64) (hp : ∀ c : UInt8, amongF sep.data.toList c = p c.toNat) (hE : ∀ l ∈ cutF p list.data.toList, (expF (mkT l) origin).1.length ≤ 140737488355328 ∧ l.length ≤ 140737488351232) (hacc : acc.length + (cutF p list.data.toList).length ≤ 1099511627776) :
    Calls Try.prog 21 #[.slice ad0 acc.length c0, .string list, .string sep, .string origin, .bool secure] w (LayAns W0 ab cs (addF secure origin acc (cutF p list.data.toList))) := by
  have HCUT := Lib.hid (refCut_any p list sep w hs hsep hp)
  have hpos : 0 < (cutF p list.data.toList).length := cutGo_pos p _ _
  obtain ⟨pl, hpl⟩ : ∃ pl, cutF p list.data.toList = pl := ⟨_, rfl⟩
  rw [hpl] at HCUT hE hacc hpos ⊢
  obtain ⟨R, hR⟩ : ∃ R, addF secure origin acc pl = R := ⟨_, rfl⟩
  have HR : Hid (addF secure origin acc (pl.drop 0) = R) := Lib.hid hR
  rw [hR]
  have HEX := Lib.hid hE
  have HACC := Lib.hid hacc
  have HOR := Lib.hid ho
  have D0 := Lib.hid hd
  clear hp hs hsep hpl hR hE hacc ho hd
  go_enter Try.func21, Try.ntmps21
  go_wp2_with fail
  refine HCUT.out.mono ?_
  rintro e w1 ⟨pa, pc, rfl, hpo, hb1⟩
  obtain ⟨gp, rfl⟩ : ∃ gp, pa = some ⟨gp, 0, none⟩ := by
    rcases hpo.2 with ⟨h1, h2⟩ | ⟨g, c', cur, hv, -⟩
    · simp only [Value.slice.injEq, List.length_map] at h1; omega
    · simp only [Value.slice.injEq] at hv
      exact ⟨g, hv.1⟩
  have hgp := (World.ownsRow.lt hpo gp rfl).1
  have PO := Lib.hid hpo
  have D1 := Lib.hid (D0.out.below hb1)
  have N1 : Hid (¬ (Value.slice ad0 acc.length c0).ownBlock = some gp) := Lib.hid (fun e => by
    have := (World.ownsRow.lt D0.out.1 gp e).2
    omega)
  obtain ⟨np, hnp⟩ : ∃ np, (pl.map mkT).length = np := ⟨_, rfl⟩
  have HNP : Hid (pl.length = np) := Lib.hid (by rw [← hnp, List.length_map])
  rw [hnp] at PO ⊢
  have hnpb : np ≤ 1099511627776 := by have := HNP.out; have := HACC.out; omega
  clear hpo hb1 hgp hnp HCUT D0
  go_wp2_with fail
  go_loopg [0, 12] np (fun g lv i wr => ∃ (k : Nat) (acc' : List ByteArray) (ad : Option Addr) (c : Nat), k + g = np ∧ lv = .slice ad acc'.length c ∧ i = .int .i64 (k : Int) ∧ Hid (addF secure origin acc' (pl.drop k) = R) ∧ Hid (acc'.length ≤ acc.length + k) ∧
    Hid (LSt W0 ab cs (.slice ad acc'.length c) acc' wr) ∧ Hid (¬ (Value.slice ad acc'.length c).ownBlock = some gp) ∧ Hid (OwnT wr w.heap.size 9 (.slice (some ⟨gp, 0, none⟩) np pc) (pl.map mkT)))
  case atStart => exact ⟨0, acc, ad0, c0, by omega, rfl, rfl, HR, Lib.hid (Nat.le_refl _), D1, N1, PO⟩
  case round =>
    obtain ⟨k, acc', ad, c, hk, rfl, rfl, HG, HL, DR, NR, PR⟩ := hrel
    clear D1 N1 PO HR
    cases gk with
    | zero =>
      have hke : k = np := by omega
      subst hke
      have HRE : Hid (R = acc') := Lib.hid (by rw [← HG.out, List.drop_of_length_le (by rw [HNP.out]; exact Nat.le_refl _)]; rfl)
      clear hk
      go_wp2_with fail
      go_ret
      rw [HRE.out]
      exact ⟨ad, c, rfl, DR.out⟩
    | succ g =>
      have hlt : k < np := by omega
      obtain ⟨tb, to, e1, htlt, htc⟩ := PR.out.row.1 k (by rw [List.length_map, HNP.out]; exact hlt)
      cases e1
      have hkpl : k < pl.length := by rw [HNP.out]; exact hlt
      have hpart : (pl.map mkT).getD k .empty = mkT pl[k] := by simp [List.getD, hkpl]
      rw [hpart, Nat.zero_add] at htc
      have HDROP : Hid (pl.drop k = pl[k] :: pl.drop (k + 1)) := Lib.hid (List.drop_eq_getElem_cons hkpl)
      have HEK := Lib.hid (HEX.out pl[k] (List.getElem_mem _))
      have HKK := Lib.hid hk
      generalize pl[k] = part at *
      clear hpart hkpl hk
      have HNXT : Hid (addF secure origin (addStep secure origin acc' part) (pl.drop (k + 1)) = R) := Lib.hid (by rw [← HG.out, HDROP.out]; rfl)
      have HXP := Lib.hid (refExpand_any (mkT part) origin wr (by have := HEK.out.2; show part.toArray.size ≤ _; simp; omega) (by have := HOR.out; omega) HEK.out.1)
      have HST : Hid (addStep secure origin acc' part = if ((expF (mkT part) origin).2 && secure) || inB acc' (dirOf origin part) then acc' else acc' ++ [dirOf origin part]) := Lib.hid rfl
      have HDO : Hid (dirOf origin part = if part = [] then mkT [47] else mkT (expF (mkT part) origin).1) := Lib.hid rfl
      obtain ⟨tx, own, hex⟩ : ∃ tx own, expF (mkT part) origin = (tx, own) := ⟨_, _, rfl⟩
      rw [hex] at HXP HST HDO
      obtain ⟨D, hD⟩ : ∃ D, dirOf origin part = D := ⟨_, rfl⟩
      rw [hD] at HST HDO
      have HTC := Lib.hid htc
      have HTL := Lib.hid htlt
      clear hex hD HEK htlt
      go_wp2_with fail
      refine HXP.out.mono ?_
      rintro e w2 ⟨rfl, hb2⟩
      have D2 := Lib.hid (DR.out.below hb2); have P2 := Lib.hid (PR.out.below hb2)
      have htc2 : w2.cell? ⟨gp, k, none⟩ = some (.string (mkT part)) := (hb2.cell (p := ⟨gp, k, none⟩) HTL.out).trans HTC.out
      clear hb2 HXP DR PR htc HTC HTL
      obtain ⟨nx, hnx⟩ : ∃ nx, addStep secure origin acc' part = nx := ⟨_, rfl⟩
      rw [hnx] at HNXT HST
      have HLA : Hid (acc'.length ≤ 1099511627776) := Lib.hid (by have := HL.out; have := HACC.out; have := HNP.out; omega)
      obtain ⟨f, hf⟩ : ∃ f, (own && secure) = f := ⟨_, rfl⟩
      have HF := Lib.hid hf
      rw [hf] at HST
      clear hnx hf
      rcases part with _ | ⟨ch, rt⟩ <;> cases own
      case' nil.false => have HDE : Hid (D = (⟨#[47]⟩ : ByteArray)) := Lib.hid (by rw [HDO.out]; rfl)
      case' nil.true => have HDE : Hid (D = (⟨#[47]⟩ : ByteArray)) := Lib.hid (by rw [HDO.out]; rfl)
      case' cons.false => have HDE : Hid (D = (⟨tx.toArray⟩ : ByteArray)) := Lib.hid (by rw [HDO.out]; rfl)
      case' cons.true => have HDE : Hid (D = (⟨tx.toArray⟩ : ByteArray)) := Lib.hid (by rw [HDO.out]; rfl)
      all_goals
        clear HDO
        unfold mkT at *
        go_wp2_with fail
        rw [← HDE.out]
        go_loopg [15, 16] acc'.length (fun g2 ev mv wq => ∃ (m : Nat) (e : Bool), m + g2 = acc'.length ∧ ev = .bool e ∧ mv = .int .i64 (m : Int) ∧ Hid (e = (f || inB (acc'.take m) D)) ∧ w2 = wq)
        case atStart => exact ⟨0, _, by omega, rfl, rfl, Lib.hid (by rw [← HF.out]; cases secure <;> rfl), rfl⟩
        case round =>
          obtain ⟨m, e, hm, rfl, rfl, HEE, rfl⟩ := hrel
          cases gk with
          | zero =>
            have hm0 : ¬ (m : Int) < (acc'.length : Int) := by omega
            have HEF : Hid (e = (f || inB acc' D)) := Lib.hid (by rw [HEE.out, List.take_of_length_le (by omega)])
            clear hm
            cases e with
            | true =>
              have HNX : Hid (nx = acc') := Lib.hid (by rw [HST.out, if_pos HEF.out.symm])
              rw [HNX.out] at HNXT
              go_wp2_with fail
              go_roundg g
              case measure => omega
              case rel => exact ⟨k + 1, acc', ad, c, by have := HKK.out; omega, rfl, by go_num, HNXT, Lib.hid (by have := HL.out; omega), D2, NR, P2⟩
            | false =>
              have HNX : Hid (nx = acc' ++ [D]) := Lib.hid (by rw [HST.out, if_neg (by rw [← HEF.out]; simp)])
              rw [HNX.out] at HNXT
              obtain ⟨o2, a2, b2⟩ := D2.out
              have O2 := Lib.hid o2; have A2 := Lib.hid a2; have B2 := Lib.hid b2
              have hnw : (w2.alloc (.cells #[.string D] 9)).cell? ⟨w2.heap.size, 0, none⟩ = some (.string D) := by rw [World.cell?_alloc_new]; rfl
              have HNW := Lib.hid hnw
              have OA := Lib.hid (O2.out.allocT (.cells #[.string D] 9))
              have PA := Lib.hid (P2.out.allocT (.cells #[.string D] 9))
              have BA := Lib.hid (B2.out.alloc B2.out.size (.cells #[.string D] 9))
              have AA : Hid ((w2.alloc (.cells #[.string D] 9)).heap[ab]? = some (.cells cs 28)) := Lib.hid ((heap_alloc_old _ _ (lt_of_block A2.out)).trans A2.out)
              have HSZ2 : Hid ((w2.alloc (.cells #[.string D] 9)).heap.size = w2.heap.size + 1) := Lib.hid (by simp)
              have HGP2 : Hid (gp < w2.heap.size) := Lib.hid (World.ownsRow.lt P2.out gp rfl).2
              have HNA : Hid ((Value.slice ad acc'.length c).ownBlock ≠ some ab) := Lib.hid (own_ne OA.out AA.out (by decide))
              have L1 : Hid (acc'.length + 1 ≤ maxLen) := Lib.hid (by have := HLA.out; unfold maxLen; omega)
              have L2 : Hid ((acc'.length + 1) * 16 ≤ 140737488355328) := Lib.hid (by have := HLA.out; omega)
              clear hnw o2 a2 b2
              go_wp2_with (at_builtin; go_loud (refine wpList_text_g rfl (.tmp 61) (.tmp 63) texts_t text_info rfl W0.heap.size (.slice ad acc'.length c) acc' acc'.length ⟨w2.heap.size, 0, none⟩ 1 D rfl (by rfl) HNW.out rfl OA.out L1.out L2.out BA.out.size (w2.heap.size + 1) HSZ2.out ?_); intro g5 c5 w5 hown5 hgr5 hor5; have O5 := Lib.hid hown5; have G5 := Lib.hid hgr5; have R5 := Lib.hid hor5; clear hown5 hgr5 hor5)
              have A5 : Hid (w5.heap[ab]? = some (.cells cs 28)) := Lib.hid ((G5.out.block ab (lt_of_block AA.out) (fun e => HNA.out e.symm)).trans AA.out)
              have P5 := Lib.hid (World.ownsRow.kept PA.out G5.out (.inr (fun e => NR.out e.symm)))
              have B5 := Lib.hid (BA.out.grown G5.out BA.out.size (fun j hj => (World.ownsRow.lt OA.out j hj).1))
              have N5 : Hid (¬ (Value.slice (some ⟨g5, 0, none⟩) (acc' ++ [D]).length c5).ownBlock = some gp) := Lib.hid (fun e => by
                simp only [Value.ownBlock, Option.some.injEq] at e
                subst e
                rcases R5.out with h1 | h1
                · exact NR.out h1
                · have := HGP2.out; omega)
              have e9 : acc'.length + 1 = (acc' ++ [D]).length := by simp
              have O6 : Hid (OwnT w5 W0.heap.size 9 (.slice (some ⟨g5, 0, none⟩) (acc' ++ [D]).length c5) (acc' ++ [D])) := Lib.hid (by rw [← e9]; exact O5.out)
              have E9 := Lib.hid e9
              clear e9
              go_wp2_with fail
              go_roundg g
              case measure => omega
              case rel => exact ⟨k + 1, acc' ++ [D], _, c5, by have := HKK.out; omega, by rw [← E9.out], by go_num, HNXT, Lib.hid (by have := HL.out; simp; omega), Lib.hid ⟨O6.out, A5.out, B5.out⟩, N5, P5⟩
          | succ g2 =>
            have hmi : (m : Int) < (acc'.length : Int) := by omega
            have hmn : m < acc'.length := by omega
            have HSN := Lib.hid (inB_snoc acc' m hmn D)
            have HM := Lib.hid hm
            have hmb : m ≤ 1099511627776 := by have := HLA.out; omega
            clear hm
            cases e with
            | true =>
              have HE2 : Hid (true = (f || inB (acc'.take (m + 1)) D)) := Lib.hid (by rw [HSN.out, ← Bool.or_assoc, ← HEE.out]; rfl)
              clear hmn
              go_wp2_with fail
              go_roundg g2
              case measure => omega
              case rel => exact ⟨m + 1, true, by have := HM.out; omega, rfl, by go_num, HE2, rfl⟩
            | false =>
              obtain ⟨lb, lo, e1, -, hlc⟩ := D2.out.1.row.1 m hmn
              obtain ⟨q, hq⟩ : ∃ q, ((acc'.getD m .empty).toList == D.toList) = q := ⟨_, rfl⟩
              have HE2 : Hid (q = (f || inB (acc'.take (m + 1)) D)) := Lib.hid (by rw [HSN.out, ← Bool.or_assoc, ← HEE.out, hq]; rfl)
              subst e1
              clear hmn HSN
              generalize acc'.getD m .empty = y at *
              go_wp2_with fail
              go_roundg g2
              case measure => omega
              case rel => exact ⟨m + 1, q, by have := HM.out; omega, rfl, by go_num, HE2, rfl⟩
end Go.Proofs.Ythhmnagaknhokaa
