/- Layer 14, the document's answer: a list's directories behind those that are there. -/
import Derived.Test.YtppeapafnnanbaaDoorRefExp
import Derived.Test.YtppeapafnnanbaaDoorAdd
import Derived.Test.YtppeapafnnanbaaDoorDirs
namespace Go.Proofs.YtppeapafnnanbaaDoor
open Go.RowKit
set_option linter.unusedVariables false
set_option linter.unusedSimpArgs false

/-- the directories so far, and who asks -/
def LSt (W0 : World) (ab : Nat) (cs : Array Value) (v : Value) (acc : List ByteArray) (w : World) : Prop :=
  OwnT w W0.heap.size 9 v acc ∧ w.heap[ab]? = some (.cells cs 25) ∧ Below W0.heap.size W0 w
def LayAns (W0 : World) (ab : Nat) (cs : Array Value) (R : List ByteArray) (e : Ending) (w' : World) : Prop :=
  ∃ ad c, e = .returned (.slice ad R.length c) ∧ LSt W0 ab cs (.slice ad R.length c) R w'
theorem LSt.below {W0 w w' : World} {ab : Nat} {cs : Array Value} {v : Value} {acc : List ByteArray} (h : LSt W0 ab cs v acc w) (hb : Below w.heap.size w w') : LSt W0 ab cs v acc w' :=
  ⟨h.1.below hb, (hb.block _ (lt_of_block h.2.1)).trans h.2.1, h.2.2.trans (hb.mono h.2.2.size)⟩
theorem inB_snoc (T : List ByteArray) (m : Nat) (hm : m < T.length) (x : ByteArray) : inB (T.take (m + 1)) x = (inB (T.take m) x || ((T.getD m .empty).toList == x.toList)) := by
  unfold inB
  rw [List.take_succ_eq_append_getElem hm, List.any_append]
  simp [List.getD, hm, Lib.toList_data]

set_option maxRecDepth 100000 in
set_option maxHeartbeats 8000000 in
theorem refLay_any (p : Nat → Bool) (W0 : World) (ab : Nat) (cs : Array Value) (ad0 : Option Addr) (c0 : Nat) (acc : List ByteArray) (secure : Bool) (list sep origin : ByteArray) (w : World) (hd : LSt W0 ab cs (.slice ad0 acc.length c0) acc w)
    (hs : list.size ≤ 1099511627776) (ho : origin.size ≤ 140737488351232) (hsep : sep.size ≤ 64) (hp : ∀ c : UInt8, amongF sep.data.toList c = p c.toNat) (hE : ∀ l ∈ cutF p list.data.toList, (expF (mkT l) origin).1.length ≤ 140737488355328 ∧ l.length ≤ 140737488351232) (hacc : acc.length + (cutF p list.data.toList).length ≤ 1099511627776) :
    Calls Tryd.prog 43 #[.slice ad0 acc.length c0, .string list, .string sep, .string origin, .bool secure] w (LayAns W0 ab cs (addF secure origin acc (cutF p list.data.toList))) := by
  have HCUT := Lib.hid (refCut_any p list sep w hs hsep hp)
  have hpos : 0 < (cutF p list.data.toList).length := cutGo_pos p _ _
  obtain ⟨pl, hpl⟩ : ∃ pl, cutF p list.data.toList = pl := ⟨_, rfl⟩
  rw [hpl] at HCUT hE hacc hpos ⊢
  obtain ⟨R, hR⟩ : ∃ R, addF secure origin acc pl = R := ⟨_, rfl⟩
  have HR : Hid (addF secure origin acc (pl.drop 0) = R) := Lib.hid hR
  rw [hR]
  have HEX := Lib.hid hE
  have HACC := Lib.hid hacc
  have HOR := Lib.hid ho
  have D0 := Lib.hid hd
  clear hp hs hsep hpl hR hE hacc ho hd
  go_enter Tryd.func43, Tryd.ntmps43
  go_wp2_with fail
  refine HCUT.out.mono ?_
  rintro e w1 ⟨pa, pc, rfl, hpo, hb1⟩
  obtain ⟨gp, rfl⟩ : ∃ gp, pa = some ⟨gp, 0, none⟩ := by
    rcases hpo.2 with ⟨h1, h2⟩ | ⟨g, c', cur, hv, -⟩
    · simp only [Value.slice.injEq, List.length_map] at h1; omega
    · simp only [Value.slice.injEq] at hv
      exact ⟨g, hv.1⟩
  have hgp := (World.ownsRow.lt hpo gp rfl).1
  have PO := Lib.hid hpo
  have D1 := Lib.hid (D0.out.below hb1)
  have N1 : Hid (¬ (Value.slice ad0 acc.length c0).ownBlock = some gp) := Lib.hid (fun e => by
    have := (World.ownsRow.lt D0.out.1 gp e).2
    omega)
  obtain ⟨np, hnp⟩ : ∃ np, (pl.map mkT).length = np := ⟨_, rfl⟩
  have HNP : Hid (pl.length = np) := Lib.hid (by rw [← hnp, List.length_map])
  rw [hnp] at PO ⊢
  have hnpb : np ≤ 1099511627776 := by have := HNP.out; have := HACC.out; omega
  clear hpo hb1 hgp hnp HCUT D0
  go_wp2_with fail
  go_loopg [0, 12] np (fun g lv i wr => ∃ (k : Nat) (acc' : List ByteArray) (ad : Option Addr) (c : Nat), k + g = np ∧ lv = .slice ad acc'.length c ∧ i = .int .i64 (k : Int) ∧ Hid (addF secure origin acc' (pl.drop k) = R) ∧ Hid (acc'.length ≤ acc.length + k) ∧
    Hid (LSt W0 ab cs (.slice ad acc'.length c) acc' wr) ∧ Hid (¬ (Value.slice ad acc'.length c).ownBlock = some gp) ∧ Hid (OwnT wr w.heap.size 9 (.slice (some ⟨gp, 0, none⟩) np pc) (pl.map mkT)))
  case atStart => exact ⟨0, acc, ad0, c0, by omega, rfl, rfl, HR, Lib.hid (Nat.le_refl _), D1, N1, PO⟩
  case round =>
    obtain ⟨k, acc', ad, c, hk, rfl, rfl, HG, HL, DR, NR, PR⟩ := hrel
    clear D1 N1 PO HR
    cases gk with
    | zero =>
      have hke : k = np := by omega
      subst hke
      have HRE : Hid (R = acc') := Lib.hid (by rw [← HG.out, List.drop_of_length_le (by rw [HNP.out]; exact Nat.le_refl _)]; rfl)
      clear hk
      go_wp2_with fail
      go_ret
      rw [HRE.out]
      exact ⟨ad, c, rfl, DR.out⟩
    | succ g =>
      have hlt : k < np := by omega
      obtain ⟨tb, ofs, e1, htlt, htc⟩ := PR.out.row.1 k (by rw [List.length_map, HNP.out]; exact hlt)
      cases e1
      have hkpl : k < pl.length := by rw [HNP.out]; exact hlt
      have hpart : (pl.map mkT).getD k .empty = mkT pl[k] := by simp [List.getD, hkpl]
      rw [hpart, Nat.zero_add] at htc
      have HDROP : Hid (pl.drop k = pl[k] :: pl.drop (k + 1)) := Lib.hid (List.drop_eq_getElem_cons hkpl)
      have HEK := Lib.hid (HEX.out pl[k] (List.getElem_mem _))
      have HKK := Lib.hid hk
      generalize pl[k] = part at *
      clear hpart hkpl hk
      have HNXT : Hid (addF secure origin (addStep secure origin acc' part) (pl.drop (k + 1)) = R) := Lib.hid (by rw [← HG.out, HDROP.out]; rfl)
      have HXP := Lib.hid (refExpand_any (mkT part) origin wr (by have := HEK.out.2; show part.toArray.size ≤ _; simp; omega) (by have := HOR.out; omega) HEK.out.1)
      have HST : Hid (addStep secure origin acc' part = if ((expF (mkT part) origin).2 && secure) || inB acc' (dirOf origin part) then acc' else acc' ++ [dirOf origin part]) := Lib.hid rfl
      have HDO : Hid (dirOf origin part = if part = [] then mkT [47] else mkT (expF (mkT part) origin).1) := Lib.hid rfl
      obtain ⟨tx, own, hex⟩ : ∃ tx own, expF (mkT part) origin = (tx, own) := ⟨_, _, rfl⟩
      rw [hex] at HXP HST HDO
      obtain ⟨D, hD⟩ : ∃ D, dirOf origin part = D := ⟨_, rfl⟩
      rw [hD] at HST HDO
      have HTC := Lib.hid htc
      have HTL := Lib.hid htlt
      clear hex hD HEK htlt
      go_wp2_with fail
      refine HXP.out.mono ?_
      rintro e w2 ⟨rfl, hb2⟩
      have D2 := Lib.hid (DR.out.below hb2); have P2 := Lib.hid (PR.out.below hb2)
      have htc2 : w2.cell? ⟨gp, k, none⟩ = some (.string (mkT part)) := (hb2.cell (p := ⟨gp, k, none⟩) HTL.out).trans HTC.out
      clear hb2 HXP DR PR htc HTC HTL
      obtain ⟨nx, hnx⟩ : ∃ nx, addStep secure origin acc' part = nx := ⟨_, rfl⟩
      rw [hnx] at HNXT HST
      have HLA : Hid (acc'.length ≤ 1099511627776) := Lib.hid (by have := HL.out; have := HACC.out; have := HNP.out; omega)
      obtain ⟨f, hf⟩ : ∃ f, (own && secure) = f := ⟨_, rfl⟩
      have HF := Lib.hid hf
      rw [hf] at HST
      clear hnx hf
      rcases part with _ | ⟨ch, rt⟩ <;> cases own
      case' nil.false => have HDE : Hid (D = (⟨#[47]⟩ : ByteArray)) := Lib.hid (by rw [HDO.out]; rfl)
      case' nil.true => have HDE : Hid (D = (⟨#[47]⟩ : ByteArray)) := Lib.hid (by rw [HDO.out]; rfl)
      case' cons.false => have HDE : Hid (D = (⟨tx.toArray⟩ : ByteArray)) := Lib.hid (by rw [HDO.out]; rfl)
      case' cons.true => have HDE : Hid (D = (⟨tx.toArray⟩ : ByteArray)) := Lib.hid (by rw [HDO.out]; rfl)
      all_goals
        clear HDO
        unfold mkT at *
        go_wp2_with fail
        rw [← HDE.out]
        go_loopg [15, 16] acc'.length (fun g2 ev mv wq => ∃ (m : Nat) (e : Bool), m + g2 = acc'.length ∧ ev = .bool e ∧ mv = .int .i64 (m : Int) ∧ Hid (e = (f || inB (acc'.take m) D)) ∧ w2 = wq)
        case atStart => exact ⟨0, _, by omega, rfl, rfl, Lib.hid (by rw [← HF.out]; cases secure <;> rfl), rfl⟩
        case round =>
          obtain ⟨m, e, hm, rfl, rfl, HEE, rfl⟩ := hrel
          cases gk with
          | zero =>
            have hm0 : ¬ (m : Int) < (acc'.length : Int) := by omega
            have HEF : Hid (e = (f || inB acc' D)) := Lib.hid (by rw [HEE.out, List.take_of_length_le (by omega)])
            clear hm
            cases e with
            | true =>
              have HNX : Hid (nx = acc') := Lib.hid (by rw [HST.out, if_pos HEF.out.symm])
              rw [HNX.out] at HNXT
              go_wp2_with fail
              go_roundg g
              case measure => omega
              case rel => exact ⟨k + 1, acc', ad, c, by have := HKK.out; omega, rfl, by go_num, HNXT, Lib.hid (by have := HL.out; omega), D2, NR, P2⟩
            | false =>
              have HNX : Hid (nx = acc' ++ [D]) := Lib.hid (by rw [HST.out, if_neg (by rw [← HEF.out]; simp)])
              rw [HNX.out] at HNXT
              obtain ⟨o2, a2, b2⟩ := D2.out
              have O2 := Lib.hid o2; have A2 := Lib.hid a2; have B2 := Lib.hid b2
              have hnw : (w2.alloc (.cells #[.string D] 9)).cell? ⟨w2.heap.size, 0, none⟩ = some (.string D) := by rw [World.cell?_alloc_new]; rfl
              have HNW := Lib.hid hnw
              have OA := Lib.hid (O2.out.allocT (.cells #[.string D] 9))
              have PA := Lib.hid (P2.out.allocT (.cells #[.string D] 9))
              have BA := Lib.hid (B2.out.alloc B2.out.size (.cells #[.string D] 9))
              have AA : Hid ((w2.alloc (.cells #[.string D] 9)).heap[ab]? = some (.cells cs 25)) := Lib.hid ((heap_alloc_old _ _ (lt_of_block A2.out)).trans A2.out)
              have HSZ2 : Hid ((w2.alloc (.cells #[.string D] 9)).heap.size = w2.heap.size + 1) := Lib.hid (by simp)
              have HGP2 : Hid (gp < w2.heap.size) := Lib.hid (World.ownsRow.lt P2.out gp rfl).2
              have HNA : Hid ((Value.slice ad acc'.length c).ownBlock ≠ some ab) := Lib.hid (own_ne OA.out AA.out (by decide))
              have L1 : Hid (acc'.length + 1 ≤ maxLen) := Lib.hid (by have := HLA.out; unfold maxLen; omega)
              have L2 : Hid ((acc'.length + 1) * 16 ≤ 140737488355328) := Lib.hid (by have := HLA.out; omega)
              clear hnw o2 a2 b2
              go_wp2_with (at_builtin; go_loud (refine wpList_text_g rfl (.tmp 61) (.tmp 63) texts_t text_info rfl W0.heap.size (.slice ad acc'.length c) acc' acc'.length ⟨w2.heap.size, 0, none⟩ 1 D rfl (by rfl) HNW.out rfl OA.out L1.out L2.out BA.out.size (w2.heap.size + 1) HSZ2.out ?_); intro g5 c5 w5 hown5 hgr5 hor5; have O5 := Lib.hid hown5; have G5 := Lib.hid hgr5; have R5 := Lib.hid hor5; clear hown5 hgr5 hor5)
              have A5 : Hid (w5.heap[ab]? = some (.cells cs 25)) := Lib.hid ((G5.out.block ab (lt_of_block AA.out) (fun e => HNA.out e.symm)).trans AA.out)
              have P5 := Lib.hid (World.ownsRow.kept PA.out G5.out (.inr (fun e => NR.out e.symm)))
              have B5 := Lib.hid (BA.out.grown G5.out BA.out.size (fun j hj => (World.ownsRow.lt OA.out j hj).1))
              have N5 : Hid (¬ (Value.slice (some ⟨g5, 0, none⟩) (acc' ++ [D]).length c5).ownBlock = some gp) := Lib.hid (fun e => by
                simp only [Value.ownBlock, Option.some.injEq] at e
                subst e
                rcases R5.out with h1 | h1
                · exact NR.out h1
                · have := HGP2.out; omega)
              have e9 : acc'.length + 1 = (acc' ++ [D]).length := by simp
              have O6 : Hid (OwnT w5 W0.heap.size 9 (.slice (some ⟨g5, 0, none⟩) (acc' ++ [D]).length c5) (acc' ++ [D])) := Lib.hid (by rw [← e9]; exact O5.out)
              have E9 := Lib.hid e9
              clear e9
              go_wp2_with fail
              go_roundg g
              case measure => omega
              case rel => exact ⟨k + 1, acc' ++ [D], _, c5, by have := HKK.out; omega, by rw [← E9.out], by go_num, HNXT, Lib.hid (by have := HL.out; simp; omega), Lib.hid ⟨O6.out, A5.out, B5.out⟩, N5, P5⟩
          | succ g2 =>
            have hmi : (m : Int) < (acc'.length : Int) := by omega
            have hmn : m < acc'.length := by omega
            have HSN := Lib.hid (inB_snoc acc' m hmn D)
            have HM := Lib.hid hm
            have hmb : m ≤ 1099511627776 := by have := HLA.out; omega
            clear hm
            cases e with
            | true =>
              have HE2 : Hid (true = (f || inB (acc'.take (m + 1)) D)) := Lib.hid (by rw [HSN.out, ← Bool.or_assoc, ← HEE.out]; rfl)
              clear hmn
              go_wp2_with fail
              go_roundg g2
              case measure => omega
              case rel => exact ⟨m + 1, true, by have := HM.out; omega, rfl, by go_num, HE2, rfl⟩
            | false =>
              obtain ⟨lb, lo, e1, -, hlc⟩ := D2.out.1.row.1 m hmn
              obtain ⟨q, hq⟩ : ∃ q, ((acc'.getD m .empty).toList == D.toList) = q := ⟨_, rfl⟩
              have HE2 : Hid (q = (f || inB (acc'.take (m + 1)) D)) := Lib.hid (by rw [HSN.out, ← Bool.or_assoc, ← HEE.out, hq]; rfl)
              subst e1
              clear hmn HSN
              generalize acc'.getD m .empty = y at *
              go_wp2_with fail
              go_roundg g2
              case measure => omega
              case rel => exact ⟨m + 1, q, by have := HM.out; omega, rfl, by go_num, HE2, rfl⟩
end Go.Proofs.YtppeapafnnanbaaDoor
/- Layer 14, the document's answer: the directories in which a library is looked for. -/
namespace Go.Proofs.YtppeapafnnanbaaDoor
open Go.RowKit
set_option linter.unusedVariables false
set_option linter.unusedSimpArgs false

theorem among_colon (c : UInt8) : amongF (⟨#[58]⟩ : ByteArray).data.toList c = colonP c.toNat := by
  show ((58 : UInt8) == c || false) = (c.toNat == 58)
  rw [Bool.or_false, Bool.eq_iff_iff, beq_iff_eq, beq_iff_eq, ← UInt8.toNat_inj]
  exact eq_comm
theorem among_both (c : UInt8) : amongF (⟨#[58, 59]⟩ : ByteArray).data.toList c = bothP c.toNat := by
  show ((58 : UInt8) == c || ((59 : UInt8) == c || false)) = (c.toNat == 58 || c.toNat == 59)
  rw [Bool.or_false, Bool.eq_iff_iff, Bool.or_eq_true, Bool.or_eq_true, beq_iff_eq, beq_iff_eq, beq_iff_eq, beq_iff_eq, ← UInt8.toNat_inj, ← UInt8.toNat_inj]
  exact or_congr eq_comm eq_comm
theorem ask_cell {W0 w : World} {ab : Nat} {cs cs' : Array Value} {v : Value} {acc : List ByteArray} (hcs : cs = cs') (h : LSt W0 ab cs v acc w) (j : Nat) (u : Value) (hj : cs'[j]? = some u) : w.cell? ⟨ab, j, none⟩ = some u := by
  rw [cell_of_row _ _ _ _ _ _ h.2.1, hcs]
  exact hj

set_option maxRecDepth 100000 in
set_option maxHeartbeats 8000000 in
theorem refDirs_ES (name : ByteArray) (env : ByteArray) (ca : Option Addr) (cc : Nat) (w : World) (hok3 : AddOK colonP defaultsF ⟨#[]⟩ []) :
    Calls Tryd.prog 18 #[.agg #[.string name, .slice ca 0 cc, .string env, .bool true]] w fun e w' => (∃ ad c, e = .returned (.slice ad (addF false ⟨#[]⟩ [] (cutF colonP defaultsF.data.toList)).length c) ∧ TRow w' ad (addF false ⟨#[]⟩ [] (cutF colonP defaultsF.data.toList))) ∧ Below w.heap.size w w' := by
  obtain ⟨cs, hcs⟩ : ∃ cs : Array Value, #[.string name, .slice ca 0 cc, .string env, .bool true] = cs := ⟨_, rfl⟩
  have HCS := Lib.hid hcs
  have D0 : Hid (LSt w w.heap.size cs (.slice none 0 0) [] (w.alloc (.cells #[.string name, .slice ca 0 cc, .string env, .bool true] 25))) := Lib.hid ⟨OwnT.nil _ _ _, by rw [← hcs]; exact heap_alloc_new _ _, (Below.refl _ _).alloc (Nat.le_refl _) _⟩
  obtain ⟨R, hR⟩ : ∃ R, (addF false ⟨#[]⟩ [] (cutF colonP defaultsF.data.toList)) = R := ⟨_, rfl⟩
  have HR := Lib.hid hR
  rw [hR]
  have HOK3 := Lib.hid hok3
  have HLAY := Lib.hid (fun (sc : Bool) (ad : Option Addr) (c : Nat) (acc : List ByteArray) (list origin : ByteArray) (w1 : World) (hd : LSt w w.heap.size cs (.slice ad acc.length c) acc w1) (ok : AddOK colonP list origin acc) => refLay_any colonP w w.heap.size cs ad c acc sc list ⟨#[58]⟩ origin w1 hd ok.ls ok.os (by decide) among_colon ok.each ok.many)
  have HLAB := Lib.hid (fun (sc : Bool) (ad : Option Addr) (c : Nat) (acc : List ByteArray) (list origin : ByteArray) (w1 : World) (hd : LSt w w.heap.size cs (.slice ad acc.length c) acc w1) (ok : AddOK bothP list origin acc) => refLay_any bothP w w.heap.size cs ad c acc sc list ⟨#[58, 59]⟩ origin w1 hd ok.ls ok.os (by decide) among_both ok.each ok.many)
  clear hR hcs hok3
  go_enter Tryd.func18, Tryd.ntmps18
  go_wp2_with fail
  refine (HLAY.out false none 0 [] defaultsF ⟨#[]⟩ _ D0.out HOK3.out).mono ?_
  rintro e w7 ⟨ad7, c7, rfl, hd7⟩
  rw [HR.out] at hd7 ⊢
  have D7 := Lib.hid hd7
  clear hd7
  go_wp2_with fail
  go_ret
  exact ⟨⟨ad7, c7, rfl, D7.out.1.row.1⟩, D7.out.2.2⟩
set_option maxRecDepth 100000 in
set_option maxHeartbeats 8000000 in
theorem refDirs_EO (name : ByteArray) (ca : Option Addr) (cc : Nat) (w : World) (hok3 : AddOK colonP defaultsF ⟨#[]⟩ []) :
    Calls Tryd.prog 18 #[.agg #[.string name, .slice ca 0 cc, .string ⟨#[]⟩, .bool false]] w fun e w' => (∃ ad c, e = .returned (.slice ad (addF false ⟨#[]⟩ [] (cutF colonP defaultsF.data.toList)).length c) ∧ TRow w' ad (addF false ⟨#[]⟩ [] (cutF colonP defaultsF.data.toList))) ∧ Below w.heap.size w w' := by
  obtain ⟨cs, hcs⟩ : ∃ cs : Array Value, #[.string name, .slice ca 0 cc, .string ⟨#[]⟩, .bool false] = cs := ⟨_, rfl⟩
  have HCS := Lib.hid hcs
  have D0 : Hid (LSt w w.heap.size cs (.slice none 0 0) [] (w.alloc (.cells #[.string name, .slice ca 0 cc, .string ⟨#[]⟩, .bool false] 25))) := Lib.hid ⟨OwnT.nil _ _ _, by rw [← hcs]; exact heap_alloc_new _ _, (Below.refl _ _).alloc (Nat.le_refl _) _⟩
  obtain ⟨R, hR⟩ : ∃ R, (addF false ⟨#[]⟩ [] (cutF colonP defaultsF.data.toList)) = R := ⟨_, rfl⟩
  have HR := Lib.hid hR
  rw [hR]
  have HOK3 := Lib.hid hok3
  have HLAY := Lib.hid (fun (sc : Bool) (ad : Option Addr) (c : Nat) (acc : List ByteArray) (list origin : ByteArray) (w1 : World) (hd : LSt w w.heap.size cs (.slice ad acc.length c) acc w1) (ok : AddOK colonP list origin acc) => refLay_any colonP w w.heap.size cs ad c acc sc list ⟨#[58]⟩ origin w1 hd ok.ls ok.os (by decide) among_colon ok.each ok.many)
  have HLAB := Lib.hid (fun (sc : Bool) (ad : Option Addr) (c : Nat) (acc : List ByteArray) (list origin : ByteArray) (w1 : World) (hd : LSt w w.heap.size cs (.slice ad acc.length c) acc w1) (ok : AddOK bothP list origin acc) => refLay_any bothP w w.heap.size cs ad c acc sc list ⟨#[58, 59]⟩ origin w1 hd ok.ls ok.os (by decide) among_both ok.each ok.many)
  clear hR hcs hok3
  go_enter Tryd.func18, Tryd.ntmps18
  go_wp2_with fail
  refine (HLAY.out false none 0 [] defaultsF ⟨#[]⟩ _ D0.out HOK3.out).mono ?_
  rintro e w7 ⟨ad7, c7, rfl, hd7⟩
  rw [HR.out] at hd7 ⊢
  have D7 := Lib.hid hd7
  clear hd7
  go_wp2_with fail
  go_ret
  exact ⟨⟨ad7, c7, rfl, D7.out.1.row.1⟩, D7.out.2.2⟩
set_option maxRecDepth 100000 in
set_option maxHeartbeats 8000000 in
theorem refDirs_EA (name : ByteArray) (ec : UInt8) (et : List UInt8) (ca : Option Addr) (cc : Nat) (w : World) (hok1 : AddOK bothP ⟨(ec :: et).toArray⟩ ⟨#[]⟩ []) (hok3 : AddOK colonP defaultsF ⟨#[]⟩ (addF false ⟨#[]⟩ [] (cutF bothP (⟨(ec :: et).toArray⟩ : ByteArray).data.toList))) :
    Calls Tryd.prog 18 #[.agg #[.string name, .slice ca 0 cc, .string ⟨(ec :: et).toArray⟩, .bool false]] w fun e w' => (∃ ad c, e = .returned (.slice ad (addF false ⟨#[]⟩ (addF false ⟨#[]⟩ [] (cutF bothP (⟨(ec :: et).toArray⟩ : ByteArray).data.toList)) (cutF colonP defaultsF.data.toList)).length c) ∧ TRow w' ad (addF false ⟨#[]⟩ (addF false ⟨#[]⟩ [] (cutF bothP (⟨(ec :: et).toArray⟩ : ByteArray).data.toList)) (cutF colonP defaultsF.data.toList))) ∧ Below w.heap.size w w' := by
  obtain ⟨cs, hcs⟩ : ∃ cs : Array Value, #[.string name, .slice ca 0 cc, .string ⟨(ec :: et).toArray⟩, .bool false] = cs := ⟨_, rfl⟩
  have HCS := Lib.hid hcs
  have D0 : Hid (LSt w w.heap.size cs (.slice none 0 0) [] (w.alloc (.cells #[.string name, .slice ca 0 cc, .string ⟨(ec :: et).toArray⟩, .bool false] 25))) := Lib.hid ⟨OwnT.nil _ _ _, by rw [← hcs]; exact heap_alloc_new _ _, (Below.refl _ _).alloc (Nat.le_refl _) _⟩
  obtain ⟨R, hR⟩ : ∃ R, (addF false ⟨#[]⟩ (addF false ⟨#[]⟩ [] (cutF bothP (⟨(ec :: et).toArray⟩ : ByteArray).data.toList)) (cutF colonP defaultsF.data.toList)) = R := ⟨_, rfl⟩
  have HR := Lib.hid hR
  rw [hR]
  have HOK1 := Lib.hid hok1
  have HOK3 := Lib.hid hok3
  have HLAY := Lib.hid (fun (sc : Bool) (ad : Option Addr) (c : Nat) (acc : List ByteArray) (list origin : ByteArray) (w1 : World) (hd : LSt w w.heap.size cs (.slice ad acc.length c) acc w1) (ok : AddOK colonP list origin acc) => refLay_any colonP w w.heap.size cs ad c acc sc list ⟨#[58]⟩ origin w1 hd ok.ls ok.os (by decide) among_colon ok.each ok.many)
  have HLAB := Lib.hid (fun (sc : Bool) (ad : Option Addr) (c : Nat) (acc : List ByteArray) (list origin : ByteArray) (w1 : World) (hd : LSt w w.heap.size cs (.slice ad acc.length c) acc w1) (ok : AddOK bothP list origin acc) => refLay_any bothP w w.heap.size cs ad c acc sc list ⟨#[58, 59]⟩ origin w1 hd ok.ls ok.os (by decide) among_both ok.each ok.many)
  clear hR hcs hok3 hok1
  go_enter Tryd.func18, Tryd.ntmps18
  go_wp2_with fail
  refine (HLAB.out false none 0 [] ⟨(ec :: et).toArray⟩ ⟨#[]⟩ _ D0.out HOK1.out).mono ?_
  rintro e w5 ⟨ad5, c5, rfl, hd5⟩
  have D5 := Lib.hid hd5
  clear hd5
  have k1 := ask_cell HCS.out.symm D5.out 1 (.slice ca 0 cc) rfl
  have k2 := ask_cell HCS.out.symm D5.out 2 (.string ⟨(ec :: et).toArray⟩) rfl
  have k3 := ask_cell HCS.out.symm D5.out 3 (.bool false) rfl
  go_wp2_with fail
  refine (HLAY.out false ad5 c5 _ defaultsF ⟨#[]⟩ _ D5.out HOK3.out).mono ?_
  rintro e w7 ⟨ad7, c7, rfl, hd7⟩
  rw [HR.out] at hd7 ⊢
  have D7 := Lib.hid hd7
  clear hd7
  go_wp2_with fail
  go_ret
  exact ⟨⟨ad7, c7, rfl, D7.out.1.row.1⟩, D7.out.2.2⟩
end Go.Proofs.YtppeapafnnanbaaDoor
/- Layer 14, the document's answer: the directories in which a library is looked for. -/
namespace Go.Proofs.YtppeapafnnanbaaDoor
open Go.RowKit
set_option linter.unusedVariables false
set_option linter.unusedSimpArgs false


set_option maxRecDepth 100000 in
set_option maxHeartbeats 8000000 in
theorem refDirs_NS (name : ByteArray) (env : ByteArray) (b off m cc : Nat) (C : List OT) (w : World) (hC : CRow w (some ⟨b, off, none⟩) C) (hm : C.length = m + 1) (hml : m ≤ 1048576) (h0 : (C[0]'(by omega)).hasRun = false) (hok : ∀ k, (hk : k < C.length) → C[k].hasR = true → C[k].hasRun = false → AddOK colonP C[k].rpath C[k].path (chainF true (C.take k))) (hok3 : AddOK colonP defaultsF ⟨#[]⟩ (chainF true C)) :
    Calls Tryd.prog 18 #[.agg #[.string name, .slice (some ⟨b, off, none⟩) (m + 1) cc, .string env, .bool true]] w fun e w' => (∃ ad c, e = .returned (.slice ad (addF false ⟨#[]⟩ (chainF true C) (cutF colonP defaultsF.data.toList)).length c) ∧ TRow w' ad (addF false ⟨#[]⟩ (chainF true C) (cutF colonP defaultsF.data.toList))) ∧ Below w.heap.size w w' := by
  obtain ⟨cs, hcs⟩ : ∃ cs : Array Value, #[.string name, .slice (some ⟨b, off, none⟩) (m + 1) cc, .string env, .bool true] = cs := ⟨_, rfl⟩
  have HCS := Lib.hid hcs
  have D0 : Hid (LSt w w.heap.size cs (.slice none 0 0) [] (w.alloc (.cells #[.string name, .slice (some ⟨b, off, none⟩) (m + 1) cc, .string env, .bool true] 25))) := Lib.hid ⟨OwnT.nil _ _ _, by rw [← hcs]; exact heap_alloc_new _ _, (Below.refl _ _).alloc (Nat.le_refl _) _⟩
  have HCELL : Hid (∀ (w1 : World), Below w.heap.size w w1 → ∀ k, (hk : k < C.length) → ∀ j, j < 5 → w1.cell? ⟨b, off + k * 5 + j, none⟩ = (C[k]'hk).cells[j]?) := Lib.hid (fun w1 hb k hk j hj => by
    obtain ⟨b', o', e, hlt, hc⟩ := (hC.below hb) k hk
    cases e
    exact hc j hj)
  have HF4 : Hid (∀ (w1 : World), Below w.heap.size w w1 → w1.cell? ⟨b, off + 4, none⟩ = some (.bool false)) := Lib.hid (fun w1 hb => by
    have h1 := HCELL.out w1 hb 0 (by omega) 4 (by omega)
    rw [Nat.zero_mul, Nat.add_zero] at h1
    rw [h1, ← h0]
    rfl)
  obtain ⟨R, hR⟩ : ∃ R, (addF false ⟨#[]⟩ (chainF true C) (cutF colonP defaultsF.data.toList)) = R := ⟨_, rfl⟩
  have HR := Lib.hid hR
  rw [hR]
  have HOK := Lib.hid hok
  have HSUC := Lib.hid (chainF_succ true C)
  have HALL : Hid (chainF true (C.take (m + 1)) = chainF true C) := Lib.hid (by rw [List.take_of_length_le (by omega)])
  obtain ⟨X0, hX0⟩ : ∃ X0, (chainF true C) = X0 := ⟨_, rfl⟩
  rw [hX0] at hok3 HR
  rw [hX0] at HALL
  have HOK3 := Lib.hid hok3
  have HLAY := Lib.hid (fun (sc : Bool) (ad : Option Addr) (c : Nat) (acc : List ByteArray) (list origin : ByteArray) (w1 : World) (hd : LSt w w.heap.size cs (.slice ad acc.length c) acc w1) (ok : AddOK colonP list origin acc) => refLay_any colonP w w.heap.size cs ad c acc sc list ⟨#[58]⟩ origin w1 hd ok.ls ok.os (by decide) among_colon ok.each ok.many)
  have HLAB := Lib.hid (fun (sc : Bool) (ad : Option Addr) (c : Nat) (acc : List ByteArray) (list origin : ByteArray) (w1 : World) (hd : LSt w w.heap.size cs (.slice ad acc.length c) acc w1) (ok : AddOK bothP list origin acc) => refLay_any bothP w w.heap.size cs ad c acc sc list ⟨#[58, 59]⟩ origin w1 hd ok.ls ok.os (by decide) among_both ok.each ok.many)
  have f4 := HF4.out _ D0.out.2.2
  have hmi : (0 : Int) < ((m + 1 : Nat) : Int) := by omega
  have hmi2 : (0 : Int) < (m : Int) + 1 := by omega
  have HM := Lib.hid hm
  clear hC hm h0 hR hcs hok3 hok hX0
  go_enter Tryd.func18, Tryd.ntmps18
  go_wp2_with fail
  generalize w.alloc (.cells #[.string name, .slice (some ⟨b, off, none⟩) (m + 1) cc, .string env, .bool true] 25) = w2 at *
  clear f4
  go_loopg [3, 5] (m + 1) (fun g lv i wr => ∃ (k : Nat) (acc : List ByteArray) (ad : Option Addr) (c : Nat), k + g = m + 1 ∧ lv = .slice ad acc.length c ∧ i = .int .i64 (k : Int) ∧ Hid (chainF true (C.take k) = acc) ∧ Hid (LSt w w.heap.size cs (.slice ad acc.length c) acc wr))
  case atStart => exact ⟨0, [], none, 0, by omega, rfl, rfl, Lib.hid rfl, D0⟩
  case round =>
    obtain ⟨k, acc, ad, c, hk, rfl, rfl, HA, DR⟩ := hrel
    clear D0
    cases gk with
    | succ g =>
      have hkC : k < C.length := by rw [HM.out]; omega
      have hki : (k : Int) < (m : Int) + 1 := by omega
      have hcs5 := HCELL.out wr DR.out.2.2 k hkC
      have HNX := Lib.hid (HSUC.out k hkC)
      have HOKK := Lib.hid (HOK.out k hkC)
      have HKK := Lib.hid hk
      rw [HA.out] at HNX HOKK
      generalize C[k] = o at *
      obtain ⟨op, orp, orn, oR, oN⟩ := o
      have c0 : wr.cell? ⟨b, off + k * 5, none⟩ = some (.string op) := hcs5 0 (by omega)
      have c1 : wr.cell? ⟨b, off + k * 5 + 1, none⟩ = some (.string orp) := hcs5 1 (by omega)
      have c3 : wr.cell? ⟨b, off + k * 5 + 3, none⟩ = some (.bool oR) := hcs5 3 (by omega)
      have c4 : wr.cell? ⟨b, off + k * 5 + 4, none⟩ = some (.bool oN) := hcs5 4 (by omega)
      have k1 := ask_cell HCS.out.symm DR.out 1 (.slice (some ⟨b, off, none⟩) (m + 1) cc) rfl
      have k3 := ask_cell HCS.out.symm DR.out 3 (.bool true) rfl
      have hkn : k < m + 1 := by omega
      clear hkC hcs5 hk
      cases oR <;> cases oN
      case' true.false =>
        have HAK := Lib.hid (HOKK.out rfl rfl)
        go_wp2_with fail
        go_region_law (first | (go_simp; go_at_call 43; refine (HLAY.out true ad c acc orp op _ (DR.out.below (Below.refl _ _).drew) HAK.out).mono ?_; rintro e w9 ⟨ad9, c9, rfl, hd9⟩; have D9 := Lib.hid hd9; clear hd9))
        all_goals
          go_wp2_with fail
          go_roundg g
          case measure => omega
          case rel => exact ⟨k + 1, _, ad9, c9, by have := HKK.out; omega, rfl, by go_num, HNX, D9⟩
      all_goals
        go_wp2_with fail
        go_roundg g
        case measure => omega
        case rel => exact ⟨k + 1, acc, ad, c, by have := HKK.out; omega, rfl, by go_num, HNX, DR⟩
    | zero =>
      have hke : k = m + 1 := by omega
      subst hke
      rw [HA.out] at HALL
      obtain rfl : acc = X0 := HALL.out
      clear hk
      have f4 := HF4.out _ DR.out.2.2
      have k1 := ask_cell HCS.out.symm DR.out 1 (.slice (some ⟨b, off, none⟩) (m + 1) cc) rfl
      have k2 := ask_cell HCS.out.symm DR.out 2 (.string env) rfl
      have k3 := ask_cell HCS.out.symm DR.out 3 (.bool true) rfl
      go_wp2_with fail
      refine (HLAY.out false ad c acc defaultsF ⟨#[]⟩ _ DR.out HOK3.out).mono ?_
      rintro e w7 ⟨ad7, c7, rfl, hd7⟩
      rw [HR.out] at hd7 ⊢
      have D7 := Lib.hid hd7
      clear hd7
      go_wp2_with fail
      go_ret
      exact ⟨⟨ad7, c7, rfl, D7.out.1.row.1⟩, D7.out.2.2⟩
set_option maxRecDepth 100000 in
set_option maxHeartbeats 8000000 in
theorem refDirs_NO (name : ByteArray) (b off m cc : Nat) (C : List OT) (w : World) (hC : CRow w (some ⟨b, off, none⟩) C) (hm : C.length = m + 1) (hml : m ≤ 1048576) (h0 : (C[0]'(by omega)).hasRun = false) (hok : ∀ k, (hk : k < C.length) → C[k].hasR = true → C[k].hasRun = false → AddOK colonP C[k].rpath C[k].path (chainF false (C.take k))) (hok3 : AddOK colonP defaultsF ⟨#[]⟩ (chainF false C)) :
    Calls Tryd.prog 18 #[.agg #[.string name, .slice (some ⟨b, off, none⟩) (m + 1) cc, .string ⟨#[]⟩, .bool false]] w fun e w' => (∃ ad c, e = .returned (.slice ad (addF false ⟨#[]⟩ (chainF false C) (cutF colonP defaultsF.data.toList)).length c) ∧ TRow w' ad (addF false ⟨#[]⟩ (chainF false C) (cutF colonP defaultsF.data.toList))) ∧ Below w.heap.size w w' := by
  obtain ⟨cs, hcs⟩ : ∃ cs : Array Value, #[.string name, .slice (some ⟨b, off, none⟩) (m + 1) cc, .string ⟨#[]⟩, .bool false] = cs := ⟨_, rfl⟩
  have HCS := Lib.hid hcs
  have D0 : Hid (LSt w w.heap.size cs (.slice none 0 0) [] (w.alloc (.cells #[.string name, .slice (some ⟨b, off, none⟩) (m + 1) cc, .string ⟨#[]⟩, .bool false] 25))) := Lib.hid ⟨OwnT.nil _ _ _, by rw [← hcs]; exact heap_alloc_new _ _, (Below.refl _ _).alloc (Nat.le_refl _) _⟩
  have HCELL : Hid (∀ (w1 : World), Below w.heap.size w w1 → ∀ k, (hk : k < C.length) → ∀ j, j < 5 → w1.cell? ⟨b, off + k * 5 + j, none⟩ = (C[k]'hk).cells[j]?) := Lib.hid (fun w1 hb k hk j hj => by
    obtain ⟨b', o', e, hlt, hc⟩ := (hC.below hb) k hk
    cases e
    exact hc j hj)
  have HF4 : Hid (∀ (w1 : World), Below w.heap.size w w1 → w1.cell? ⟨b, off + 4, none⟩ = some (.bool false)) := Lib.hid (fun w1 hb => by
    have h1 := HCELL.out w1 hb 0 (by omega) 4 (by omega)
    rw [Nat.zero_mul, Nat.add_zero] at h1
    rw [h1, ← h0]
    rfl)
  obtain ⟨R, hR⟩ : ∃ R, (addF false ⟨#[]⟩ (chainF false C) (cutF colonP defaultsF.data.toList)) = R := ⟨_, rfl⟩
  have HR := Lib.hid hR
  rw [hR]
  have HOK := Lib.hid hok
  have HSUC := Lib.hid (chainF_succ false C)
  have HALL : Hid (chainF false (C.take (m + 1)) = chainF false C) := Lib.hid (by rw [List.take_of_length_le (by omega)])
  obtain ⟨X0, hX0⟩ : ∃ X0, (chainF false C) = X0 := ⟨_, rfl⟩
  rw [hX0] at hok3 HR
  rw [hX0] at HALL
  have HOK3 := Lib.hid hok3
  have HLAY := Lib.hid (fun (sc : Bool) (ad : Option Addr) (c : Nat) (acc : List ByteArray) (list origin : ByteArray) (w1 : World) (hd : LSt w w.heap.size cs (.slice ad acc.length c) acc w1) (ok : AddOK colonP list origin acc) => refLay_any colonP w w.heap.size cs ad c acc sc list ⟨#[58]⟩ origin w1 hd ok.ls ok.os (by decide) among_colon ok.each ok.many)
  have HLAB := Lib.hid (fun (sc : Bool) (ad : Option Addr) (c : Nat) (acc : List ByteArray) (list origin : ByteArray) (w1 : World) (hd : LSt w w.heap.size cs (.slice ad acc.length c) acc w1) (ok : AddOK bothP list origin acc) => refLay_any bothP w w.heap.size cs ad c acc sc list ⟨#[58, 59]⟩ origin w1 hd ok.ls ok.os (by decide) among_both ok.each ok.many)
  have f4 := HF4.out _ D0.out.2.2
  have hmi : (0 : Int) < ((m + 1 : Nat) : Int) := by omega
  have hmi2 : (0 : Int) < (m : Int) + 1 := by omega
  have HM := Lib.hid hm
  clear hC hm h0 hR hcs hok3 hok hX0
  go_enter Tryd.func18, Tryd.ntmps18
  go_wp2_with fail
  generalize w.alloc (.cells #[.string name, .slice (some ⟨b, off, none⟩) (m + 1) cc, .string ⟨#[]⟩, .bool false] 25) = w2 at *
  clear f4
  go_loopg [3, 5] (m + 1) (fun g lv i wr => ∃ (k : Nat) (acc : List ByteArray) (ad : Option Addr) (c : Nat), k + g = m + 1 ∧ lv = .slice ad acc.length c ∧ i = .int .i64 (k : Int) ∧ Hid (chainF false (C.take k) = acc) ∧ Hid (LSt w w.heap.size cs (.slice ad acc.length c) acc wr))
  case atStart => exact ⟨0, [], none, 0, by omega, rfl, rfl, Lib.hid rfl, D0⟩
  case round =>
    obtain ⟨k, acc, ad, c, hk, rfl, rfl, HA, DR⟩ := hrel
    clear D0
    cases gk with
    | succ g =>
      have hkC : k < C.length := by rw [HM.out]; omega
      have hki : (k : Int) < (m : Int) + 1 := by omega
      have hcs5 := HCELL.out wr DR.out.2.2 k hkC
      have HNX := Lib.hid (HSUC.out k hkC)
      have HOKK := Lib.hid (HOK.out k hkC)
      have HKK := Lib.hid hk
      rw [HA.out] at HNX HOKK
      generalize C[k] = o at *
      obtain ⟨op, orp, orn, oR, oN⟩ := o
      have c0 : wr.cell? ⟨b, off + k * 5, none⟩ = some (.string op) := hcs5 0 (by omega)
      have c1 : wr.cell? ⟨b, off + k * 5 + 1, none⟩ = some (.string orp) := hcs5 1 (by omega)
      have c3 : wr.cell? ⟨b, off + k * 5 + 3, none⟩ = some (.bool oR) := hcs5 3 (by omega)
      have c4 : wr.cell? ⟨b, off + k * 5 + 4, none⟩ = some (.bool oN) := hcs5 4 (by omega)
      have k1 := ask_cell HCS.out.symm DR.out 1 (.slice (some ⟨b, off, none⟩) (m + 1) cc) rfl
      have k3 := ask_cell HCS.out.symm DR.out 3 (.bool false) rfl
      have hkn : k < m + 1 := by omega
      clear hkC hcs5 hk
      cases oR <;> cases oN
      case' true.false =>
        have HAK := Lib.hid (HOKK.out rfl rfl)
        go_wp2_with fail
        go_region_law (first | (go_simp; go_at_call 43; refine (HLAY.out false ad c acc orp op _ (DR.out.below (Below.refl _ _).drew) HAK.out).mono ?_; rintro e w9 ⟨ad9, c9, rfl, hd9⟩; have D9 := Lib.hid hd9; clear hd9))
        all_goals
          go_wp2_with fail
          go_roundg g
          case measure => omega
          case rel => exact ⟨k + 1, _, ad9, c9, by have := HKK.out; omega, rfl, by go_num, HNX, D9⟩
      all_goals
        go_wp2_with fail
        go_roundg g
        case measure => omega
        case rel => exact ⟨k + 1, acc, ad, c, by have := HKK.out; omega, rfl, by go_num, HNX, DR⟩
    | zero =>
      have hke : k = m + 1 := by omega
      subst hke
      rw [HA.out] at HALL
      obtain rfl : acc = X0 := HALL.out
      clear hk
      have f4 := HF4.out _ DR.out.2.2
      have k1 := ask_cell HCS.out.symm DR.out 1 (.slice (some ⟨b, off, none⟩) (m + 1) cc) rfl
      have k2 := ask_cell HCS.out.symm DR.out 2 (.string ⟨#[]⟩) rfl
      have k3 := ask_cell HCS.out.symm DR.out 3 (.bool false) rfl
      go_wp2_with fail
      refine (HLAY.out false ad c acc defaultsF ⟨#[]⟩ _ DR.out HOK3.out).mono ?_
      rintro e w7 ⟨ad7, c7, rfl, hd7⟩
      rw [HR.out] at hd7 ⊢
      have D7 := Lib.hid hd7
      clear hd7
      go_wp2_with fail
      go_ret
      exact ⟨⟨ad7, c7, rfl, D7.out.1.row.1⟩, D7.out.2.2⟩
set_option maxRecDepth 100000 in
set_option maxHeartbeats 8000000 in
theorem refDirs_NA (name : ByteArray) (ec : UInt8) (et : List UInt8) (b off m cc : Nat) (C : List OT) (w : World) (hC : CRow w (some ⟨b, off, none⟩) C) (hm : C.length = m + 1) (hml : m ≤ 1048576) (h0 : (C[0]'(by omega)).hasRun = false) (hok : ∀ k, (hk : k < C.length) → C[k].hasR = true → C[k].hasRun = false → AddOK colonP C[k].rpath C[k].path (chainF false (C.take k))) (hok1 : AddOK bothP ⟨(ec :: et).toArray⟩ (C[m]'(by omega)).path (chainF false C)) (hok3 : AddOK colonP defaultsF ⟨#[]⟩ (addF false (C[m]'(by omega)).path (chainF false C) (cutF bothP (⟨(ec :: et).toArray⟩ : ByteArray).data.toList))) :
    Calls Tryd.prog 18 #[.agg #[.string name, .slice (some ⟨b, off, none⟩) (m + 1) cc, .string ⟨(ec :: et).toArray⟩, .bool false]] w fun e w' => (∃ ad c, e = .returned (.slice ad (addF false ⟨#[]⟩ (addF false (C[m]'(by omega)).path (chainF false C) (cutF bothP (⟨(ec :: et).toArray⟩ : ByteArray).data.toList)) (cutF colonP defaultsF.data.toList)).length c) ∧ TRow w' ad (addF false ⟨#[]⟩ (addF false (C[m]'(by omega)).path (chainF false C) (cutF bothP (⟨(ec :: et).toArray⟩ : ByteArray).data.toList)) (cutF colonP defaultsF.data.toList))) ∧ Below w.heap.size w w' := by
  obtain ⟨cs, hcs⟩ : ∃ cs : Array Value, #[.string name, .slice (some ⟨b, off, none⟩) (m + 1) cc, .string ⟨(ec :: et).toArray⟩, .bool false] = cs := ⟨_, rfl⟩
  have HCS := Lib.hid hcs
  have D0 : Hid (LSt w w.heap.size cs (.slice none 0 0) [] (w.alloc (.cells #[.string name, .slice (some ⟨b, off, none⟩) (m + 1) cc, .string ⟨(ec :: et).toArray⟩, .bool false] 25))) := Lib.hid ⟨OwnT.nil _ _ _, by rw [← hcs]; exact heap_alloc_new _ _, (Below.refl _ _).alloc (Nat.le_refl _) _⟩
  have HCELL : Hid (∀ (w1 : World), Below w.heap.size w w1 → ∀ k, (hk : k < C.length) → ∀ j, j < 5 → w1.cell? ⟨b, off + k * 5 + j, none⟩ = (C[k]'hk).cells[j]?) := Lib.hid (fun w1 hb k hk j hj => by
    obtain ⟨b', o', e, hlt, hc⟩ := (hC.below hb) k hk
    cases e
    exact hc j hj)
  have HF4 : Hid (∀ (w1 : World), Below w.heap.size w w1 → w1.cell? ⟨b, off + 4, none⟩ = some (.bool false)) := Lib.hid (fun w1 hb => by
    have h1 := HCELL.out w1 hb 0 (by omega) 4 (by omega)
    rw [Nat.zero_mul, Nat.add_zero] at h1
    rw [h1, ← h0]
    rfl)
  obtain ⟨R, hR⟩ : ∃ R, (addF false ⟨#[]⟩ (addF false (C[m]'(by omega)).path (chainF false C) (cutF bothP (⟨(ec :: et).toArray⟩ : ByteArray).data.toList)) (cutF colonP defaultsF.data.toList)) = R := ⟨_, rfl⟩
  have HR := Lib.hid hR
  rw [hR]
  have HOK := Lib.hid hok
  have HSUC := Lib.hid (chainF_succ false C)
  have HALL : Hid (chainF false (C.take (m + 1)) = chainF false C) := Lib.hid (by rw [List.take_of_length_le (by omega)])
  obtain ⟨X0, hX0⟩ : ∃ X0, (chainF false C) = X0 := ⟨_, rfl⟩
  rw [hX0] at hok1 hok3 HR
  rw [hX0] at HALL
  obtain ⟨lo, hlo⟩ : ∃ lo, C[m]'(by omega) = lo := ⟨_, rfl⟩
  have HLO : Hid (∀ (w1 : World), Below w.heap.size w w1 → w1.cell? ⟨b, off + m * 5, none⟩ = some (.string lo.path)) := Lib.hid (fun w1 hb => by
    have h1 := HCELL.out w1 hb m (by omega) 0 (by omega)
    rw [Nat.add_zero] at h1
    rw [h1, hlo]
    rfl)
  rw [hlo] at hok1 hok3 HR
  obtain ⟨lp, hlp⟩ : ∃ lp, lo.path = lp := ⟨_, rfl⟩
  rw [hlp] at hok1 hok3 HR HLO
  have HOK1 := Lib.hid hok1
  have HOK3 := Lib.hid hok3
  have HLAY := Lib.hid (fun (sc : Bool) (ad : Option Addr) (c : Nat) (acc : List ByteArray) (list origin : ByteArray) (w1 : World) (hd : LSt w w.heap.size cs (.slice ad acc.length c) acc w1) (ok : AddOK colonP list origin acc) => refLay_any colonP w w.heap.size cs ad c acc sc list ⟨#[58]⟩ origin w1 hd ok.ls ok.os (by decide) among_colon ok.each ok.many)
  have HLAB := Lib.hid (fun (sc : Bool) (ad : Option Addr) (c : Nat) (acc : List ByteArray) (list origin : ByteArray) (w1 : World) (hd : LSt w w.heap.size cs (.slice ad acc.length c) acc w1) (ok : AddOK bothP list origin acc) => refLay_any bothP w w.heap.size cs ad c acc sc list ⟨#[58, 59]⟩ origin w1 hd ok.ls ok.os (by decide) among_both ok.each ok.many)
  have f4 := HF4.out _ D0.out.2.2
  have hmi : (0 : Int) < ((m + 1 : Nat) : Int) := by omega
  have hmi2 : (0 : Int) < (m : Int) + 1 := by omega
  have HM := Lib.hid hm
  clear hC hm h0 hR hcs hok3 hok hX0 hok1 hlo hlp
  go_enter Tryd.func18, Tryd.ntmps18
  go_wp2_with fail
  generalize w.alloc (.cells #[.string name, .slice (some ⟨b, off, none⟩) (m + 1) cc, .string ⟨(ec :: et).toArray⟩, .bool false] 25) = w2 at *
  clear f4
  go_loopg [3, 5] (m + 1) (fun g lv i wr => ∃ (k : Nat) (acc : List ByteArray) (ad : Option Addr) (c : Nat), k + g = m + 1 ∧ lv = .slice ad acc.length c ∧ i = .int .i64 (k : Int) ∧ Hid (chainF false (C.take k) = acc) ∧ Hid (LSt w w.heap.size cs (.slice ad acc.length c) acc wr))
  case atStart => exact ⟨0, [], none, 0, by omega, rfl, rfl, Lib.hid rfl, D0⟩
  case round =>
    obtain ⟨k, acc, ad, c, hk, rfl, rfl, HA, DR⟩ := hrel
    clear D0
    cases gk with
    | succ g =>
      have hkC : k < C.length := by rw [HM.out]; omega
      have hki : (k : Int) < (m : Int) + 1 := by omega
      have hcs5 := HCELL.out wr DR.out.2.2 k hkC
      have HNX := Lib.hid (HSUC.out k hkC)
      have HOKK := Lib.hid (HOK.out k hkC)
      have HKK := Lib.hid hk
      rw [HA.out] at HNX HOKK
      generalize C[k] = o at *
      obtain ⟨op, orp, orn, oR, oN⟩ := o
      have c0 : wr.cell? ⟨b, off + k * 5, none⟩ = some (.string op) := hcs5 0 (by omega)
      have c1 : wr.cell? ⟨b, off + k * 5 + 1, none⟩ = some (.string orp) := hcs5 1 (by omega)
      have c3 : wr.cell? ⟨b, off + k * 5 + 3, none⟩ = some (.bool oR) := hcs5 3 (by omega)
      have c4 : wr.cell? ⟨b, off + k * 5 + 4, none⟩ = some (.bool oN) := hcs5 4 (by omega)
      have k1 := ask_cell HCS.out.symm DR.out 1 (.slice (some ⟨b, off, none⟩) (m + 1) cc) rfl
      have k3 := ask_cell HCS.out.symm DR.out 3 (.bool false) rfl
      have hkn : k < m + 1 := by omega
      clear hkC hcs5 hk
      cases oR <;> cases oN
      case' true.false =>
        have HAK := Lib.hid (HOKK.out rfl rfl)
        go_wp2_with fail
        go_region_law (first | (go_simp; go_at_call 43; refine (HLAY.out false ad c acc orp op _ (DR.out.below (Below.refl _ _).drew) HAK.out).mono ?_; rintro e w9 ⟨ad9, c9, rfl, hd9⟩; have D9 := Lib.hid hd9; clear hd9))
        all_goals
          go_wp2_with fail
          go_roundg g
          case measure => omega
          case rel => exact ⟨k + 1, _, ad9, c9, by have := HKK.out; omega, rfl, by go_num, HNX, D9⟩
      all_goals
        go_wp2_with fail
        go_roundg g
        case measure => omega
        case rel => exact ⟨k + 1, acc, ad, c, by have := HKK.out; omega, rfl, by go_num, HNX, DR⟩
    | zero =>
      have hke : k = m + 1 := by omega
      subst hke
      rw [HA.out] at HALL
      obtain rfl : acc = X0 := HALL.out
      clear hk
      have f4 := HF4.out _ DR.out.2.2
      have k1 := ask_cell HCS.out.symm DR.out 1 (.slice (some ⟨b, off, none⟩) (m + 1) cc) rfl
      have k2 := ask_cell HCS.out.symm DR.out 2 (.string ⟨(ec :: et).toArray⟩) rfl
      have k3 := ask_cell HCS.out.symm DR.out 3 (.bool false) rfl
      have flp := HLO.out _ DR.out.2.2
      go_wp2_with fail
      refine (HLAB.out false ad c acc ⟨(ec :: et).toArray⟩ lp _ DR.out HOK1.out).mono ?_
      rintro e w5 ⟨ad5, c5, rfl, hd5⟩
      have D5 := Lib.hid hd5
      clear hd5 k1 k2 k3 f4 flp
      have k1 := ask_cell HCS.out.symm D5.out 1 (.slice (some ⟨b, off, none⟩) (m + 1) cc) rfl
      have k2 := ask_cell HCS.out.symm D5.out 2 (.string ⟨(ec :: et).toArray⟩) rfl
      have k3 := ask_cell HCS.out.symm D5.out 3 (.bool false) rfl
      have f4 := HF4.out _ D5.out.2.2
      go_wp2_with fail
      refine (HLAY.out false ad5 c5 _ defaultsF ⟨#[]⟩ _ D5.out HOK3.out).mono ?_
      rintro e w7 ⟨ad7, c7, rfl, hd7⟩
      rw [HR.out] at hd7 ⊢
      have D7 := Lib.hid hd7
      clear hd7
      go_wp2_with fail
      go_ret
      exact ⟨⟨ad7, c7, rfl, D7.out.1.row.1⟩, D7.out.2.2⟩
end Go.Proofs.YtppeapafnnanbaaDoor
/- Layer 14, the document's answer: the directories in which a library is looked for. -/
namespace Go.Proofs.YtppeapafnnanbaaDoor
open Go.RowKit
set_option linter.unusedVariables false
set_option linter.unusedSimpArgs false


set_option maxRecDepth 100000 in
set_option maxHeartbeats 8000000 in
theorem refDirs_RS (name : ByteArray) (env : ByteArray) (b off m cc : Nat) (C : List OT) (w : World) (hC : CRow w (some ⟨b, off, none⟩) C) (hm : C.length = m + 1) (hml : m ≤ 1048576) (h0 : (C[0]'(by omega)).hasRun = true) (hok2 : AddOK colonP (C[0]'(by omega)).runpath (C[0]'(by omega)).path []) (hok3 : AddOK colonP defaultsF ⟨#[]⟩ (addF true (C[0]'(by omega)).path [] (cutF colonP (C[0]'(by omega)).runpath.data.toList))) :
    Calls Tryd.prog 18 #[.agg #[.string name, .slice (some ⟨b, off, none⟩) (m + 1) cc, .string env, .bool true]] w fun e w' => (∃ ad c, e = .returned (.slice ad (addF false ⟨#[]⟩ (addF true (C[0]'(by omega)).path [] (cutF colonP (C[0]'(by omega)).runpath.data.toList)) (cutF colonP defaultsF.data.toList)).length c) ∧ TRow w' ad (addF false ⟨#[]⟩ (addF true (C[0]'(by omega)).path [] (cutF colonP (C[0]'(by omega)).runpath.data.toList)) (cutF colonP defaultsF.data.toList))) ∧ Below w.heap.size w w' := by
  obtain ⟨cs, hcs⟩ : ∃ cs : Array Value, #[.string name, .slice (some ⟨b, off, none⟩) (m + 1) cc, .string env, .bool true] = cs := ⟨_, rfl⟩
  have HCS := Lib.hid hcs
  have D0 : Hid (LSt w w.heap.size cs (.slice none 0 0) [] (w.alloc (.cells #[.string name, .slice (some ⟨b, off, none⟩) (m + 1) cc, .string env, .bool true] 25))) := Lib.hid ⟨OwnT.nil _ _ _, by rw [← hcs]; exact heap_alloc_new _ _, (Below.refl _ _).alloc (Nat.le_refl _) _⟩
  have HCELL : Hid (∀ (w1 : World), Below w.heap.size w w1 → ∀ k, (hk : k < C.length) → ∀ j, j < 5 → w1.cell? ⟨b, off + k * 5 + j, none⟩ = (C[k]'hk).cells[j]?) := Lib.hid (fun w1 hb k hk j hj => by
    obtain ⟨b', o', e, hlt, hc⟩ := (hC.below hb) k hk
    cases e
    exact hc j hj)
  have HF4 : Hid (∀ (w1 : World), Below w.heap.size w w1 → w1.cell? ⟨b, off + 4, none⟩ = some (.bool true)) := Lib.hid (fun w1 hb => by
    have h1 := HCELL.out w1 hb 0 (by omega) 4 (by omega)
    rw [Nat.zero_mul, Nat.add_zero] at h1
    rw [h1, ← h0]
    rfl)
  obtain ⟨R, hR⟩ : ∃ R, (addF false ⟨#[]⟩ (addF true (C[0]'(by omega)).path [] (cutF colonP (C[0]'(by omega)).runpath.data.toList)) (cutF colonP defaultsF.data.toList)) = R := ⟨_, rfl⟩
  have HR := Lib.hid hR
  rw [hR]
  have HF0 : Hid (∀ (w1 : World), Below w.heap.size w w1 → w1.cell? ⟨b, off, none⟩ = some (.string (C[0]'(by omega)).path)) := Lib.hid (fun w1 hb => by
    have h1 := HCELL.out w1 hb 0 (by omega) 0 (by omega)
    rw [Nat.zero_mul, Nat.add_zero] at h1
    rw [h1]
    rfl)
  have HF2 : Hid (∀ (w1 : World), Below w.heap.size w w1 → w1.cell? ⟨b, off + 2, none⟩ = some (.string (C[0]'(by omega)).runpath)) := Lib.hid (fun w1 hb => by
    have h1 := HCELL.out w1 hb 0 (by omega) 2 (by omega)
    rw [Nat.zero_mul, Nat.add_zero] at h1
    rw [h1]
    rfl)
  obtain ⟨fp, hfp⟩ : ∃ fp, (C[0]'(by omega)).path = fp := ⟨_, rfl⟩
  obtain ⟨fr, hfr⟩ : ∃ fr, (C[0]'(by omega)).runpath = fr := ⟨_, rfl⟩
  rw [hfp] at hok2 hok3 HR HF0
  rw [hfr] at hok2 hok3 HR HF2
  have HOK2 := Lib.hid hok2
  have HOK3 := Lib.hid hok3
  have HLAY := Lib.hid (fun (sc : Bool) (ad : Option Addr) (c : Nat) (acc : List ByteArray) (list origin : ByteArray) (w1 : World) (hd : LSt w w.heap.size cs (.slice ad acc.length c) acc w1) (ok : AddOK colonP list origin acc) => refLay_any colonP w w.heap.size cs ad c acc sc list ⟨#[58]⟩ origin w1 hd ok.ls ok.os (by decide) among_colon ok.each ok.many)
  have HLAB := Lib.hid (fun (sc : Bool) (ad : Option Addr) (c : Nat) (acc : List ByteArray) (list origin : ByteArray) (w1 : World) (hd : LSt w w.heap.size cs (.slice ad acc.length c) acc w1) (ok : AddOK bothP list origin acc) => refLay_any bothP w w.heap.size cs ad c acc sc list ⟨#[58, 59]⟩ origin w1 hd ok.ls ok.os (by decide) among_both ok.each ok.many)
  have f4 := HF4.out _ D0.out.2.2
  have hmi : (0 : Int) < ((m + 1 : Nat) : Int) := by omega
  have hmi2 : (0 : Int) < (m : Int) + 1 := by omega
  have HM := Lib.hid hm
  clear hC hm h0 hR hcs hok3 hok2 hfp hfr
  go_enter Tryd.func18, Tryd.ntmps18
  have f0 := HF0.out _ D0.out.2.2
  have f2 := HF2.out _ D0.out.2.2
  go_wp2_with fail
  generalize w.alloc (.cells #[.string name, .slice (some ⟨b, off, none⟩) (m + 1) cc, .string env, .bool true] 25) = w2 at *
  have k1 := ask_cell HCS.out.symm D0.out 1 (.slice (some ⟨b, off, none⟩) (m + 1) cc) rfl
  have k3 := ask_cell HCS.out.symm D0.out 3 (.bool true) rfl
  go_region_law (first | (go_simp; go_at_call 43; refine (HLAY.out true none 0 [] fr fp _ (D0.out.below (Below.refl _ _).drew) HOK2.out).mono ?_; rintro e w6 ⟨ad6, c6, rfl, hd6⟩; have D6 := Lib.hid hd6; clear hd6))
  all_goals
    go_wp2_with fail
    refine (HLAY.out false ad6 c6 _ defaultsF ⟨#[]⟩ _ D6.out HOK3.out).mono ?_
    rintro e w7 ⟨ad7, c7, rfl, hd7⟩
    rw [HR.out] at hd7 ⊢
    have D7 := Lib.hid hd7
    clear hd7
    go_wp2_with fail
    go_ret
    exact ⟨⟨ad7, c7, rfl, D7.out.1.row.1⟩, D7.out.2.2⟩
set_option maxRecDepth 100000 in
set_option maxHeartbeats 8000000 in
theorem refDirs_RO (name : ByteArray) (b off m cc : Nat) (C : List OT) (w : World) (hC : CRow w (some ⟨b, off, none⟩) C) (hm : C.length = m + 1) (hml : m ≤ 1048576) (h0 : (C[0]'(by omega)).hasRun = true) (hok2 : AddOK colonP (C[0]'(by omega)).runpath (C[0]'(by omega)).path []) (hok3 : AddOK colonP defaultsF ⟨#[]⟩ (addF false (C[0]'(by omega)).path [] (cutF colonP (C[0]'(by omega)).runpath.data.toList))) :
    Calls Tryd.prog 18 #[.agg #[.string name, .slice (some ⟨b, off, none⟩) (m + 1) cc, .string ⟨#[]⟩, .bool false]] w fun e w' => (∃ ad c, e = .returned (.slice ad (addF false ⟨#[]⟩ (addF false (C[0]'(by omega)).path [] (cutF colonP (C[0]'(by omega)).runpath.data.toList)) (cutF colonP defaultsF.data.toList)).length c) ∧ TRow w' ad (addF false ⟨#[]⟩ (addF false (C[0]'(by omega)).path [] (cutF colonP (C[0]'(by omega)).runpath.data.toList)) (cutF colonP defaultsF.data.toList))) ∧ Below w.heap.size w w' := by
  obtain ⟨cs, hcs⟩ : ∃ cs : Array Value, #[.string name, .slice (some ⟨b, off, none⟩) (m + 1) cc, .string ⟨#[]⟩, .bool false] = cs := ⟨_, rfl⟩
  have HCS := Lib.hid hcs
  have D0 : Hid (LSt w w.heap.size cs (.slice none 0 0) [] (w.alloc (.cells #[.string name, .slice (some ⟨b, off, none⟩) (m + 1) cc, .string ⟨#[]⟩, .bool false] 25))) := Lib.hid ⟨OwnT.nil _ _ _, by rw [← hcs]; exact heap_alloc_new _ _, (Below.refl _ _).alloc (Nat.le_refl _) _⟩
  have HCELL : Hid (∀ (w1 : World), Below w.heap.size w w1 → ∀ k, (hk : k < C.length) → ∀ j, j < 5 → w1.cell? ⟨b, off + k * 5 + j, none⟩ = (C[k]'hk).cells[j]?) := Lib.hid (fun w1 hb k hk j hj => by
    obtain ⟨b', o', e, hlt, hc⟩ := (hC.below hb) k hk
    cases e
    exact hc j hj)
  have HF4 : Hid (∀ (w1 : World), Below w.heap.size w w1 → w1.cell? ⟨b, off + 4, none⟩ = some (.bool true)) := Lib.hid (fun w1 hb => by
    have h1 := HCELL.out w1 hb 0 (by omega) 4 (by omega)
    rw [Nat.zero_mul, Nat.add_zero] at h1
    rw [h1, ← h0]
    rfl)
  obtain ⟨R, hR⟩ : ∃ R, (addF false ⟨#[]⟩ (addF false (C[0]'(by omega)).path [] (cutF colonP (C[0]'(by omega)).runpath.data.toList)) (cutF colonP defaultsF.data.toList)) = R := ⟨_, rfl⟩
  have HR := Lib.hid hR
  rw [hR]
  have HF0 : Hid (∀ (w1 : World), Below w.heap.size w w1 → w1.cell? ⟨b, off, none⟩ = some (.string (C[0]'(by omega)).path)) := Lib.hid (fun w1 hb => by
    have h1 := HCELL.out w1 hb 0 (by omega) 0 (by omega)
    rw [Nat.zero_mul, Nat.add_zero] at h1
    rw [h1]
    rfl)
  have HF2 : Hid (∀ (w1 : World), Below w.heap.size w w1 → w1.cell? ⟨b, off + 2, none⟩ = some (.string (C[0]'(by omega)).runpath)) := Lib.hid (fun w1 hb => by
    have h1 := HCELL.out w1 hb 0 (by omega) 2 (by omega)
    rw [Nat.zero_mul, Nat.add_zero] at h1
    rw [h1]
    rfl)
  obtain ⟨fp, hfp⟩ : ∃ fp, (C[0]'(by omega)).path = fp := ⟨_, rfl⟩
  obtain ⟨fr, hfr⟩ : ∃ fr, (C[0]'(by omega)).runpath = fr := ⟨_, rfl⟩
  rw [hfp] at hok2 hok3 HR HF0
  rw [hfr] at hok2 hok3 HR HF2
  have HOK2 := Lib.hid hok2
  have HOK3 := Lib.hid hok3
  have HLAY := Lib.hid (fun (sc : Bool) (ad : Option Addr) (c : Nat) (acc : List ByteArray) (list origin : ByteArray) (w1 : World) (hd : LSt w w.heap.size cs (.slice ad acc.length c) acc w1) (ok : AddOK colonP list origin acc) => refLay_any colonP w w.heap.size cs ad c acc sc list ⟨#[58]⟩ origin w1 hd ok.ls ok.os (by decide) among_colon ok.each ok.many)
  have HLAB := Lib.hid (fun (sc : Bool) (ad : Option Addr) (c : Nat) (acc : List ByteArray) (list origin : ByteArray) (w1 : World) (hd : LSt w w.heap.size cs (.slice ad acc.length c) acc w1) (ok : AddOK bothP list origin acc) => refLay_any bothP w w.heap.size cs ad c acc sc list ⟨#[58, 59]⟩ origin w1 hd ok.ls ok.os (by decide) among_both ok.each ok.many)
  have f4 := HF4.out _ D0.out.2.2
  have hmi : (0 : Int) < ((m + 1 : Nat) : Int) := by omega
  have hmi2 : (0 : Int) < (m : Int) + 1 := by omega
  have HM := Lib.hid hm
  clear hC hm h0 hR hcs hok3 hok2 hfp hfr
  go_enter Tryd.func18, Tryd.ntmps18
  have f0 := HF0.out _ D0.out.2.2
  have f2 := HF2.out _ D0.out.2.2
  go_wp2_with fail
  generalize w.alloc (.cells #[.string name, .slice (some ⟨b, off, none⟩) (m + 1) cc, .string ⟨#[]⟩, .bool false] 25) = w2 at *
  have k1 := ask_cell HCS.out.symm D0.out 1 (.slice (some ⟨b, off, none⟩) (m + 1) cc) rfl
  have k3 := ask_cell HCS.out.symm D0.out 3 (.bool false) rfl
  go_region_law (first | (go_simp; go_at_call 43; refine (HLAY.out false none 0 [] fr fp _ (D0.out.below (Below.refl _ _).drew) HOK2.out).mono ?_; rintro e w6 ⟨ad6, c6, rfl, hd6⟩; have D6 := Lib.hid hd6; clear hd6))
  all_goals
    go_wp2_with fail
    refine (HLAY.out false ad6 c6 _ defaultsF ⟨#[]⟩ _ D6.out HOK3.out).mono ?_
    rintro e w7 ⟨ad7, c7, rfl, hd7⟩
    rw [HR.out] at hd7 ⊢
    have D7 := Lib.hid hd7
    clear hd7
    go_wp2_with fail
    go_ret
    exact ⟨⟨ad7, c7, rfl, D7.out.1.row.1⟩, D7.out.2.2⟩
set_option maxRecDepth 100000 in
set_option maxHeartbeats 8000000 in
theorem refDirs_RA (name : ByteArray) (ec : UInt8) (et : List UInt8) (b off m cc : Nat) (C : List OT) (w : World) (hC : CRow w (some ⟨b, off, none⟩) C) (hm : C.length = m + 1) (hml : m ≤ 1048576) (h0 : (C[0]'(by omega)).hasRun = true) (hok1 : AddOK bothP ⟨(ec :: et).toArray⟩ (C[m]'(by omega)).path []) (hok2 : AddOK colonP (C[0]'(by omega)).runpath (C[0]'(by omega)).path (addF false (C[m]'(by omega)).path [] (cutF bothP (⟨(ec :: et).toArray⟩ : ByteArray).data.toList))) (hok3 : AddOK colonP defaultsF ⟨#[]⟩ (addF false (C[0]'(by omega)).path (addF false (C[m]'(by omega)).path [] (cutF bothP (⟨(ec :: et).toArray⟩ : ByteArray).data.toList)) (cutF colonP (C[0]'(by omega)).runpath.data.toList))) :
    Calls Tryd.prog 18 #[.agg #[.string name, .slice (some ⟨b, off, none⟩) (m + 1) cc, .string ⟨(ec :: et).toArray⟩, .bool false]] w fun e w' => (∃ ad c, e = .returned (.slice ad (addF false ⟨#[]⟩ (addF false (C[0]'(by omega)).path (addF false (C[m]'(by omega)).path [] (cutF bothP (⟨(ec :: et).toArray⟩ : ByteArray).data.toList)) (cutF colonP (C[0]'(by omega)).runpath.data.toList)) (cutF colonP defaultsF.data.toList)).length c) ∧ TRow w' ad (addF false ⟨#[]⟩ (addF false (C[0]'(by omega)).path (addF false (C[m]'(by omega)).path [] (cutF bothP (⟨(ec :: et).toArray⟩ : ByteArray).data.toList)) (cutF colonP (C[0]'(by omega)).runpath.data.toList)) (cutF colonP defaultsF.data.toList))) ∧ Below w.heap.size w w' := by
  obtain ⟨cs, hcs⟩ : ∃ cs : Array Value, #[.string name, .slice (some ⟨b, off, none⟩) (m + 1) cc, .string ⟨(ec :: et).toArray⟩, .bool false] = cs := ⟨_, rfl⟩
  have HCS := Lib.hid hcs
  have D0 : Hid (LSt w w.heap.size cs (.slice none 0 0) [] (w.alloc (.cells #[.string name, .slice (some ⟨b, off, none⟩) (m + 1) cc, .string ⟨(ec :: et).toArray⟩, .bool false] 25))) := Lib.hid ⟨OwnT.nil _ _ _, by rw [← hcs]; exact heap_alloc_new _ _, (Below.refl _ _).alloc (Nat.le_refl _) _⟩
  have HCELL : Hid (∀ (w1 : World), Below w.heap.size w w1 → ∀ k, (hk : k < C.length) → ∀ j, j < 5 → w1.cell? ⟨b, off + k * 5 + j, none⟩ = (C[k]'hk).cells[j]?) := Lib.hid (fun w1 hb k hk j hj => by
    obtain ⟨b', o', e, hlt, hc⟩ := (hC.below hb) k hk
    cases e
    exact hc j hj)
  have HF4 : Hid (∀ (w1 : World), Below w.heap.size w w1 → w1.cell? ⟨b, off + 4, none⟩ = some (.bool true)) := Lib.hid (fun w1 hb => by
    have h1 := HCELL.out w1 hb 0 (by omega) 4 (by omega)
    rw [Nat.zero_mul, Nat.add_zero] at h1
    rw [h1, ← h0]
    rfl)
  obtain ⟨R, hR⟩ : ∃ R, (addF false ⟨#[]⟩ (addF false (C[0]'(by omega)).path (addF false (C[m]'(by omega)).path [] (cutF bothP (⟨(ec :: et).toArray⟩ : ByteArray).data.toList)) (cutF colonP (C[0]'(by omega)).runpath.data.toList)) (cutF colonP defaultsF.data.toList)) = R := ⟨_, rfl⟩
  have HR := Lib.hid hR
  rw [hR]
  obtain ⟨lo, hlo⟩ : ∃ lo, C[m]'(by omega) = lo := ⟨_, rfl⟩
  have HLO : Hid (∀ (w1 : World), Below w.heap.size w w1 → w1.cell? ⟨b, off + m * 5, none⟩ = some (.string lo.path)) := Lib.hid (fun w1 hb => by
    have h1 := HCELL.out w1 hb m (by omega) 0 (by omega)
    rw [Nat.add_zero] at h1
    rw [h1, hlo]
    rfl)
  rw [hlo] at hok1 hok3 HR hok2
  obtain ⟨lp, hlp⟩ : ∃ lp, lo.path = lp := ⟨_, rfl⟩
  rw [hlp] at hok1 hok3 HR HLO hok2
  have HOK1 := Lib.hid hok1
  have HF0 : Hid (∀ (w1 : World), Below w.heap.size w w1 → w1.cell? ⟨b, off, none⟩ = some (.string (C[0]'(by omega)).path)) := Lib.hid (fun w1 hb => by
    have h1 := HCELL.out w1 hb 0 (by omega) 0 (by omega)
    rw [Nat.zero_mul, Nat.add_zero] at h1
    rw [h1]
    rfl)
  have HF2 : Hid (∀ (w1 : World), Below w.heap.size w w1 → w1.cell? ⟨b, off + 2, none⟩ = some (.string (C[0]'(by omega)).runpath)) := Lib.hid (fun w1 hb => by
    have h1 := HCELL.out w1 hb 0 (by omega) 2 (by omega)
    rw [Nat.zero_mul, Nat.add_zero] at h1
    rw [h1]
    rfl)
  obtain ⟨fp, hfp⟩ : ∃ fp, (C[0]'(by omega)).path = fp := ⟨_, rfl⟩
  obtain ⟨fr, hfr⟩ : ∃ fr, (C[0]'(by omega)).runpath = fr := ⟨_, rfl⟩
  rw [hfp] at hok2 hok3 HR HF0
  rw [hfr] at hok2 hok3 HR HF2
  have HOK2 := Lib.hid hok2
  have HOK3 := Lib.hid hok3
  have HLAY := Lib.hid (fun (sc : Bool) (ad : Option Addr) (c : Nat) (acc : List ByteArray) (list origin : ByteArray) (w1 : World) (hd : LSt w w.heap.size cs (.slice ad acc.length c) acc w1) (ok : AddOK colonP list origin acc) => refLay_any colonP w w.heap.size cs ad c acc sc list ⟨#[58]⟩ origin w1 hd ok.ls ok.os (by decide) among_colon ok.each ok.many)
  have HLAB := Lib.hid (fun (sc : Bool) (ad : Option Addr) (c : Nat) (acc : List ByteArray) (list origin : ByteArray) (w1 : World) (hd : LSt w w.heap.size cs (.slice ad acc.length c) acc w1) (ok : AddOK bothP list origin acc) => refLay_any bothP w w.heap.size cs ad c acc sc list ⟨#[58, 59]⟩ origin w1 hd ok.ls ok.os (by decide) among_both ok.each ok.many)
  have f4 := HF4.out _ D0.out.2.2
  have hmi : (0 : Int) < ((m + 1 : Nat) : Int) := by omega
  have hmi2 : (0 : Int) < (m : Int) + 1 := by omega
  have HM := Lib.hid hm
  clear hC hm h0 hR hcs hok3 hok1 hlo hlp hok2 hfp hfr
  go_enter Tryd.func18, Tryd.ntmps18
  have flp := HLO.out _ D0.out.2.2
  go_wp2_with fail
  refine (HLAB.out false none 0 [] ⟨(ec :: et).toArray⟩ lp _ D0.out HOK1.out).mono ?_
  rintro e w5 ⟨ad5, c5, rfl, hd5⟩
  have D5 := Lib.hid hd5
  clear hd5 f4 flp
  have k1 := ask_cell HCS.out.symm D5.out 1 (.slice (some ⟨b, off, none⟩) (m + 1) cc) rfl
  have k2 := ask_cell HCS.out.symm D5.out 2 (.string ⟨(ec :: et).toArray⟩) rfl
  have k3 := ask_cell HCS.out.symm D5.out 3 (.bool false) rfl
  have f4 := HF4.out _ D5.out.2.2
  have f0 := HF0.out _ D5.out.2.2
  have f2 := HF2.out _ D5.out.2.2
  go_wp2_with fail
  go_region_law (first | (go_simp; go_at_call 43; refine (HLAY.out false ad5 c5 _ fr fp _ (D5.out.below (Below.refl _ _).drew) HOK2.out).mono ?_; rintro e w6 ⟨ad6, c6, rfl, hd6⟩; have D6 := Lib.hid hd6; clear hd6))
  all_goals
    go_wp2_with fail
    refine (HLAY.out false ad6 c6 _ defaultsF ⟨#[]⟩ _ D6.out HOK3.out).mono ?_
    rintro e w7 ⟨ad7, c7, rfl, hd7⟩
    rw [HR.out] at hd7 ⊢
    have D7 := Lib.hid hd7
    clear hd7
    go_wp2_with fail
    go_ret
    exact ⟨⟨ad7, c7, rfl, D7.out.1.row.1⟩, D7.out.2.2⟩
end Go.Proofs.YtppeapafnnanbaaDoor
