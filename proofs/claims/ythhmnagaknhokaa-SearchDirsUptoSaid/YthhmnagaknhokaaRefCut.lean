/- Layer 14, the document's answer: a text is cut at each of some bytes. -/
import Derived.Test.YthhmnagaknhokaaCut
import Derived.Test.YthhmnagaknhokaaRefExp
namespace Go.Proofs.Ythhmnagaknhokaa
open Go.RowKit
set_option linter.unusedVariables false
set_option linter.unusedSimpArgs false

/-- is a byte among those? -/
def amongF (l : List UInt8) (c : UInt8) : Bool := l.any fun x => x == c
theorem among_snoc (l : List UInt8) (k : Nat) (hk : k < l.length) (c : UInt8) (h : amongF (l.take k) c = false) : amongF (l.take (k + 1)) c = (l[k] == c) := by
  unfold amongF at *
  rw [List.take_succ_eq_append_getElem hk, List.any_append, h]
  simp
theorem among_mono (l : List UInt8) (k : Nat) (c : UInt8) (h : amongF (l.take k) c = true) : amongF l c = true := by
  unfold amongF at *
  rw [List.any_eq_true] at *
  obtain ⟨x, hx, e⟩ := h
  exact ⟨x, List.mem_of_mem_take hx, e⟩
/-- what is left of a cut, at each place and behind the last -/
def CutAt (p : Nat → Bool) (s : List UInt8) (acc : List (List UInt8)) (fr i : Nat) (R : List (List UInt8)) : Prop :=
  (i ≤ s.length → acc ++ cutGo p ((s.drop fr).take (i - fr)) (s.drop i) = R) ∧ (i = s.length + 1 → acc = R)
theorem CutAt.hit {p : Nat → Bool} {s : List UInt8} {acc : List (List UInt8)} {fr i : Nat} {R : List (List UInt8)} (h : CutAt p s acc fr i R) (hi : i < s.length) (hp : p (s[i]).toNat = true) : CutAt p s (acc ++ [(s.drop fr).take (i - fr)]) (i + 1) (i + 1) R := by
  refine ⟨fun h1 => ?_, fun h1 => by omega⟩
  rw [← h.1 (by omega), List.drop_eq_getElem_cons hi, cutGo, if_pos hp, Nat.sub_self, List.take_zero, List.append_assoc]
  rfl
theorem CutAt.miss {p : Nat → Bool} {s : List UInt8} {acc : List (List UInt8)} {fr i : Nat} {R : List (List UInt8)} (h : CutAt p s acc fr i R) (hi : i < s.length) (hfr : fr ≤ i) (hp : p (s[i]).toNat = false) : CutAt p s acc fr (i + 1) R := by
  refine ⟨fun h1 => ?_, fun h1 => by omega⟩
  rw [← h.1 (by omega)]
  conv => rhs; rw [List.drop_eq_getElem_cons hi, cutGo, if_neg (by rw [hp]; simp)]
  have e : (s.drop fr).take (i + 1 - fr) = (s.drop fr).take (i - fr) ++ [s[i]] := by
    rw [show i + 1 - fr = (i - fr) + 1 from by omega, List.take_succ_eq_append_getElem (by rw [List.length_drop]; omega)]
    congr 2
    rw [List.getElem_drop]
    congr 1
    omega
  rw [e]
theorem CutAt.last {p : Nat → Bool} {s : List UInt8} {acc : List (List UInt8)} {fr : Nat} {R : List (List UInt8)} (h : CutAt p s acc fr s.length R) : CutAt p s (acc ++ [(s.drop fr).take (s.length - fr)]) (s.length + 1) (s.length + 1) R := by
  refine ⟨fun h1 => by omega, fun _ => ?_⟩
  rw [← h.1 (Nat.le_refl _), List.drop_of_length_le (i := s.length) (Nat.le_refl _)]
  rfl

set_option maxRecDepth 100000 in
set_option maxHeartbeats 4000000 in
theorem refCut_any (p : Nat → Bool) (s sep : ByteArray) (w : World) (hs : s.size ≤ 1099511627776) (hsep : sep.size ≤ 64) (hp : ∀ c : UInt8, amongF sep.data.toList c = p c.toNat) :
    Calls Try.prog 29 #[.string s, .string sep] w (TextsAns ((cutF p s.data.toList).map mkT) w) := by
  obtain ⟨R, hR⟩ : ∃ R, cutF p s.data.toList = R := ⟨_, rfl⟩
  have hll : s.data.toList.length = s.size := by simp
  have HLL := Lib.hid hll
  have HR : Hid (CutAt p s.data.toList [] 0 0 R) := Lib.hid ⟨fun _ => by rw [← hR]; rfl, fun h => by omega⟩
  have HRL : Hid (R.length ≤ s.size + 1) := Lib.hid (by rw [← hR]; have := cutGo_len p s.data.toList []; simpa [cutF] using this)
  have HP := Lib.hid hp
  have HSZ := Lib.hid hs
  have HSEP := Lib.hid hsep
  rw [hR]
  clear hR hp hs hll hsep
  go_enter Try.func29, Try.ntmps29
  go_wp2_with fail
  go_loopg [5, 6, 7] (s.size + 1) (fun g lv fv iv wr => ∃ (i fr : Nat) (acc : List (List UInt8)) (ad : Option Addr) (n c : Nat), i + g = s.size + 1 ∧ fr ≤ i ∧ lv = .slice ad n c ∧ fv = .int .i64 (fr : Int) ∧ iv = .int .i64 (i : Int) ∧ Hid (n = (acc.map mkT).length) ∧
    Hid (CutAt p s.data.toList acc fr i R) ∧ Hid (OwnT wr w.heap.size 9 (.slice ad n c) (acc.map mkT)) ∧ Hid (Below w.heap.size w wr))
  case atStart => exact ⟨0, 0, [], none, 0, 0, by omega, Nat.le_refl _, rfl, rfl, rfl, Lib.hid rfl, HR, Lib.hid (OwnT.nil _ _ _), Lib.hid (Below.refl _ _)⟩
  case round =>
    obtain ⟨i, fr, acc, ad, n, c, hg, hfr, rfl, rfl, rfl, HN, HG, HO, BW⟩ := hrel
    clear HR
    cases gk with
    | zero =>
      have h0 : ¬ (i : Int) ≤ (s.size : Int) := by omega
      have HRE : Hid (acc = R) := Lib.hid (HG.out.2 (by have := HLL.out; omega))
      clear hg hfr
      go_wp2_with fail
      go_ret
      rw [← HRE.out]
      refine ⟨ad, c, ?_, by rw [← HN.out]; exact HO.out, BW.out⟩
      rw [← HN.out]
      rfl
    | succ g =>
      have h0 : (i : Int) ≤ (s.size : Int) := by omega
      have HACC : Hid (acc.length + 1 ≤ R.length) := Lib.hid (by rw [← HG.out.1 (by have := HLL.out; omega), List.length_append]; have := cutGo_pos p (s.data.toList.drop i) ((s.data.toList.drop fr).take (i - fr)); omega)
      have HLN : Hid (n + 1 ≤ 1099511627777) := Lib.hid (by have := HACC.out; have := HRL.out; have := HN.out; have := HSZ.out; rw [List.length_map] at *; omega)
      have K1 : Hid (n + 1 ≤ maxLen) := Lib.hid (by have := HLN.out; unfold maxLen; omega)
      have K2 : Hid ((n + 1) * 16 ≤ 140737488355328) := Lib.hid (by have := HLN.out; omega)
      have hf1 : (fr : Int) ≤ (i : Int) := by omega
      have hf0 : (0 : Int) ≤ (fr : Int) := by omega
      have hp1 : IntKind.i64.wrap ((i : Int) + 1) = (i : Int) + 1 := by rw [IntKind.wrap_i64]; have := HSZ.out; omega
      have HGG := Lib.hid hg
      have HFR := Lib.hid hfr
      obtain ⟨e0, he0⟩ : ∃ e0, ((i : Int) == (s.size : Int)) = e0 := ⟨_, rfl⟩
      have HE0 : Hid (e0 = true ↔ i = s.size) := Lib.hid (by rw [← he0, beq_iff_eq]; omega)
      clear hg hfr
      go_wp2_with fail
      clear he0
      go_loopg [8, 9] sep.size (fun g2 ev kv wq => ∃ (k : Nat) (e : Bool), k + g2 = sep.size ∧ ev = .bool e ∧ kv = .int .i64 (k : Int) ∧ Hid ((i = s.size → e = true) ∧ ((h : i < s.data.toList.length) → e = amongF (sep.data.toList.take k) (s.data.toList[i]'h))) ∧ Hid (OwnT wq w.heap.size 9 (.slice ad n c) (acc.map mkT)) ∧ Hid (Below w.heap.size w wq))
      case atStart => exact ⟨0, e0, by omega, rfl, rfl, Lib.hid ⟨HE0.out.2, fun h => by
        cases e0 with
        | false => rfl
        | true => have := HE0.out.1 rfl; have := HLL.out; omega⟩, HO, BW⟩
      case round =>
        clear HO BW
        obtain ⟨k, e, hk, rfl, rfl, HEE, HO, BW⟩ := hrel
        clear HE0
        cases e with
        | false =>
          have HILT : Hid (i < s.size) := Lib.hid (by
            have h1 := HGG.out
            rcases Nat.lt_or_ge i s.size with h | h
            · exact h
            · have := HEE.out.1 (by omega); cases this)
          cases gk with
          | zero =>
            have hk0 : ¬ (k : Int) < (sep.size : Int) := by omega
            have HGN : Hid (CutAt p s.data.toList acc fr (i + 1) R) := Lib.hid (by
              have h1 := HILT.out
              have h2 := HLL.out
              refine HG.out.miss (by omega) HFR.out ?_
              rw [← HP.out]
              have h3 := HEE.out.2 (by omega)
              rw [List.take_of_length_le (by have : sep.data.toList.length = sep.size := by simp
                                             omega)] at h3
              exact h3.symm)
            clear hk
            go_wp2_with fail
            go_roundg g
            case measure => omega
            case rel => exact ⟨i + 1, fr, acc, ad, n, c, by have := HGG.out; omega, by have := HFR.out; omega, rfl, rfl, by go_num, HN, HGN, HO, BW⟩
          | succ g2 =>
            have hk0 : (k : Int) < (sep.size : Int) := by omega
            have hkl : k < sep.size := by omega
            have hil : i < s.size := HILT.out
            obtain ⟨q, hq⟩ : ∃ q, ((s[i].toNat : Int) == (sep[k].toNat : Int)) = q := ⟨_, rfl⟩
            have HQ : Hid ((i = s.size → q = true) ∧ ((h : i < s.data.toList.length) → q = amongF (sep.data.toList.take (k + 1)) (s.data.toList[i]'h))) := Lib.hid ⟨fun h => by omega, fun h => by
              have e1 : sep.data.toList.length = sep.size := by simp
              rw [among_snoc sep.data.toList k (by omega) _ (HEE.out.2 h).symm, ← hq, Bool.eq_iff_iff, beq_iff_eq, beq_iff_eq, ← UInt8.toNat_inj]
              have e2 : s.data.toList[i] = s[i] := rfl
              have e3 : sep.data.toList[k]'(by omega) = sep[k] := rfl
              rw [e2, e3]
              omega⟩
            have HK := Lib.hid hk
            have hk1 : IntKind.i64.wrap ((k : Int) + 1) = (k : Int) + 1 := by rw [IntKind.wrap_i64]; have := HSEP.out; omega
            clear hk
            go_wp2_with fail
            go_quiet (fail)
            go_wp2_with fail
            go_roundg g2
            case measure => omega
            case rel => exact ⟨k + 1, q, by have := HK.out; omega, rfl, by go_num, HQ, Lib.hid HO.out, Lib.hid (below_drewN BW.out nq)⟩
        | true =>
          have HGN : Hid (CutAt p s.data.toList (acc ++ [(s.data.toList.drop fr).take (i - fr)]) (i + 1) (i + 1) R) := Lib.hid (by
            have h1 := HGG.out
            have h2 := HLL.out
            rcases Nat.lt_or_ge i s.size with h | h
            · refine HG.out.hit (by omega) ?_
              rw [← HP.out]
              exact among_mono _ k _ (HEE.out.2 (by omega)).symm
            · have h3 : i = s.data.toList.length := by omega
              have h4 := HG.out
              rw [h3] at h4 ⊢
              exact h4.last)
          have TR := Lib.hid (text_row wr (s.extract fr i) 9)
          have OA := Lib.hid (HO.out.allocT (.cells #[.string (s.extract fr i)] 9))
          have BA := Lib.hid (BW.out.alloc BW.out.size (.cells #[.string (s.extract fr i)] 9))
          have BAS : Hid (w.heap.size ≤ (wr.alloc (.cells #[.string (s.extract fr i)] 9)).heap.size) := Lib.hid (by have := BW.out.size; simp; omega)
          clear hk
          by_cases hkk : k < sep.size
          · have hk0 : (k : Int) < (sep.size : Int) := by omega
            clear hkk
            go_wp2_with (at_builtin; go_loud (refine wpList_texts rfl (.tmp 38) (.tmp 43) texts_t text_info rfl w.heap.size w (.slice ad n c) (acc.map mkT) n (some ⟨wr.heap.size, 0, none⟩) 1 1 [s.extract fr i] rfl (by rfl) HN.out.symm rfl TR.out (fun h => by cases h) OA.out K1.out K2.out BA.out BAS.out ?_); intro v5 w5 hown5 hbe5; have O5 := Lib.hid hown5; have B5 := Lib.hid hbe5; clear hown5 hbe5)
            obtain ⟨ad5, c5, rfl⟩ := O5.out.form
            have e1 : acc.map mkT ++ [s.extract fr i] = (acc ++ [(s.data.toList.drop fr).take (i - fr)]).map mkT := by
              rw [List.map_append, extract_mid]
              rfl
            have o5 := O5.out
            rw [e1] at o5
            have e2 : (acc.map mkT ++ [s.extract fr i]).length = ((acc ++ [(s.data.toList.drop fr).take (i - fr)]).map mkT).length := by rw [e1]
            have O6 := Lib.hid o5
            have E2 := Lib.hid e2
            clear o5 e1 e2
            rw [E2.out]
            go_wp2_with fail
            go_roundg g
            case measure => omega
            case rel => exact ⟨i + 1, i + 1, acc ++ [(s.data.toList.drop fr).take (i - fr)], ad5, _, c5, by have := HGG.out; omega, Nat.le_refl _, rfl, by go_num, by go_num, Lib.hid rfl, HGN, O6, B5⟩
          · have hk0 : ¬ (k : Int) < (sep.size : Int) := by omega
            clear hkk
            go_wp2_with (at_builtin; go_loud (refine wpList_texts rfl (.tmp 38) (.tmp 43) texts_t text_info rfl w.heap.size w (.slice ad n c) (acc.map mkT) n (some ⟨wr.heap.size, 0, none⟩) 1 1 [s.extract fr i] rfl (by rfl) HN.out.symm rfl TR.out (fun h => by cases h) OA.out K1.out K2.out BA.out BAS.out ?_); intro v5 w5 hown5 hbe5; have O5 := Lib.hid hown5; have B5 := Lib.hid hbe5; clear hown5 hbe5)
            obtain ⟨ad5, c5, rfl⟩ := O5.out.form
            have e1 : acc.map mkT ++ [s.extract fr i] = (acc ++ [(s.data.toList.drop fr).take (i - fr)]).map mkT := by
              rw [List.map_append, extract_mid]
              rfl
            have o5 := O5.out
            rw [e1] at o5
            have e2 : (acc.map mkT ++ [s.extract fr i]).length = ((acc ++ [(s.data.toList.drop fr).take (i - fr)]).map mkT).length := by rw [e1]
            have O6 := Lib.hid o5
            have E2 := Lib.hid e2
            clear o5 e1 e2
            rw [E2.out]
            go_wp2_with fail
            go_roundg g
            case measure => omega
            case rel => exact ⟨i + 1, i + 1, acc ++ [(s.data.toList.drop fr).take (i - fr)], ad5, _, c5, by have := HGG.out; omega, Nat.le_refl _, rfl, by go_num, by go_num, Lib.hid rfl, HGN, O6, B5⟩
end Go.Proofs.Ythhmnagaknhokaa
