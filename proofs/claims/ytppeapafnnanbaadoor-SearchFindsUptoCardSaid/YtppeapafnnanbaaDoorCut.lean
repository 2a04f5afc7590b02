/- Layer 14: a text is cut at some runes. -/
import Derived.Test.YtppeapafnnanbaaDoorSearchF
import Derived.Test.YtppeapafnnanbaaDoorToken
import Derived.Deep.LoopGhost
import Derived.IntWalk
import Derived.WalkMore
namespace Go.Proofs.YtppeapafnnanbaaDoor
open Go.RowKit
set_option linter.unusedVariables false
set_option linter.unusedSimpArgs false

theorem extract_mid (s : ByteArray) (a b : Nat) : s.extract a b = ⟨((s.data.toList.drop a).take (b - a)).toArray⟩ := by
  apply ByteArray.ext
  apply Array.ext'
  simp [ByteArray.data_extract]
def mkT (l : List UInt8) : ByteArray := ⟨l.toArray⟩
/-- texts that are answered -/
def TextsAns (R : List ByteArray) (w : World) (e : Ending) (w' : World) : Prop :=
  ∃ ad c, e = .returned (.slice ad R.length c) ∧ OwnT w' w.heap.size 9 (.slice ad R.length c) R ∧ Below w.heap.size w w'

def colonP (n : Nat) : Bool := n == 58
def bothP (n : Nat) : Bool := n == 58 || n == 59
theorem colon_any (r : Nat) (w : World) : Calls Tryd.prog 28 #[.int .i32 (r : Int)] w fun e w' => e = .returned (.bool (colonP r)) ∧ w = w' := by
  have h : ((r : Int) == 58) = colonP r := by
    unfold colonP
    rw [Bool.eq_iff_iff, beq_iff_eq, beq_iff_eq]; omega
  go_enter Tryd.func28, Tryd.ntmps28
  go_wp2
  go_ret
  exact ⟨by rw [← h]; rfl, rfl⟩
theorem both_any (r : Nat) (w : World) : Calls Tryd.prog 30 #[.int .i32 (r : Int)] w fun e w' => e = .returned (.bool (bothP r)) ∧ w = w' := by
  by_cases h1 : r = 58
  · subst h1
    go_enter Tryd.func30, Tryd.ntmps30
    go_wp2
    go_ret
    exact ⟨rfl, rfl⟩
  · have h : ((r : Int) == 59) = bothP r := by
      unfold bothP
      rw [Bool.eq_iff_iff, beq_iff_eq, Bool.or_eq_true, beq_iff_eq, beq_iff_eq]; omega
    have h2 : ((r : Int) == 58) = false := beq_eq_false_iff_ne.2 (by omega)
    have H := Lib.hid h
    clear h h1
    go_enter Tryd.func30, Tryd.ntmps30
    go_wp2
    go_ret
    exact ⟨by rw [← H.out]; rfl, rfl⟩

theorem OwnT.iterAt {w : World} {B k : Nat} {e : TypeId} {v : Value} {T : List ByteArray} (h : OwnT w B e v T) (hk : k < B) (s : ByteArray) (pos : Nat) : OwnT (w.iterAt k s pos) B e v T := by
  obtain ⟨h1, h2⟩ := h
  refine ⟨h1, ?_⟩
  rcases h2 with h2 | ⟨g, cap, cur, hv, hB, hg, r⟩
  · exact .inl h2
  · exact .inr ⟨g, cap, cur, hv, hB, by rw [Lib.iterAt_other w k g s pos (by omega)]; exact hg, r⟩

set_option maxRecDepth 100000 in
set_option maxHeartbeats 4000000 in
theorem cut_any (F : Nat) (p : Nat → Bool) (hen : ∀ (args : Array Value) (w : World), (callFunc F args).run Tryd.prog w = .ok (.enter F args) w) (s : ByteArray) (w : World) (hs : s.size ≤ 1099511627776)
    (HFn : ∀ (r : Nat) (w : World), Calls Tryd.prog F #[.int .i32 (r : Int)] w fun e w' => e = .returned (.bool (p r)) ∧ w = w') (hp : ∀ r, 128 ≤ r → p r = false) :
    Calls Tryd.prog 26 #[.string s, .func (.func F) #[] #[]] w (TextsAns ((cutF p s.data.toList).map mkT) w) := by
  obtain ⟨R, hR⟩ : ∃ R, cutF p s.data.toList = R := ⟨_, rfl⟩
  have HR : Hid ([] ++ cutGo p ((s.data.toList.drop 0).take (0 - 0)) (s.data.toList.drop 0) = R) := Lib.hid (by rw [← hR]; rfl)
  have HRL : Hid (R.length ≤ s.size + 1) := Lib.hid (by rw [← hR]; have := cutGo_len p s.data.toList []; simpa [cutF] using this)
  have HI0 : Hid ((w.alloc (.stringIter s 0)).heap[w.heap.size]? = some (.stringIter s 0)) := Lib.hid (heap_alloc_new _ _)
  have HB0 : Hid (Below w.heap.size w (w.alloc (.stringIter s 0))) := Lib.hid ((Below.refl _ _).alloc (Nat.le_refl _) _)
  have HS0 : Hid (w.heap.size + 1 ≤ (w.alloc (.stringIter s 0)).heap.size) := Lib.hid (by simp)
  have HFN := Lib.hid HFn
  have HEN := Lib.hid hen
  have HP := Lib.hid hp
  have HSZ := Lib.hid hs
  rw [hR]
  clear hR HFn hp hen hs
  go_enter Tryd.func26, Tryd.ntmps26
  go_wp2_with fail
  change Code.wp _ _ _ _ (w.alloc (.stringIter s 0))
  generalize w.alloc (.stringIter s 0) = w1 at *
  go_loopg [5, 6] s.size (fun g lv fv wr => ∃ (pos fr : Nat) (acc : List (List UInt8)) (ad : Option Addr) (n c : Nat), s.size - pos ≤ g ∧ pos ≤ s.size ∧ fr ≤ pos ∧ lv = .slice ad n c ∧ fv = .int .i64 (fr : Int) ∧ Hid (n = (acc.map mkT).length) ∧
    Hid (acc ++ cutGo p ((s.data.toList.drop fr).take (pos - fr)) (s.data.toList.drop pos) = R) ∧ Hid (wr.heap[w.heap.size]? = some (.stringIter s pos)) ∧ Hid (OwnT wr (w.heap.size + 1) 9 (.slice ad n c) (acc.map mkT)) ∧ Hid (Below w.heap.size w wr) ∧ Hid (w.heap.size + 1 ≤ wr.heap.size))
  case atStart => exact ⟨0, 0, [], none, 0, 0, by omega, by omega, Nat.le_refl _, rfl, rfl, Lib.hid rfl, HR, HI0, Lib.hid (OwnT.nil _ _ _), HB0, HS0⟩
  case round =>
    obtain ⟨pos, fr, acc, ad, n, c, hg, hpos, hfr, rfl, rfl, HN, HG, HIT, HO, BW, BS⟩ := hrel
    clear HR HI0 HB0 HS0
    have HACC : Hid (acc.length + 1 ≤ R.length) := Lib.hid (by rw [← HG.out, List.length_append]; have := cutGo_pos p (s.data.toList.drop pos) ((s.data.toList.drop fr).take (pos - fr)); omega)
    have HLN : Hid (n + 1 ≤ 1099511627777) := Lib.hid (by have := HACC.out; have := HRL.out; have := HN.out; have := HSZ.out; rw [List.length_map] at *; omega)
    have K1 : Hid (n + 1 ≤ maxLen) := Lib.hid (by have := HLN.out; unfold maxLen; omega)
    have K2 : Hid ((n + 1) * 16 ≤ 140737488355328) := Lib.hid (by have := HLN.out; omega)
    by_cases hlt : pos < s.size
    · have hst := decode_step s pos hlt
      have hnx0 := fun ty => Lib.run_next_any_at (P := Tryd.prog) wr w.heap.size s pos ty HIT.out hlt
      have hcons : s.data.toList.drop pos = s[pos] :: s.data.toList.drop (pos + 1) := by
        rw [List.drop_eq_getElem_cons (by simpa using hlt)]
        rfl
      have hget : ∀ j, (h : pos + j < s.size) → s.get! (pos + j) = s.data.toList[pos + j]'(by simpa using h) := fun j h => by rw [get_bang s (pos + j) h]; rfl
      obtain ⟨r, m, hdec⟩ : ∃ r m, Utf8.decode s pos = (r, m) := ⟨_, _, rfl⟩
      rw [hdec] at hst hnx0
      generalize s[pos] = ch at hst hcons
      simp only at hst
      have hm1 : 1 ≤ m ∧ pos + m ≤ s.size := by
        rcases hst with ⟨-, h2⟩ | ⟨-, -, -, h3, h4, -⟩
        · simp only [Prod.mk.injEq] at h2; omega
        · exact ⟨h3, h4⟩
      have hr31 : r < 2147483648 := by
        rcases hst with ⟨h1, h2⟩ | ⟨-, -, h3, -⟩
        · simp only [Prod.mk.injEq] at h2; omega
        · exact h3
      have HSTEP : Hid ((p r = true ∧ m = 1 ∧ p ch.toNat = true) ∨ (p r = false ∧ ∀ c ∈ (s.data.toList.drop pos).take m, p c.toNat = false)) := Lib.hid (by
        rcases hst with ⟨h1, h2⟩ | ⟨-, h2, -, h3, h4, h5⟩
        · simp only [Prod.mk.injEq] at h2
          obtain ⟨rfl, rfl⟩ := h2
          cases hpp : p ch.toNat with
          | true => exact .inl ⟨rfl, rfl, rfl⟩
          | false =>
            refine .inr ⟨rfl, fun c hc => ?_⟩
            rw [hcons] at hc
            simp only [List.take_succ_cons, List.take_zero, List.mem_cons, List.not_mem_nil, or_false] at hc
            rw [hc, hpp]
        · refine .inr ⟨HP.out r h2, fun c hc => HP.out _ ?_⟩
          obtain ⟨j, hj, e⟩ := List.mem_iff_getElem.1 hc
          have hjm : j < m := by
            have : ((s.data.toList.drop pos).take m).length ≤ m := List.length_take_le _ _
            omega
          have h6 := h5 j hjm
          rw [hget j (by omega)] at h6
          rw [← e]
          simpa using h6)
      have hnx : ∀ ty, (Instr.next (.pointer (some ⟨w.heap.size, 0, none⟩)) true ty).run Tryd.prog wr = .ok (.tuple #[.bool true, .int .i64 (pos : Int), .int .i32 (r : Int)]) (wr.iterAt w.heap.size s (pos + m)) := hnx0
      have HIT2 := Lib.hid (Lib.iterAt_heap wr w.heap.size s pos (pos + m) HIT.out)
      have HO2 := Lib.hid (HO.out.iterAt (k := w.heap.size) (by omega) s (pos + m))
      have BW2 : Hid (Below w.heap.size w (wr.iterAt w.heap.size s (pos + m))) := Lib.hid (Lib.below_iterAt BW.out (Nat.le_refl _) _ _)
      have BS2 : Hid (w.heap.size + 1 ≤ (wr.iterAt w.heap.size s (pos + m)).heap.size) := Lib.hid (by have := BS.out; simpa [World.iterAt] using this)
      have HCONS := Lib.hid hcons
      have hpi : (pos : Int) ≤ (s.size : Int) := by omega
      have hfi : (fr : Int) ≤ (pos : Int) := by omega
      have hf0 : (0 : Int) ≤ (fr : Int) := by omega
      have hp1 : IntKind.i64.wrap ((pos : Int) + 1) = (pos : Int) + 1 := by rw [IntKind.wrap_i64]; have := HSZ.out; omega
      obtain ⟨g, rfl⟩ : ∃ g, gk = g + 1 := ⟨gk - 1, by omega⟩
      have HM := Lib.hid hm1
      have HGG := Lib.hid hg
      have HFR := Lib.hid hfr
      have HPS := Lib.hid hpos
      have HLT := Lib.hid hlt
      clear hnx0 hst hdec hcons hget hm1 hg hfr hpos hlt
      have hEN := HEN.out
      go_wp2_with fail
      clear hEN
      generalize wr.iterAt w.heap.size s (pos + m) = w2 at *
      refine (HFN.out r w2).mono ?_
      rintro e w3 ⟨rfl, rfl⟩
      rcases HSTEP.out with ⟨hpr, hm, hps⟩ | ⟨hpr, hall⟩
      · rw [hpr]
        have HGN : Hid ((acc ++ [(s.data.toList.drop fr).take (pos - fr)]) ++ cutGo p ((s.data.toList.drop (pos + 1)).take (pos + 1 - (pos + 1))) (s.data.toList.drop (pos + 1)) = R) := Lib.hid (by
          rw [← HG.out, HCONS.out, cutGo, if_pos hps, Nat.sub_self, List.take_zero, List.append_assoc]
          rfl)
        have HM1 := Lib.hid hm
        have TR := Lib.hid (text_row w2 (s.extract fr pos) 9)
        have OA := Lib.hid (HO2.out.allocT (.cells #[.string (s.extract fr pos)] 9))
        have BA := Lib.hid (BW2.out.alloc BW2.out.size (.cells #[.string (s.extract fr pos)] 9))
        have BAS : Hid (w.heap.size + 1 ≤ (w2.alloc (.cells #[.string (s.extract fr pos)] 9)).heap.size) := Lib.hid (by have := BS2.out; simp; omega)
        have BI : Hid (Below (w.heap.size + 1) w2 (w2.alloc (.cells #[.string (s.extract fr pos)] 9))) := Lib.hid ((Below.refl _ _).alloc BS2.out _)
        clear hpr hm hps
        go_wp2_with (at_builtin; go_loud (refine wpList_texts rfl (.tmp 18) (.tmp 23) texts_t text_info rfl (w.heap.size + 1) w2 (.slice ad n c) (acc.map mkT) n (some ⟨w2.heap.size, 0, none⟩) 1 1 [s.extract fr pos] rfl (by rfl) HN.out.symm rfl TR.out (fun h => by cases h) OA.out K1.out K2.out BI.out BAS.out ?_); intro v5 w5 hown5 hbe5; have O5 := Lib.hid hown5; have B5 := Lib.hid hbe5; clear hown5 hbe5)
        obtain ⟨ad5, c5, rfl⟩ := O5.out.form
        have e1 : acc.map mkT ++ [s.extract fr pos] = (acc ++ [(s.data.toList.drop fr).take (pos - fr)]).map mkT := by
          rw [List.map_append, extract_mid]
          rfl
        have o5 := O5.out
        rw [e1] at o5
        have e2 : (acc.map mkT ++ [s.extract fr pos]).length = ((acc ++ [(s.data.toList.drop fr).take (pos - fr)]).map mkT).length := by rw [e1]
        have O6 := Lib.hid o5
        have E2 := Lib.hid e2
        have I5 : Hid (w5.heap[w.heap.size]? = some (.stringIter s (pos + m))) := Lib.hid (by rw [B5.out.block _ (by omega)]; exact HIT2.out)
        rw [HM1.out] at I5
        have B6 := Lib.hid (BW2.out.trans (B5.out.mono (by omega)))
        have S6 : Hid (w.heap.size + 1 ≤ w5.heap.size) := Lib.hid (Nat.le_trans BS2.out B5.out.size)
        clear o5 e1 e2
        rw [E2.out]
        go_roundg g
        case measure => omega
        case rel => exact ⟨pos + 1, pos + 1, acc ++ [(s.data.toList.drop fr).take (pos - fr)], ad5, _, c5, by have := HGG.out; omega, by have := HLT.out; omega, Nat.le_refl _, rfl, by go_num, Lib.hid rfl, HGN, I5, O6, B6, S6⟩
      · rw [hpr]
        have HGN : Hid (acc ++ cutGo p ((s.data.toList.drop fr).take (pos + m - fr)) (s.data.toList.drop (pos + m)) = R) := Lib.hid (by
          rw [← HG.out]
          have e1 : s.data.toList.drop pos = (s.data.toList.drop pos).take m ++ s.data.toList.drop (pos + m) := by
            rw [← List.drop_drop]
            exact (List.take_append_drop m _).symm
          have e2 : (s.data.toList.drop fr).take (pos + m - fr) = (s.data.toList.drop fr).take (pos - fr) ++ (s.data.toList.drop pos).take m := by
            have := HFR.out
            rw [show pos + m - fr = (pos - fr) + m from by omega, List.take_add, List.drop_drop, show fr + (pos - fr) = pos from by omega]
          conv => rhs; rw [e1]
          rw [cutGo_skip _ _ _ hall, e2])
        clear hpr hall
        go_wp2_with fail
        go_roundg g
        case measure => omega
        case rel => exact ⟨pos + m, fr, acc, ad, n, c, by have := HGG.out; have := HM.out.1; omega, HM.out.2, by have := HFR.out; omega, rfl, rfl, HN, HGN, HIT2, HO2, BW2, BS2⟩
    · have hpe : pos = s.size := by omega
      subst hpe
      have hnx : ∀ ty, (Instr.next (.pointer (some ⟨w.heap.size, 0, none⟩)) true ty).run Tryd.prog wr = .ok (.tuple #[.bool false]) wr := fun ty => Lib.run_next_end_at wr w.heap.size s s.size ty HIT.out (by omega)
      have HRE : Hid (R = acc ++ [s.data.toList.drop fr]) := Lib.hid (by
        rw [← HG.out, List.drop_of_length_le (i := s.size) (by simp), List.take_of_length_le (by simp)]
        rfl)
      have hf1 : (fr : Int) ≤ (s.size : Int) := by omega
      have hf0 : (0 : Int) ≤ (fr : Int) := by omega
      have TR := Lib.hid (text_row wr (s.extract fr s.size) 9)
      have OA := Lib.hid (HO.out.allocT (.cells #[.string (s.extract fr s.size)] 9))
      have BA := Lib.hid (BW.out.alloc BW.out.size (.cells #[.string (s.extract fr s.size)] 9))
      have BAS : Hid (w.heap.size + 1 ≤ (wr.alloc (.cells #[.string (s.extract fr s.size)] 9)).heap.size) := Lib.hid (by have := BS.out; simp; omega)
      clear hlt hg hpos hfr
      go_wp2_with (at_builtin; go_loud (refine wpList_texts rfl (.tmp 27) (.tmp 31) texts_t text_info rfl (w.heap.size + 1) (wr.alloc (.cells #[.string (s.extract fr s.size)] 9)) (.slice ad n c) (acc.map mkT) n (some ⟨wr.heap.size, 0, none⟩) 1 1 [s.extract fr s.size] rfl (by rfl) HN.out.symm rfl TR.out (fun h => by cases h) OA.out K1.out K2.out (Below.refl _ _) BAS.out ?_); intro v5 w5 hown5 hbe5; have O5 := Lib.hid hown5; have B5 := Lib.hid hbe5; clear hown5 hbe5)
      obtain ⟨ad5, c5, rfl⟩ := O5.out.form
      go_ret
      have e1 : acc.map mkT ++ [s.extract fr s.size] = R.map mkT := by
        rw [HRE.out, List.map_append, extract_drop]
        rfl
      have o5 := O5.out
      rw [e1] at o5
      refine ⟨ad5, c5, ?_, o5.mono (by omega), BA.out.trans (B5.out.mono (by omega))⟩
      rw [← e1]
      rfl
end Go.Proofs.YtppeapafnnanbaaDoor
