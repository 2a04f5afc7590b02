/- Layer 6, the statement's own walk: every place of a table of strings tells a text, or that it is too long. -/
import Derived.Test.YtaconhigaoflaaaSymWhole
namespace Go.Proofs.Ytaconhigaoflaaa
open Go.RowKit
set_option linter.unusedVariables false
set_option linter.unusedSimpArgs false

theorem slice64 : IntSlice Try.prog 26 23 .u64 8 := ⟨Try.underlying26, by kernel_rfl⟩
theorem slice8 : IntSlice Try.prog 25 5 .u8 1 := ⟨Try.underlying25, by kernel_rfl⟩

def posI (T : List ByteArray) (k : Nat) : List Int := (List.range k).map fun j => (((tabL (T.take j)).length : Nat) : Int)
theorem posI_succ (T : List ByteArray) (k : Nat) : posI T (k + 1) = posI T k ++ [(((tabL (T.take k)).length : Nat) : Int)] := by simp [posI, List.range_succ]
theorem posI_length (T : List ByteArray) (k : Nat) : (posI T k).length = k := by simp [posI]
theorem posI_getD (T : List ByteArray) (k j : Nat) (h : j < k) : (posI T k).getD j 0 = (((tabL (T.take j)).length : Nat) : Int) := by simp [posI, List.getD, h]
theorem noZero_of {t : ByteArray} (h : ∀ q, (hq : q < t.size) → t[q] ≠ 0) : noZero t := by
  intro b hb
  obtain ⟨q, hq, rfl⟩ := List.mem_iff_getElem.1 hb
  exact h q (by simpa using hq)

set_option maxRecDepth 100000 in
set_option maxHeartbeats 16000000 in
theorem whole_at (a : Option Addr) (cap : Nat) (T : List ByteArray) (off : Nat) (w : World) (h : SRow w a T) (hb : bulkT T ≤ 1048576) (hl : T.length ≤ 1048576) (ho : off < 18446744073709551616) :
    Calls Try.prog 3 #[.slice a T.length cap, .int .u64 off] w fun e w' => e = .returned (.bool true) ∧ Below w.heap.size w w' := by
  have hu := Lib.hid (up_true w)
  have he := run_eql_code
  have hn := run_neq_code
  have H := Lib.hid h
  clear h
  obtain ⟨M, hM⟩ : ∃ M, M = min T.length 40 := ⟨_, rfl⟩
  have hM1 : M ≤ T.length := by omega
  have hM2 : M ≤ 40 := by omega
  have hM3 : M = T.length ∨ M = 40 := by omega
  clear hM
  go_enter Try.func3, Try.ntmps3
  go_wp2_with fail
  refine hu.out.mono ?_
  rintro e w1 ⟨rfl, hb1⟩
  have B1 := Lib.hid hb1
  clear hb1
  have O0 : Hid (OwnI (w1.alloc (.cells #[.int .u8 0] 5)) w.heap.size 5 .u8 (.slice (some ⟨w1.heap.size, 0, none⟩) 1 1) [0]) := by
    refine Lib.hid ⟨by simp, .inr ⟨w1.heap.size, 1, #[.int .u8 0], by simp, B1.out.size, heap_alloc_new _ _, by simp, by simp [maxLen], by simp, by simp⟩⟩
  have B2 : Hid (Below w.heap.size w (w1.alloc (.cells #[.int .u8 0] 5))) := Lib.hid (B1.out.alloc B1.out.size _)
  clear B1
  go_wp2
  generalize w1.alloc (.cells #[.int .u8 0] 5) = w2 at *
  go_loopg [6, 7, 8] M (fun g s p i wr => ∃ (k : Nat) (ad1 ad2 : Option Addr) (c1 c2 : Nat), k + g = M ∧ i = .int .i64 k ∧ s = .slice ad1 (bulkT (T.take k) + 1) c1 ∧ OwnI wr w.heap.size 5 .u8 (.slice ad1 (bulkT (T.take k) + 1) c1) (tabL (T.take k)) ∧
    p = .slice ad2 k c2 ∧ OwnI wr w.heap.size 23 .u64 (.slice ad2 k c2) (posI T k) ∧ Below w.heap.size w wr ∧ Hid (∀ j, (hj : j < T.length) → j < k → noZero T[j]))
  case atStart => exact ⟨0, _, none, 1, 0, by omega, rfl, rfl, O0.out, rfl, OwnI.nil _ _ _ _, B2.out, Lib.hid (fun j hj hk => by omega)⟩
  case round =>
    clear O0 B2
    obtain ⟨k, ad1, ad2, c1, c2, hk, rfl, rfl, hown1, rfl, hown2, hbe, hnz⟩ := hrel
    have hsz := hbe.size
    have hbk := bulk_take T k
    cases gk with
    | succ g =>
      have hlt : k < T.length := by omega
      have hlt40 : k < 40 := by omega
      obtain ⟨b, o, rfl, hbl, hc0⟩ := H.out k hlt
      have hck := (hbe.cell (p := ⟨b, o + k, none⟩) hbl).trans hc0
      have HC0 := Lib.hid hc0
      clear hc0
      have hts : T[k].size + 1 ≤ 1048576 := by
        have h1 := bulk_take T (k + 1)
        have : bulkT (T.take (k + 1)) = bulkT (T.take k) + (T[k].size + 1) := by
          unfold bulkT
          rw [List.take_succ_eq_append_getElem hlt, List.map_append, List.sum_append]
          simp
        omega
      have HS := Lib.hid (show bulkT (T.take (k + 1)) = bulkT (T.take k) + (T[k].size + 1) from by
        unfold bulkT
        rw [List.take_succ_eq_append_getElem hlt, List.map_append, List.sum_append]
        simp)
      have HT := Lib.hid (tabL_take T k hlt)
      have HNZ := Lib.hid (fun (hz : noZero T[k]) => (fun j (hj : j < T.length) (hjk : j < k + 1) => by
        by_cases hjk' : j = k
        · subst hjk'; exact hz
        · exact hnz.out j hj (by omega) : ∀ j, (hj : j < T.length) → j < k + 1 → noZero T[j]))
      rw [getDT hlt] at hck HC0
      have HP := Lib.hid (posI_succ T k)
      have HL1 := Lib.hid (tabL_len (T.take k))
      generalize T[k] = t at *
      go_wp2
      go_loopg [9] t.size (fun g2 c wx => ∃ m : Nat, m + g2 = t.size ∧ c = .int .i64 m ∧ Hid (∀ q, (hq : q < t.size) → q < m → t[q] ≠ 0) ∧ wr = wx)
      case atStart => exact ⟨0, by omega, rfl, Lib.hid (fun q hq hm => by omega), rfl⟩
      case round =>
        obtain ⟨m, hm, rfl, hq, rfl⟩ := hrel
        cases gk with
        | succ g2 =>
          have hmt : m < t.size := by omega
          by_cases hz : t[m] = 0
          · have hz2 : ((t[m].toNat : Int) == 0) = true := by rw [hz]; rfl
            go_wp2
            go_ret
            exact ⟨rfl, hbe⟩
          · have hz2 : ((t[m].toNat : Int) == 0) = false := by
              rw [beq_eq_false_iff_ne]
              intro h0
              apply hz
              apply UInt8.toNat_inj.1
              simpa using h0
            have HQ : Hid (∀ q, (hq : q < t.size) → q < m + 1 → t[q] ≠ 0) := Lib.hid (fun q hql hqm => by
              by_cases hqq : q = m
              · subst hqq; exact hz
              · exact hq.out q hql (by omega))
            clear hz
            go_wp2
            go_roundg g2
            case measure => omega
            case rel => exact ⟨m + 1, by omega, by go_num, HQ, rfl⟩
        | zero =>
          obtain rfl : m = t.size := by omega
          have HZ := Lib.hid (HNZ.out (noZero_of fun q hql => hq.out q hql hql))
          clear hq HNZ
          have hne : (5 : TypeId) ≠ 23 := by decide
          have hne' : (23 : TypeId) ≠ 5 := by decide
          have HNE := Lib.hid hne; have HNE' := Lib.hid hne'
          clear hne hne'
          go_wp2_with (first
            | (at_builtin; refine wpList_push_k rfl (.tmp 45) (.tmp 49) slice64 rfl w.heap.size w _ (posI T k) k _ rfl rfl (posI_length T k) hown2 (by unfold maxLen; omega) (by omega) hbe hsz ?_; intro ad3 c3 w3 hown3 hbe3 hkp3; have O3 := Lib.hid hown3; have O1 := Lib.hid (hkp3 _ _ _ _ _ HNE.out hown1); have hck3 := (hbe3.cell (p := ⟨b, o + k, none⟩) hbl).trans HC0.out; have hs3 := hbe3.size; clear hown3 hown2 hown1 hkp3 hck)
            | (at_builtin; refine wpList_text rfl (.tmp 51) (.tmp 55) slice8 Try.underlying9 rfl w.heap.size w _ (tabL (T.take k)) (bulkT (T.take k) + 1) t rfl rfl HL1.out O1.out (by omega) hbe3 hs3 ?_; intro ad4 c4 w4 hown4 hbe4 hkp4; have O4 := Lib.hid hown4; have O5 := Lib.hid (hkp4 _ _ _ _ _ HNE'.out O3.out); have hs4 := hbe4.size; have HL4 := Lib.hid (show (tabL (T.take k) ++ bI t).length = bulkT (T.take k) + 1 + t.size from by rw [List.length_append, bI_length, HL1.out]); clear hown4 hkp4 O1 O3 hbe3)
            | (at_builtin; refine wpList_push_k rfl (.tmp 57) (.tmp 58) slice8 rfl w.heap.size w _ (tabL (T.take k) ++ bI t) (bulkT (T.take k) + 1 + t.size) 0 rfl rfl HL4.out O4.out (by unfold maxLen; omega) (by omega) hbe4 hs4 ?_; intro ad6 c6 w6 hown6 hbe6 hkp6; have O6 := Lib.hid hown6; have O7 := Lib.hid (hkp6 _ _ _ _ _ HNE'.out O5.out); clear hown6 hkp6 O4 O5 hbe4)
            | fail)
          have e6 : bulkT (T.take k) + 1 + t.size + 1 = bulkT (T.take (k + 1)) + 1 := by rw [HS.out]; omega
          go_roundg g
          case measure => omega
          case rel =>
            refine ⟨k + 1, ad6, ad3, c6, c3, by omega, by go_num, by rw [← e6], ?_, rfl, ?_, hbe6, HZ⟩
            · rw [← e6, HT.out]; exact O6.out
            · rw [HP.out, HL1.out]; exact O7.out
    | zero =>
      have hkM : k = M := by omega
      clear hk
      subst hkM
      have HNZ := hnz
      have HB := Lib.hid hbe
      have O1 := Lib.hid hown1
      have O2 := Lib.hid hown2
      have HLK := Lib.hid (tabL_len (T.take k))
      clear hown1 hown2 hbe hnz
      have hcase : ¬ k < T.length ∨ (k < T.length ∧ ¬ k < 40) := by omega
      clear hM3
      rcases hcase with hcs | ⟨hcs, hcs2⟩
      all_goals
        go_wp2
        go_loopg [10] k (fun g i wx => ∃ m : Nat, m + g = k ∧ i = .int .i64 m ∧ wr = wx)
        case atStart => exact ⟨0, by omega, rfl, rfl⟩
        case round =>
          obtain ⟨m, hm, rfl, rfl⟩ := hrel
          obtain ⟨-, hr1, -⟩ := O1.out.at
          obtain ⟨-, hr2, -⟩ := O2.out.at
          have hcap : (tabL (T.take k)).length ≤ c1 := O1.out.fit.2
          cases gk with
          | succ g =>
            have hmT : m < T.length := by omega
            have hmk : m < k := by omega
            obtain ⟨b, o, rfl, hbl, hc0⟩ := H.out m hmT
            have hck := (HB.out.cell (p := ⟨b, o + m, none⟩) hbl).trans hc0
            obtain ⟨b2, o2, rfl, hc2⟩ := hr2 m (by rw [posI_length]; exact hmk)
            rw [posI_getD T k m hmk] at hc2
            obtain ⟨hf1, hf2, hf3⟩ := tab_find T m k hmk hM1 (HNZ.out m hmT hmk)
            rw [getDT hmT] at hck
            clear hc0
            have hlm : (tabL (T.take m)).length < 18446744073709551616 := by rw [HLK.out] at hf3; omega
            have hll : (tabL (T.take k)).length ≤ 140737488351232 := by rw [HLK.out]; omega
            by_cases ht : T[m].size ≤ 255
            · have hy := symText_yes ad1 c1 (tabL (T.take k)) (tabL (T.take m)).length wr hr1 (tabL_bytes _) hll hcap hlm hf3 T[m].size hf1 ht
              rw [hf2, bI_back, HLK.out, show errV 0 = .nilIface from rfl] at hy
              have HY := Lib.hid hy
              clear hy hf1 hf2 hr1 hr2
              generalize (tabL (T.take m)).length = pm at *
              generalize T[m] = t at *
              go_wp2_with (first
                | (go_at_call 5; refine (Hid.out HY).mono ?_; rintro e w' ⟨rfl, rfl⟩))
              go_roundg g
              case measure => omega
              case rel => exact ⟨m + 1, by omega, by go_num, rfl⟩
            · have hy := symText_long ad1 c1 (tabL (T.take k)) (tabL (T.take m)).length wr hr1 (tabL_bytes _) hll hcap hlm hf3 T[m].size hf1 (by omega)
              rw [HLK.out, show errV 2 = .iface 31 (.int .i64 2) from rfl] at hy
              have HY := Lib.hid hy
              clear hy hf1 hf2 hr1 hr2
              generalize (tabL (T.take m)).length = pm at *
              generalize T[m] = t at *
              go_wp2_with (first
                | (go_at_call 5; refine (Hid.out HY).mono ?_; rintro e w' ⟨rfl, rfl⟩))
              go_roundg g
              case measure => omega
              case rel => exact ⟨m + 1, by omega, by go_num, rfl⟩
          | zero =>
            have hm' : m = k := by omega
            clear hm
            subst hm'
            have hll : (tabL (T.take m)).length ≤ 140737488351232 := by rw [HLK.out]; omega
            by_cases hin : off < (tabL (T.take m)).length
            · obtain ⟨q, hq⟩ := tab_last (T.take m) off hin
              have hlt2 : off < bulkT (T.take m) + 1 := by rw [← HLK.out]; exact hin
              by_cases hq2 : q ≤ 255
              · have hy := symText_yes ad1 c1 (tabL (T.take m)) off wr hr1 (tabL_bytes _) hll hcap ho hin q hq hq2
                rw [HLK.out, show errV 0 = .nilIface from rfl] at hy
                have HY := Lib.hid hy
                clear hy hq hr1 hr2 hin
                go_wp2_with (first
                  | (go_at_call 5; refine (Hid.out HY).mono ?_; rintro e w' ⟨rfl, rfl⟩))
                go_ret
                exact ⟨rfl, HB.out⟩
              · have hy := symText_long ad1 c1 (tabL (T.take m)) off wr hr1 (tabL_bytes _) hll hcap ho hin q hq (by omega)
                rw [HLK.out, show errV 2 = .iface 31 (.int .i64 2) from rfl] at hy
                have HY := Lib.hid hy
                clear hy hq hr1 hr2 hin
                go_wp2_with (first
                  | (go_at_call 5; refine (Hid.out HY).mono ?_; rintro e w' ⟨rfl, rfl⟩))
                go_ret
                exact ⟨rfl, HB.out⟩
            · have hy := symText_range ad1 c1 (tabL (T.take m)).length off wr hll ho hin
              have hlt2 : ¬ off < bulkT (T.take m) + 1 := by rw [← HLK.out]; exact hin
              rw [HLK.out, show errV 4 = .iface 31 (.int .i64 4) from rfl] at hy
              have HY := Lib.hid hy
              clear hy hr1 hr2 hin
              go_wp2_with (first
                | (go_at_call 5; refine (Hid.out HY).mono ?_; rintro e w' ⟨rfl, rfl⟩))
              go_ret
              exact ⟨rfl, HB.out⟩
theorem walk_SymsWhole (a : Option Addr) (cap : Nat) (T : List ByteArray) (x : Int) (w : World) (h : SRow w a T) (wx : (Lit.int .u64 x).wf = true) (hb : bulkT T ≤ 1048576) :
    Calls Try.prog 3 #[.slice a T.length cap, .int .u64 x] w fun e w' => e = .returned (.bool true) ∧ Below w.heap.size w w' := by
  obtain ⟨h0, h1⟩ := wf_u64_bounds wx
  rw [M64_eq] at h1
  obtain ⟨off, rfl⟩ := Int.eq_ofNat_of_zero_le h0
  have hl : T.length ≤ bulkT T := by
    clear h hb
    induction T with
    | nil => simp
    | cons t T ih => simp only [bulkT, List.map_cons, List.sum_cons, List.length_cons] at *; omega
  exact whole_at a cap T off w h hb (by omega) (by omega)
end Go.Proofs.Ytaconhigaoflaaa
