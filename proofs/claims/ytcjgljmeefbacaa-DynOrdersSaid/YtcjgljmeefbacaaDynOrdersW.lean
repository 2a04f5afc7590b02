/- Layer 5: the law of the order of the entries, walked. -/
import Derived.Test.YtcjgljmeefbacaaDynUp
import Derived.Test.YtcjgljmeefbacaaDynOut
import Derived.Test.YtcjgljmeefbacaaDynSec
import Derived.Test.YtcjgljmeefbacaaDynRows
import Derived.Test.YtcjgljmeefbacaaDynSame
import Derived.Test.YtcjgljmeefbacaaStepL
namespace Go.Proofs.Ytcjgljmeefbacaa
open Go.RowKit
set_option linter.unusedVariables false
set_option linter.unusedSimpArgs false

theorem entSlice : RowSlice Try.prog 22 28 (.agg #[.int .u64 0, .int .u64 0]) 2 16 := ⟨Try.underlying22, by kernel_rfl, rfl, by omega⟩
theorem entR_ok : ∀ (L : List (Nat × Nat)), ∀ r ∈ L.map entR, r.length = 2 ∧ ∀ u ∈ r, u.oneCell' = true := by
  intro L r hr
  obtain ⟨e, -, rfl⟩ := List.mem_map.1 hr
  refine ⟨rfl, fun u hu => ?_⟩
  unfold entR at hu
  simp only [List.mem_cons, List.not_mem_nil, or_false] at hu
  rcases hu with rfl | rfl <;> rfl
theorem entR_one (e : Nat × Nat) : ∀ u ∈ entR e, u.oneCell' = true := fun u hu => ((entR_ok [e]) (entR e) (by simp)).2 u hu
/-- the entries but those of tag 0 -/
def leftF (l : List (Nat × Nat)) : List (Nat × Nat) := l.filter fun e => !decide (e.1 = 0)
theorem leftF_snoc {l : List (Nat × Nat)} {k : Nat} (h : k < l.length) : leftF (l.take (k + 1)) = if l[k].1 = 0 then leftF (l.take k) else leftF (l.take k) ++ [l[k]] := by
  rw [List.take_succ_eq_append_getElem h]
  unfold leftF
  rw [List.filter_append]
  by_cases h0 : l[k].1 = 0
  · rw [if_pos h0]; simp [h0]
  · rw [if_neg h0]; simp [h0]
theorem leftF_len (l : List (Nat × Nat)) : (leftF l).length ≤ l.length := List.length_filter_le _ _
theorem leftF_mem {l : List (Nat × Nat)} {e : Nat × Nat} (h : e ∈ leftF l) : e ∈ l ∧ e.1 ≠ 0 := by
  unfold leftF at h
  rw [List.mem_filter] at h
  exact ⟨h.1, by simpa using h.2⟩
theorem perm_move {L M X : List (Nat × Nat)} {k : Nat} (hk : k < L.length) (h : (M ++ L).Perm X) : ((M ++ [L[k]]) ++ (L.take k ++ L.drop (k + 1))).Perm X := by
  refine List.Perm.trans ?_ h
  rw [List.append_assoc]
  refine List.Perm.append_left M ?_
  have e : L = L.take k ++ (L[k] :: L.drop (k + 1)) := by
    rw [← List.drop_eq_getElem_cons hk, List.take_append_drop]
  have h2 : ([L[k]] ++ (L.take k ++ L.drop (k + 1))).Perm (L.take k ++ (L[k] :: L.drop (k + 1))) := by
    rw [List.singleton_append]
    exact List.perm_middle.symm
  rw [← e] at h2
  exact h2
theorem pick5_any (c : Int) (n : Nat) (w : World) (h0 : -9223372036854775808 ≤ c) (h1 : c < 9223372036854775808) (hn : 1 ≤ n) (hn2 : n < 9223372036854775808) :
    Calls Try.prog 6 #[.int .i64 c, .int .i64 (n : Int)] w fun e w' => ∃ k : Nat, k < n ∧ e = .returned (.int .i64 (k : Int)) ∧ w = w' := by
  have hn0 : (n : Int) ≠ 0 := by omega
  by_cases hc : c < 0
  · obtain ⟨d, hd⟩ : ∃ d : Nat, -(c + 1) = (d : Int) := ⟨(-(c + 1)).toNat, by omega⟩
    have e1 : IntKind.i64.wrap (c + 1) = c + 1 := by rw [IntKind.wrap_i64]; omega
    have e2 : IntKind.i64.wrap (-(c + 1)) = (d : Int) := by rw [IntKind.wrap_i64]; omega
    have e3 : (d : Int).tmod (n : Int) = ((d % n : Nat) : Int) := by rw [Int.tmod_eq_emod_of_nonneg (by omega)]; rfl
    have hk : d % n < n := Nat.mod_lt _ (by omega)
    have hdb : d < 9223372036854775808 := by omega
    generalize d % n = k at *
    clear hd
    go_enter Try.func6, Try.ntmps6
    go_wp2_with fail
    go_ret
    exact ⟨k, hk, rfl, rfl⟩
  · obtain ⟨d, rfl⟩ : ∃ d : Nat, c = (d : Int) := ⟨c.toNat, by omega⟩
    have e3 : (d : Int).tmod (n : Int) = ((d % n : Nat) : Int) := by rw [Int.tmod_eq_emod_of_nonneg (by omega)]; rfl
    have hk : d % n < n := Nat.mod_lt _ (by omega)
    generalize d % n = k at *
    go_enter Try.func6, Try.ntmps6
    go_wp2_with fail
    go_ret
    exact ⟨k, hk, rfl, rfl⟩

theorem RowS.grown {w w' : World} {sz : Nat} {a : Option Addr} {rows : List (List Value)} {row : Option Nat} (h : RowS w sz a rows) (hg : w.grownBy w' row) (hne : ∀ b o, a = some ⟨b, o, none⟩ → row ≠ some b) : RowS w' sz a rows := by
  intro i hi
  obtain ⟨b, o, e, hlt, hc⟩ := h i hi
  exact ⟨b, o, e, Nat.lt_of_lt_of_le hlt hg.size, fun j hj => by rw [hg.cell_far ⟨b, o + i * sz + j, none⟩ hlt (fun e1 => hne b o e e1.symm)]; exact hc j hj⟩
theorem RowS.take {w : World} {sz : Nat} {a : Option Addr} {L : List (Nat × Nat)} (h : RowS w sz a (L.map entR)) (n : Nat) : RowS w sz a ((L.take n).map entR) := by
  intro i hi
  have hi2 : i < (L.map entR).length := by simp at hi ⊢; omega
  obtain ⟨b, o, e, hlt, hc⟩ := h i hi2
  refine ⟨b, o, e, hlt, fun j hj => ?_⟩
  have := hc j hj
  rw [this]
  simp
theorem RowS.drop {w : World} {b o : Nat} {L : List (Nat × Nat)} (h : RowS w 2 (some ⟨b, o, none⟩) (L.map entR)) (n : Nat) : RowS w 2 (some ⟨b, o + n * 2, none⟩) ((L.drop n).map entR) := by
  intro i hi
  have hi2 : n + i < (L.map entR).length := by simp at hi ⊢; omega
  obtain ⟨b', o', e, hlt, hc⟩ := h (n + i) hi2
  simp only [Option.some.injEq, Addr.mk.injEq, and_true] at e
  obtain ⟨rfl, rfl⟩ := e
  refine ⟨b, o + n * 2, rfl, hlt, fun j hj => ?_⟩
  have := hc j hj
  rw [show o + n * 2 + i * 2 + j = o + (n + i) * 2 + j by rw [Nat.add_mul]; omega, this]
  simp
theorem RowS.none2 {w : World} {a : Option Addr} : RowS w 2 a (([] : List (Nat × Nat)).map entR) := fun i hi => by simp at hi

theorem one_row {wx : World} {b nn : Nat} (hnn : nn < 18446744073709551616) (hx : wx.heap[b]? = some (.cells #[.int .u32 2, .int .u32 0, .int .u64 0, .int .u64 0, .int .u64 (nn : Int), .int .u64 0, .int .u64 0] 40)) : PRow wx (some ⟨b, 0, none⟩) (onePs nn) := by
  intro i hi
  have hi2 : i = 0 := by have : i < 1 := hi; omega
  subst hi2
  refine ⟨⟨(by decide : 2 < 4294967296), (by decide : 0 < 4294967296), (by decide : 0 < 18446744073709551616), (by decide : 0 < 18446744073709551616), hnn, (by decide : 0 < 18446744073709551616), (by decide : 0 < 18446744073709551616)⟩, b, 0, rfl, lt_of_block hx, fun j hj => ?_⟩
  rw [cell_of_row _ _ _ _ _ _ hx]
  have hj2 : j = 0 ∨ j = 1 ∨ j = 2 ∨ j = 3 ∨ j = 4 ∨ j = 5 ∨ j = 6 := by omega
  rcases hj2 with rfl | rfl | rfl | rfl | rfl | rfl | rfl <;> rfl
theorem read_sec (sa : Option Addr) (sn sc : Nat) (bs : List Nat) (B b : Nat) (wx : World) (hl : sn = bs.length) (hb : ∀ x ∈ bs, x < 256) (hn : sn ≤ 140737488355328) (ho : OwnI wx B 5 .u8 (.slice sa sn sc) (toI bs)) (hx : wx.heap[b]? = some (.cells #[.int .u32 2, .int .u32 0, .int .u64 0, .int .u64 0, .int .u64 (sn : Int), .int .u64 0, .int .u64 0] 40)) :
    Calls Try.prog 7 #[.slice sa sn sc, .agg #[.int .i64 0, .int .u64 0, .slice (some ⟨b, 0, none⟩) 1 1]] wx fun e w' => DynPost wx.heap.size w' e (dynRF bs (onePs sn)) ∧ Below wx.heap.size wx w' := by
  have h := dynread_any 0 0 (some ⟨b, 0, none⟩) sa 1 1 sc bs (onePs sn) wx (one_row (by omega) hx) rfl (by decide) (by decide) ⟨ho.at.2.1, hb⟩ (by rw [← hl]; exact ho.fit.1) (by omega) (fun e => by
    have := ho.at.2.2 e
    rw [toI_length] at this
    exact this)
  rw [← hl] at h
  exact h

set_option maxRecDepth 100000 in
set_option maxHeartbeats 16000000 in
theorem walk_DynOrders (a pa ba : Option Addr) (N cap pn pc bn bc : Nat) (es : List (Nat × Nat)) (ps : List Int) (bs : List Nat) (w : World)
    (hN : es.length = N) (h : RowS w 2 a (es.map entR)) (hu : ∀ e ∈ es, U64P e) (hP : ps.length = pn) (hp : Row .i64 w pa ps) (hpb : ∀ x ∈ ps, -9223372036854775808 ≤ x ∧ x < 9223372036854775808) (hpl : pn ≤ 140737488351232)
    (hB : bs.length = bn) (hb : BRow w ba bs) (hbn : ba = none → bn = 0 ∧ bc = 0) (hbl : bn ≤ 140737488351232) (hNl : N ≤ maxLen) :
    Calls Try.prog 3 #[.slice a N cap, .slice pa pn pc, .slice ba bn bc] w fun e w' => e = .returned (.bool true) ∧ Below w.heap.size w w' := by
  have HU : Hid _ := Lib.hid (up_dyn w)
  have HRE := Lib.hid h; have HRP := Lib.hid hp; have HRB := Lib.hid hb; have HBN := Lib.hid hbn; have HPB := Lib.hid hpb; have HUE := Lib.hid hu
  have HNE := Lib.hid hN; have HPN := Lib.hid hP; have HBL := Lib.hid hB
  clear h hp hb hbn hpb hu hN hP hB
  by_cases h200 : 200 < N
  · have hi : (200 : Int) < (N : Int) := by omega
    go_enter Try.func3, Try.ntmps3
    go_wp2_with fail
    refine HU.out.mono ?_
    rintro e w1 ⟨rfl, hb1⟩
    have B1 := Lib.hid hb1
    clear hb1
    go_wp2_with fail
    go_ret
    exact ⟨rfl, B1.out⟩
  have hi : ¬ (200 : Int) < (N : Int) := by omega
  have HN200 : Hid (N ≤ 200) := Lib.hid (by omega)
  go_enter Try.func3, Try.ntmps3
  go_wp2_with fail
  refine HU.out.mono ?_
  rintro e w1 ⟨rfl, hb1⟩
  have B1 := Lib.hid hb1
  clear hb1 HU
  go_wp2_with fail
  go_loopg [8, 9] N (fun g lv iv wr => ∃ (k : Nat) (ad : Option Addr) (n c : Nat), k + g = N ∧ iv = .int .i64 (k : Int) ∧ lv = .slice ad n c ∧ Hid (OwnS wr w.heap.size 28 2 (.slice ad n c) ((leftF (es.take k)).map entR)) ∧ Hid (Below w.heap.size w wr))
  case atStart => exact ⟨0, none, 0, 0, by omega, rfl, rfl, Lib.hid (OwnS.nil _ _ _ _), B1⟩
  case round =>
    obtain ⟨k, ad, n, c, hk, rfl, rfl, HO, HB⟩ := hrel
    clear B1
    cases gk with
    | succ g =>
      have hkN : (k : Int) < (N : Int) := by omega
      have HK : Hid (k + (g + 1) = N) := Lib.hid hk
      have hkl : k < es.length := by rw [HNE.out]; omega
      obtain ⟨b, o, rfl, hlt, hc⟩ := (HRE.out.below HB.out) k (by rw [List.length_map]; exact hkl)
      have c0 := hc 0 (by omega)
      have c1 := hc 1 (by omega)
      rw [List.getElem_map] at c0 c1
      have HLS := Lib.hid (leftF_snoc hkl)
      have hn2 : n ≤ 200 := by
        have h1 := HO.out.at.1
        rw [List.length_map] at h1
        have h2 := leftF_len (es.take k)
        rw [List.length_take] at h2
        have := HN200.out
        omega
      have HUK := Lib.hid (HUE.out es[k] (List.getElem_mem hkl))
      generalize es[k] = ek at *
      obtain ⟨t, v⟩ := ek
      have d0 : wr.cell? ⟨b, o + k * 2, none⟩ = some (.int .u64 (t : Int)) := c0
      have d1 : wr.cell? ⟨b, o + k * 2 + 1, none⟩ = some (.int .u64 (v : Int)) := c1
      clear c0 c1 hc hk hkl
      by_cases ht : t = 0
      · have HL : Hid (leftF (es.take (k + 1)) = leftF (es.take k)) := Lib.hid (by rw [HLS.out, if_pos ht])
        subst ht
        clear HLS
        go_wp2_with fail
        go_roundg g
        case measure => omega
        case rel => exact ⟨k + 1, ad, n, c, by have := HK.out; omega, by go_num, rfl, Lib.hid (by rw [HL.out]; exact HO.out), HB⟩
      · have HL : Hid (leftF (es.take (k + 1)) = leftF (es.take k) ++ [(t, v)]) := Lib.hid (by rw [HLS.out, if_neg ht])
        have ht1 : ((t : Int) == 0) = false := beq_eq_false_iff_ne.2 (by omega)
        have ht2 : ¬ (t : Int) = 0 := by omega
        have hn63 : n + 1 ≤ maxLen := by unfold maxLen; omega
        have hn64 : (n + 1) * 16 ≤ 140737488355328 := by omega
        have HNL := Lib.hid (show ((leftF (es.take k)).map entR).length = n from HO.out.at.1.symm)
        have M63 := Lib.hid hn63; have M64 := Lib.hid hn64
        have BS : Hid (w.heap.size ≤ wr.heap.size) := Lib.hid HB.out.size
        clear HLS ht hn63 hn64 hn2
        go_wp2_with (at_builtin; (refine wpList_push_row rfl (.tmp 41) (.tmp 46) entSlice rfl w.heap.size w (.slice ad n c) ((leftF (es.take k)).map entR) n [.int .u64 (t : Int), .int .u64 (v : Int)] rfl (by rfl) HNL.out rfl (entR_one (t, v)) HO.out M63.out M64.out HB.out BS.out ?_; intro ad3 c3 w3 hown3 hbe3 hkp3; have O3 := Lib.hid hown3; have B3 := Lib.hid hbe3; clear hown3 hbe3 hkp3))
        go_roundg g
        case measure => omega
        case rel => exact ⟨k + 1, ad3, n + 1, c3, by have := HK.out; omega, by go_num, rfl, Lib.hid (by rw [HL.out, List.map_append]; exact O3.out), B3⟩
    | zero =>
      have hkN : k = N := by omega
      have HL : Hid (leftF (es.take k) = leftF es) := Lib.hid (by rw [List.take_of_length_le (by rw [HNE.out]; omega)])
      rw [HL.out] at HO
      subst hkN
      clear hk HL
      have HLM : Hid (∀ e ∈ leftF es, U64P e ∧ e.1 ≠ 0) := Lib.hid (fun e he => ⟨HUE.out e (leftF_mem he).1, (leftF_mem he).2⟩)
      have HLL : Hid ((leftF es).length ≤ 200) := Lib.hid (by have h1 := leftF_len es; have h2 := HNE.out; have h3 := HN200.out; omega)
      generalize leftF es = X at *
      have hnx : n = X.length := by have := HO.out.at.1; rw [List.length_map] at this; exact this
      have HNX := Lib.hid hnx
      have HRX := Lib.hid HO.out.at.2.1
      have HS1 : Hid _ := Lib.hid (section_any ad n c X wr (by rw [hnx]) (by rw [hnx]; exact HLL.out) (fun e he => (HLM.out e he).1) HRX.out)
      clear hnx
      go_wp2_with fail
      refine HS1.out.mono ?_
      rintro e w2 ⟨sa, sn, sc, rfl, hso, hsn, hb2⟩
      have SO := Lib.hid hso
      have SN := Lib.hid hsn
      have B2 : Hid (Below w.heap.size w w2) := Lib.hid (bstep HB.out hb2)
      have RX2 := Lib.hid (HRX.out.below hb2)
      have HSB : Hid (w.heap.size ≤ wr.heap.size) := Lib.hid HB.out.size
      have HAD : Hid (∀ b o s, ad = some ⟨b, o, s⟩ → b < wr.heap.size ∧ b < w2.heap.size) := Lib.hid (fun b o s e => by
        subst e
        have := (World.ownsRow.lt HO.out.1 b rfl).2
        have h2 := hb2.size
        omega)
      have HCN : Hid (n ≤ c) := Lib.hid HO.out.at.2.2.1
      clear hso hsn hb2 HS1 HO HRX
      go_wp2_with fail
      go_loopg [8, 11, 12] n (fun g lv mv iv wr => ∃ (i : Nat) (ad1 : Option Addr) (c1 : Nat) (ma : Option Addr) (m mc : Nat) (L M : List (Nat × Nat)), iv = .int .i64 (i : Int) ∧ lv = .slice ad1 g c1 ∧ mv = .slice ma m mc ∧ Hid (L.length = g ∧ M.length = m ∧ i + g = n ∧ m = i ∧ (M ++ L).Perm X ∧ g ≤ c1) ∧ Hid (RowS wr 2 ad1 (L.map entR)) ∧ Hid (OwnS wr w2.heap.size 28 2 (.slice ma m mc) (M.map entR)) ∧ Hid (∀ b o, ad1 = some ⟨b, o, none⟩ → (Value.slice ma m mc).ownBlock ≠ some b) ∧ Hid (Below w2.heap.size w2 wr))
      case atStart => exact ⟨0, ad, c, none, 0, 0, X, [], rfl, rfl, rfl, Lib.hid ⟨HNX.out.symm, rfl, by omega, rfl, List.Perm.refl _, HCN.out⟩, RX2, Lib.hid (OwnS.nil _ _ _ _), Lib.hid (fun b o e => by simp [Value.ownBlock]), Lib.hid (Below.refl _ _)⟩
      case round =>
        obtain ⟨i, ad1, c1, ma, m, mc, L, M, rfl, rfl, rfl, HF, HR, HO, HNE2, HBB⟩ := hrel
        clear RX2
        cases gk with
        | zero =>
          obtain rfl : L = [] := List.length_eq_zero_iff.1 HF.out.1
          have HPX : Hid (M.Perm X) := Lib.hid (by have := HF.out.2.2.2.2.1; rwa [List.append_nil] at this)
          have HMM : Hid (M.length = m ∧ m ≤ 200) := Lib.hid ⟨HF.out.2.1, by have h1 := HPX.out.length_eq; have h2 := HF.out.2.1; have h3 := HLL.out; omega⟩
          have RM := Lib.hid HO.out.at.2.1
          have HSM : Hid _ := Lib.hid (section_any ma m mc M wr HMM.out.1 HMM.out.2 (fun e he => (HLM.out e (HPX.out.mem_iff.1 he)).1) RM.out)
          have SO2 := Lib.hid (SO.out.below HBB.out)
          have BW : Hid (Below w.heap.size w wr) := Lib.hid (bstep B2.out HBB.out)
          clear HR HO HNE2 HF RM SO
          go_wp2_with fail
          refine HSM.out.mono ?_
          rintro e w3 ⟨ta, tn, tc, rfl, hto, htn, hb3⟩
          have TO := Lib.hid hto
          have TN := Lib.hid htn
          have B3 : Hid (Below w.heap.size w w3) := Lib.hid (bstep BW.out hb3)
          have BRW := Lib.hid hb3
          have BWS : Hid (wr.heap.size ≤ w3.heap.size) := Lib.hid hb3.size
          have SBL : Hid (sn = (secB (X ++ [(0, 0)])).length ∧ sn ≤ 3216) := Lib.hid ⟨by rw [SN.out, secB_length, List.length_append, HNX.out]; rfl, by have h1 := SN.out; have h2 := HNX.out; have h3 := HLL.out; omega⟩
          have TBL : Hid (tn = (secB (M ++ [(0, 0)])).length ∧ tn ≤ 3216) := Lib.hid ⟨by rw [TN.out, secB_length, List.length_append, HMM.out.1]; rfl, by have h1 := TN.out; have h2 := HMM.out.2; omega⟩
          have HRB3 := Lib.hid (HRB.out.below B3.out)
          have TL1 : Hid ((toI (secB (M ++ [(0, 0)]))).length = tn) := Lib.hid (by rw [toI_length]; exact TBL.out.1.symm)
          have TL2 : Hid ((toI bs).length = bn) := Lib.hid (by rw [toI_length]; exact HBL.out)
          have TL3 : Hid (tn + bn ≤ maxLen ∧ (tn + bn) * 1 ≤ 140737488355328) := Lib.hid (by have := TBL.out.2; unfold maxLen; omega)
          clear hto htn hb3 HSM HBB
          have TBN : Hid (tn + bn = (secB (M ++ [(0, 0)]) ++ bs).length ∧ tn + bn ≤ 140737488354500) := Lib.hid ⟨by rw [List.length_append, ← TBL.out.1, HBL.out], by have := TBL.out.2; omega⟩
          have HOUT := out_same X M HPX.out.symm HLM.out HLL.out bs sn (tn + bn) SBL.out.1 TBN.out.1
          obtain ⟨r, hr⟩ : ∃ r, outF (dynRF (secB (X ++ [(0, 0)])) (onePs sn)) = r := ⟨_, rfl⟩
          obtain ⟨bd, bb, be, bl⟩ := r
          have HD1 : Hid (∀ B w' e, DynPost B w' e (dynRF (secB (X ++ [(0, 0)])) (onePs sn)) → ∃ d : DT, e = .returned (.tuple #[.agg d.cells, .bool bb, errV (be : Int)]) ∧ bare d = bd ∧ d.nl = bl) := Lib.hid (fun B w' e h => by
            have := out_post h
            rw [hr] at this
            exact this)
          have HD2 : Hid (∀ B w' e, DynPost B w' e (dynRF (secB (M ++ [(0, 0)]) ++ bs) (onePs (tn + bn))) → ∃ d : DT, e = .returned (.tuple #[.agg d.cells, .bool bb, errV (be : Int)]) ∧ bare d = bd ∧ d.nl = bl) := Lib.hid (fun B w' e h => by
            have := out_post h
            rw [← HOUT.1, hr] at this
            exact this)
          have HBE : Hid (be ≤ 30) := Lib.hid (by have := HOUT.2; rw [hr] at this; exact this)
          have HCD : Hid (∀ wx, Calls Try.prog 9 #[errV (be : Int)] wx fun e w' => e = .returned (.int .i64 (be : Int)) ∧ wx = w') := Lib.hid (fun wx => code_any (be : Int) wx (by omega) (by have := HBE.out; omega))
          obtain ⟨ev, hev⟩ : ∃ ev, errV (be : Int) = ev := ⟨_, rfl⟩
          rw [hev] at HD1 HD2 HCD
          clear HOUT hr hev
          have hu1 : IntKind.u64.wrap (sn : Int) = (sn : Int) := by have := SBL.out.2; rw [IntKind.wrap_u64]; omega
          go_wp2_with (at_builtin; (refine wpList_pushes rfl (.tmp 85) (.tmp 86) slice8e rfl wr.heap.size w3 (.slice ta tn tc) (toI (secB (M ++ [(0, 0)]))) tn ba bc bn (toI bs) rfl (by rfl) TL1.out TL2.out HRB3.out.1 (fun h => by have := HBN.out h; rw [TL2.out]; exact this) TO.out TL3.out.1 TL3.out.2 (Below.mono (Below.refl _ _) BWS.out) BWS.out ?_; intro ta2 tc2 w4 ho4 hb4; have TO4 := Lib.hid ho4; have HB4 := Lib.hid hb4; clear ho4 hb4))
          have HB34 : Hid (Below wr.heap.size wr w4) := Lib.hid (BRW.out.trans HB4.out)
          have SO4 := Lib.hid (SO2.out.below HB34.out)
          have B4 : Hid (Below w.heap.size w w4) := Lib.hid (bstep BW.out HB34.out)
          generalize tn + bn = z at *
          have hu2 : IntKind.u64.wrap (z : Int) = (z : Int) := by have := TBN.out.2; rw [IntKind.wrap_u64]; omega
          have HPG1 : Hid ((w4.alloc (.cells #[.int .u32 2, .int .u32 0, .int .u64 0, .int .u64 0, .int .u64 (sn : Int), .int .u64 0, .int .u64 0] 40)).heap[w4.heap.size]? = some (.cells #[.int .u32 2, .int .u32 0, .int .u64 0, .int .u64 0, .int .u64 (sn : Int), .int .u64 0, .int .u64 0] 40)) := Lib.hid (heap_alloc_new _ _)
          have HR1 := Lib.hid (read_sec sa sn sc _ _ w4.heap.size _ SBL.out.1 (secB_lt _) (by have := SBL.out.2; omega) (SO4.out.allocO (.cells #[.int .u32 2, .int .u32 0, .int .u64 0, .int .u64 0, .int .u64 (sn : Int), .int .u64 0, .int .u64 0] 40)) HPG1.out)
          have B4a : Hid (Below w4.heap.size w4 (w4.alloc (.cells #[.int .u32 2, .int .u32 0, .int .u64 0, .int .u64 0, .int .u64 (sn : Int), .int .u64 0, .int .u64 0] 40))) := Lib.hid ((Below.refl _ _).alloc (Nat.le_refl _) _)
          clear BRW HB4 HB34 SO2 BW HPG1 hu1
          refine HR1.out.mono ?_
          rintro e w5 ⟨hp1, hb5⟩
          have B45 : Hid (Below w4.heap.size w4 w5) := Lib.hid (B4a.out.trans (Below.mono hb5 B4a.out.size))
          clear hb5 HR1 B4a
          obtain ⟨d1, rfl, hd1, hn1⟩ := HD1.out _ _ _ hp1
          have q1 := cells_zero d1
          rw [hn1] at q1
          have qb1 : Hid (d1.cells.setIfInBounds 0 (.slice none 0 0) = bd.cells) := Lib.hid (by rw [bare_cells, hd1])
          have HBD : Hid (bare d1 = bd) := Lib.hid hd1
          have hs1 := dyn_size d1
          have ho1 := dyn_one d1
          generalize d1.na = na1 at *
          generalize d1.nc = nc1 at *
          generalize d1.cells = C1 at *
          have Q1 := Lib.hid q1; have HS1 := Lib.hid hs1; have HO1 := Lib.hid ho1
          have HI1 : Hid ((Try.prog.info? 33).map (·.size) = some C1.size) := Lib.hid (by rw [hs1]; kernel_rfl)
          have HZ1 : Hid ((w5.alloc (.cells #[.slice none 0 0, .int .u64 0, .int .u64 0, .int .u64 0, .int .u64 0, .int .u64 0, .int .u64 0, .int .u64 0, .int .u64 0, .int .u64 0, .int .u64 0, .int .u64 0, .int .u64 0, .int .u64 0, .bool false, .bool false, .bool false, .int .u64 0, .int .u64 0, .int .u64 0, .int .u64 0, .int .u64 0, .int .u64 0, .int .u64 0, .int .u64 0, .int .u64 0, .int .u64 0, .int .u64 0, .int .u64 0, .int .u64 0, .int .u64 0, .int .u64 0, .bool false, .bool false, .bool false, .bool false, .bool false] 33)).heap[w5.heap.size]? = some (.cells #[.slice none 0 0, .int .u64 0, .int .u64 0, .int .u64 0, .int .u64 0, .int .u64 0, .int .u64 0, .int .u64 0, .int .u64 0, .int .u64 0, .int .u64 0, .int .u64 0, .int .u64 0, .int .u64 0, .bool false, .bool false, .bool false, .int .u64 0, .int .u64 0, .int .u64 0, .int .u64 0, .int .u64 0, .int .u64 0, .int .u64 0, .int .u64 0, .int .u64 0, .int .u64 0, .int .u64 0, .int .u64 0, .int .u64 0, .int .u64 0, .int .u64 0, .bool false, .bool false, .bool false, .bool false, .bool false] 33)) := Lib.hid (heap_alloc_new _ _)
          have HX1 : Hid (((w5.alloc (.cells #[.slice none 0 0, .int .u64 0, .int .u64 0, .int .u64 0, .int .u64 0, .int .u64 0, .int .u64 0, .int .u64 0, .int .u64 0, .int .u64 0, .int .u64 0, .int .u64 0, .int .u64 0, .int .u64 0, .bool false, .bool false, .bool false, .int .u64 0, .int .u64 0, .int .u64 0, .int .u64 0, .int .u64 0, .int .u64 0, .int .u64 0, .int .u64 0, .int .u64 0, .int .u64 0, .int .u64 0, .int .u64 0, .int .u64 0, .int .u64 0, .int .u64 0, .bool false, .bool false, .bool false, .bool false, .bool false] 33)).setRow w5.heap.size C1).heap[w5.heap.size]? = some (.cells C1 33)) := Lib.hid (setRow_heap _ _ _ _ _ _ HZ1.out)
          have HBS1 : Hid (Below w5.heap.size w5 ((w5.alloc (.cells #[.slice none 0 0, .int .u64 0, .int .u64 0, .int .u64 0, .int .u64 0, .int .u64 0, .int .u64 0, .int .u64 0, .int .u64 0, .int .u64 0, .int .u64 0, .int .u64 0, .int .u64 0, .int .u64 0, .bool false, .bool false, .bool false, .int .u64 0, .int .u64 0, .int .u64 0, .int .u64 0, .int .u64 0, .int .u64 0, .int .u64 0, .int .u64 0, .int .u64 0, .int .u64 0, .int .u64 0, .int .u64 0, .int .u64 0, .int .u64 0, .int .u64 0, .bool false, .bool false, .bool false, .bool false, .bool false] 33)).setRow w5.heap.size C1)) := Lib.hid (below_setRow ((Below.refl _ _).alloc (Nat.le_refl _) _) (Nat.le_refl _))
          have HSZ1 : Hid (((w5.alloc (.cells #[.slice none 0 0, .int .u64 0, .int .u64 0, .int .u64 0, .int .u64 0, .int .u64 0, .int .u64 0, .int .u64 0, .int .u64 0, .int .u64 0, .int .u64 0, .int .u64 0, .int .u64 0, .int .u64 0, .bool false, .bool false, .bool false, .int .u64 0, .int .u64 0, .int .u64 0, .int .u64 0, .int .u64 0, .int .u64 0, .int .u64 0, .int .u64 0, .int .u64 0, .int .u64 0, .int .u64 0, .int .u64 0, .int .u64 0, .int .u64 0, .int .u64 0, .bool false, .bool false, .bool false, .bool false, .bool false] 33)).setRow w5.heap.size C1).heap.size = w5.heap.size + 1) := Lib.hid (by rw [setRow_size]; simp)
          clear q1 hs1 ho1 hp1 hd1 hn1
          go_wp2_with (refine wpList_store_row rfl 33 _ _ rfl w5.heap.size C1 rfl rfl 33 _ HZ1.out HI1.out (by rw [HS1.out]; rfl) HO1.out ?_)
          generalize (w5.alloc (.cells #[.slice none 0 0, .int .u64 0, .int .u64 0, .int .u64 0, .int .u64 0, .int .u64 0, .int .u64 0, .int .u64 0, .int .u64 0, .int .u64 0, .int .u64 0, .int .u64 0, .int .u64 0, .int .u64 0, .bool false, .bool false, .bool false, .int .u64 0, .int .u64 0, .int .u64 0, .int .u64 0, .int .u64 0, .int .u64 0, .int .u64 0, .int .u64 0, .int .u64 0, .int .u64 0, .int .u64 0, .int .u64 0, .int .u64 0, .int .u64 0, .int .u64 0, .bool false, .bool false, .bool false, .bool false, .bool false] 33)).setRow w5.heap.size C1 = w6 at *
          have HX5 : Hid (w4.heap.size ≤ w5.heap.size) := Lib.hid B45.out.size
          generalize hx1 : w5.heap.size = x1 at *
          have B46 : Hid (Below w4.heap.size w4 w6) := Lib.hid (B45.out.trans (Below.mono HBS1.out (by have := B45.out.size; omega)))
          have TO6 := Lib.hid (TO4.out.below B46.out)
          have HPG2 : Hid ((w6.alloc (.cells #[.int .u32 2, .int .u32 0, .int .u64 0, .int .u64 0, .int .u64 (z : Int), .int .u64 0, .int .u64 0] 40)).heap[x1 + 1]? = some (.cells #[.int .u32 2, .int .u32 0, .int .u64 0, .int .u64 0, .int .u64 (z : Int), .int .u64 0, .int .u64 0] 40)) := Lib.hid (by rw [← HSZ1.out]; exact heap_alloc_new _ _)
          have HR2 := Lib.hid (read_sec ta2 z tc2 (secB (M ++ [(0, 0)]) ++ bs) wr.heap.size (x1 + 1) (w6.alloc (.cells #[.int .u32 2, .int .u32 0, .int .u64 0, .int .u64 0, .int .u64 (z : Int), .int .u64 0, .int .u64 0] 40)) TBN.out.1 (fun x hx => by
            rcases List.mem_append.1 hx with h | h
            · exact secB_lt _ x h
            · exact HRB.out.2 x h) (by have := TBN.out.2; omega) (by rw [toI_append]; exact TO6.out.allocO _) HPG2.out)
          have B6a : Hid (Below w6.heap.size w6 (w6.alloc (.cells #[.int .u32 2, .int .u32 0, .int .u64 0, .int .u64 0, .int .u64 (z : Int), .int .u64 0, .int .u64 0] 40))) := Lib.hid ((Below.refl _ _).alloc (Nat.le_refl _) _)
          clear HPG2 hu2
          refine HR2.out.mono ?_
          rintro e w7 ⟨hp2, hb7⟩
          have B67 : Hid (Below w6.heap.size w6 w7) := Lib.hid (B6a.out.trans (Below.mono hb7 B6a.out.size))
          clear hb7 HR2 B6a
          obtain ⟨d2, rfl, hd2, hn2⟩ := HD2.out _ _ _ hp2
          have q2 := cells_zero d2
          rw [hn2] at q2
          have qb2 : Hid (d2.cells.setIfInBounds 0 (.slice none 0 0) = bd.cells) := Lib.hid (by rw [bare_cells, hd2])
          have HBD : Hid (bare d2 = bd) := Lib.hid hd2
          have hs2 := dyn_size d2
          have ho2 := dyn_one d2
          generalize d2.na = na2 at *
          generalize d2.nc = nc2 at *
          generalize d2.cells = C2 at *
          have Q2 := Lib.hid q2; have HS2 := Lib.hid hs2; have HO2 := Lib.hid ho2
          have HI2 : Hid ((Try.prog.info? 33).map (·.size) = some C2.size) := Lib.hid (by rw [hs2]; kernel_rfl)
          have HZ2 : Hid ((w7.alloc (.cells #[.slice none 0 0, .int .u64 0, .int .u64 0, .int .u64 0, .int .u64 0, .int .u64 0, .int .u64 0, .int .u64 0, .int .u64 0, .int .u64 0, .int .u64 0, .int .u64 0, .int .u64 0, .int .u64 0, .bool false, .bool false, .bool false, .int .u64 0, .int .u64 0, .int .u64 0, .int .u64 0, .int .u64 0, .int .u64 0, .int .u64 0, .int .u64 0, .int .u64 0, .int .u64 0, .int .u64 0, .int .u64 0, .int .u64 0, .int .u64 0, .int .u64 0, .bool false, .bool false, .bool false, .bool false, .bool false] 33)).heap[w7.heap.size]? = some (.cells #[.slice none 0 0, .int .u64 0, .int .u64 0, .int .u64 0, .int .u64 0, .int .u64 0, .int .u64 0, .int .u64 0, .int .u64 0, .int .u64 0, .int .u64 0, .int .u64 0, .int .u64 0, .int .u64 0, .bool false, .bool false, .bool false, .int .u64 0, .int .u64 0, .int .u64 0, .int .u64 0, .int .u64 0, .int .u64 0, .int .u64 0, .int .u64 0, .int .u64 0, .int .u64 0, .int .u64 0, .int .u64 0, .int .u64 0, .int .u64 0, .int .u64 0, .bool false, .bool false, .bool false, .bool false, .bool false] 33)) := Lib.hid (heap_alloc_new _ _)
          have HX2 : Hid (((w7.alloc (.cells #[.slice none 0 0, .int .u64 0, .int .u64 0, .int .u64 0, .int .u64 0, .int .u64 0, .int .u64 0, .int .u64 0, .int .u64 0, .int .u64 0, .int .u64 0, .int .u64 0, .int .u64 0, .int .u64 0, .bool false, .bool false, .bool false, .int .u64 0, .int .u64 0, .int .u64 0, .int .u64 0, .int .u64 0, .int .u64 0, .int .u64 0, .int .u64 0, .int .u64 0, .int .u64 0, .int .u64 0, .int .u64 0, .int .u64 0, .int .u64 0, .int .u64 0, .bool false, .bool false, .bool false, .bool false, .bool false] 33)).setRow w7.heap.size C2).heap[w7.heap.size]? = some (.cells C2 33)) := Lib.hid (setRow_heap _ _ _ _ _ _ HZ2.out)
          have HBS2 : Hid (Below w7.heap.size w7 ((w7.alloc (.cells #[.slice none 0 0, .int .u64 0, .int .u64 0, .int .u64 0, .int .u64 0, .int .u64 0, .int .u64 0, .int .u64 0, .int .u64 0, .int .u64 0, .int .u64 0, .int .u64 0, .int .u64 0, .int .u64 0, .bool false, .bool false, .bool false, .int .u64 0, .int .u64 0, .int .u64 0, .int .u64 0, .int .u64 0, .int .u64 0, .int .u64 0, .int .u64 0, .int .u64 0, .int .u64 0, .int .u64 0, .int .u64 0, .int .u64 0, .int .u64 0, .int .u64 0, .bool false, .bool false, .bool false, .bool false, .bool false] 33)).setRow w7.heap.size C2)) := Lib.hid (below_setRow ((Below.refl _ _).alloc (Nat.le_refl _) _) (Nat.le_refl _))
          have HSZ2 : Hid (((w7.alloc (.cells #[.slice none 0 0, .int .u64 0, .int .u64 0, .int .u64 0, .int .u64 0, .int .u64 0, .int .u64 0, .int .u64 0, .int .u64 0, .int .u64 0, .int .u64 0, .int .u64 0, .int .u64 0, .int .u64 0, .bool false, .bool false, .bool false, .int .u64 0, .int .u64 0, .int .u64 0, .int .u64 0, .int .u64 0, .int .u64 0, .int .u64 0, .int .u64 0, .int .u64 0, .int .u64 0, .int .u64 0, .int .u64 0, .int .u64 0, .int .u64 0, .int .u64 0, .bool false, .bool false, .bool false, .bool false, .bool false] 33)).setRow w7.heap.size C2).heap.size = w7.heap.size + 1) := Lib.hid (by rw [setRow_size]; simp)
          clear q2 hs2 ho2 hp2 hd2 hn2
          have HX1b := Lib.hid ((HBS2.out.block _ (lt_of_block ((B67.out.block _ (lt_of_block HX1.out)).trans HX1.out))).trans ((B67.out.block _ (lt_of_block HX1.out)).trans HX1.out))
          have HLT : Hid (x1 < w7.heap.size) := Lib.hid (lt_of_block ((B67.out.block _ (lt_of_block HX1.out)).trans HX1.out))
          obtain ⟨w8, hw8⟩ : ∃ w8, (w7.alloc (.cells #[.slice none 0 0, .int .u64 0, .int .u64 0, .int .u64 0, .int .u64 0, .int .u64 0, .int .u64 0, .int .u64 0, .int .u64 0, .int .u64 0, .int .u64 0, .int .u64 0, .int .u64 0, .int .u64 0, .bool false, .bool false, .bool false, .int .u64 0, .int .u64 0, .int .u64 0, .int .u64 0, .int .u64 0, .int .u64 0, .int .u64 0, .int .u64 0, .int .u64 0, .int .u64 0, .int .u64 0, .int .u64 0, .int .u64 0, .int .u64 0, .int .u64 0, .bool false, .bool false, .bool false, .bool false, .bool false] 33)).setRow w7.heap.size C2 = w8 := ⟨_, rfl⟩
          rw [hw8] at HX1b HX2 HBS2 HSZ2
          have HW8 := Lib.hid hw8
          clear hw8
          generalize hx2 : w7.heap.size = x2 at *
          have hne1 : x1 ≠ x2 := by have := HLT.out; omega
          have hne2 : x2 ≠ x1 := by omega
          have e1 := (cell_of_row _ _ 0 _ _ _ HX1b.out).trans Q1.out
          have e2 := (cell_of_row _ _ 0 _ _ _ HX2.out).trans Q2.out
          have f1 := frozen_of_row _ _ 0 _ _ HX1b.out
          have f2 := frozen_of_row _ _ 0 _ _ HX2.out
          have HX2c : Hid ((w8.setCell ⟨x1, 0, none⟩ (.slice none 0 0)).heap[x2]? = some (.cells C2 33)) := Lib.hid ((block_setOther _ _ _ _ (by show x2 ≠ x1; exact hne2)).trans HX2.out)
          have HX1c : Hid ((w8.setCell ⟨x1, 0, none⟩ (.slice none 0 0)).heap[x1]? = some (.cells bd.cells 33)) := Lib.hid (by rw [← qb1.out]; exact set_x HX1b.out _)
          have e2c := (cell_of_row _ _ 0 _ _ _ HX2c.out).trans Q2.out
          have f2c := frozen_of_row _ _ 0 _ _ HX2c.out
          have HX2d : Hid (((w8.setCell ⟨x1, 0, none⟩ (.slice none 0 0)).setCell ⟨x2, 0, none⟩ (.slice none 0 0)).heap[x2]? = some (.cells bd.cells 33)) := Lib.hid (by rw [← qb2.out]; exact set_x HX2c.out _)
          have HX1d : Hid (((w8.setCell ⟨x1, 0, none⟩ (.slice none 0 0)).setCell ⟨x2, 0, none⟩ (.slice none 0 0)).heap[x1]? = some (.cells bd.cells 33)) := Lib.hid ((block_setOther _ _ _ _ (by show x1 ≠ x2; exact hne1)).trans HX1c.out)
          have BFIN : Hid (Below w.heap.size w ((w8.setCell ⟨x1, 0, none⟩ (.slice none 0 0)).setCell ⟨x2, 0, none⟩ (.slice none 0 0))) := Lib.hid (by
            have h1 : w.heap.size ≤ w4.heap.size := B4.out.size
            have h2 : w4.heap.size ≤ w6.heap.size := B46.out.size
            have h3 := HX5.out
            have h4 := HLT.out
            have b7 : Below w.heap.size w w7 := bstep (bstep B4.out B46.out) B67.out
            have b8 : Below w.heap.size w w8 := b7.trans (Below.mono HBS2.out (by omega))
            exact below_setX (below_setX b8 HX1b.out (by omega) _) HX2c.out (by omega) _)
          have HIB : Hid ((Try.prog.info? 33).map (·.size) = some bd.cells.size) := Lib.hid (by rw [dyn_size]; kernel_rfl)
          have HSS : Hid _ := Lib.hid (same_self bd (by rw [← HBD.out]; exact ⟨rfl, rfl⟩) ((w8.setCell ⟨x1, 0, none⟩ (.slice none 0 0)).setCell ⟨x2, 0, none⟩ (.slice none 0 0)))
          unfold DT.v at HSS
          generalize bd.cells = CB at *
          clear HX1b HX1c e2c
          go_wp2_with (first
            | (refine wpList_store_row rfl 33 _ _ rfl x2 C2 rfl rfl 33 _ HZ2.out HI2.out (by rw [HS2.out]; rfl) HO2.out ?_; rw [HW8.out])
            | (refine wpList_load_row rfl 33 _ rfl x1 rfl 33 CB (0, 0) _ HX1d.out Try.underlying33 rfl HIB.out ?_)
            | (refine wpList_load_row rfl 33 _ rfl x2 rfl 33 CB (0, 0) _ HX2d.out Try.underlying33 rfl HIB.out ?_))
          refine HSS.out.mono ?_
          rintro e w9 ⟨rfl, hb9⟩
          have BF9 : Hid (Below w.heap.size w w9) := Lib.hid (bstep BFIN.out hb9)
          clear hb9
          have hbb : (bb == bb) = true := by simp
          go_wp2_with fail
          refine (HCD.out w9).mono ?_
          rintro e wa ⟨rfl, rfl⟩
          go_wp2_with fail
          refine (HCD.out w9).mono ?_
          rintro e wa ⟨rfl, rfl⟩
          go_wp2_with fail
          go_ret
          exact ⟨by simp, BF9.out⟩
        | succ g =>
          have hLl : L.length = g + 1 := HF.out.1
          have hi200 : i ≤ 200 := by have h1 := HF.out.2.2.1; have h2 := HNX.out; have h3 := HLL.out; omega
          have HI2 := Lib.hid hi200
          have hgc : g + 1 ≤ c1 := HF.out.2.2.2.2.2
          have HGC := Lib.hid hgc
          obtain ⟨b, o, rfl, hbl0, -⟩ := HR.out 0 (by rw [List.length_map]; omega)
          have HBL0 := Lib.hid hbl0
          have hg200 : g + 1 ≤ 200 := by have h1 := HF.out.2.2.1; have h2 := HNX.out; have h3 := HLL.out; omega
          have HG2 := Lib.hid hg200
          clear hbl0
          by_cases hip : i < pn
          · obtain ⟨pb, po, rfl, hpc⟩ := (HRP.out.below (bstep B2.out HBB.out)) i (by rw [HPN.out]; exact hip)
            have hpz := HPB.out (ps.getD i 0) (by rw [List.getD, List.getElem?_eq_getElem (by rw [HPN.out]; exact hip), Option.getD_some]; exact List.getElem_mem _)
            have hip2 : (i : Int) < (pn : Int) := by omega
            have hi0 : (0 : Int) ≤ (i : Int) := by omega
            generalize ps.getD i 0 = z at *
            have HPK : Hid _ := Lib.hid (pick5_any z (g + 1) wr hpz.1 hpz.2 (by omega) (by omega))
            clear hpz hLl hgc
            go_wp2_with fail
            refine HPK.out.mono ?_
            rintro e wq ⟨k2, hk2, rfl, rfl⟩
            clear HPK hpc
            have hkl : k2 < L.length := by have := HF.out.1; omega
            obtain ⟨b', o', e', -, hc⟩ := HR.out k2 (by rw [List.length_map]; exact hkl)
            simp only [Option.some.injEq, Addr.mk.injEq, and_true] at e'
            obtain ⟨rfl, rfl⟩ := e'
            have c0 := hc 0 (by omega)
            have c1' := hc 1 (by omega)
            rw [List.getElem_map] at c0 c1'
            have HPM := Lib.hid (perm_move hkl HF.out.2.2.2.2.1)
            have HTL : Hid ((L.take k2).length = k2 ∧ (L.drop (k2 + 1)).length = g - k2) := Lib.hid (by have := HF.out.1; refine ⟨by rw [List.length_take]; omega, by rw [List.length_drop]; omega⟩)
            generalize L[k2] = ek at *
            obtain ⟨t, v⟩ := ek
            have d0 : wr.cell? ⟨b, o + k2 * 2, none⟩ = some (.int .u64 (t : Int)) := by simpa [entR] using c0
            have d1 : wr.cell? ⟨b, o + k2 * 2 + 1, none⟩ = some (.int .u64 (v : Int)) := by simpa [entR] using c1'
            clear c0 c1' hc hkl
            have BW : Hid (w2.heap.size ≤ wr.heap.size) := Lib.hid HBB.out.size
            have hm63 : m + 1 ≤ maxLen := by have h1 := HF.out.2.2.2.1; have h2 := HI2.out; unfold maxLen; omega
            have hm64 : (m + 1) * 16 ≤ 140737488355328 := by have h1 := HF.out.2.2.2.1; have h2 := HI2.out; omega
            have M63 := Lib.hid hm63; have M64 := Lib.hid hm64
            have HML : Hid ((M.map entR).length = m) := Lib.hid (by rw [List.length_map]; exact HF.out.2.1)
            have HNW : Hid (∀ j u, [Value.int .u64 (t : Int), Value.int .u64 (v : Int)][j]? = some u → (wr.alloc (.cells #[.int .u64 (t : Int), .int .u64 (v : Int)] 28)).cell? ((⟨wr.heap.size, 0, none⟩ : Addr).add j) = some u) := Lib.hid (fun j u hj => by
              rw [WideShapes.add_plain, World.cell?_alloc_new]
              simpa using hj)
            have hk1 : IntKind.i64.wrap ((k2 : Int) + 1) = ((k2 + 1 : Nat) : Int) := by rw [IntKind.wrap_i64]; omega
            have k1 : (0 : Int) ≤ (k2 : Int) := by omega
            have k2' : (k2 : Int) < ((g : Int) + 1) := by omega
            have k3 : (k2 : Int) ≤ (c1 : Int) := by have := HGC.out; omega
            have k5 : (0 : Int) ≤ ((k2 + 1 : Nat) : Int) := by omega
            have k6 : ((k2 + 1 : Nat) : Int) ≤ ((g : Int) + 1) := by omega
            have k7 : ((k2 + 1 : Nat) : Int) ≤ (c1 : Int) := by have := HGC.out; omega
            clear hm63 hm64
            rcases (show ¬ c1 = k2 + 1 ∨ c1 = k2 + 1 by omega) with hcc | hcc
            · go_wp2_with (at_builtin; first
                  | (refine wpList_lies_row rfl (.tmp 66) (.tmp 71) entSlice rfl w2.heap.size (.slice ma m mc) (M.map entR) m [.int .u64 (t : Int), .int .u64 (v : Int)] rfl ⟨wr.heap.size, 0, none⟩ 1 (by rfl) HNW.out HML.out rfl (entR_one (t, v)) (HO.out.allocO _) M63.out M64.out (by have := BW.out; simp; omega) (wr.heap.size + 1) (by simp) ?_; intro g3 c3 w3 hown3 hgr3 hat3; have O3 := Lib.hid hown3; have R3 := Lib.hid ((HR.out.below ((Below.refl _ _).alloc (Nat.le_refl _) _)).grown hgr3 HNE2.out); have B3 := Lib.hid ((HBB.out.alloc BW.out _).grown hgr3 (by have := BW.out; simp; omega) (fun j hj => (World.ownsRow.lt (HO.out.allocO (.cells #[.int .u64 (t : Int), .int .u64 (v : Int)] 28)).1 j hj).1)); have G3 := Lib.hid (show g3 < w3.heap.size from (World.ownsRow.lt hown3.1 g3 rfl).2); have R3a := Lib.hid (R3.out.take k2); have R3b := Lib.hid (R3.out.drop (k2 + 1)); clear hown3 hgr3 hat3)
                  | (refine wpList_rows rfl (.tmp 73) (.tmp 76) entSlice rfl w3.heap.size w3 (.slice none 0 0) [] 0 ⟨b, o, none⟩ c1 k2 ((L.take k2).map entR) rfl (by rfl) rfl (by rw [List.length_map]; exact HTL.out.1) R3a.out (entR_ok _) (OwnS.nil _ _ _ _) (by have := HG2.out; unfold maxLen; omega) (by have := HG2.out; omega) (Below.refl _ _) (Nat.le_refl _) ?_; rw [Nat.zero_add]; intro ra rc w4 hown4 hb4 hg4; have O4 := Lib.hid hown4; have B4 := Lib.hid hb4; have R4 := Lib.hid (R3b.out.grown hg4 (fun b o e => by simp [Value.ownBlock])); have S4 := Lib.hid hb4.size; clear hown4 hb4 hg4)
                  | (refine wpList_rows rfl (.tmp 78) (.tmp 82) entSlice rfl w3.heap.size w3 (.slice ra k2 rc) ((L.take k2).map entR) k2 ⟨b, o + (k2 + 1) * 2, none⟩ (c1 - (k2 + 1)) (g - k2) ((L.drop (k2 + 1)).map entR) rfl (by rfl) (by rw [List.length_map]; exact HTL.out.1) (by have := HTL.out.2; rw [List.length_map]; omega) R4.out (entR_ok _) (by have := O4.out; rwa [List.nil_append] at this) (by have := HG2.out; unfold maxLen; omega) (by have := HG2.out; omega) B4.out S4.out ?_; intro la lc w5 hown5 hb5 hg5; have O5 := Lib.hid hown5; have B5 := Lib.hid hb5; clear hown5 hb5 hg5))
              have hlen : k2 + (g - k2) = g := by omega
              rw [hlen] at O5
              try rw [hlen]
              go_roundg g
              case measure => omega
              case rel =>
                refine ⟨i + 1, la, lc, some ⟨g3, 0, none⟩, m + 1, c3, L.take k2 ++ L.drop (k2 + 1), M ++ [(t, v)], by go_num, rfl, rfl, Lib.hid ⟨by rw [List.length_append, HTL.out.1, HTL.out.2]; omega, by rw [List.length_append, HF.out.2.1]; rfl, by have := HF.out.2.2.1; omega, by have := HF.out.2.2.2.1; omega, HPM.out, O5.out.at.2.2.1⟩, Lib.hid (by rw [List.map_append]; exact O5.out.at.2.1), Lib.hid (by rw [List.map_append]; exact O3.out.below (B5.out)), Lib.hid (fun b2 o2 e => ?_), Lib.hid (bstep B3.out B5.out)⟩
                subst e
                have h1 := (World.ownsRow.lt O5.out.1 b2 rfl).1
                have h2 := G3.out
                simp only [Value.ownBlock]
                intro e1
                simp only [Option.some.injEq] at e1
                omega
            · subst hcc
              go_wp2_with (at_builtin; first
                  | (refine wpList_lies_row rfl (.tmp 66) (.tmp 71) entSlice rfl w2.heap.size (.slice ma m mc) (M.map entR) m [.int .u64 (t : Int), .int .u64 (v : Int)] rfl ⟨wr.heap.size, 0, none⟩ 1 (by rfl) HNW.out HML.out rfl (entR_one (t, v)) (HO.out.allocO _) M63.out M64.out (by have := BW.out; simp; omega) (wr.heap.size + 1) (by simp) ?_; intro g3 c3 w3 hown3 hgr3 hat3; have O3 := Lib.hid hown3; have R3 := Lib.hid ((HR.out.below ((Below.refl _ _).alloc (Nat.le_refl _) _)).grown hgr3 HNE2.out); have B3 := Lib.hid ((HBB.out.alloc BW.out _).grown hgr3 (by have := BW.out; simp; omega) (fun j hj => (World.ownsRow.lt (HO.out.allocO (.cells #[.int .u64 (t : Int), .int .u64 (v : Int)] 28)).1 j hj).1)); have G3 := Lib.hid (show g3 < w3.heap.size from (World.ownsRow.lt hown3.1 g3 rfl).2); have R3a := Lib.hid (R3.out.take k2); have R3b := Lib.hid ((by rw [List.drop_eq_nil_of_le (by have h1 := HF.out.1; have h2 := HGC.out; omega)]; exact RowS.none2 : RowS w3 2 (some ⟨b, o, none⟩) ((L.drop (k2 + 1)).map entR))); clear hown3 hgr3 hat3)
                  | (refine wpList_rows rfl (.tmp 73) (.tmp 76) entSlice rfl w3.heap.size w3 (.slice none 0 0) [] 0 ⟨b, o, none⟩ (k2 + 1) k2 ((L.take k2).map entR) rfl (by rfl) rfl (by rw [List.length_map]; exact HTL.out.1) R3a.out (entR_ok _) (OwnS.nil _ _ _ _) (by have := HG2.out; unfold maxLen; omega) (by have := HG2.out; omega) (Below.refl _ _) (Nat.le_refl _) ?_; rw [Nat.zero_add]; intro ra rc w4 hown4 hb4 hg4; have O4 := Lib.hid hown4; have B4 := Lib.hid hb4; have R4 := Lib.hid (R3b.out.grown hg4 (fun b o e => by simp [Value.ownBlock])); have S4 := Lib.hid hb4.size; clear hown4 hb4 hg4)
                  | (refine wpList_rows rfl (.tmp 78) (.tmp 82) entSlice rfl w3.heap.size w3 (.slice ra k2 rc) ((L.take k2).map entR) k2 ⟨b, o, none⟩ 0 (g - k2) ((L.drop (k2 + 1)).map entR) rfl (by rfl) (by rw [List.length_map]; exact HTL.out.1) (by have := HTL.out.2; rw [List.length_map]; omega) R4.out (entR_ok _) (by have := O4.out; rwa [List.nil_append] at this) (by have := HG2.out; unfold maxLen; omega) (by have := HG2.out; omega) B4.out S4.out ?_; intro la lc w5 hown5 hb5 hg5; have O5 := Lib.hid hown5; have B5 := Lib.hid hb5; clear hown5 hb5 hg5))
              have hlen : k2 + (g - k2) = g := by omega
              rw [hlen] at O5
              try rw [hlen]
              go_roundg g
              case measure => omega
              case rel =>
                refine ⟨i + 1, la, lc, some ⟨g3, 0, none⟩, m + 1, c3, L.take k2 ++ L.drop (k2 + 1), M ++ [(t, v)], by go_num, rfl, rfl, Lib.hid ⟨by rw [List.length_append, HTL.out.1, HTL.out.2]; omega, by rw [List.length_append, HF.out.2.1]; rfl, by have := HF.out.2.2.1; omega, by have := HF.out.2.2.2.1; omega, HPM.out, O5.out.at.2.2.1⟩, Lib.hid (by rw [List.map_append]; exact O5.out.at.2.1), Lib.hid (by rw [List.map_append]; exact O3.out.below (B5.out)), Lib.hid (fun b2 o2 e => ?_), Lib.hid (bstep B3.out B5.out)⟩
                subst e
                have h1 := (World.ownsRow.lt O5.out.1 b2 rfl).1
                have h2 := G3.out
                simp only [Value.ownBlock]
                intro e1
                simp only [Option.some.injEq] at e1
                omega
          · have hip2 : ¬ (i : Int) < (pn : Int) := by omega
            clear hLl hgc
            have hkl : 0 < L.length := by have := HF.out.1; omega
            obtain ⟨b', o', e', -, hc⟩ := HR.out 0 (by rw [List.length_map]; exact hkl)
            simp only [Option.some.injEq, Addr.mk.injEq, and_true] at e'
            obtain ⟨rfl, rfl⟩ := e'
            have c0 := hc 0 (by omega)
            have c1' := hc 1 (by omega)
            rw [List.getElem_map] at c0 c1'
            have HPM := Lib.hid (perm_move hkl HF.out.2.2.2.2.1)
            have HTL : Hid ((L.take 0).length = 0 ∧ (L.drop (0 + 1)).length = g - 0) := Lib.hid (by have := HF.out.1; refine ⟨by rw [List.length_take]; omega, by rw [List.length_drop]; omega⟩)
            generalize L[0] = ek at *
            obtain ⟨t, v⟩ := ek
            have d0 : wr.cell? ⟨b, o, none⟩ = some (.int .u64 (t : Int)) := by simpa [entR] using c0
            have d1 : wr.cell? ⟨b, o + 1, none⟩ = some (.int .u64 (v : Int)) := by simpa [entR] using c1'
            clear c0 c1' hc hkl
            have BW : Hid (w2.heap.size ≤ wr.heap.size) := Lib.hid HBB.out.size
            have hm63 : m + 1 ≤ maxLen := by have h1 := HF.out.2.2.2.1; have h2 := HI2.out; unfold maxLen; omega
            have hm64 : (m + 1) * 16 ≤ 140737488355328 := by have h1 := HF.out.2.2.2.1; have h2 := HI2.out; omega
            have M63 := Lib.hid hm63; have M64 := Lib.hid hm64
            have HML : Hid ((M.map entR).length = m) := Lib.hid (by rw [List.length_map]; exact HF.out.2.1)
            have HNW : Hid (∀ j u, [Value.int .u64 (t : Int), Value.int .u64 (v : Int)][j]? = some u → (wr.alloc (.cells #[.int .u64 (t : Int), .int .u64 (v : Int)] 28)).cell? ((⟨wr.heap.size, 0, none⟩ : Addr).add j) = some u) := Lib.hid (fun j u hj => by
              rw [WideShapes.add_plain, World.cell?_alloc_new]
              simpa using hj)
            have hk1 : IntKind.i64.wrap ((0 : Int) + 1) = ((0 + 1 : Nat) : Int) := by rw [IntKind.wrap_i64]; omega
            have k3 : (0 : Int) ≤ (c1 : Int) := by omega
            have k5 : (0 : Int) ≤ ((0 + 1 : Nat) : Int) := by omega
            have k6 : ((0 + 1 : Nat) : Int) ≤ ((g : Int) + 1) := by omega
            have k7 : ((0 + 1 : Nat) : Int) ≤ (c1 : Int) := by have := HGC.out; omega
            clear hm63 hm64
            rcases (show ¬ c1 = 0 + 1 ∨ c1 = 0 + 1 by omega) with hcc | hcc
            · go_wp2_with (at_builtin; first
                  | (refine wpList_lies_row rfl (.tmp 66) (.tmp 71) entSlice rfl w2.heap.size (.slice ma m mc) (M.map entR) m [.int .u64 (t : Int), .int .u64 (v : Int)] rfl ⟨wr.heap.size, 0, none⟩ 1 (by rfl) HNW.out HML.out rfl (entR_one (t, v)) (HO.out.allocO _) M63.out M64.out (by have := BW.out; simp; omega) (wr.heap.size + 1) (by simp) ?_; intro g3 c3 w3 hown3 hgr3 hat3; have O3 := Lib.hid hown3; have R3 := Lib.hid ((HR.out.below ((Below.refl _ _).alloc (Nat.le_refl _) _)).grown hgr3 HNE2.out); have B3 := Lib.hid ((HBB.out.alloc BW.out _).grown hgr3 (by have := BW.out; simp; omega) (fun j hj => (World.ownsRow.lt (HO.out.allocO (.cells #[.int .u64 (t : Int), .int .u64 (v : Int)] 28)).1 j hj).1)); have G3 := Lib.hid (show g3 < w3.heap.size from (World.ownsRow.lt hown3.1 g3 rfl).2); have R3a := Lib.hid (R3.out.take 0); have R3b := Lib.hid (R3.out.drop (0 + 1)); clear hown3 hgr3 hat3)
                  | (refine wpList_rows rfl (.tmp 73) (.tmp 76) entSlice rfl w3.heap.size w3 (.slice none 0 0) [] 0 ⟨b, o, none⟩ c1 0 ((L.take 0).map entR) rfl (by rfl) rfl (by rw [List.length_map]; exact HTL.out.1) R3a.out (entR_ok _) (OwnS.nil _ _ _ _) (by have := HG2.out; unfold maxLen; omega) (by have := HG2.out; omega) (Below.refl _ _) (Nat.le_refl _) ?_; rw [Nat.zero_add]; intro ra rc w4 hown4 hb4 hg4; have O4 := Lib.hid hown4; have B4 := Lib.hid hb4; have R4 := Lib.hid (R3b.out.grown hg4 (fun b o e => by simp [Value.ownBlock])); have S4 := Lib.hid hb4.size; clear hown4 hb4 hg4)
                  | (refine wpList_rows rfl (.tmp 78) (.tmp 82) entSlice rfl w3.heap.size w3 (.slice ra 0 rc) ((L.take 0).map entR) 0 ⟨b, o + (0 + 1) * 2, none⟩ (c1 - (0 + 1)) g ((L.drop (0 + 1)).map entR) rfl (by rfl) (by rw [List.length_map]; exact HTL.out.1) (by have := HTL.out.2; rw [List.length_map]; omega) R4.out (entR_ok _) (by have := O4.out; rwa [List.nil_append] at this) (by have := HG2.out; unfold maxLen; omega) (by have := HG2.out; omega) B4.out S4.out ?_; intro la lc w5 hown5 hb5 hg5; have O5 := Lib.hid hown5; have B5 := Lib.hid hb5; clear hown5 hb5 hg5))
              have hlen : 0 + g = g := by omega
              rw [hlen] at O5
              try rw [hlen]
              go_roundg g
              case measure => omega
              case rel =>
                refine ⟨i + 1, la, lc, some ⟨g3, 0, none⟩, m + 1, c3, L.take 0 ++ L.drop (0 + 1), M ++ [(t, v)], by go_num, rfl, rfl, Lib.hid ⟨by rw [List.length_append, HTL.out.1, HTL.out.2]; omega, by rw [List.length_append, HF.out.2.1]; rfl, by have := HF.out.2.2.1; omega, by have := HF.out.2.2.2.1; omega, HPM.out, O5.out.at.2.2.1⟩, Lib.hid (by rw [List.map_append]; exact O5.out.at.2.1), Lib.hid (by rw [List.map_append]; exact O3.out.below (B5.out)), Lib.hid (fun b2 o2 e => ?_), Lib.hid (bstep B3.out B5.out)⟩
                subst e
                have h1 := (World.ownsRow.lt O5.out.1 b2 rfl).1
                have h2 := G3.out
                simp only [Value.ownBlock]
                intro e1
                simp only [Option.some.injEq] at e1
                omega
            · subst hcc
              go_wp2_with (at_builtin; first
                  | (refine wpList_lies_row rfl (.tmp 66) (.tmp 71) entSlice rfl w2.heap.size (.slice ma m mc) (M.map entR) m [.int .u64 (t : Int), .int .u64 (v : Int)] rfl ⟨wr.heap.size, 0, none⟩ 1 (by rfl) HNW.out HML.out rfl (entR_one (t, v)) (HO.out.allocO _) M63.out M64.out (by have := BW.out; simp; omega) (wr.heap.size + 1) (by simp) ?_; intro g3 c3 w3 hown3 hgr3 hat3; have O3 := Lib.hid hown3; have R3 := Lib.hid ((HR.out.below ((Below.refl _ _).alloc (Nat.le_refl _) _)).grown hgr3 HNE2.out); have B3 := Lib.hid ((HBB.out.alloc BW.out _).grown hgr3 (by have := BW.out; simp; omega) (fun j hj => (World.ownsRow.lt (HO.out.allocO (.cells #[.int .u64 (t : Int), .int .u64 (v : Int)] 28)).1 j hj).1)); have G3 := Lib.hid (show g3 < w3.heap.size from (World.ownsRow.lt hown3.1 g3 rfl).2); have R3a := Lib.hid (R3.out.take 0); have R3b := Lib.hid ((by rw [List.drop_eq_nil_of_le (by have h1 := HF.out.1; have h2 := HGC.out; omega)]; exact RowS.none2 : RowS w3 2 (some ⟨b, o, none⟩) ((L.drop (0 + 1)).map entR))); clear hown3 hgr3 hat3)
                  | (refine wpList_rows rfl (.tmp 73) (.tmp 76) entSlice rfl w3.heap.size w3 (.slice none 0 0) [] 0 ⟨b, o, none⟩ (0 + 1) 0 ((L.take 0).map entR) rfl (by rfl) rfl (by rw [List.length_map]; exact HTL.out.1) R3a.out (entR_ok _) (OwnS.nil _ _ _ _) (by have := HG2.out; unfold maxLen; omega) (by have := HG2.out; omega) (Below.refl _ _) (Nat.le_refl _) ?_; rw [Nat.zero_add]; intro ra rc w4 hown4 hb4 hg4; have O4 := Lib.hid hown4; have B4 := Lib.hid hb4; have R4 := Lib.hid (R3b.out.grown hg4 (fun b o e => by simp [Value.ownBlock])); have S4 := Lib.hid hb4.size; clear hown4 hb4 hg4)
                  | (refine wpList_rows rfl (.tmp 78) (.tmp 82) entSlice rfl w3.heap.size w3 (.slice ra 0 rc) ((L.take 0).map entR) 0 ⟨b, o, none⟩ 0 g ((L.drop (0 + 1)).map entR) rfl (by rfl) (by rw [List.length_map]; exact HTL.out.1) (by have := HTL.out.2; rw [List.length_map]; omega) R4.out (entR_ok _) (by have := O4.out; rwa [List.nil_append] at this) (by have := HG2.out; unfold maxLen; omega) (by have := HG2.out; omega) B4.out S4.out ?_; intro la lc w5 hown5 hb5 hg5; have O5 := Lib.hid hown5; have B5 := Lib.hid hb5; clear hown5 hb5 hg5))
              have hlen : 0 + g = g := by omega
              rw [hlen] at O5
              try rw [hlen]
              go_roundg g
              case measure => omega
              case rel =>
                refine ⟨i + 1, la, lc, some ⟨g3, 0, none⟩, m + 1, c3, L.take 0 ++ L.drop (0 + 1), M ++ [(t, v)], by go_num, rfl, rfl, Lib.hid ⟨by rw [List.length_append, HTL.out.1, HTL.out.2]; omega, by rw [List.length_append, HF.out.2.1]; rfl, by have := HF.out.2.2.1; omega, by have := HF.out.2.2.2.1; omega, HPM.out, O5.out.at.2.2.1⟩, Lib.hid (by rw [List.map_append]; exact O5.out.at.2.1), Lib.hid (by rw [List.map_append]; exact O3.out.below (B5.out)), Lib.hid (fun b2 o2 e => ?_), Lib.hid (bstep B3.out B5.out)⟩
                subst e
                have h1 := (World.ownsRow.lt O5.out.1 b2 rfl).1
                have h2 := G3.out
                simp only [Value.ownBlock]
                intro e1
                simp only [Option.some.injEq] at e1
                omega
end Go.Proofs.Ytcjgljmeefbacaa
