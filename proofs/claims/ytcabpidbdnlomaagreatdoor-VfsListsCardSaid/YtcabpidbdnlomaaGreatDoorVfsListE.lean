/- Layer 3: the sort of no texts. -/
import Derived.Test.YtcabpidbdnlomaaGreatDoorVfsList
import Derived.Sort.KeysCollected
import Derived.Sort.OwnSorted
import Derived.Deep.AppendLies
import Derived.Deep.LoopGhost
import Derived.WalkMore
import Derived.Carry
namespace Go.Proofs.YtcabpidbdnlomaaGreatDoor
open Go.RowKit
set_option linter.unusedVariables false
set_option linter.unusedSimpArgs false

set_option maxRecDepth 100000 in
set_option maxHeartbeats 4000000 in
theorem len64_zero (w : World) : Calls Tryz.prog 61 #[.int .u64 0] w fun e w' => e = .returned (.int .i64 0) ∧ w = w' := by
  go_enter Tryz.func61, Tryz.ntmps61
  go_wp2
  go_ret
  exact ⟨by kernel_rfl, rfl⟩
set_option maxRecDepth 100000 in
set_option maxHeartbeats 4000000 in
theorem len_zero (w : World) : Calls Tryz.prog 35 #[.int .u64 0] w fun e w' => e = .returned (.int .i64 0) ∧ w = w' := by
  have H := Lib.hid (len64_zero w)
  go_enter Tryz.func35, Tryz.ntmps35
  go_wp2_with fail
  refine H.out.mono ?_
  rintro e w' ⟨rfl, rfl⟩
  go_wp2_with fail
  go_ret
  exact ⟨rfl, rfl⟩
set_option maxRecDepth 100000 in
set_option maxHeartbeats 4000000 in
theorem insert_nil (w : World) : Calls Tryz.prog 51 #[.slice none 0 0, .int .i64 0, .int .i64 0] w fun e w' => e = .returned (.tuple #[]) ∧ w = w' := by
  go_enter Tryz.func51, Tryz.ntmps51
  go_wp2_with fail
  go_loopg [6, 7] 0 (fun g iv jv wr => iv = .int .i64 1 ∧ w = wr)
  case atStart => exact ⟨rfl, rfl⟩
  case round =>
    obtain ⟨rfl, rfl⟩ := hrel
    go_wp2_with fail
    go_end0
    exact ⟨rfl, rfl⟩
set_option maxRecDepth 100000 in
set_option maxHeartbeats 4000000 in
theorem pdq_nil (w : World) : Calls Tryz.prog 34 #[.slice none 0 0, .int .i64 0, .int .i64 0, .int .i64 0] w fun e w' => e = .returned (.tuple #[]) ∧ w = w' := by
  have H := Lib.hid (insert_nil w)
  go_enter Tryz.func34, Tryz.ntmps34
  go_wp2_with fail
  go_loopg [1, 2, 3, 8, 9, 10] 0 (fun g av bv lv pv qv nv wr => av = .int .i64 0 ∧ bv = .int .i64 0 ∧ lv = .int .i64 0 ∧ w = wr)
  case atStart => exact ⟨rfl, rfl, rfl, rfl⟩
  case round =>
    obtain ⟨rfl, rfl, rfl, rfl⟩ := hrel
    go_wp2_with fail
    refine H.out.mono ?_
    rintro e w' ⟨rfl, rfl⟩
    go_wp2_with fail
    (try simp only [Exit.inBlock, Exit.then]); refine bodyPost_ret (results_none rfl _ _ _) rfl ?_
    exact ⟨rfl, rfl⟩
set_option maxRecDepth 100000 in
set_option maxHeartbeats 4000000 in
theorem sort_nil (w : World) : Calls Tryz.prog 18 #[.slice none 0 0] w fun e w' => e = .returned (.tuple #[]) ∧ w = w' := by
  have H1 := Lib.hid (len_zero w)
  have H2 := Lib.hid (pdq_nil w)
  go_enter Tryz.func18, Tryz.ntmps18
  go_wp2_with fail
  refine H1.out.mono ?_
  rintro e w' ⟨rfl, rfl⟩
  go_wp2_with fail
  refine H2.out.mono ?_
  rintro e w' ⟨rfl, rfl⟩
  go_wp2_with fail
  go_simp
  go_end0
  exact ⟨rfl, rfl⟩
end Go.Proofs.YtcabpidbdnlomaaGreatDoor
/- Layer 3: the names in a directory, of whatever directory: also if there is none. -/
namespace Go.Proofs.YtcabpidbdnlomaaGreatDoor
open Go.RowKit
open Go.Sort
set_option linter.unusedVariables false
set_option linter.unusedSimpArgs false
set_option maxRecDepth 100000 in
set_option maxHeartbeats 16000000 in
theorem list_dirN (hsort : SortsT) (tb g c : Nat) (F : ByteArray → Option Ent) (path at' : ByteArray) (w : World) (h : TreeAt w tb g c F) (hF : TreeIn F) (hc : c ≤ 1025) (hp : path.size ≤ 140737488355328) (hn : folF F path = .ok at') (hk : ((F at').getD Ent.zero).kind = 1) :
    Calls Tryz.prog 6 #[.pointer (some ⟨tb, 0, none⟩), .string path] w fun e w' => (∃ ad cap ss, KeysOf F ss ∧ e = .returned (.tuple #[.slice ad (namesIn at' ss).length cap, .nilIface]) ∧ OwnT w' w.heap.size 9 (.slice ad (namesIn at' ss).length cap) (((namesIn at' ss).mergeSort fun x y => decide (x ≤ y)).map mkP)) ∧ Below w.heap.size w w' := by
  have HF : Hid (∀ wx, Below w.heap.size w wx → Calls Tryz.prog 15 #[.pointer (some ⟨tb, 0, none⟩), .string path] wx fun e w' => e = .returned (.tuple #[.string at', .nilIface]) ∧ Below wx.heap.size wx w') := Lib.hid (fun wx hb => by
    have := follow_any tb g c F path wx (h.below hb) hF.ok hp
    rw [hn] at this
    exact this)
  obtain ⟨x0, hx0, -⟩ := folF_end hF hn
  have has := (hF.ok.keys _ _ hx0).2
  have HT := Lib.hid h
  have HTI := Lib.hid hF
  have HSO := Lib.hid hsort
  have HCB := Lib.hid hc
  obtain ⟨e2, he2⟩ : ∃ e2, (F at').getD Ent.zero = e2 := ⟨_, rfl⟩
  rw [he2] at hk
  have HE2 := Lib.hid he2
  have LAW := Lib.hid (Maps.string_keyed (P := Tryz.prog) (k := 9) Tryz.underlying9)
  have INVK : Hid (∀ key kl, keyOf Tryz.prog 9 key = some kl → ∃ x : List UInt8, key = encStr x) := Lib.hid (fun key kl hh => by
    obtain ⟨x, e, -, -⟩ := Maps.keyOf_str Tryz.underlying9 hh
    exact ⟨x, e⟩)
  have INVV : Hid (∀ v y, entRd v = some y → ∃ o : Ent, v = o.v) := Lib.hid (fun v y hh => by
    obtain ⟨o, e, -⟩ := entRd_inv hh
    exact ⟨o, e⟩)
  obtain ⟨D, hown, hD⟩ := h.map
  have HOWN := Lib.hid hown
  have HD : Hid (∀ x : List UInt8, x.length ≤ maxLen → Maps.has D (.string x) = (F (mkP x)).isSome) := Lib.hid (fun x hx => by
    have := (hD (mkP x) (by show x.toArray.size ≤ _; simpa using hx)).2
    exact this)
  have HGL := Lib.hid h.map.lt
  have HSZ : Hid (Maps.size D ≤ c) := Lib.hid hown.size_le
  have hfk := field_kind
  clear h hF hp hn hx0 he2 hown hD hsort hc
  go_enter Tryz.func6, Tryz.ntmps6
  go_wp2_with fail
  refine (HF.out w (Below.refl _ _)).mono ?_
  rintro e w2 ⟨rfl, hb2⟩
  have B2 := Lib.hid hb2
  have T2 := HT.out.below hb2
  have m0 : w2.cell? ⟨tb, 0, none⟩ = some (.map (some g)) := by
    have := cell_of_row _ _ 0 _ _ _ T2.box
    simpa using this
  have hl2 := T2.map.look (T := 57) (E := 56) Tryz.underlying9 Tryz.underlying57 (ent_zeroV w2) (k := at') (by unfold maxLen; omega)
  rw [HE2.out] at hl2
  unfold Ent.v at hl2
  rw [hk] at hl2
  have HO2 : Hid (w2.ownsMap Tryz.prog 9 entRd g c D) := Lib.hid (by
    obtain ⟨es, cl, h1, h2⟩ := HOWN.out
    exact ⟨es, cl, (hb2.block g HGL.out).trans h1, h2⟩)
  have HG2 : Hid (g < w2.heap.size) := Lib.hid (Nat.lt_of_lt_of_le HGL.out hb2.size)
  clear hb2 T2 hk
  go_wp2_with (first | (at_range; refine wpList_range_own _ rfl _ 57 rfl 9 56 LAW.out Tryz.underlying57 entRd g c D rfl HO2.out ?_; intro w0 hrg0 hg0 hs0))
  obtain ⟨r, hr⟩ : ∃ r, w2.heap.size = r := ⟨_, rfl⟩
  have B0 : Hid (Below w2.heap.size w2 w0) := Lib.hid ((Below.refl w2.heap.size w2).grown hg0 (Nat.le_refl _) (fun j hj => by cases hj))
  obtain ⟨nA, hnA⟩ : ∃ nA, Maps.size D = nA := ⟨_, rfl⟩
  rw [hnA] at hrg0
  rw [hr] at hrg0 ⊢
  have HRG0 := Lib.hid hrg0
  have HNA : Hid (nA ≤ 1025) := Lib.hid (by have := HSZ.out; have := HCB.out; omega)
  have HRE := Lib.hid hr
  clear hrg0 hg0 hs0 m0 hl2 hnA hr
  go_simp
  go_loopg [8] nA (fun f lv wr => ∃ (left : Lit → Bool) (ss : List (List UInt8)) (ad : Option Addr) (n cap : Nat), lv = .slice ad n cap ∧ Hid (n = (namesIn at' ss).length) ∧ Hid (ss.length + f ≤ nA) ∧ Hid (Collected D left ss) ∧ Hid (∀ x ∈ ss, x.length ≤ maxLen) ∧ Hid (wr.ranges Tryz.prog 9 entRd g r c D left f) ∧ Hid (OwnT wr w2.heap.size 9 (.slice ad n cap) ((namesIn at' ss).map mkP)) ∧ Hid (Below w2.heap.size w2 wr) ∧ Hid (n = 0 → ad = none ∧ cap = 0))
  case atStart => exact ⟨_, [], none, 0, 0, rfl, Lib.hid rfl, Lib.hid (by simp), Lib.hid (Collected.start D), Lib.hid (fun x hx => by cases hx), HRG0, Lib.hid (OwnT.nil _ _ _), B0, Lib.hid (fun _ => ⟨rfl, rfl⟩)⟩
  case round =>
    clear HRG0 B0
    obtain ⟨left, ss, ad, n, cap, rfl, HN, HLN, HC, HSB, HRG, HO, HB, HZ0⟩ := hrel
    go_wp2_with (first | (at_next; refine wpList_next_ranges _ rfl _ rfl 9 LAW.out entRd encStr Ent.v INVK.out INVV.out g r c D left gk rfl HRG.out ?_ ?_))
    · intro hc0 hl0
      have HKS : Hid (KeysOf F ss) := Lib.hid ⟨HC.out.1, fun x => by
        constructor
        · intro hx
          rw [← HD.out x (HSB.out x hx)]
          exact ((HC.out.2 x).1 hx).1
        · intro hx
          have hkx : x.length ≤ maxLen := by
            obtain ⟨e, he⟩ := Option.isSome_iff_exists.1 hx
            have := (HTI.out.ok.keys _ _ he).2
            have h2 : (mkP x).size = x.length := by show x.toArray.size = _; simp
            unfold maxLen
            omega
          exact (HC.out.2 x).2 ⟨by rw [HD.out x hkx]; exact hx, hl0 _⟩⟩
      by_cases hz : (namesIn at' ss).length = 0
      · have hn := HN.out
        rw [hz] at hn
        obtain ⟨rfl, rfl⟩ := HZ0.out hn
        subst hn
        have HSN := Lib.hid (sort_nil wr)
        have HNI : Hid (namesIn at' ss = []) := Lib.hid (List.length_eq_zero_iff.1 hz)
        have HBW : Hid (Below w.heap.size w wr) := Lib.hid (B2.out.trans (HB.out.mono B2.out.size))
        clear hc0 hl0 hz
        go_wp2_with fail
        refine HSN.out.mono ?_
        rintro e w9 ⟨rfl, rfl⟩
        go_wp2_with fail
        go_ret2
        refine ⟨⟨none, 0, ss, HKS.out, by rw [HNI.out]; rfl, ?_⟩, HBW.out⟩
        rw [HNI.out, List.mergeSort_nil]
        exact OwnT.nil _ _ _
      · have hlen1 : 0 < (namesIn at' ss).length := by omega
        have hrow : wr.ownsRow w2.heap.size 9 1 (.slice ad n cap) (namesIn at' ss).length ((namesIn at' ss).map encStr) := by
          have := HO.out
          unfold OwnT at this
          rw [List.length_map, List.map_map] at this
          exact this
        have hn := HN.out
        subst hn
        rcases hrow.2 with ⟨hnil, h0⟩ | ⟨gg, cap', cur, hv, hbase, hb, h1, h2, h3, h4⟩
        · omega
        · simp only [Value.slice.injEq] at hv
          obtain ⟨rfl, -, rfl⟩ := hv
          have hH : Holds encStr wr gg 0 (namesIn at' ss).toArray := holds_of_block hb (by simpa using h4)
          have hgl : gg < wr.heap.size := (Array.getElem?_eq_some_iff.1 hb).1
          have hlt2 : (namesIn at' ss).length < 4611686018427387904 := by
            have h5 := namesIn_len at' ss
            have h6 := HLN.out
            have h7 := HNA.out
            omega
          have hcall := Lib.hid (HSO.out gg 0 cap (namesIn at' ss) wr hH hgl hlt2)
          have HFIN : Hid (∀ nn os, OwnT (grow (putRow encStr (Sort.ahead wr nn) gg 0 ((namesIn at' ss).mergeSort fun x y => decide (x ≤ y)).toArray) os) w2.heap.size 9 (.slice (some ⟨gg, 0, none⟩) (namesIn at' ss).length cap) (((namesIn at' ss).mergeSort fun x y => decide (x ≤ y)).map mkP) ∧ Below w.heap.size w (grow (putRow encStr (Sort.ahead wr nn) gg 0 ((namesIn at' ss).mergeSort fun x y => decide (x ≤ y)).toArray) os)) := Lib.hid (fun nn os => by
            refine ⟨?_, ?_⟩
            · have := ownsRow_sorted (n := nn) (os := os) (ss := namesIn at' ss) (ts := (namesIn at' ss).mergeSort fun x y => decide (x ≤ y)) (by simp) hbase hb h1 h2 h3
              unfold OwnT
              rw [List.length_map, List.map_map, List.length_mergeSort]
              exact this
            · exact (B2.out.trans (HB.out.mono B2.out.size)).grown (grownBy_sorted _) (Nat.le_trans B2.out.size HB.out.size) (fun j hj => by cases hj; exact Nat.le_trans B2.out.size hbase))
          obtain ⟨L, hL⟩ : ∃ L, (namesIn at' ss).length = L := ⟨_, rfl⟩
          have HLL := Lib.hid hL
          rw [hL] at hcall ⊢
          clear hc0 hl0 hlen1 hrow hb h1 h2 h3 h4 hH hgl hlt2 hbase hL
          go_wp2_with fail
          refine hcall.out.mono ?_
          rintro e w9 ⟨rfl, nn, os, rfl⟩
          go_wp2_with fail
          go_ret2
          refine ⟨⟨some ⟨gg, 0, none⟩, cap, ss, HKS.out, by rw [HLL.out]; rfl, ?_⟩, (HFIN.out nn os).2⟩
          rw [HLL.out]
          have := (HFIN.out nn os).1
          rw [HLL.out] at this
          exact this.mono B2.out.size
    · intro x o kl yd yp w3 cnt3 hkey hlk hv hat hrg3 hlt3 hg3 hs3 hen
      obtain ⟨x', ex, rfl, hxl⟩ := Maps.keyOf_str Tryz.underlying9 hkey
      obtain rfl : x = x' := encStr_inj ex
      have hhas : (F (mkP x)).isSome = true := by rw [← HD.out x hxl]; exact Maps.has_true_of_atKey hat
      obtain ⟨fe, hfe⟩ := Option.isSome_iff_exists.1 hhas
      have hks := HTI.out.ok.keys _ _ hfe
      have HKS := Lib.hid hks
      have B3 : Hid (Below w2.heap.size w2 w3) := Lib.hid (HB.out.grown hg3 HB.out.size (fun j hj => by cases hj; exact Nat.le_of_eq HRE.out))
      have O3 : Hid (OwnT w3 w2.heap.size 9 (.slice ad n cap) ((namesIn at' ss).map mkP)) := Lib.hid (World.ownsRow.kept HO.out hg3 (Or.inr (row_ne_iter HO.out HRG.out).symm))
      have HRG3 := Lib.hid hrg3
      have HC3 := Lib.hid (HC.out.step hlk hat)
      have HSB3 : Hid (∀ y ∈ ss ++ [x], y.length ≤ maxLen) := Lib.hid (fun y hy => by
        rcases List.mem_append.1 hy with h | h
        · exact HSB.out y h
        · rw [List.mem_singleton] at h; rw [h]; exact hxl)
      have HLT3 := Lib.hid hlt3
      have HSN := Lib.hid (namesIn_snoc at' ss x)
      have hsl : (mkP x).size = x.length := by show x.toArray.size = _; simp
      unfold encStr at hen ⊢
      have hmk : (⟨x.toArray⟩ : ByteArray) = mkP x := rfl
      rw [hmk] at hen ⊢
      clear ex hkey hlk hv hat hrg3 hlt3 hg3 hs3 hfe hhas hxl hks
      by_cases hsl0 : mkP x = slash
      · have HIN : Hid (namesIn at' (ss ++ [x]) = namesIn at' ss) := Lib.hid (by
          rw [HSN.out]
          have : inDir at' x = false := by unfold inDir; rw [hsl0]; rfl
          rw [this]
          simp)
        rw [hsl0] at hen ⊢
        unfold slash at hen ⊢
        clear hsl0 hmk hsl
        unfold Ent.v at hen ⊢
        go_wp2_with fail
        go_roundg cnt3
        case measure => exact HLT3.out
        case rel => exact ⟨_, ss ++ [x], ad, n, cap, rfl, Lib.hid (by rw [HIN.out]; exact HN.out), Lib.hid (by rw [List.length_append]; have := HLN.out; have := HLT3.out; simp; omega), HC3, HSB3, HRG3, Lib.hid (by rw [HIN.out]; exact O3.out), B3, HZ0⟩
      · have hne2 : ((mkP x).toList == [47]) = false := by
          have := text_ne hsl0
          rwa [show slash.toList = [47] by rw [ByteArray.toList_eq]; rfl] at this
        have HPA := Lib.hid (parent_any (mkP x) w3 (by have := HKS.out; omega) (by have := HKS.out; omega))
        by_cases hpd : parentF (mkP x) = at'
        · have HIN : Hid (namesIn at' (ss ++ [x]) = namesIn at' ss ++ [lastName x]) := Lib.hid (by
            rw [HSN.out]
            have : inDir at' x = true := by unfold inDir; rw [decide_eq_false hsl0, decide_eq_true hpd]; rfl
            rw [this]
            rfl)
          rw [hpd] at HPA
          have HLI := Lib.hid ((Tryz.strings_LastIndexByte (mkP x) 47 (by have := HKS.out; omega) w3).mono (fun e w' h => (⟨h.1, h.2.symm⟩ : _ ∧ w3 = w')))
          obtain ⟨li, hli⟩ : ∃ li, Lib.lastIndexByte (mkP x) 47 = li := ⟨_, rfl⟩
          rw [hli] at HLI
          obtain ⟨j, hj, hj2⟩ : ∃ j : Nat, li + 1 = (j : Int) ∧ j ≤ (mkP x).size := by
            rcases Lib.lastIndexByte_spec (mkP x) 47 with ⟨h2, -⟩ | ⟨i, hi, h2, -, -⟩
            · exact ⟨0, by rw [← hli, h2]; rfl, Nat.zero_le _⟩
            · exact ⟨i + 1, by rw [← hli, h2]; omega, hi⟩
          have HLN2 : Hid (mkP (lastName x) = (mkP x).extract j (mkP x).size) := Lib.hid (by
            unfold lastName
            rw [hli, hj]
            rfl)
          generalize mkP x = kx at *
          have hw1 : IntKind.i64.wrap (li + 1) = (j : Int) := by rw [IntKind.wrap_i64, hj]; have := HKS.out; omega
          have j0 : (0 : Int) ≤ (j : Int) := by omega
          have j1 : (j : Int) ≤ (kx.size : Int) := by omega
          have HNL : Hid ((namesIn at' ss).length = n ∧ n + 1 ≤ 1025) := Lib.hid ⟨HN.out.symm, by have h5 := namesIn_len at' ss; have := HN.out; have := HLN.out; have := HNA.out; have := HLT3.out; omega⟩
          have OA : Hid (OwnT (w3.alloc (.cells #[.string (kx.extract j kx.size)] 9)) w2.heap.size 9 (.slice ad n cap) ((namesIn at' ss).map mkP)) := Lib.hid (World.ownsRow.alloc O3.out _)
          have RA := Lib.hid (HRG3.out.alloc (.cells #[.string (kx.extract j kx.size)] 9))
          have BA : Hid (Below w2.heap.size w2 (w3.alloc (.cells #[.string (kx.extract j kx.size)] 9))) := Lib.hid (B3.out.alloc B3.out.size _)
          have HNW : Hid ((w3.alloc (.cells #[.string (kx.extract j kx.size)] 9)).cell? ⟨w3.heap.size, 0, none⟩ = some (.string (kx.extract j kx.size))) := Lib.hid (by
            rw [World.cell?_alloc_new]
            rfl)
          have hw2 : wrap64 (li + 1) = (j : Int) := by rw [hj, IntWalk.wrap64_in _ ⟨by omega, by have := HKS.out; omega⟩]
          clear hsl0 hmk hpd hli hj hj2 hsl
          unfold Ent.v at hen ⊢
          go_wp2_with fail
          refine HPA.out.mono ?_
          rintro e w' ⟨rfl, rfl⟩
          go_wp2_with fail
          refine HLI.out.mono ?_
          rintro e w' ⟨rfl, rfl⟩
          go_wp2_with (at_builtin; go_loud (refine wpList_name_g rfl (.tmp 45) (.tmp 51) texts_t text_info rfl w2.heap.size (.slice ad n cap) ((namesIn at' ss).map mkP) n ⟨w3.heap.size, 0, none⟩ 1 (kx.extract j kx.size) rfl rfl HNW.out (by rw [List.length_map]; exact HNL.out.1) OA.out (by have := HNL.out.2; unfold maxLen; omega) (by have := HNL.out.2; omega) BA.out.size ?_); intro g7 c7 w7 ho7 hg7; have HO7 := Lib.hid ho7; have HG7 := Lib.hid hg7; clear ho7 hg7)
          have HRG7 := Lib.hid (RA.out.kept HG7.out (row_ne_low OA.out HG2.out) (row_ne_iter OA.out RA.out))
          have B7 : Hid (Below w2.heap.size w2 w7) := Lib.hid (BA.out.grown HG7.out BA.out.size (fun j hj => (World.ownsRow.lt OA.out j hj).1))
          have O7 : Hid (OwnT w7 w2.heap.size 9 (.slice (some ⟨g7, 0, none⟩) (n + 1) c7) ((namesIn at' (ss ++ [x])).map mkP)) := Lib.hid (by
            rw [HIN.out, List.map_append, List.map_cons, List.map_nil, HLN2.out]
            exact HO7.out)
          go_roundg cnt3
          case measure => exact HLT3.out
          case rel => exact ⟨_, ss ++ [x], some ⟨g7, 0, none⟩, n + 1, c7, rfl, Lib.hid (by rw [HIN.out, List.length_append, ← HN.out]; rfl), Lib.hid (by rw [List.length_append]; have := HLN.out; have := HLT3.out; simp; omega), HC3, HSB3, HRG7, O7, B7, Lib.hid (fun h => absurd h (by omega))⟩
        · have HIN : Hid (namesIn at' (ss ++ [x]) = namesIn at' ss) := Lib.hid (by
            rw [HSN.out]
            have : inDir at' x = false := by unfold inDir; rw [decide_eq_false hpd, Bool.and_false]
            rw [this]
            simp)
          have hne3 := text_ne hpd
          generalize parentF (mkP x) = pd at *
          generalize mkP x = kx at *
          clear hsl0 hmk hpd hsl
          unfold Ent.v at hen ⊢
          go_wp2_with fail
          refine HPA.out.mono ?_
          rintro e w' ⟨rfl, rfl⟩
          go_wp2_with fail
          go_roundg cnt3
          case measure => exact HLT3.out
          case rel => exact ⟨_, ss ++ [x], ad, n, cap, rfl, Lib.hid (by rw [HIN.out]; exact HN.out), Lib.hid (by rw [List.length_append]; have := HLN.out; have := HLT3.out; simp; omega), HC3, HSB3, HRG3, Lib.hid (by rw [HIN.out]; exact O3.out), B3, HZ0⟩
end Go.Proofs.YtcabpidbdnlomaaGreatDoor
/- Layer 3: the names in a directory: what is answered where a path leads nowhere or to a file. -/
namespace Go.Proofs.YtcabpidbdnlomaaGreatDoor
open Go.RowKit
set_option linter.unusedVariables false
set_option linter.unusedSimpArgs false

set_option maxRecDepth 100000 in
set_option maxHeartbeats 8000000 in
theorem list_err (tb g c : Nat) (F : ByteArray → Option Ent) (path : ByteArray) (w : World) (h : TreeAt w tb g c F) (hF : TreeIn F) (hp : path.size ≤ 140737488355328) (n : Nat) (hn : folF F path = .error n) :
    Calls Tryz.prog 6 #[.pointer (some ⟨tb, 0, none⟩), .string path] w fun e w' => e = .returned (.tuple #[.slice none 0 0, errV (n : Int)]) ∧ Below w.heap.size w w' := by
  have HF := Lib.hid (follow_any tb g c F path w h hF.ok hp)
  rw [hn] at HF
  have hcs := folF_err hF.ok hn
  clear h hF hp hn
  rw [errV_yes (by omega)]
  go_enter Tryz.func6, Tryz.ntmps6
  go_wp2_with fail
  refine HF.out.mono ?_
  rintro e w2 ⟨hpost, hb2⟩
  obtain rfl : e = _ := hpost
  rw [errV_yes (by omega)]
  have B2 := Lib.hid hb2
  clear hb2 hcs
  go_wp2_with fail
  go_ret2
  exact ⟨rfl, B2.out⟩
set_option maxRecDepth 100000 in
set_option maxHeartbeats 8000000 in
theorem list_file (tb g c : Nat) (F : ByteArray → Option Ent) (path p : ByteArray) (w : World) (h : TreeAt w tb g c F) (hF : TreeIn F) (hp : path.size ≤ 140737488355328) (hn : folF F path = .ok p) (hk : ((F p).getD Ent.zero).kind ≠ 1) :
    Calls Tryz.prog 6 #[.pointer (some ⟨tb, 0, none⟩), .string path] w fun e w' => e = .returned (.tuple #[.slice none 0 0, errV ((16 : Nat) : Int)]) ∧ Below w.heap.size w w' := by
  have HF := Lib.hid (follow_any tb g c F path w h hF.ok hp)
  rw [hn] at HF
  obtain ⟨x0, hx0, -⟩ := folF_end hF hn
  have hps := (hF.ok.keys _ _ hx0).2
  have HT := Lib.hid h
  obtain ⟨e2, he2⟩ : ∃ e2, (F p).getD Ent.zero = e2 := ⟨_, rfl⟩
  rw [he2] at hk
  have HE2 := Lib.hid he2
  have hk2 : (e2.kind != 1) = true := by rw [bne_iff_ne]; exact hk
  have hfk := field_kind
  rw [errV16]
  clear h hF hp hn hx0 he2 hk
  go_enter Tryz.func6, Tryz.ntmps6
  go_wp2_with fail
  refine HF.out.mono ?_
  rintro e w2 ⟨hpost, hb2⟩
  obtain rfl : e = _ := hpost
  have B2 := Lib.hid hb2
  have T2 := HT.out.below hb2
  have m0 : w2.cell? ⟨tb, 0, none⟩ = some (.map (some g)) := by
    have := cell_of_row _ _ 0 _ _ _ T2.box
    simpa using this
  have hl2 := T2.map.look (T := 57) (E := 56) Tryz.underlying9 Tryz.underlying57 (ent_zeroV w2) (k := p) (by unfold maxLen; omega)
  rw [HE2.out] at hl2
  unfold Ent.v at hl2
  clear hb2 T2
  go_wp2_with fail
  go_ret2
  exact ⟨rfl, B2.out⟩
end Go.Proofs.YtcabpidbdnlomaaGreatDoor
