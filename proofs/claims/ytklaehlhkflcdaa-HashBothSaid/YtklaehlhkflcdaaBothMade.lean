/- Layer 7: a table of the second kind is made of names. -/
import Derived.Test.YtklaehlhkflcdaaBothSet
import Derived.Test.YtklaehlhkflcdaaOwnPut
import Derived.Test.YtklaehlhkflcdaaPushG
namespace Go.Proofs.Ytklaehlhkflcdaa
open Go.RowKit
set_option linter.unusedVariables false
set_option linter.unusedSimpArgs false

set_option maxRecDepth 100000 in
set_option maxHeartbeats 8000000 in
theorem second_any (a : Option Addr) (cap : Nat) (all : List ByteArray) (n sh : Nat) (w : World) (h : TRow w a all) (hs : ∀ t ∈ all, t.size ≤ 9223372036854775807) (h0 : 0 < all.length) (hl : all.length ≤ 300) (hn0 : 0 < n) (hn : n ≤ 64) (hsh : sh < 32) :
    Calls Try.prog 11 #[.slice a all.length cap, .int .u32 (n : Int), .int .u32 (sh : Int)] w (NumsAns 5 .u8 (fourF (bothW (fun x => gnuN (all.getD x .empty).data.toList) (fun x => gnuN (all.getD x .empty).data.toList % n) n all.length sh)) w) := by
  have H := Lib.hid h
  have HSY := Lib.hid (fun (w1 : World) (i : Nat) (hi : i < all.length) => gnuN_any (all.getD i .empty) w1 (hs _ (by rw [List.getD, List.getElem?_eq_getElem hi]; exact List.getElem_mem _)))
  have HHK : Hid (∀ x, (fun x => gnuN (all.getD x .empty).data.toList) x = gnuN (all.getD x .empty).data.toList) := Lib.hid (fun x => rfl)
  have HHB : Hid (∀ x, (fun x => gnuN (all.getD x .empty).data.toList % n) x = (fun x => gnuN (all.getD x .empty).data.toList) x % n) := Lib.hid (fun x => rfl)
  obtain ⟨hb, hhb⟩ : ∃ hb : Nat → Nat, (fun x => gnuN (all.getD x .empty).data.toList % n) = hb := ⟨_, rfl⟩
  rw [hhb] at HHB ⊢
  obtain ⟨hk, hhk⟩ : ∃ hk : Nat → Nat, (fun x => gnuN (all.getD x .empty).data.toList) = hk := ⟨_, rfl⟩
  rw [hhk] at HHB HHK ⊢
  obtain ⟨N, hN⟩ : ∃ N, all.length = N := ⟨_, rfl⟩
  have HN := Lib.hid hN
  rw [hN] at h0 hl HSY ⊢
  have HKLT : Hid (∀ x, hk x < 4294967296) := Lib.hid (fun x => by rw [HHK.out]; exact gnuN_lt _)
  have HBLT : Hid (∀ x, hb x < n) := Lib.hid (fun x => by rw [HHB.out]; exact Nat.mod_lt _ hn0)
  have O0 := Lib.hid (OwnI.lit w w.heap.size 26 .u32 [(n : Int), 1, 4, (sh : Int)] #[.int .u32 (n : Int), .int .u32 1, .int .u32 4, .int .u32 (sh : Int)] rfl (Nat.le_refl _) (by unfold maxLen; simp))
  have BA : Hid (Below w.heap.size w (w.alloc (.cells #[.int .u32 (n : Int), .int .u32 1, .int .u32 4, .int .u32 (sh : Int)] 26))) := Lib.hid ((Below.refl _ _).alloc (Nat.le_refl _) _)
  have BAS : Hid (w.heap.size + 1 = (w.alloc (.cells #[.int .u32 (n : Int), .int .u32 1, .int .u32 4, .int .u32 (sh : Int)] 26)).heap.size) := Lib.hid (by simp)
  clear h hs hN hhb hhk
  go_enter Try.func11, Try.ntmps11
  go_wp2_with (first
    | (at_make; (refine wpList_make_nums rfl (.const (.int .i64 4)) (.const (.int .i64 4)) slice64u rfl w.heap.size w 4 .i64 .i64 4 4 rfl rfl rfl rfl (by omega) (by unfold maxLen; omega) BA.out BA.out.size ?_); intro g1 w1 ho1 hg1 hb1 hb1'; have O1 := Lib.hid ho1; have P1 := Lib.hid (O0.out.below hb1'); have G1 := Lib.hid (show w.heap.size + 1 ≤ g1 by rw [BAS.out]; exact hg1); have B1 := Lib.hid hb1; clear ho1 hg1 hb1 hb1')
    | (at_make; (refine wpList_make_nums rfl (.tmp 18) (.tmp 18) slice32 rfl w.heap.size w n .u32 .u32 (n : Int) (n : Int) rfl rfl rfl rfl (by omega) (by unfold maxLen; omega) B1.out B1.out.size ?_); intro g2 w2 ho2 hg2 hb2 hb2'; have O2 := Lib.hid ho2; have P2 := Lib.hid (P1.out.below hb2'); have Q2 := Lib.hid (O1.out.below hb2'); have G2 := Lib.hid (show g1 < g2 by have := O1.out.ge2.2; omega); have B2 := Lib.hid hb2; clear ho2 hg2 hb2 hb2')
    | (at_make; (refine wpList_make_nums rfl (.tmp 21) (.tmp 21) slice32 rfl w.heap.size w N .i64 .i64 (N : Int) (N : Int) rfl rfl rfl rfl (by omega) (by unfold maxLen; omega) B2.out B2.out.size ?_); intro g3 w3 ho3 hg3 hb3 hb3'; have O3 := Lib.hid ho3; have P3 := Lib.hid (P2.out.below hb3'); have Q3 := Lib.hid (Q2.out.below hb3'); have R3 := Lib.hid (O2.out.below hb3'); have G3 := Lib.hid (show g2 < g3 by have := O2.out.ge2.2; omega); have B3 := Lib.hid hb3; clear ho3 hg3 hb3 hb3'))
  have X0 : Hid (OwnI w3 w.heap.size 26 .u32 (.slice (some ⟨w.heap.size, 0, none⟩) 4 4) [(n : Int), 1, 4, (sh : Int)]) := P3
  have X1 : Hid (OwnI w3 w.heap.size 27 .u64 (.slice (some ⟨g1, 0, none⟩) 4 4) (toI (blL hk sh 1))) := Lib.hid (by rw [blL_one]; exact Q3.out)
  have X2 : Hid (OwnI w3 w.heap.size 26 .u32 (.slice (some ⟨g2, 0, none⟩) n n) (toI (fiL hb n 1))) := Lib.hid (by rw [fiL_one]; have h1 := R3.out; rwa [show toI (List.replicate n 0) = List.replicate n 0 from by simp [toI]])
  have X3 : Hid (OwnI w3 w.heap.size 26 .u32 (.slice (some ⟨g3, 0, none⟩) N N) (toI (chL hk hb N 1))) := Lib.hid (by rw [chL_one]; have h1 := O3.out; rwa [show toI (List.replicate N 0) = List.replicate N 0 from by simp [toI]])
  have n01 : ¬ w.heap.size = g1 := by have := G1.out; omega
  have n10 : ¬ g1 = w.heap.size := by have := G1.out; omega
  have n12 : ¬ g1 = g2 := by have := G2.out; omega
  have n21 : ¬ g2 = g1 := by have := G2.out; omega
  have n23 : ¬ g2 = g3 := by have := G3.out; omega
  have n32 : ¬ g3 = g2 := by have := G3.out; omega
  have n13 : ¬ g1 = g3 := by have := G3.out; have := G2.out; omega
  have n31 : ¬ g3 = g1 := by have := G3.out; have := G2.out; omega
  have n02 : ¬ w.heap.size = g2 := by have := G1.out; have := G2.out; omega
  have n20 : ¬ g2 = w.heap.size := by have := G1.out; have := G2.out; omega
  have n03 : ¬ w.heap.size = g3 := by have := G1.out; have := G2.out; have := G3.out; omega
  have n30 : ¬ g3 = w.heap.size := by have := G1.out; have := G2.out; have := G3.out; omega
  clear O0 BA BAS O1 P1 B1 O2 P2 Q2 B2 O3 P3 Q3 R3
  have HG1 := Lib.hid (show w.heap.size ≤ g1 by have := G1.out; omega)
  have HG2 := Lib.hid (show w.heap.size ≤ g2 by have := G1.out; have := G2.out; omega)
  have HG3 := Lib.hid (show w.heap.size ≤ g3 by have := G1.out; have := G2.out; have := G3.out; omega)
  go_loopg [11] (N - 1) (fun gg i wr => ∃ (s : Nat), s + gg = N ∧ 0 < s ∧ i = .int .i64 (s : Int) ∧ Hid (OwnI wr w.heap.size 26 .u32 (.slice (some ⟨w.heap.size, 0, none⟩) 4 4) [(n : Int), 1, 4, (sh : Int)]) ∧
    Hid (OwnI wr w.heap.size 27 .u64 (.slice (some ⟨g1, 0, none⟩) 4 4) (toI (blL hk sh s))) ∧ Hid (OwnI wr w.heap.size 26 .u32 (.slice (some ⟨g2, 0, none⟩) n n) (toI (fiL hb n s))) ∧ Hid (OwnI wr w.heap.size 26 .u32 (.slice (some ⟨g3, 0, none⟩) N N) (toI (chL hk hb N s))) ∧ Hid (Below w.heap.size w wr))
  case atStart => exact ⟨1, by omega, by omega, rfl, X0, X1, X2, X3, B3⟩
  case round =>
    obtain ⟨s, hsN, hs0, rfl, Y0, Y1, Y2, Y3, BW⟩ := hrel
    clear X0 X1 X2 X3 B3
    cases gk with
    | zero =>
      have hsN' : N = s := by omega
      subst hsN'
      clear hsN
      have HHG1 := Lib.hid (show g1 < wr.heap.size from Y1.out.ge2.2)
      have L4 : Hid (toI ([n, 1, 4, sh] ++ bloomW hk sh N 0) = [(n : Int), 1, 4, (sh : Int)]) := Lib.hid rfl
      have Y0' : Hid (OwnI wr w.heap.size 26 .u32 (.slice (some ⟨w.heap.size, 0, none⟩) 4 4) (toI ([n, 1, 4, sh] ++ bloomW hk sh N 0))) := Lib.hid (by rw [L4.out]; exact Y0.out)
      have M01 := Lib.hid n01; have M02 := Lib.hid n02; have M03 := Lib.hid n03
      clear Y0
      go_wp2
      go_loopg [7, 13] 4 (fun gg u j wr => ∃ (m g4 c4 l4 : Nat), m + gg = 4 ∧ j = .int .i64 (m : Int) ∧ u = .slice (some ⟨g4, 0, none⟩) l4 c4 ∧ Hid (l4 = 4 + 2 * m) ∧ Hid (¬ g4 = g1) ∧ Hid (¬ g4 = g2) ∧ Hid (¬ g4 = g3) ∧
        Hid (OwnI wr w.heap.size 26 .u32 (.slice (some ⟨g4, 0, none⟩) l4 c4) (toI ([n, 1, 4, sh] ++ bloomW hk sh N m))) ∧
        Hid (OwnI wr w.heap.size 27 .u64 (.slice (some ⟨g1, 0, none⟩) 4 4) (toI (blL hk sh N))) ∧ Hid (OwnI wr w.heap.size 26 .u32 (.slice (some ⟨g2, 0, none⟩) n n) (toI (fiL hb n N))) ∧ Hid (OwnI wr w.heap.size 26 .u32 (.slice (some ⟨g3, 0, none⟩) N N) (toI (chL hk hb N N))) ∧ Hid (Below w.heap.size w wr))
      case atStart => exact ⟨0, w.heap.size, 4, 4, by omega, rfl, rfl, Lib.hid rfl, M01, M02, M03, Y0', Y1, Y2, Y3, BW⟩
      case round =>
        obtain ⟨m, g4, c4, l4, hm, rfl, rfl, HL4, N1, N2, N3, V0, V1, V2, V3, BV⟩ := hrel
        cases gk with
        | zero =>
          have hm4 : m = 4 := by omega
          subst hm4
          have hl12 : l4 = 12 := HL4.out
          subst hl12
          have K3 : Hid ((toI ([n, 1, 4, sh] ++ bloomW hk sh N 4)).length = 12) := Lib.hid (by rw [toI_length, List.length_append, bloomWords_len]; rfl)
          have K5 : Hid ((toI (fiL hb n N)).length = n) := Lib.hid (by rw [toI_length, fiL_length])
          have K1 : Hid (12 + n ≤ maxLen) := Lib.hid (by unfold maxLen; omega)
          have RF := Lib.hid V2.out.row2
          have HW := Lib.hid (bothW_parts (hk := hk) (hb := hb) (n := n) (N := N) (sh := sh))
          have HWL := Lib.hid (bothW_length hk hb n N sh)
          have HWT := Lib.hid (bothW_lt (hk := hk) (hb := hb) (n := n) (N := N) (sh := sh) (by omega) (by omega) (by omega) HKLT.out)
          have HCL : Hid ((chL hk hb N N).length = N) := Lib.hid chL_length
          obtain ⟨n1, hn1⟩ : ∃ n1, N - 1 = n1 := ⟨_, rfl⟩
          have K6 : Hid ((toI ((chL hk hb N N).drop 1)).length = n1) := Lib.hid (by rw [toI_length, List.length_drop, HCL.out, hn1])
          have K7 : Hid ((toI ([n, 1, 4, sh] ++ bloomW hk sh N 4) ++ toI (fiL hb n N)).length = 12 + n) := Lib.hid (by rw [List.length_append, K3.out, K5.out])
          have K8 : Hid (12 + n + n1 ≤ maxLen) := Lib.hid (by unfold maxLen; omega)
          have K9 : Hid ((12 + n + n1) * 4 ≤ 140737488355328) := Lib.hid (by omega)
          have FIN : Hid (∀ (ad : Option Addr) (c : Nat) (wz : World), OwnI wz w.heap.size 26 .u32 (.slice ad (12 + n + n1) c) (toI ([n, 1, 4, sh] ++ bloomW hk sh N 4) ++ toI (fiL hb n N) ++ toI ((chL hk hb N N).drop 1)) →
              Calls Try.prog 13 #[.slice ad (12 + n + n1) c] wz (NumsAns 5 .u8 (fourF (bothW hk hb n N sh)) wz)) := Lib.hid (fun ad c wz ho => by
            have e : toI ([n, 1, 4, sh] ++ bloomW hk sh N 4) ++ toI (fiL hb n N) ++ toI ((chL hk hb N N).drop 1) = toI (bothW hk hb n N sh) := by rw [HW.out]; simp only [toI_append, List.append_assoc]
            rw [e] at ho
            have h1 := four_any ad c (bothW hk hb n N sh) wz ho.row2 HWT.out (by rw [HWL.out]; omega)
            rwa [HWL.out, hn1] at h1)
          have hN1i : (1 : Int) ≤ (N : Int) := by omega
          have hN1t : ((N : Int) - 1).toNat = n1 := by omega
          rcases Decidable.em (N = 1) with h1 | h1
          · obtain rfl : n1 = 0 := by omega
            have R0 : ∀ wz, Hid (Row .u32 wz (some ⟨g3, 0, none⟩) (toI ((chL hk hb N N).drop 1))) := fun wz => Lib.hid (fun i hi => by rw [K6.out] at hi; omega)
            have hcN : N - 1 = 0 := hn1
            clear hN1t
            go_wp2_with (first
              | (at_builtin; (refine wpList_pushes_g rfl (.tmp 119) (.tmp 120) slice32 rfl w.heap.size (.slice (some ⟨g4, 0, none⟩) 12 c4) (toI ([n, 1, 4, sh] ++ bloomW hk sh N 4)) 12 ⟨g2, 0, none⟩ n n (toI (fiL hb n N)) rfl (by rfl) K3.out K5.out hn0 RF.out V0.out K1.out (by omega) BV.out.size _ rfl ?_); intro g5 c5 w7 hown7 hgr7 hor7; have U0 := Lib.hid hown7; have U3 := Lib.hid (V3.out.keepG hgr7 rfl (fun e => N3.out e.symm)); have BU := Lib.hid (below_keepI BV.out hgr7 V0.out BV.out.size); clear hown7 hgr7 hor7)
              | (at_builtin; (refine wpList_pushes rfl (.tmp 122) (.tmp 124) slice32 rfl w.heap.size w (.slice (some ⟨g5, 0, none⟩) (12 + n) c5) (toI ([n, 1, 4, sh] ++ bloomW hk sh N 4) ++ toI (fiL hb n N)) (12 + n) (some ⟨g3, 0, none⟩) 0 0 (toI ((chL hk hb N N).drop 1)) rfl (by rfl) K7.out K6.out (R0 _).out (fun h => by cases h) U0.out K8.out K9.out BU.out BU.out.size ?_); intro ad6 c6 w8 hown8 hbe8; have T0 := Lib.hid hown8; have BT := Lib.hid hbe8; clear hown8 hbe8))
            subst h1
            refine (FIN.out _ _ _ T0.out).mono ?_
            rintro e w9 ⟨ad9, c9, rfl, ho9, hb9⟩
            have HO9 := Lib.hid (ho9.mono BT.out.size); have BZ := Lib.hid (BT.out.trans (hb9.mono BT.out.size))
            clear ho9 hb9
            go_wp2_with fail
            go_ret
            exact ⟨ad9, c9, rfl, HO9.out, BZ.out⟩
          · have hN1b : ¬ N = 1 := h1
            have RC := Lib.hid (fun (wz : World) (ho : OwnI wz w.heap.size 26 .u32 (.slice (some ⟨g3, 0, none⟩) N N) (toI (chL hk hb N N))) => by
              have h2 := ho.row2.cut 1 n1
              rw [cut_toI, List.take_of_length_le (by rw [List.length_drop, HCL.out]; omega)] at h2
              simpa only [Option.map_some, WideShapes.add_plain, Nat.zero_add] using h2)
            go_wp2_with (first
              | (at_builtin; (refine wpList_pushes_g rfl (.tmp 119) (.tmp 120) slice32 rfl w.heap.size (.slice (some ⟨g4, 0, none⟩) 12 c4) (toI ([n, 1, 4, sh] ++ bloomW hk sh N 4)) 12 ⟨g2, 0, none⟩ n n (toI (fiL hb n N)) rfl (by rfl) K3.out K5.out hn0 RF.out V0.out K1.out (by omega) BV.out.size _ rfl ?_); intro g5 c5 w7 hown7 hgr7 hor7; have U0 := Lib.hid hown7; have U3 := Lib.hid (V3.out.keepG hgr7 rfl (fun e => N3.out e.symm)); have BU := Lib.hid (below_keepI BV.out hgr7 V0.out BV.out.size); clear hown7 hgr7 hor7)
              | (at_builtin; (refine wpList_pushes rfl (.tmp 122) (.tmp 124) slice32 rfl w.heap.size w (.slice (some ⟨g5, 0, none⟩) (12 + n) c5) (toI ([n, 1, 4, sh] ++ bloomW hk sh N 4) ++ toI (fiL hb n N)) (12 + n) (some ⟨g3, 1, none⟩) n1 n1 (toI ((chL hk hb N N).drop 1)) rfl (by first | rfl | (simp only [Act.eval, Act.put]; simp [hN1b, hn1])) K7.out K6.out (RC.out _ U3.out) (fun h => by cases h) U0.out K8.out K9.out BU.out BU.out.size ?_); intro ad6 c6 w8 hown8 hbe8; have T0 := Lib.hid hown8; have BT := Lib.hid hbe8; clear hown8 hbe8))
            refine (FIN.out _ _ _ T0.out).mono ?_
            rintro e w9 ⟨ad9, c9, rfl, ho9, hb9⟩
            have HO9 := Lib.hid (ho9.mono BT.out.size); have BZ := Lib.hid (BT.out.trans (hb9.mono BT.out.size))
            clear ho9 hb9
            go_wp2_with fail
            go_ret
            exact ⟨ad9, c9, rfl, HO9.out, BZ.out⟩
        | succ gg =>
          have hm4 : m < 4 := by omega
          have d1 := V1.out.get2 m (blAt hk sh m N : Int) (by simp [toI, blL_get hm4])
          have hvlt := blAt_lt hk sh m N
          have HSU : Hid (toI ([n, 1, 4, sh] ++ bloomW hk sh N (m + 1)) = toI ([n, 1, 4, sh] ++ bloomW hk sh N m) ++ [((blAt hk sh m N % 4294967296 : Nat) : Int), ((blAt hk sh m N / 4294967296 : Nat) : Int)]) := Lib.hid (by rw [bloomW_succ, ← List.append_assoc, toI_append]; rfl)
          generalize blAt hk sh m N = v at *
          have lo1 : (v : Int) % 4294967296 = ((v % 4294967296 : Nat) : Int) := by omega
          have lo2 : (v : Int).tmod 4294967296 = ((v % 4294967296 : Nat) : Int) := by rw [Int.tmod_eq_emod_of_nonneg (by omega)]; omega
          have hi1 : (v : Int) / 4294967296 = ((v / 4294967296 : Nat) : Int) := by omega
          have hi2 : (v : Int).tdiv 4294967296 = ((v / 4294967296 : Nat) : Int) := by rw [Int.tdiv_eq_ediv_of_nonneg (by omega)]; omega
          have hlo : v % 4294967296 < 4294967296 := by omega
          have hhi : v / 4294967296 < 4294967296 := by omega
          generalize v % 4294967296 = lo at *
          generalize v / 4294967296 = hi at *
          have wl : IntKind.u32.wrap (lo : Int) = (lo : Int) := by rw [IntKind.wrap_u32]; omega
          have wh : IntKind.u32.wrap (hi : Int) = (hi : Int) := by rw [IntKind.wrap_u32]; omega
          have wl6 : IntKind.u64.wrap (lo : Int) = (lo : Int) := by rw [IntKind.wrap_u64]; omega
          have wh6 : IntKind.u64.wrap (hi : Int) = (hi : Int) := by rw [IntKind.wrap_u64]; omega
          have hm0 : (0 : Int) ≤ (m : Int) := by omega
          have hm5 : (m : Int) < 4 := by omega
          have RN : Hid (Row .u32 (wr.alloc (.cells #[.int .u32 (lo : Int), .int .u32 (hi : Int)] 26)).drew (some ⟨wr.heap.size, 0, none⟩) [(lo : Int), (hi : Int)]) := Lib.hid (Row.drewO (Row.new .u32 wr [(lo : Int), (hi : Int)] 26))
          have VA := Lib.hid (V0.out.below (((Below.refl _ _).alloc (Nat.le_refl _) (.cells #[.int .u32 (lo : Int), .int .u32 (hi : Int)] 26)).drew))
          have VA1 := Lib.hid (V1.out.below (((Below.refl _ _).alloc (Nat.le_refl _) (.cells #[.int .u32 (lo : Int), .int .u32 (hi : Int)] 26)).drew))
          have VA2 := Lib.hid (V2.out.below (((Below.refl _ _).alloc (Nat.le_refl _) (.cells #[.int .u32 (lo : Int), .int .u32 (hi : Int)] 26)).drew))
          have VA3 := Lib.hid (V3.out.below (((Below.refl _ _).alloc (Nat.le_refl _) (.cells #[.int .u32 (lo : Int), .int .u32 (hi : Int)] 26)).drew))
          have BVA := Lib.hid ((BV.out.alloc BV.out.size (.cells #[.int .u32 (lo : Int), .int .u32 (hi : Int)] 26)).drew)
          have K1 : Hid (l4 + 2 ≤ maxLen) := Lib.hid (by have := HL4.out; unfold maxLen; omega)
          have K2 : Hid ((l4 + 2) * 4 ≤ 140737488355328) := Lib.hid (by have := HL4.out; omega)
          have K3 : Hid ((toI ([n, 1, 4, sh] ++ bloomW hk sh N m)).length = l4) := Lib.hid (by rw [toI_length, List.length_append, bloomWords_len, HL4.out]; rfl)
          have K4 : Hid ((wr.alloc (.cells #[.int .u32 (lo : Int), .int .u32 (hi : Int)] 26)).drew.heap.size = wr.heap.size + 1) := Lib.hid (by show (wr.heap.push _).size = _; simp)
          have HG1q := Lib.hid V1.out.ge2.2; have HG2q := Lib.hid V2.out.ge2.2; have HG3q := Lib.hid V3.out.ge2.2
          have d1a : ∀ o, (wr.alloc o).cell? ⟨g1, m, none⟩ = some (.int .u64 (v : Int)) := fun o => by rw [((Below.refl wr.heap.size wr).alloc (Nat.le_refl _) o).cell (p := ⟨g1, m, none⟩) HG1q.out]; exact d1
          have HM := Lib.hid hm
          clear hlo hhi hm hvlt
          go_wp2_with fail
          go_region_law
            (refine step_pushes_g rfl (.tmp 104) (.tmp 117) slice32 rfl w.heap.size (.slice (some ⟨g4, 0, none⟩) l4 c4) (toI ([n, 1, 4, sh] ++ bloomW hk sh N m)) l4 ⟨wr.heap.size, 0, none⟩ 2 2 [(lo : Int), (hi : Int)] (by simp only [Act.eval, Act.put]; rfl) (by simp only [Act.eval, Act.put]; rfl) K3.out rfl (by omega) RN.out VA.out K1.out K2.out BVA.out.size (wr.heap.size + 1) K4.out ?_; intro g5 c5 w7 hown7 hgr7 hor7)
          all_goals
            have G5 := Lib.hid (hor7.elim (fun e => (by simpa [Value.ownBlock] using e : g4 = g5).symm ▸ (⟨N1.out, N2.out, N3.out⟩ : ¬ g4 = g1 ∧ ¬ g4 = g2 ∧ ¬ g4 = g3)) (fun e => by subst e; have := HG1q.out; have := HG2q.out; have := HG3q.out; exact ⟨by omega, by omega, by omega⟩))
            rw [← HSU.out] at hown7
            have U0 := Lib.hid hown7
            have U1 := Lib.hid (VA1.out.keepG hgr7 rfl (fun e => N1.out e.symm))
            have U2 := Lib.hid (VA2.out.keepG hgr7 rfl (fun e => N2.out e.symm))
            have U3 := Lib.hid (VA3.out.keepG hgr7 rfl (fun e => N3.out e.symm))
            have BU := Lib.hid (below_keepI BVA.out hgr7 VA.out BVA.out.size)
            clear hown7 hgr7 hor7 d1 d1a
            go_wp2
            go_roundg gg
            case measure => omega
            case rel => exact ⟨m + 1, g5, c5, l4 + 2, by have := HM.out; omega, by go_num, rfl, Lib.hid (by have := HL4.out; omega), Lib.hid G5.out.1, Lib.hid G5.out.2.1, Lib.hid G5.out.2.2, U0, U1, U2, U3, BU⟩
    | succ gg =>
      have hlt : s < N := by omega
      have HSN := Lib.hid hsN
      clear hsN
      have HSS := Lib.hid (HSY.out wr s hlt)
      obtain ⟨b, o, rfl, -, hc⟩ := (H.out.below BW.out) s (by rw [HN.out]; exact hlt)
      rw [← HHK.out] at HSS
      have hklt := HKLT.out s
      have hbe := HHB.out s
      have hblt := HBLT.out s
      have hqlt : hk s / 64 % 4 < 4 := Nat.mod_lt _ (by omega)
      have hrlt : hk s % 64 < 64 := Nat.mod_lt _ (by omega)
      have hr2lt : hk s / 2 ^ sh % 64 < 64 := Nat.mod_lt _ (by omega)
      have c1 := Y1.out.get2 (hk s / 64 % 4) (blAt hk sh (hk s / 64 % 4) s : Int) (by simp [toI, blL_get hqlt])
      have c2 := Y2.out.get2 (hb s) (fiAt hb (hb s) s : Int) (by simp [toI, fiL_get hblt])
      have c3 := Y3.out.get2 s 0 (by simp [toI, chL_get hlt])
      have f1 := Y1.out.free2 (hk s / 64 % 4)
      have f2 := Y2.out.free2 (hb s)
      have f3 := Y3.out.free2 s
      have hvlt := blAt_lt hk sh (hk s / 64 % 4) s
      have o1 := or64 _ _ hvlt (pow_lt64 hrlt)
      have hv2lt : blAt hk sh (hk s / 64 % 4) s ||| 2 ^ (hk s % 64) < 18446744073709551616 := by
        have e : (18446744073709551616 : Nat) = 2 ^ 64 := by decide
        have := pow_lt64 hrlt
        rw [e] at *
        exact Nat.or_lt_two_pow hvlt this
      have o2 := or64 _ _ hv2lt (pow_lt64 hr2lt)
      have Z1 := Lib.hid (blL_set (hk := hk) (sh := sh) hs0)
      have hp1 := pow_lt64 hrlt
      have hp2 := pow_lt64 hr2lt
      have e1 : (hk s : Int).tdiv 64 = ((hk s / 64 : Nat) : Int) := by rw [Int.tdiv_eq_ediv_of_nonneg (by omega)]; omega
      have e3 : ((hk s / 64 : Nat) : Int).tmod 4 = ((hk s / 64 % 4 : Nat) : Int) := by rw [Int.tmod_eq_emod_of_nonneg (by omega)]; omega
      have e4 : (hk s : Int).tmod 64 = ((hk s % 64 : Nat) : Int) := by rw [Int.tmod_eq_emod_of_nonneg (by omega)]; omega
      have e5 : ((hk s : Int) / 2 ^ sh).tmod 64 = ((hk s / 2 ^ sh % 64 : Nat) : Int) := by
        have h2 : (hk s : Int) / 2 ^ sh = ((hk s / 2 ^ sh : Nat) : Int) := by rw [Int.natCast_ediv, Int.natCast_pow]; rfl
        rw [h2]
        generalize hk s / 2 ^ sh = z
        rw [Int.tmod_eq_emod_of_nonneg (Int.natCast_nonneg _)]
        omega
      have e6 : (hk s : Int).tmod (n : Int) = (hb s : Int) := by rw [Int.tmod_eq_emod_of_nonneg (by omega), hbe]; omega
      have hn00 : ¬ n = 0 := by omega
      have e2 : ((hk s / 64 : Nat) : Int) % 4294967296 = ((hk s / 64 : Nat) : Int) := by omega
      have e3' : ((hk s / 64 : Nat) : Int) % 4 = ((hk s / 64 % 4 : Nat) : Int) := by omega
      have e4' : (hk s : Int) % 64 = ((hk s % 64 : Nat) : Int) := by omega
      have e5' : (hk s : Int) / 2 ^ sh % 64 = ((hk s / 2 ^ sh % 64 : Nat) : Int) := by
        rw [← e5, Int.tmod_eq_emod_of_nonneg]
        have h2 : (hk s : Int) / 2 ^ sh = ((hk s / 2 ^ sh : Nat) : Int) := by rw [Int.natCast_ediv, Int.natCast_pow]; rfl
        rw [h2]
        exact Int.natCast_nonneg _
      have e6' : (hk s : Int) % (n : Int) = (hb s : Int) := by rw [hbe]; omega
      have HBE := Lib.hid hbe
      have HFZ := Lib.hid (fun (hz : fiAt hb (hb s) s = 0) => fiL_set (n := n) hs0 hblt hz)
      have HFN := Lib.hid (fun (hz : ¬ fiAt hb (hb s) s = 0) => fiL_same (n := n) hs0 hz)
      have HFL : Hid (fiAt hb (hb s) s < 4294967296) := Lib.hid (by rcases fiAt_lt hb (hb s) s with h1 | h1 <;> omega)
      have HCS := Lib.hid (chL_set (hk := hk) (hb := hb) hs0 hlt)
      clear hbe
      generalize blAt hk sh (hk s / 64 % 4) s = v at *
      generalize hk s / 64 % 4 = q at *
      generalize hk s % 64 = r at *
      generalize hk s / 2 ^ sh % 64 = r2 at *
      generalize hk s / 64 = kq at *
      have s1 := wrap_pow hrlt
      have s2 := wrap_pow hr2lt
      generalize (2 : Nat) ^ r = p1 at *
      generalize (2 : Nat) ^ r2 = p2 at *
      generalize v ||| p1 = v1 at *
      generalize v1 ||| p2 = v2 at *
      have hq0 : (0 : Int) ≤ (q : Int) := by omega
      have hq4 : (q : Int) < 4 := by omega
      have hb0 : (0 : Int) ≤ (hb s : Int) := by omega
      have hbn : (hb s : Int) < (n : Int) := by omega
      have HBB0 : Hid (∀ k, hb s = k → hb s = k) := Lib.hid (fun _ h => h)
      generalize hbbe : hb s = bb at *
      have HBB := Lib.hid hbbe
      clear HBB0 hbbe
      have HKE0 : Hid (∀ k, hk s = k → hk s = k) := Lib.hid (fun _ h => h)
      generalize hke : hk s = k at *
      have HKE := Lib.hid hke
      clear HKE0 hke
      have HP1 := Lib.hid (Y1.out.put2 (toI_length _) q (v2 : Int))
      obtain ⟨k2, hk2⟩ : ∃ k2, k / 2 = k2 := ⟨_, rfl⟩
      have HK2 := Lib.hid hk2
      have t1 : (k : Int).tdiv 2 = (k2 : Int) := by rw [Int.tdiv_eq_ediv_of_nonneg (by omega)]; omega
      have t1' : (k : Int) / 2 = (k2 : Int) := by omega
      obtain ⟨c0, hc0⟩ : ∃ c0, k2 * 2 = c0 := ⟨_, rfl⟩
      have HC0 := Lib.hid hc0
      have t2 : IntKind.u32.wrap ((k2 : Int) * 2) = (c0 : Int) := by rw [IntKind.wrap_u32]; omega
      have t2' : (k2 : Int) * 2 % 4294967296 = (c0 : Int) := by omega
      have t3 : IntKind.u32.wrap (k2 : Int) = (k2 : Int) := by rw [IntKind.wrap_u32]; omega
      have t3' : (k2 : Int) % 4294967296 = (k2 : Int) := by omega
      have t4 : IntKind.u32.wrap (s : Int) = (s : Int) := by rw [IntKind.wrap_u32]; omega
      have HC0L : Hid (c0 + 1 < 4294967297) := Lib.hid (by omega)
      have HCB : Hid (c0 % 2 = 0) := Lib.hid (by omega)
      have hs300 : (s : Int) < (N : Int) := by omega
      clear hp1 hp2 hv2lt hvlt hk2 hc0 HBE
      rcases Decidable.em (fiAt hb bb s = 0) with hz | hz
      have HFS := Lib.hid (HFZ.out hz)
      rw [hz] at c2
      have HZ := Lib.hid hz
      clear hz HFZ HFN HFL
      go_wp2_with fail
      refine HSS.out.mono ?_
      rintro e w6 ⟨rfl, rfl⟩
      go_wp2_with fail
      have D0 := Lib.hid (((Y0.out.setO (a := ⟨g1, q, none⟩) (by simp [Value.ownBlock, n01]) (.int .u64 (v2 : Int))).setO (a := ⟨g2, bb, none⟩) (by simp [Value.ownBlock, n02]) (.int .u32 (s : Int))).setO (a := ⟨g3, s, none⟩) (by simp [Value.ownBlock, n03]) (.int .u32 (c0 : Int)))
      have D1 := Lib.hid ((HP1.out.setO (a := ⟨g2, bb, none⟩) (by simp [Value.ownBlock, n12]) (.int .u32 (s : Int))).setO (a := ⟨g3, s, none⟩) (by simp [Value.ownBlock, n13]) (.int .u32 (c0 : Int)))
      have D2 := Lib.hid (((Y2.out.setO (a := ⟨g1, q, none⟩) (by simp [Value.ownBlock, n21]) (.int .u64 (v2 : Int))).put2 (toI_length _ |>.trans fiL_length) bb (s : Int)).setO (a := ⟨g3, s, none⟩) (by simp [Value.ownBlock, n23]) (.int .u32 (c0 : Int)))
      have D3 := Lib.hid (((Y3.out.setO (a := ⟨g1, q, none⟩) (by simp [Value.ownBlock, n31]) (.int .u64 (v2 : Int))).setO (a := ⟨g2, bb, none⟩) (by simp [Value.ownBlock, n32]) (.int .u32 (s : Int))).put2 (toI_length _ |>.trans chL_length) s (c0 : Int))
      have hT2 : (toI (fiL hb n s)).set bb (s : Int) = toI (fiL hb n (s + 1)) := by rw [← HFS.out]; simp [toI, List.map_set]
      rw [hT2] at D2
      have BD := Lib.hid (((BW.out.setCell (p := ⟨g1, q, none⟩) HG1.out (.int .u64 (v2 : Int))).setCell (p := ⟨g2, bb, none⟩) HG2.out (.int .u32 (s : Int))).setCell (p := ⟨g3, s, none⟩) HG3.out (.int .u32 (c0 : Int)))
      clear HFS HZ hT2
      generalize ((wr.setCell ⟨g1, q, none⟩ (.int .u64 (v2 : Int))).setCell ⟨g2, bb, none⟩ (.int .u32 (s : Int))).setCell ⟨g3, s, none⟩ (.int .u32 (c0 : Int)) = wt at *
      clear c1 c2 c3 f1 f2 f3 Y0 Y1 Y2 Y3 HP1 HSS hc
      rotate_left 1
      have HFS := Lib.hid (HFN.out hz)
      have hfl := HFL.out
      have hz2 : ((fiAt hb bb s : Nat) : Int) ≠ 0 := by omega
      have hz3 : (((fiAt hb bb s : Nat) : Int) == 0) = false := beq_eq_false_iff_ne.2 hz2
      have HZ := Lib.hid hz
      clear hz HFZ HFN HFL hz2 hfl
      generalize fiAt hb bb s = fv at *
      go_wp2_with fail
      refine HSS.out.mono ?_
      rintro e w6 ⟨rfl, rfl⟩
      go_wp2_with fail
      have D0 := Lib.hid ((Y0.out.setO (a := ⟨g1, q, none⟩) (by simp [Value.ownBlock, n01]) (.int .u64 (v2 : Int))).setO (a := ⟨g3, s, none⟩) (by simp [Value.ownBlock, n03]) (.int .u32 (c0 : Int)))
      have D1 := Lib.hid (HP1.out.setO (a := ⟨g3, s, none⟩) (by simp [Value.ownBlock, n13]) (.int .u32 (c0 : Int)))
      have D2 := Lib.hid ((Y2.out.setO (a := ⟨g1, q, none⟩) (by simp [Value.ownBlock, n21]) (.int .u64 (v2 : Int))).setO (a := ⟨g3, s, none⟩) (by simp [Value.ownBlock, n23]) (.int .u32 (c0 : Int)))
      have D3 := Lib.hid ((Y3.out.setO (a := ⟨g1, q, none⟩) (by simp [Value.ownBlock, n31]) (.int .u64 (v2 : Int))).put2 (toI_length _ |>.trans chL_length) s (c0 : Int))
      rw [HFS.out] at D2
      have BD := Lib.hid ((BW.out.setCell (p := ⟨g1, q, none⟩) HG1.out (.int .u64 (v2 : Int))).setCell (p := ⟨g3, s, none⟩) HG3.out (.int .u32 (c0 : Int)))
      clear HFS HZ hz3
      generalize (wr.setCell ⟨g1, q, none⟩ (.int .u64 (v2 : Int))).setCell ⟨g3, s, none⟩ (.int .u32 (c0 : Int)) = wt at *
      clear c1 c2 c3 f1 f2 f3 Y0 Y1 Y2 Y3 HP1 HSS hc
      all_goals
        have hT1 : (toI (blL hk sh s)).set q (v2 : Int) = toI (blL hk sh (s + 1)) := by rw [← Z1.out]; simp [toI, List.map_set]
        rw [hT1] at D1
        have hclen : (chL hk hb N s).length = N := chL_length
        have d3 := D3.out.get2 s (c0 : Int) (by simp [toI, hclen, hlt])
        have df := D3.out.free2 s
        have HCW : Hid (hk s / 2 * 2 = c0) := Lib.hid (by rw [HKE.out, HK2.out, HC0.out])
        obtain ⟨b1, o1', e9, -, hc'⟩ := (H.out.below BD.out) s (by rw [HN.out]; exact hlt)
        cases e9
        have HB9 := Lib.hid (World.block_lt_of_cell? wt _ hc')
        clear hT1 Z1 hclen hc' o1 o2 s1 s2 e1 e2 e3 e3' e4 e4' e5 e5' t1 t1' t2 t2' t3 t3' hq0 hq4
        by_cases hl1 : s + 1 = N
        · have g1' : ((s : Int) == (N : Int) - 1) = true := by rw [beq_iff_eq]; omega
          have HCWV : Hid (chW hk hb N s = c0 + 1) := Lib.hid (by unfold chW; rw [if_pos (.inl (by omega)), HCW.out])
          have u1 : IntKind.u32.wrap ((c0 : Int) + 1) = ((c0 + 1 : Nat) : Int) := by rw [IntKind.wrap_u32]; have := HC0L.out; have := HCB.out; omega
          have HL1 := Lib.hid hl1
          clear hl1
          go_wp2_with fail
          go_quiet (fail)
          have hdr : ∀ x, (World.drewN wt nq).cell? x = wt.cell? x := fun _ => rfl
          have hdf : ∀ x, (World.drewN wt nq).frozen? x = wt.frozen? x := fun _ => rfl
          have E0 := Lib.hid ((D0.out.below (below_drewN (Below.refl _ _) nq)).setO (a := ⟨g3, s, none⟩) (by simp [Value.ownBlock, n03]) (.int .u32 ((c0 + 1 : Nat) : Int)))
          have E1 := Lib.hid ((D1.out.below (below_drewN (Below.refl _ _) nq)).setO (a := ⟨g3, s, none⟩) (by simp [Value.ownBlock, n13]) (.int .u32 ((c0 + 1 : Nat) : Int)))
          have E2 := Lib.hid ((D2.out.below (below_drewN (Below.refl _ _) nq)).setO (a := ⟨g3, s, none⟩) (by simp [Value.ownBlock, n23]) (.int .u32 ((c0 + 1 : Nat) : Int)))
          have E3 := Lib.hid ((D3.out.below (below_drewN (Below.refl _ _) nq)).put2 (by rw [List.length_set, toI_length, chL_length]) s ((c0 + 1 : Nat) : Int))
          have hT3 : ((toI (chL hk hb N s)).set s (c0 : Int)).set s ((c0 + 1 : Nat) : Int) = toI (chL hk hb N (s + 1)) := by
            rw [List.set_set, ← HCS.out, HCWV.out]; simp [toI, List.map_set]
          rw [hT3] at E3
          have BE := Lib.hid ((below_drewN BD.out nq).setCell (p := ⟨g3, s, none⟩) HG3.out (.int .u32 ((c0 + 1 : Nat) : Int)))
          clear hT3
          go_wp2_with fail
          go_roundg gg
          case measure => omega
          case rel => exact ⟨s + 1, by have := HSN.out; omega, by omega, by go_num, E0, E1, E2, E3, BE⟩
        · have hl2 : s + 1 < N := by omega
          have g1' : ((s : Int) == (N : Int) - 1) = false := beq_eq_false_iff_ne.2 (by omega)
          obtain ⟨b2, o2', e8, -, hc2⟩ := (H.out.below BD.out) (s + 1) (by rw [HN.out]; exact hl2)
          cases e8
          have HSS2 := Lib.hid (fun (w1 : World) => HSY.out w1 (s + 1) hl2)
          rw [← HHK.out] at HSS2
          have hklt2 := HKLT.out (s + 1)
          have v1 : (hk (s + 1) : Int) % (n : Int) = (hb (s + 1) : Int) := by rw [HHB.out]; omega
          have v2' : (hk (s + 1) : Int).tmod (n : Int) = (hb (s + 1) : Int) := by rw [Int.tmod_eq_emod_of_nonneg (by omega)]; exact v1
          have i1 : IntKind.i64.wrap ((s : Int) + 1) = (s : Int) + 1 := by rw [IntKind.wrap_i64]; omega
          have i2 : (0 : Int) ≤ (s : Int) + 1 := by omega
          have i3 : (s : Int) + 1 < (N : Int) := by omega
          have i4 : ((s : Int) + 1).toNat = s + 1 := by omega
          have hsb : hb s = bb := HBB.out
          have HL1 := Lib.hid hl1
          by_cases hx : hb (s + 1) = hb s
          · have HCWV : Hid (chW hk hb N s = c0) := Lib.hid (by rw [chW_same (by omega) hx, HCW.out])
            have w9 : ((hb (s + 1) : Int) != (bb : Int)) = false := by rw [hx, hsb]; simp
            generalize hk (s + 1) = kk at *
            generalize hb (s + 1) = bb2 at *
            generalize all.getD (s + 1) .empty = nm2 at *
            have HX := Lib.hid hx
            clear hl1 hl2 hx hsb
            go_wp2_with fail
            go_quiet ((go_at_call 10; exact Calls.quiet_of_same ((HSS2.out _).mono (by rintro e w9' ⟨rfl, rfl⟩; exact ⟨rfl, rfl⟩))))
            have hdr : ∀ x, (World.drewN wt nq).cell? x = wt.cell? x := fun _ => rfl
            have hdf : ∀ x, (World.drewN wt nq).frozen? x = wt.frozen? x := fun _ => rfl
            have E0 := Lib.hid (D0.out.below (below_drewN (Below.refl _ _) nq))
            have E1 := Lib.hid (D1.out.below (below_drewN (Below.refl _ _) nq))
            have E2 := Lib.hid (D2.out.below (below_drewN (Below.refl _ _) nq))
            have E3 := Lib.hid (D3.out.below (below_drewN (Below.refl _ _) nq))
            have hT3 : (toI (chL hk hb N s)).set s (c0 : Int) = toI (chL hk hb N (s + 1)) := by
              rw [← HCS.out, HCWV.out]; simp [toI, List.map_set]
            rw [hT3] at E3
            have BE := Lib.hid (below_drewN BD.out nq)
            clear hT3 d3 df
            go_wp2_with fail
            go_roundg gg
            case measure => omega
            case rel => exact ⟨s + 1, by have := HSN.out; omega, by omega, by go_num, E0, E1, E2, E3, BE⟩
          · have HCWV : Hid (chW hk hb N s = c0 + 1) := Lib.hid (by rw [chW_diff (.inr hx), HCW.out])
            have w9 : ((hb (s + 1) : Int) != (bb : Int)) = true := by rw [← hsb]; exact bne_iff_ne.2 (by omega)
            have u1 : IntKind.u32.wrap ((c0 : Int) + 1) = ((c0 + 1 : Nat) : Int) := by rw [IntKind.wrap_u32]; have := HC0L.out; have := HCB.out; omega
            generalize hk (s + 1) = kk at *
            generalize hb (s + 1) = bb2 at *
            generalize all.getD (s + 1) .empty = nm2 at *
            have HX := Lib.hid hx
            clear hl1 hl2 hx hsb
            go_wp2_with fail
            go_quiet ((go_at_call 10; exact Calls.quiet_of_same ((HSS2.out _).mono (by rintro e w9' ⟨rfl, rfl⟩; exact ⟨rfl, rfl⟩))))
            have hdr : ∀ x, (World.drewN wt nq).cell? x = wt.cell? x := fun _ => rfl
            have hdf : ∀ x, (World.drewN wt nq).frozen? x = wt.frozen? x := fun _ => rfl
            have E0 := Lib.hid ((D0.out.below (below_drewN (Below.refl _ _) nq)).setO (a := ⟨g3, s, none⟩) (by simp [Value.ownBlock, n03]) (.int .u32 ((c0 + 1 : Nat) : Int)))
            have E1 := Lib.hid ((D1.out.below (below_drewN (Below.refl _ _) nq)).setO (a := ⟨g3, s, none⟩) (by simp [Value.ownBlock, n13]) (.int .u32 ((c0 + 1 : Nat) : Int)))
            have E2 := Lib.hid ((D2.out.below (below_drewN (Below.refl _ _) nq)).setO (a := ⟨g3, s, none⟩) (by simp [Value.ownBlock, n23]) (.int .u32 ((c0 + 1 : Nat) : Int)))
            have E3 := Lib.hid ((D3.out.below (below_drewN (Below.refl _ _) nq)).put2 (by rw [List.length_set, toI_length, chL_length]) s ((c0 + 1 : Nat) : Int))
            have hT3 : ((toI (chL hk hb N s)).set s (c0 : Int)).set s ((c0 + 1 : Nat) : Int) = toI (chL hk hb N (s + 1)) := by
              rw [List.set_set, ← HCS.out, HCWV.out]; simp [toI, List.map_set]
            rw [hT3] at E3
            have BE := Lib.hid ((below_drewN BD.out nq).setCell (p := ⟨g3, s, none⟩) HG3.out (.int .u32 ((c0 + 1 : Nat) : Int)))
            clear hT3
            go_wp2_with fail
            go_roundg gg
            case measure => omega
            case rel => exact ⟨s + 1, by have := HSN.out; omega, by omega, by go_num, E0, E1, E2, E3, BE⟩
end Go.Proofs.Ytklaehlhkflcdaa
