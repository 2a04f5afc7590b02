/- Layer 8, VersMade: the walk. -/
import Derived.Test.YtikpkblemegggaaMadeAll
namespace Go.Proofs.Ytikpkblemegggaa
open Go.RowKit
set_option linter.unusedVariables false
set_option linter.unusedSimpArgs false

set_option maxRecDepth 100000 in
set_option maxHeartbeats 64000000 in
theorem made_d (a0 : Option Addr) (cap0 : Nat) (D : List ByteArray) (file : ByteArray) (a2 : Option Addr) (cap2 : Nat) (N : List ByteArray) (a3 : Option Addr) (cap3 : Nat) (P : List Int) (w : World)
    (h0 : TRow w a0 D) (n0 : a0 = none → D.length = 0 ∧ cap0 = 0) (s0 : ∀ t ∈ D, t.size ≤ 140737488351232) (l0 : D.length ≤ 140737488351232) (s1 : file.size ≤ 140737488351232) (h2 : TRow w a2 N) (n2 : a2 = none → N.length = 0 ∧ cap2 = 0) (s2 : ∀ t ∈ N, t.size ≤ 140737488351232) (l2 : N.length ≤ 140737488351232)
    (h3 : Row .i64 w a3 P) (l3 : P.length ≤ 140737488351232) (p3 : ∀ x ∈ P, -9223372036854775808 ≤ x ∧ x < 9223372036854775808) (k1 : D.length ≤ 20) (k2 : N.length ≤ 20) (k3 : P.length ≤ 60) (hnz : 0 < D.length) (hmz : 0 < N.length) :
    Calls Try.prog 5 #[.slice a0 D.length cap0, .string file, .slice a2 N.length cap2, .slice a3 P.length cap3] w fun e w' => e = .returned (.bool true) ∧ Below w.heap.size w w' := by
  have HUP := Lib.hid (fun w1 => vup_true w1)
  have H0 := Lib.hid h0
  have H2 := Lib.hid h2
  have H3 := Lib.hid h3
  have N0 := Lib.hid n0
  have N2 := Lib.hid n2
  have S0 := Lib.hid s0
  have S2 := Lib.hid s2
  have P3 := Lib.hid p3
  clear h0 h2 h3 n0 n2 s0 s2 p3
  obtain ⟨n, hn⟩ : ∃ n, D.length = n := ⟨_, rfl⟩
  obtain ⟨m, hm⟩ : ∃ m, N.length = m := ⟨_, rfl⟩
  obtain ⟨p, hp⟩ : ∃ p, P.length = p := ⟨_, rfl⟩
  have HN := Lib.hid hn
  have HM := Lib.hid hm
  have HP := Lib.hid hp
  rw [hn, hm, hp]
  rw [hn] at hnz
  rw [hm] at hmz
  have HNZ := Lib.hid hnz
  have HMZ := Lib.hid hmz
  clear hnz hmz
  rw [hn] at l0 k1
  rw [hm] at l2 k2
  rw [hp] at l3 k3
  clear hn hm hp
  have q1 : ¬ (20 : Int) < (n : Int) := by omega
  have q2 : ¬ (20 : Int) < (m : Int) := by omega
  have q3 : ¬ (60 : Int) < (p : Int) := by omega
  clear l0 l2 l3
  go_enter Try.func5, Try.ntmps5
  go_wp2_with fail
  refine (HUP.out _).mono ?_
  rintro e w1 ⟨rfl, hb1⟩
  have BA := Lib.hid (hb1.alloc hb1.size (.cells #[.string file] 9))
  have BAS := Lib.hid BA.out.size
  have OL := Lib.hid (OwnT.lit w1 w.heap.size 9 [file] #[.string file] rfl hb1.size (by unfold maxLen; simp))
  have R0 := Lib.hid (H0.out.below BA.out)
  clear HUP hb1
  go_wp2_with (at_builtin; first
    | (refine wpList_texts rfl (.tmp 51) (.tmp 52) texts_t text_info rfl w.heap.size w (.slice (some ⟨w1.heap.size, 0, none⟩) 1 1) [file] 1 a0 cap0 n D rfl (by rfl) rfl HN.out R0.out N0.out OL.out (by unfold maxLen; omega) (by omega) BA.out BAS.out ?_; intro v5 w5 hown5 hbe5; have O5 := Lib.hid hown5; have B5 := Lib.hid hbe5; have S5 := Lib.hid hbe5.size; have R2 := Lib.hid (H2.out.below hbe5); clear hown5 hbe5)
    | (refine wpList_texts rfl (.tmp 53) (.tmp 54) texts_t text_info rfl w.heap.size w v5 ([file] ++ D) (1 + n) a2 cap2 m N rfl (by rfl) (by rw [List.length_append, HN.out]; rfl) HM.out R2.out N2.out O5.out (by unfold maxLen; omega) (by omega) B5.out S5.out ?_; intro v6 w6 hown6 hbe6; have O6 := Lib.hid hown6; have B6 := Lib.hid hbe6; clear hown6 hbe6))
  obtain ⟨T, hT⟩ : ∃ T, [file] ++ D ++ N = T := ⟨_, rfl⟩
  rw [hT] at O6
  obtain ⟨Q, hQ⟩ : ∃ Q, T.length = Q := ⟨_, rfl⟩
  have hQ1 : Q = 1 + n + m := by rw [← hQ, ← hT, List.length_append, List.length_append, HN.out, HM.out]; rfl
  have hTm : ∀ t ∈ T, t.size ≤ 140737488351232 := by
    rw [← hT]
    intro t ht
    rcases List.mem_append.1 ht with h | h
    · rcases List.mem_append.1 h with h | h
      · rw [List.mem_singleton.1 h]; exact s1
      · exact S0.out t h
    · exact S2.out t h
  have hTs : ∀ j, (T.getD j .empty).size ≤ 140737488351232 := by
    intro j
    by_cases hj : j < T.length
    · rw [getDT hj]
      exact hTm _ (List.getElem_mem hj)
    · rw [show T.getD j .empty = .empty by simp [List.getD, List.getElem?_eq_none (Nat.le_of_not_lt hj)]]
      exact Nat.zero_le _
  clear hTm
  have HT := Lib.hid hT
  have HQ := Lib.hid hQ
  have HTS := Lib.hid hTs
  have HQ1 := Lib.hid hQ1
  have hQ41 : Q ≤ 41 := by omega
  clear hQ1
  obtain ⟨ad, c, rfl⟩ := O6.out.form
  have TR := Lib.hid O6.out.row.1
  have O7 := Lib.hid (OwnI.lit w6 w6.heap.size 5 .u8 [0] #[.int .u8 0] rfl (Nat.le_refl _) (by unfold maxLen; simp))
  have B7 : Hid (Below w6.heap.size w6 (w6.alloc (.cells #[.int .u8 0] 5))) := Lib.hid ((Below.refl _ _).alloc (Nat.le_refl _) _)
  rw [hQ]
  clear O5 B5 S5 R2 OL R0 BA BAS hT hTs hQ O6
  go_wp2_with fail
  generalize (w6.alloc (.cells #[.int .u8 0] 5)) = w7 at *
  go_loopg [11, 12, 13] Q (fun g s q i wr => ∃ (k : Nat) (ad1 ad2 : Option Addr) (c1 c2 : Nat), k + g = Q ∧ i = .int .i64 (k : Int) ∧ s = .slice ad1 (bulkT (T.take k) + 1) c1 ∧ q = .slice ad2 k c2 ∧ Hid (OwnI wr w6.heap.size 5 .u8 (.slice ad1 (bulkT (T.take k) + 1) c1) (tabL (T.take k))) ∧ Hid (OwnI wr w6.heap.size 3 .i64 (.slice ad2 k c2) (toI (posL T k))) ∧ Hid (Below w6.heap.size w6 wr) ∧ Hid (∀ j, j < k → namedF (T.getD j .empty) = true) ∧ Hid (bulkT (T.take k) ≤ 256 * k))
  case atStart => exact ⟨0, _, none, 1, 0, by omega, rfl, rfl, rfl, O7, Lib.hid (OwnI.nil _ _ _ _), B7, Lib.hid (fun j hj => absurd hj (Nat.not_lt_zero _)), Lib.hid (Nat.le_refl _)⟩
  case round =>
    clear O7 B7
    obtain ⟨k, ad1, ad2, c1, c2, hk, rfl, rfl, rfl, OS, OA, BW, HNM, HBK⟩ := hrel
    cases gk with
    | zero =>
      obtain rfl : k = Q := by omega
      obtain ⟨w8, rfl⟩ : ∃ w8, w8 = wr := ⟨_, rfl⟩
      have hTk : T.take k = T := by rw [← HQ.out]; exact List.take_length
      rw [hTk] at OS HBK
      rw [hTk]
      obtain ⟨St, hSt⟩ := toI_nats (fun x hx => (tabL_bytes T x hx).1)
      have HST := Lib.hid hSt
      rw [hSt] at OS
      obtain ⟨SL, hSL⟩ : ∃ SL, bulkT T + 1 = SL := ⟨_, rfl⟩
      have HSL : Hid (St.length = SL) := Lib.hid (by rw [← toI_length, ← hSt, tabL_len, hSL])
      have hSL2 : SL ≤ 10497 := by have := HBK.out; omega
      rw [hSL] at OS ⊢
      have BW8 := Lib.hid (bstep B6.out BW.out)
      have R0 := Lib.hid (H0.out.below BW8.out)
      have R2 := Lib.hid (H2.out.below BW8.out)
      have R3 := Lib.hid (H3.out.below BW8.out)
      have RA := Lib.hid OA.out.at.2.1
      have AT : Hid (∃ at_ : Nat → Nat, at_ = fun i => (posL T k).getD i 0) := Lib.hid ⟨_, rfl⟩
      obtain ⟨at_, hat_⟩ := AT.out
      obtain ⟨syD, hsyD⟩ : ∃ syD : Nat → Nat, syD = fun i => sysOf (D.getD i .empty).data.toList := ⟨_, rfl⟩
      have HAT := Lib.hid hat_
      have hkq : 0 < k := by have := HQ1.out; omega
      obtain ⟨b1, o1, rfl, -⟩ := RA.out 0 (by rw [toI_length, posL_length]; exact hkq)
      have HCA : Hid (∀ i, i < k → ∀ wx, Below w8.heap.size w8 wx → wx.cell? ⟨b1, o1 + i, none⟩ = some (.int .i64 ((at_ i : Nat) : Int))) := Lib.hid (fun i hi wx h => by
        obtain ⟨b', o', he, hc1⟩ := RA.out i (by rw [toI_length, posL_length]; exact hi)
        simp only [Option.some.injEq, Addr.mk.injEq] at he
        obtain ⟨rfl, rfl, -⟩ := he
        rw [toI_getD] at hc1
        have hb1 : b1 < w8.heap.size := by simpa using World.block_lt_of_cell? _ _ hc1
        rw [h.cell (p := ⟨b1, o1 + i, none⟩) hb1, HAT.out]
        exact hc1)
      have HSYD := Lib.hid hsyD
      have HAL : Hid (∀ i, i < k → at_ i < 10498) := Lib.hid (fun i hi => by
        rw [hat_]
        simp only
        rw [posL_getD T k i hi, tabL_len]
        have := bulk_take T i
        omega)
      have HSLB : Hid (SL = bulkT T + 1) := Lib.hid hSL.symm
      clear hTk hSt hSL AT hat_ hsyD HBK
      go_wp2_with fail
      go_loopg [15, 16] n (fun g u i wx => ∃ (j : Nat) (ad : Option Addr) (c : Nat), j + g = n ∧ i = .int .i64 (j : Int) ∧ u = .slice ad (28 * j) c ∧ Hid (LS w8 wx ad (28 * j) c (tabE (defE at_ syD n) j)))
      case atStart => exact ⟨0, none, 0, by omega, rfl, rfl, Lib.hid (LS.zero w8)⟩
      case round =>
        obtain ⟨j, adb, cb, hj, rfl, rfl, HLS⟩ := hrel
        cases gk with
        | zero =>
          obtain rfl : n = j := by omega
          obtain ⟨w9, rfl⟩ : ∃ w9, w9 = wr := ⟨_, rfl⟩
          clear hj hk
          have hlt : ¬  ((n : Int) + 1) < 2 := by have := HNZ.out; omega
          have hm0 :  (0 : Int) < (m : Int) := by have := HMZ.out; omega
          go_wp2_with fail
          clear hlt
          clear hm0
          have hav0 : at_ 0 < 10498 := HAL.out _ (by have := HQ1.out; omega)
          have HC0 : Hid (∀ wx, Below w8.heap.size w8 wx → wx.cell? ⟨b1, o1, none⟩ = some (.int .i64 ((at_ 0 : Nat) : Int))) := Lib.hid (HCA.out 0 (by have := HQ1.out; omega))
          obtain ⟨av0, hava0⟩ : ∃ av0, at_ 0 = av0 := ⟨_, rfl⟩
          rw [hava0] at HC0 hav0
          have HAV0 := Lib.hid hava0
          clear hava0
          have hkq : 0 < k := by have := HQ1.out; omega
          refine (lay_ls HLS.out (1) 2 (by omega) (by omega) (by decide) (by omega) rfl).mono ?_
          rintro e wl1 ⟨adl1, cl1, rfl, hl1, -⟩
          have L1 := Lib.hid hl1
          clear hl1
          go_wp2_with fail
          refine (lay_ls L1.out (m) 2 (by omega) (by omega) (by decide) (by omega) rfl).mono ?_
          rintro e wl2 ⟨adl2, cl2, rfl, hl2, -⟩
          have L2 := Lib.hid hl2
          clear hl2 L1
          have hb9 := HC0.out _ L2.out.bel
          go_wp2_with fail
          clear hb9
          refine (lay_ls L2.out (av0) 4 (by omega) (by omega) (by decide) (by omega) rfl).mono ?_
          rintro e wl3 ⟨adl3, cl3, rfl, hl3, -⟩
          have L3 := Lib.hid hl3
          clear hl3 L2
          go_wp2_with fail
          refine (lay_ls L3.out (16) 4 (by omega) (by omega) (by decide) (by omega) rfl).mono ?_
          rintro e wl4 ⟨adl4, cl4, rfl, hl4, -⟩
          have L4 := Lib.hid hl4
          clear hl4 L3
          go_wp2_with fail
          refine (lay_ls L4.out (0) 4 (by omega) (by omega) (by decide) (by omega) rfl).mono ?_
          rintro e wl5 ⟨adl5, cl5, rfl, hl5, -⟩
          have L5 := Lib.hid hl5
          clear hl5 L4
          go_wp2_with fail
          obtain ⟨syN, hsyN⟩ : ∃ syN : Nat → Nat, syN = fun i => sysOf (N.getD i .empty).data.toList := ⟨_, rfl⟩
          have HSYN := Lib.hid hsyN
          clear hsyN
          go_loopg [15, 20] m (fun g u i wx => ∃ (j : Nat) (ad : Option Addr) (c : Nat), j + g = m ∧ i = .int .i64 (j : Int) ∧ u = .slice ad (28 * n + 16 + 16 * j) c ∧ Hid (LS w8 wx ad (28 * n + 16 + 16 * j) c (tabE (defE at_ syD n) n ++ (headE at_ m ++ tabE (auxE at_ syN n (n + 1) m) j))))
          case atStart => exact ⟨0, _, _, by omega, rfl, by rw [show 28 * n + 16 + 16 * 0 = 28 * n + 2 + 2 + 4 + 4 + 4 by omega], Lib.hid (by rw [tabE_zero]; have e0 : headE at_ m = digs 1 2 ++ digs m 2 ++ digs av0 4 ++ digs 16 4 ++ digs 0 4 := (by unfold headE; rw [HAV0.out]); rw [e0, show 28 * n + 16 + 16 * 0 = 28 * n + 2 + 2 + 4 + 4 + 4 by omega]; simpa only [List.append_assoc, List.append_nil] using L5.out)⟩
          case round =>
            clear L5
            obtain ⟨j, adb, cb, hj, rfl, rfl, HLS⟩ := hrel
            cases gk with
            | zero =>
              obtain rfl : m = j := by omega
              obtain ⟨w10, rfl⟩ : ∃ w10, w10 = wr := ⟨_, rfl⟩
              clear hj
              obtain ⟨W, hW⟩ : ∃ W : Nat → Nat, W = fun i => wF n (n + 1) m (P.getD i 0) := ⟨_, rfl⟩
              have HW := Lib.hid hW
              clear hW
              obtain ⟨BS, hBS⟩ : ∃ BS, tabE (defE at_ syD n) n ++ (headE at_ m ++ tabE (auxE at_ syN n (n + 1) m) m) = BS := ⟨_, rfl⟩
              have HBS := Lib.hid hBS
              rw [hBS] at HLS
              obtain ⟨LB, hLB⟩ : ∃ LB, 28 * n + 16 + 16 * m = LB := ⟨_, rfl⟩
              have HLB := Lib.hid hLB
              have hLB2 : LB ≤ 896 := by omega
              rw [hLB] at HLS ⊢
              clear hBS hLB
              go_wp2_with fail
              go_loopg [15, 23, 25] p (fun g u v i wx => ∃ (j : Nat) (ad ad3 : Option Addr) (c c3 : Nat), j + g = p ∧ i = .int .i64 (j : Int) ∧ u = .slice ad (LB + 2 * j) c ∧ v = .slice ad3 j c3 ∧ Hid (LS w8 wx ad (LB + 2 * j) c (BS ++ tabE (fun i => digs (W i) 2) j)) ∧ Hid (OwnI wx w8.heap.size 3 .i64 (.slice ad3 j c3) (toI ((List.range j).map W))))
              case atStart => exact ⟨0, _, none, _, 0, by omega, rfl, rfl, rfl, Lib.hid (by rw [tabE_zero, List.append_nil]; exact HLS.out), Lib.hid (OwnI.nil _ _ _ _)⟩
              case round =>
                clear HLS
                obtain ⟨j, adb, ad3, cb, c3, hj, rfl, rfl, rfl, HLS, HWT⟩ := hrel
                cases gk with
                | zero =>
                  obtain rfl : p = j := by omega
                  obtain ⟨w11, rfl⟩ : ∃ w11, w11 = wr := ⟨_, rfl⟩
                  clear hj
                  have hSL0 : 0 < SL := by have := HSLB.out; omega
                  have RS0 := OS.out.at.2.1
                  obtain ⟨bS, oS, rfl⟩ := Row.there RS0 (by rw [toI_length, HSL.out]; exact hSL0)
                  have RS := Lib.hid (RS0.below HLS.out.bel)
                  clear RS0
                  obtain ⟨BX, hBX⟩ : ∃ BX, BS ++ tabE (fun i => digs (W i) 2) p = BX := ⟨_, rfl⟩
                  have HBX := Lib.hid hBX
                  rw [hBX] at HLS
                  clear hBX
                  have HBL : Hid ((toI BX).length = LB + 2 * p) := Lib.hid (by rw [toI_length]; exact HLS.out.len)
                  have HSTL : Hid ((toI St).length = SL) := Lib.hid (by rw [toI_length]; exact HSL.out)
                  obtain ⟨o3, ho3⟩ : ∃ o3, LB + 2 * p = o3 := ⟨_, rfl⟩
                  have HO3 := Lib.hid ho3
                  have ho3l : o3 ≤ 1016 := by omega
                  rw [ho3] at HLS HBL ⊢
                  clear ho3
                  go_wp2_with (at_builtin; refine wpList_pushes_k rfl (.tmp 234) (.tmp 235) slice8m rfl w8.heap.size w8 (.slice adb o3 cb) (toI BX) o3 ⟨bS, oS, none⟩ c1 SL (toI St) rfl (by rfl) HBL.out HSTL.out RS.out HLS.out.own (by unfold maxLen; omega) (by omega) HLS.out.bel HLS.out.bel.size ?_; intro ad4 c4 w12 hown4 hbe4 hkp4; have OB := Lib.hid hown4; have BB := Lib.hid hbe4; have OW := Lib.hid (hkp4 _ _ _ _ _ (by decide) HWT.out); clear hown4 hbe4 hkp4)
                  have hdb := dtf_built (4096 + o3) SL (4096 + LB)
                  obtain ⟨D0, hD0⟩ : ∃ D0, (DTF (4096 + o3) SL (4096 + LB) 0 0 0 0).cells = D0 := ⟨_, rfl⟩
                  have HD0 := Lib.hid hD0
                  have h37 : D0.size = 37 := by rw [← hD0]; rfl
                  have hone : D0.all (·.oneCell') = true := by rw [← hD0]; simp [DTF, DT0, DT.cells, Value.oneCell']
                  have hI : (Try.prog.info? 29).map (·.size) = some D0.size := by rw [h37]; kernel_rfl
                  have d28 : D0[28]? = some (.int .u64 0) := by rw [← hD0]; rfl
                  have d29 : D0[29]? = some (.int .u64 0) := by rw [← hD0]; rfl
                  have d30 : D0[30]? = some (.int .u64 0) := by rw [← hD0]; rfl
                  have d31 : D0[31]? = some (.int .u64 0) := by rw [← hD0]; rfl
                  rw [hD0] at hdb
                  clear hD0
                  refine wp_build_as 29 _ rfl [(4, .int .u64 (((4096 + o3 : Nat)) : Int)), (8, .int .u64 ((SL : Nat) : Int)), (26, .int .u64 (((4096 + LB : Nat)) : Int))] D0 (by rw [Array.toList_map]; rfl) hdb ?_
                  clear hdb
                  obtain ⟨w13, hw13⟩ : ∃ w13, ((w12.alloc (.cells #[.int .u32 1, .int .u32 0, .int .u64 0, .int .u64 4096, .int .u64 ((o3 : Int) + (SL : Int)), .int .u64 0, .int .u64 0] 58)).alloc (.cells #[.int .i64 0, .int .u64 0, .slice (some ⟨w12.heap.size, 0, none⟩) 1 1] 26)) = w13 := ⟨_, rfl⟩
                  have HW13 := Lib.hid hw13
                  rw [hw13]
                  clear hw13
                  have hsc : (storeCells ⟨w13.heap.size, 0, none⟩ D0.toList).run Try.prog (w13.alloc (.cells #[.slice none 0 0, .int .u64 0, .int .u64 0, .int .u64 0, .int .u64 0, .int .u64 0, .int .u64 0, .int .u64 0, .int .u64 0, .int .u64 0, .int .u64 0, .int .u64 0, .int .u64 0, .int .u64 0, .bool false, .bool false, .bool false, .int .u64 0, .int .u64 0, .int .u64 0, .int .u64 0, .int .u64 0, .int .u64 0, .int .u64 0, .int .u64 0, .int .u64 0, .int .u64 0, .int .u64 0, .int .u64 0, .int .u64 0, .int .u64 0, .int .u64 0, .bool false, .bool false, .bool false, .bool false, .bool false] 29)) = .ok () (w13.alloc (.cells D0 29)) := run_storeCells_new w13 29 #[.slice none 0 0, .int .u64 0, .int .u64 0, .int .u64 0, .int .u64 0, .int .u64 0, .int .u64 0, .int .u64 0, .int .u64 0, .int .u64 0, .int .u64 0, .int .u64 0, .int .u64 0, .int .u64 0, .bool false, .bool false, .bool false, .int .u64 0, .int .u64 0, .int .u64 0, .int .u64 0, .int .u64 0, .int .u64 0, .int .u64 0, .int .u64 0, .int .u64 0, .int .u64 0, .int .u64 0, .int .u64 0, .int .u64 0, .int .u64 0, .int .u64 0, .bool false, .bool false, .bool false, .bool false, .bool false] D0 hI (by rw [h37]; rfl) hone
                  clear hI hone
                  have hn0 : ¬ n = 0 := by have := HNZ.out; omega
                  have hm0 : ¬ m = 0 := by have := HMZ.out; omega
                  have hdx : ((((D0.setIfInBounds 28 (.int .u64 4096)).setIfInBounds 29 (.int .u64 (n : Int))).setIfInBounds 30 (.int .u64 (4096 + 28 * (n : Int)))).setIfInBounds 31 (.int .u64 1)) = (DTF (4096 + o3) SL (4096 + LB) 4096 n (4096 + 28 * n) 1).cells := by
                    first
                      | exact HD0.out.symm
                      | (rw [← HD0.out, show (4096 + 28 * (n : Int)) = ((4096 + 28 * n : Nat) : Int) by omega]; rfl)
                      | (rw [← HD0.out]; rfl)
                  have HIX : Hid ((Try.prog.info? 29).map (·.size) = some (((((D0.setIfInBounds 28 (.int .u64 4096)).setIfInBounds 29 (.int .u64 (n : Int))).setIfInBounds 30 (.int .u64 (4096 + 28 * (n : Int)))).setIfInBounds 31 (.int .u64 1))).size) := Lib.hid (by rw [hdx]; exact (show _ = some 37 by kernel_rfl))
                  have hHB : w13.heap[w12.heap.size + 1]? = some (.cells #[.int .i64 0, .int .u64 0, .slice (some ⟨w12.heap.size, 0, none⟩) 1 1] 26) := by
                    rw [← HW13.out]
                    have := heap_alloc_new (w12.alloc (.cells #[.int .u32 1, .int .u32 0, .int .u64 0, .int .u64 4096, .int .u64 ((o3 : Int) + (SL : Int)), .int .u64 0, .int .u64 0] 58)) (.cells #[.int .i64 0, .int .u64 0, .slice (some ⟨w12.heap.size, 0, none⟩) 1 1] 26)
                    simpa using this
                  have hPB : w13.heap[w12.heap.size]? = some (.cells #[.int .u32 1, .int .u32 0, .int .u64 0, .int .u64 4096, .int .u64 ((o3 : Int) + (SL : Int)), .int .u64 0, .int .u64 0] 58) := by
                    rw [← HW13.out]
                    exact (heap_alloc_old _ _ (by simp)).trans (heap_alloc_new _ _)
                  have hd14 := (heap_alloc_old w13 (.cells (((((D0.setIfInBounds 28 (.int .u64 4096)).setIfInBounds 29 (.int .u64 (n : Int))).setIfInBounds 30 (.int .u64 (4096 + 28 * (n : Int)))).setIfInBounds 31 (.int .u64 1))) 29) (lt_of_block hHB)).trans hHB
                  have hp14 := (heap_alloc_old w13 (.cells (((((D0.setIfInBounds 28 (.int .u64 4096)).setIfInBounds 29 (.int .u64 (n : Int))).setIfInBounds 30 (.int .u64 (4096 + 28 * (n : Int)))).setIfInBounds 31 (.int .u64 1))) 29) (lt_of_block hPB)).trans hPB
                  have k0 : (w13.alloc (.cells (((((D0.setIfInBounds 28 (.int .u64 4096)).setIfInBounds 29 (.int .u64 (n : Int))).setIfInBounds 30 (.int .u64 (4096 + 28 * (n : Int)))).setIfInBounds 31 (.int .u64 1))) 29)).cell? ⟨w12.heap.size + 1, 0, none⟩ = some (.int .i64 0) := by rw [cell_of_row _ _ 0 _ _ _ hd14]; rfl
                  have q0 : (w13.alloc (.cells (((((D0.setIfInBounds 28 (.int .u64 4096)).setIfInBounds 29 (.int .u64 (n : Int))).setIfInBounds 30 (.int .u64 (4096 + 28 * (n : Int)))).setIfInBounds 31 (.int .u64 1))) 29)).cell? ⟨w12.heap.size + 1, 1, none⟩ = some (.int .u64 0) := by rw [cell_of_row _ _ 1 _ _ _ hd14]; rfl
                  have q4 : (w13.alloc (.cells (((((D0.setIfInBounds 28 (.int .u64 4096)).setIfInBounds 29 (.int .u64 (n : Int))).setIfInBounds 30 (.int .u64 (4096 + 28 * (n : Int)))).setIfInBounds 31 (.int .u64 1))) 29)).cell? ⟨w12.heap.size + 1, 2, none⟩ = some (.slice (some ⟨w12.heap.size, 0, none⟩) 1 1) := by rw [cell_of_row _ _ 2 _ _ _ hd14]; rfl
                  have HFR : Hid ((w13.alloc (.cells (((((D0.setIfInBounds 28 (.int .u64 4096)).setIfInBounds 29 (.int .u64 (n : Int))).setIfInBounds 30 (.int .u64 (4096 + 28 * (n : Int)))).setIfInBounds 31 (.int .u64 1))) 29)).heap[w13.heap.size]? = some (.cells (((((D0.setIfInBounds 28 (.int .u64 4096)).setIfInBounds 29 (.int .u64 (n : Int))).setIfInBounds 30 (.int .u64 (4096 + 28 * (n : Int)))).setIfInBounds 31 (.int .u64 1))) 29)) := Lib.hid (heap_alloc_new _ _)
                  have B14 : Hid (Below w12.heap.size w12 (w13.alloc (.cells (((((D0.setIfInBounds 28 (.int .u64 4096)).setIfInBounds 29 (.int .u64 (n : Int))).setIfInBounds 30 (.int .u64 (4096 + 28 * (n : Int)))).setIfInBounds 31 (.int .u64 1))) 29))) := Lib.hid (by
                    have h1 : Below w12.heap.size w12 w13 := by rw [← HW13.out]; exact ((Below.refl _ _).alloc (Nat.le_refl _) _).alloc (by simp) _
                    exact h1.alloc h1.size _)
                  have HBY : Hid (∀ x ∈ BX ++ St, x < 256) := Lib.hid (by
                    intro x hx
                    rw [← HBX.out, ← HBS.out] at hx
                    simp only [List.mem_append] at hx
                    rcases hx with ((h | (h | h)) | h) | h
                    · exact tabE_lt (defE_lt at_ syD n) n x h
                    · exact headE_lt at_ m x h
                    · exact tabE_lt (auxE_lt at_ syN n (n + 1) m) m x h
                    · exact tabE_lt (fun i => digs_lt 2 (W i)) p x h
                    · exact toI_lt HST.out x h)
                  have HBLN : Hid ((BX ++ St).length = o3 + SL) := Lib.hid (by rw [List.length_append, ← toI_length BX, HBL.out, HSL.out])
                  have HVM := Lib.hid (made_versF (file := file) (D := D) (N := N) (T := T) (P := P) (St := St) (n := n) (m := m) (p := p) (fs := (n + 1)) (Q := k) (LB := LB) (o3 := o3) (at_ := at_) (syD := syD) (syN := syN) (W := W) HN.out HM.out HT.out HQ.out HQ1.out k1 k2 k3 HNM.out HST.out (by rw [HSL.out]; exact hSL2) (by rw [HSL.out]; exact hSL0) HAT.out HAL.out HSYD.out HSYN.out (by rw [if_neg hn0]) HW.out (by rw [if_neg hm0]; exact HLB.out) HO3.out)
                  have HRD : Hid (Calls Try.prog 7 #[.slice ad4 (o3 + SL) c4, .agg #[.int .i64 0, .int .u64 0, .slice (some ⟨w12.heap.size, 0, none⟩) 1 1], .agg (((((D0.setIfInBounds 28 (.int .u64 4096)).setIfInBounds 29 (.int .u64 (n : Int))).setIfInBounds 30 (.int .u64 (4096 + 28 * (n : Int)))).setIfInBounds 31 (.int .u64 1))), .int .i64 (p : Int)] (w13.alloc (.cells (((((D0.setIfInBounds 28 (.int .u64 4096)).setIfInBounds 29 (.int .u64 (n : Int))).setIfInBounds 30 (.int .u64 (4096 + 28 * (n : Int)))).setIfInBounds 31 (.int .u64 1))) 29)) (VersAns (⟨true, (List.range p).map W, defL (fun i => D.getD i .empty) n, [⟨file, auxL (fun i => N.getD i .empty) (n + 1) m⟩]⟩, 0) (w13.alloc (.cells (((((D0.setIfInBounds 28 (.int .u64 4096)).setIfInBounds 29 (.int .u64 (n : Int))).setIfInBounds 30 (.int .u64 (4096 + 28 * (n : Int)))).setIfInBounds 31 (.int .u64 1))) 29)))) := Lib.hid (by
                    have hrow := OB.out.at.2.1
                    rw [← toI_append] at hrow
                    have hb : BRow (w13.alloc (.cells (((((D0.setIfInBounds 28 (.int .u64 4096)).setIfInBounds 29 (.int .u64 (n : Int))).setIfInBounds 30 (.int .u64 (4096 + 28 * (n : Int)))).setIfInBounds 31 (.int .u64 1))) 29)) ad4 (BX ++ St) := ⟨hrow.below B14.out, HBY.out⟩
                    have hfit := OB.out.fit.1
                    have hnone := OB.out.at.2.2
                    have hpr : PRow (w13.alloc (.cells (((((D0.setIfInBounds 28 (.int .u64 4096)).setIfInBounds 29 (.int .u64 (n : Int))).setIfInBounds 30 (.int .u64 (4096 + 28 * (n : Int)))).setIfInBounds 31 (.int .u64 1))) 29)) (some ⟨w12.heap.size, 0, none⟩) (PM (o3 + SL)) := by
                      intro i hi
                      have hi0 : i = 0 := by simpa [PM] using hi
                      subst hi0
                      refine ⟨by simp [PM, PT.wf]; omega, w12.heap.size, 0, rfl, lt_of_block hp14, fun j hj => ?_⟩
                      rw [show 0 + 0 * 7 + j = j by omega, cell_of_row _ _ _ _ _ _ hp14]
                      have e4 : ((o3 : Int) + (SL : Int)) = ((o3 + SL : Nat) : Int) := by omega
                      rw [e4]
                      rcases (show j = 0 ∨ j = 1 ∨ j = 2 ∨ j = 3 ∨ j = 4 ∨ j = 5 ∨ j = 6 by omega) with rfl | rfl | rfl | rfl | rfl | rfl | rfl <;> rfl
                    have h := vread_any ad4 c4 (BX ++ St) 0 0 (some ⟨w12.heap.size, 0, none⟩) 1 (PM (o3 + SL)) (DTF (4096 + o3) SL (4096 + LB) 4096 n (4096 + 28 * n) 1) (p : Int) _ hb (by rw [HBLN.out]; omega) (by rw [HBLN.out]; exact hfit) (fun e => by
                        have := hnone e
                        rw [← toI_append, toI_length] at this
                        exact this) hpr (by simp [PM]) (dtf_wf (by omega) (by omega) (by omega) (by omega) (by omega) (by omega) (by omega)) (by omega) (by omega)
                    have hv := HVM.out
                    rw [HSL.out] at hv
                    simp only [if_neg hn0, if_neg hm0] at hv
                    rw [show BX ++ St = tabE (defE at_ syD n) n ++ (headE at_ m ++ (tabE (auxE at_ syN n (n + 1) m) m ++ (tabE (fun i => digs (W i) 2) p ++ St))) by rw [← HBX.out, ← HBS.out]; simp only [List.append_assoc]] at h
                    first
                      | rw [hv] at h
                      | (simp only [List.nil_append] at h hv; rw [hv] at h)
                    have hl := HBLN.out
                    rw [show BX ++ St = tabE (defE at_ syD n) n ++ (headE at_ m ++ (tabE (auxE at_ syN n (n + 1) m) m ++ (tabE (fun i => digs (W i) 2) p ++ St))) by rw [← HBX.out, ← HBS.out]; simp only [List.append_assoc]] at hl
                    first
                      | rw [hl] at h
                      | (simp only [List.nil_append] at h hl; rw [hl] at h)
                    rw [hdx]
                    rw [hdx] at h
                    exact h)
                  have hn1 : (0 : Int) < (n : Int) := by have := HNZ.out; omega
                  have hm1 : (0 : Int) < (m : Int) := by have := HMZ.out; omega
                  have HN0 := Lib.hid hn0
                  have HM0 := Lib.hid hm0
                  clear hHB hPB hd14 hp14 hdx HVM HBY hn0 hm0
                  go_wp2_with (refine wpList_load_row rfl 29 _ rfl w13.heap.size rfl 29 (((((D0.setIfInBounds 28 (.int .u64 4096)).setIfInBounds 29 (.int .u64 (n : Int))).setIfInBounds 30 (.int .u64 (4096 + 28 * (n : Int)))).setIfInBounds 31 (.int .u64 1))) (0, 0) _ HFR.out Try.underlying29 rfl HIX.out ?_)
                  refine HRD.out.mono ?_
                  rintro e w15 ⟨oa, oc, da, dc, drows, na, nc, nrows, he, hoi, hds, hdr, hns, hnr, hb15⟩
                  have hlo : ((List.range p).map W).length = p := by simp
                  have hld : (defL (fun i => D.getD i .empty) n).length = n := by simp [defL]
                  replace he : e = .returned (.tuple #[.agg #[.bool true, .slice oa p oc, .slice da n dc, .slice na 1 nc], .nilIface]) := by
                    rw [he]
                    simp only [hlo, hld, List.length_nil, List.length_cons, Nat.zero_add]
                    rfl
                  subst he
                  have RO : Hid (Row .i64 w15 oa (toI ((List.range p).map W))) := Lib.hid hoi.at.2.1
                  have HDEF := Lib.hid (fun (i : Nat) (hi : i < n) => defL_cells (by rw [hld] at hds; exact hds) hdr hi)
                  have HNEED := Lib.hid (auxL_cells hns hnr)
                  have HWL : Hid ((toI ((List.range p).map W)).length = p) := Lib.hid (by rw [toI_length]; exact hlo)
                  have BV : Hid (Below w15.heap.size w15 (w15.alloc (.cells #[.bool true, .slice oa p oc, .slice da n dc, .slice na 1 nc] 35))) := Lib.hid ((Below.refl _ _).alloc (Nat.le_refl _) _)
                  have B12 : Hid (Below w12.heap.size w12 (w15.alloc (.cells #[.bool true, .slice oa p oc, .slice da n dc, .slice na 1 nc] 35))) := Lib.hid (bstep (bstep B14.out hb15) BV.out)
                  have B8 : Hid (Below w8.heap.size w8 (w15.alloc (.cells #[.bool true, .slice oa p oc, .slice da n dc, .slice na 1 nc] 35))) := Lib.hid (bstep BB.out B12.out)
                  have BF := Lib.hid (bstep BW8.out B8.out)
                  have RW := Lib.hid ((OW.out.at).2.1.below B12.out)
                  have RO2 := Lib.hid (RO.out.below BV.out)
                  have T0 := Lib.hid (R0.out.below B8.out)
                  have T2 := Lib.hid (R2.out.below B8.out)
                  have HVB : Hid (∀ wx, Below (w15.alloc (.cells #[.bool true, .slice oa p oc, .slice da n dc, .slice na 1 nc] 35)).heap.size (w15.alloc (.cells #[.bool true, .slice oa p oc, .slice da n dc, .slice na 1 nc] 35)) wx → wx.cell? ⟨w15.heap.size, 1, none⟩ = some (.slice oa p oc) ∧ wx.cell? ⟨w15.heap.size, 2, none⟩ = some (.slice da n dc) ∧ wx.cell? ⟨w15.heap.size, 3, none⟩ = some (.slice na 1 nc)) := Lib.hid (fun wx h => by
                    have e1 := (h.block _ (by simp)).trans (heap_alloc_new w15 (.cells #[.bool true, .slice oa p oc, .slice da n dc, .slice na 1 nc] 35))
                    exact ⟨by rw [cell_of_row _ _ 1 _ _ _ e1]; rfl, by rw [cell_of_row _ _ 2 _ _ _ e1]; rfl, by rw [cell_of_row _ _ 3 _ _ _ e1]; rfl⟩)
                  have HDEF2 : Hid (∀ i, i < n → ∃ b o pa pc, da = some ⟨b, o, none⟩ ∧ ∀ wx, Below (w15.alloc (.cells #[.bool true, .slice oa p oc, .slice da n dc, .slice na 1 nc] 35)).heap.size (w15.alloc (.cells #[.bool true, .slice oa p oc, .slice da n dc, .slice na 1 nc] 35)) wx → wx.cell? ⟨b, o + i * 4, none⟩ = some (.int .i64 ((i : Int) + 1)) ∧ wx.cell? ⟨b, o + i * 4 + 2, none⟩ = some (.string (D.getD i .empty)) ∧ wx.cell? ⟨b, o + i * 4 + 3, none⟩ = some (.slice pa 0 pc)) := Lib.hid (fun i hi => by
                    obtain ⟨b, o, pa, pc, e, hlt, c0, c2, c3⟩ := HDEF.out i hi
                    refine ⟨b, o, pa, pc, e, fun wx h => ?_⟩
                    have hb := bstep BV.out h
                    exact ⟨(hb.cell (p := ⟨b, _, none⟩) hlt).trans c0, (hb.cell (p := ⟨b, _, none⟩) hlt).trans c2, (hb.cell (p := ⟨b, _, none⟩) hlt).trans c3⟩)
                  obtain ⟨bn, on, aa, ac, rfl, hltn, cn0, cn1, haux⟩ := HNEED.out
                  have HNB : Hid (∀ wx, Below (w15.alloc (.cells #[.bool true, .slice oa p oc, .slice da n dc, .slice (some ⟨bn, on, none⟩) 1 nc] 35)).heap.size (w15.alloc (.cells #[.bool true, .slice oa p oc, .slice da n dc, .slice (some ⟨bn, on, none⟩) 1 nc] 35)) wx → wx.cell? ⟨bn, on, none⟩ = some (.string file) ∧ wx.cell? ⟨bn, on + 1, none⟩ = some (.slice aa m ac)) := Lib.hid (fun wx h => by
                    have hb := bstep BV.out h
                    exact ⟨(hb.cell (p := ⟨bn, _, none⟩) hltn).trans cn0, (hb.cell (p := ⟨bn, _, none⟩) hltn).trans cn1⟩)
                  have HAUX : Hid (∀ i, i < m → ∃ b' o', aa = some ⟨b', o', none⟩ ∧ ∀ wx, Below (w15.alloc (.cells #[.bool true, .slice oa p oc, .slice da n dc, .slice (some ⟨bn, on, none⟩) 1 nc] 35)).heap.size (w15.alloc (.cells #[.bool true, .slice oa p oc, .slice da n dc, .slice (some ⟨bn, on, none⟩) 1 nc] 35)) wx → wx.cell? ⟨b', o' + i * 3, none⟩ = some (.int .i64 (((n + 1) : Nat) + (i : Int))) ∧ wx.cell? ⟨b', o' + i * 3 + 2, none⟩ = some (.string (N.getD i .empty))) := Lib.hid (fun i hi => by
                    obtain ⟨b', o', e, hlt, c0, c2⟩ := haux i hi
                    refine ⟨b', o', e, fun wx h => ?_⟩
                    have hb := bstep BV.out h
                    exact ⟨(hb.cell (p := ⟨b', _, none⟩) hlt).trans c0, (hb.cell (p := ⟨b', _, none⟩) hlt).trans c2⟩)
                  clear haux cn0 cn1 hltn
                  clear hlo hld hoi hds hdr hns hnr hb15 k0 q0 q4 d28 d29 d30 d31 hsc h37
                  clear HDEF HRD HFR HIX
                  obtain ⟨g0, g1⟩ := HNB.out _ (Below.refl _ _)
                  go_wp2_with fail
                  clear g0 g1
                  have HS15 : Hid (w15.heap.size = w15.heap.size) := Lib.hid rfl
                  generalize (w15.alloc (.cells #[.bool true, .slice oa p oc, .slice da n dc, .slice (some ⟨bn, on, none⟩) 1 nc] 35)) = w16 at *
                  generalize w15.heap.size = vb at *
                  go_loopg [32] n (fun g i wx => ∃ (j : Nat), j + g = n ∧ i = .int .i64 (j : Int) ∧ Hid (Below w16.heap.size w16 wx))
                  case atStart => exact ⟨0, by omega, rfl, Lib.hid (Below.refl _ _)⟩
                  case round =>
                    obtain ⟨j, hj, rfl, HB⟩ := hrel
                    cases gk with
                    | zero =>
                      obtain rfl : n = j := by omega
                      clear hj
                      obtain ⟨w17, rfl⟩ : ∃ w17, w17 = wr := ⟨_, rfl⟩
                      go_wp2_with fail
                      go_loopg [33] m (fun g i wx => ∃ (j : Nat), j + g = m ∧ i = .int .i64 (j : Int) ∧ Hid (Below w16.heap.size w16 wx))
                      case atStart => exact ⟨0, by omega, rfl, HB⟩
                      case round =>
                        clear HB
                        obtain ⟨j, hj, rfl, HB⟩ := hrel
                        cases gk with
                        | zero =>
                          obtain rfl : m = j := by omega
                          clear hj
                          obtain ⟨w18, rfl⟩ : ∃ w18, w18 = wr := ⟨_, rfl⟩
                          go_wp2_with fail
                          go_loopg [34] p (fun g i wx => ∃ (j : Nat), j + g = p ∧ i = .int .i64 (j : Int) ∧ Hid (Below w16.heap.size w16 wx))
                          case atStart => exact ⟨0, by omega, rfl, HB⟩
                          case round =>
                            clear HB
                            obtain ⟨j, hj, rfl, HB⟩ := hrel
                            cases gk with
                            | zero =>
                              obtain rfl : p = j := by omega
                              go_wp2_with fail
                              go_ret
                              exact ⟨rfl, bstep BF.out HB.out⟩
                            | succ g =>
                              have hjn : j < p := by omega
                              obtain ⟨v1, v2, v3⟩ := HVB.out _ HB.out
                              obtain ⟨b4, o4, rfl, c4⟩ := (RO2.out.below HB.out) j (by rw [HWL.out]; exact hjn)
                              obtain ⟨b5, o5, rfl, c5⟩ := (RW.out.below HB.out) j (by rw [HWL.out]; exact hjn)
                              generalize (toI ((List.range p).map W)).getD j 0 = x at c4 c5
                              go_wp2_with fail
                              go_quiet (fail)
                              go_wp2_with fail
                              go_roundg g
                              case measure => omega
                              case rel => exact ⟨j + 1, by omega, by go_num, Lib.hid (below_drewN HB.out _)⟩
                        | succ g =>
                          have hjn : j < m := by omega
                          obtain ⟨v1, v2, v3⟩ := HVB.out _ HB.out
                          obtain ⟨g0, g1⟩ := HNB.out _ HB.out
                          obtain ⟨b4, o4, rfl, hcc⟩ := HAUX.out j hjn
                          obtain ⟨c0, c2⟩ := hcc _ HB.out
                          obtain ⟨b5, o5, rfl, -, c5⟩ := (T2.out.below HB.out) j (by rw [HM.out]; exact hjn)
                          have e5 : ((((n + 1) : Nat) : Int) + (j : Int)) = ((n : Int) + 1) + (j : Int) := by omega
                          rw [e5] at c0
                          generalize N.getD j .empty = t at c2 c5
                          clear hcc e5
                          go_wp2_with fail
                          go_quiet (fail)
                          go_wp2_with fail
                          go_roundg g
                          case measure => omega
                          case rel => exact ⟨j + 1, by omega, by go_num, Lib.hid (below_drewN HB.out _)⟩
                    | succ g =>
                      have hjn : j < n := by omega
                      obtain ⟨v1, v2, v3⟩ := HVB.out _ HB.out
                      obtain ⟨b4, o4, pa, pc, rfl, hcc⟩ := HDEF2.out j hjn
                      obtain ⟨c0, c2, c3⟩ := hcc _ HB.out
                      obtain ⟨b5, o5, rfl, -, c5⟩ := (T0.out.below HB.out) j (by rw [HN.out]; exact hjn)
                      generalize D.getD j .empty = t at c2 c5
                      clear hcc
                      go_wp2_with fail
                      go_quiet (fail)
                      go_wp2_with fail
                      go_roundg g
                      case measure => omega
                      case rel => exact ⟨j + 1, by omega, by go_num, Lib.hid (below_drewN HB.out _)⟩
                | succ g =>
                  have hjn : j < p := by omega
                  obtain ⟨b3, o3, rfl, hc0⟩ := R3.out j (by rw [HP.out]; exact hjn)
                  have hb3 : b3 < w8.heap.size := by simpa using World.block_lt_of_cell? _ _ hc0
                  have hb9 : wr.cell? ⟨b3, o3 + j, none⟩ = some (.int .i64 (P.getD j 0)) := by rw [HLS.out.bel.cell (p := ⟨b3, o3 + j, none⟩) hb3]; exact hc0
                  obtain ⟨hxl, hxu⟩ := P3.out (P.getD j 0) (by rw [List.getD, List.getElem?_eq_getElem (show j < P.length by rw [HP.out]; exact hjn)]; exact List.getElem_mem _)
                  have hWj : W j = wF n (n + 1) m (P.getD j 0) := by rw [HW.out]
                  have HWS : Hid ((toI ((List.range j).map W)).length = j) := Lib.hid (by rw [toI_length]; simp)
                  have HWN : Hid ((List.range (j + 1)).map W = (List.range j).map W ++ [W j]) := Lib.hid (by simp [List.range_succ])
                  have HTN := Lib.hid (tabE_succ (fun i => digs (W i) 2) j)
                  generalize P.getD j 0 = x at *
                  obtain ⟨v, hv⟩ : ∃ v, W j = v := ⟨_, rfl⟩
                  have HV := Lib.hid hv
                  rw [hv] at hWj
                  have hv16 : v < 65536 := by rw [hWj]; exact wF_lt _ _ _ _ (by omega) (by omega) (by omega)
                  clear hv hc0
                  unfold wF at hWj
                  have HLX := HLS
                  by_cases hx : x < 0
                  · obtain ⟨r, hr⟩ : ∃ r : Nat, (-(x + 1)).toNat % ((n + 1) + m) = r := ⟨_, rfl⟩
                    have hrl : r < (n + 1) + m := by rw [← hr]; exact Nat.mod_lt _ (by omega)
                    have hrem : (-(x + 1)).tmod (((n : Int) + 1) + (m : Int)) = (r : Int) := by
                      obtain ⟨u, hu⟩ : ∃ u : Nat, -(x + 1) = (u : Int) := ⟨(-(x + 1)).toNat, by omega⟩
                      rw [hu] at hr ⊢
                      rw [Int.toNat_natCast] at hr
                      rw [Int.tmod_eq_emod_of_nonneg (by omega), show ((n : Int) + 1) + (m : Int) = (((n + 1) + m : Nat) : Int) by omega, ← hr]
                      exact (Int.natCast_emod _ _).symm
                    have hz : ¬ (((n : Int) + 1) + (m : Int)) = 0 := by omega
                    rw [if_pos hx, hr] at hWj
                    rcases (show r ≤ n ∨ (n < r ∧ r = n + 1) ∨ (n < r ∧ ¬ r = n + 1) by omega) with hc | ⟨hc, hc2⟩ | ⟨hc, hc2⟩
                    · rw [if_neg (by omega)] at hWj
                      have HVV := Lib.hid hWj
                      have q1 : ((r : Int) == (n : Int) + 1) = false := by rw [beq_eq_false_iff_ne]; omega
                      have q2 : ((m : Int) == 0) = false := by have := HMZ.out; rw [beq_eq_false_iff_ne]; omega
                      have q3 : ¬ (n : Int) < (r : Int) := by omega
                      clear hWj hc

                      go_wp2_with (at_builtin; first
                        | (refine wpList_push_k rfl (.tmp 225) (.tmp 227) sliceInt rfl w8.heap.size w8 (.slice ad3 j c3) (toI ((List.range j).map W)) j ((r : Int)) rfl (by rfl) HWS.out HWT.out (by unfold maxLen; omega) (by omega) HLS.out.bel HLS.out.bel.size ?_; intro ad4 c4 w4 hown4 hbe4 hkp4; have OW4 := Lib.hid hown4; have LS4 : Hid (LS w8 w4 adb (LB + 2 * j) cb (BS ++ tabE (fun i => digs (W i) 2) j)) := Lib.hid ⟨hkp4 _ _ _ _ _ (by decide) HLS.out.own, HLS.out.len, hbe4⟩; clear hown4 hbe4 hkp4))
                      refine (lay_ls LS4.out (r) 2 (by omega) (by omega) (by decide) (by omega) rfl).mono ?_
                      rintro e w5 ⟨ad5, c5, rfl, hl5, hk5⟩
                      have L5 := Lib.hid hl5
                      have OW5 := Lib.hid (hk5 _ _ _ _ _ (by decide) OW4.out)
                      clear hl5 hk5
                      go_wp2_with fail
                      have e9 : LB + 2 * (j + 1) = LB + 2 * j + 2 := by omega
                      go_roundg g
                      case measure => omega
                      case rel =>
                        refine ⟨j + 1, _, _, _, _, by omega, by go_num, by rw [e9], rfl, Lib.hid ?_, Lib.hid ?_⟩
                        · rw [e9, HTN.out]
                          rw [HV.out, HVV.out, ← List.append_assoc]
                          exact L5.out
                        · rw [HWN.out, toI_append, HV.out, HVV.out]
                          exact OW5.out
                    · have := HMZ.out
                      rw [if_neg (by omega)] at hWj
                      have HVV := Lib.hid hWj
                      have q1 : ((r : Int) == (n : Int) + 1) = true := by rw [beq_iff_eq]; omega
                      have q2 : ((m : Int) == 0) = false := by have := HMZ.out; rw [beq_eq_false_iff_ne]; omega
                      have q3 :  (n : Int) < (r : Int) := by omega
                      have q4 : ¬ (r : Int) < ((n : Int) + 1) := by have := HNZ.out; omega
                      clear hWj hc hc2

                      go_wp2_with (at_builtin; first
                        | (refine wpList_push_k rfl (.tmp 225) (.tmp 227) sliceInt rfl w8.heap.size w8 (.slice ad3 j c3) (toI ((List.range j).map W)) j ((r : Int)) rfl (by rfl) HWS.out HWT.out (by unfold maxLen; omega) (by omega) HLS.out.bel HLS.out.bel.size ?_; intro ad4 c4 w4 hown4 hbe4 hkp4; have OW4 := Lib.hid hown4; have LS4 : Hid (LS w8 w4 adb (LB + 2 * j) cb (BS ++ tabE (fun i => digs (W i) 2) j)) := Lib.hid ⟨hkp4 _ _ _ _ _ (by decide) HLS.out.own, HLS.out.len, hbe4⟩; clear hown4 hbe4 hkp4))
                      refine (lay_ls LS4.out (r) 2 (by omega) (by omega) (by decide) (by omega) rfl).mono ?_
                      rintro e w5 ⟨ad5, c5, rfl, hl5, hk5⟩
                      have L5 := Lib.hid hl5
                      have OW5 := Lib.hid (hk5 _ _ _ _ _ (by decide) OW4.out)
                      clear hl5 hk5
                      go_wp2_with fail
                      have e9 : LB + 2 * (j + 1) = LB + 2 * j + 2 := by omega
                      go_roundg g
                      case measure => omega
                      case rel =>
                        refine ⟨j + 1, _, _, _, _, by omega, by go_num, by rw [e9], rfl, Lib.hid ?_, Lib.hid ?_⟩
                        · rw [e9, HTN.out]
                          rw [HV.out, HVV.out, ← List.append_assoc]
                          exact L5.out
                        · rw [HWN.out, toI_append, HV.out, HVV.out]
                          exact OW5.out
                    · have := HNZ.out
                      have := HMZ.out
                      rw [if_neg (by omega)] at hWj
                      have HVV := Lib.hid hWj
                      have q1 : ((r : Int) == (n : Int) + 1) = false := by rw [beq_eq_false_iff_ne]; omega
                      have q2 : ((m : Int) == 0) = false := by have := HMZ.out; rw [beq_eq_false_iff_ne]; omega
                      have q3 :  (n : Int) < (r : Int) := by omega
                      have q4 : ¬ (r : Int) < ((n : Int) + 1) := by have := HNZ.out; omega
                      clear hWj hc hc2

                      go_wp2_with (at_builtin; first
                        | (refine wpList_push_k rfl (.tmp 225) (.tmp 227) sliceInt rfl w8.heap.size w8 (.slice ad3 j c3) (toI ((List.range j).map W)) j ((r : Int)) rfl (by rfl) HWS.out HWT.out (by unfold maxLen; omega) (by omega) HLS.out.bel HLS.out.bel.size ?_; intro ad4 c4 w4 hown4 hbe4 hkp4; have OW4 := Lib.hid hown4; have LS4 : Hid (LS w8 w4 adb (LB + 2 * j) cb (BS ++ tabE (fun i => digs (W i) 2) j)) := Lib.hid ⟨hkp4 _ _ _ _ _ (by decide) HLS.out.own, HLS.out.len, hbe4⟩; clear hown4 hbe4 hkp4))
                      refine (lay_ls LS4.out (r) 2 (by omega) (by omega) (by decide) (by omega) rfl).mono ?_
                      rintro e w5 ⟨ad5, c5, rfl, hl5, hk5⟩
                      have L5 := Lib.hid hl5
                      have OW5 := Lib.hid (hk5 _ _ _ _ _ (by decide) OW4.out)
                      clear hl5 hk5
                      go_wp2_with fail
                      have e9 : LB + 2 * (j + 1) = LB + 2 * j + 2 := by omega
                      go_roundg g
                      case measure => omega
                      case rel =>
                        refine ⟨j + 1, _, _, _, _, by omega, by go_num, by rw [e9], rfl, Lib.hid ?_, Lib.hid ?_⟩
                        · rw [e9, HTN.out]
                          rw [HV.out, HVV.out, ← List.append_assoc]
                          exact L5.out
                        · rw [HWN.out, toI_append, HV.out, HVV.out]
                          exact OW5.out
                  · obtain ⟨r, hr⟩ : ∃ r : Nat, (x).toNat % ((n + 1) + m) = r := ⟨_, rfl⟩
                    have hrl : r < (n + 1) + m := by rw [← hr]; exact Nat.mod_lt _ (by omega)
                    have hrem : (x).tmod (((n : Int) + 1) + (m : Int)) = (r : Int) := by
                      obtain ⟨u, hu⟩ : ∃ u : Nat, x = (u : Int) := ⟨(x).toNat, by omega⟩
                      rw [hu] at hr ⊢
                      rw [Int.toNat_natCast] at hr
                      rw [Int.tmod_eq_emod_of_nonneg (by omega), show ((n : Int) + 1) + (m : Int) = (((n + 1) + m : Nat) : Int) by omega, ← hr]
                      exact (Int.natCast_emod _ _).symm
                    have hz : ¬ (((n : Int) + 1) + (m : Int)) = 0 := by omega
                    rw [if_neg hx, hr] at hWj
                    rcases (show r ≤ n ∨ (n < r ∧ r = n + 1) ∨ (n < r ∧ ¬ r = n + 1) by omega) with hc | ⟨hc, hc2⟩ | ⟨hc, hc2⟩
                    · rw [if_neg (by omega)] at hWj
                      have HVV := Lib.hid hWj
                      have q1 : ((r : Int) == (n : Int) + 1) = false := by rw [beq_eq_false_iff_ne]; omega
                      have q2 : ((m : Int) == 0) = false := by have := HMZ.out; rw [beq_eq_false_iff_ne]; omega
                      have q3 : ¬ (n : Int) < (r : Int) := by omega
                      clear hWj hc

                      go_wp2_with (at_builtin; first
                        | (refine wpList_push_k rfl (.tmp 225) (.tmp 227) sliceInt rfl w8.heap.size w8 (.slice ad3 j c3) (toI ((List.range j).map W)) j ((r : Int)) rfl (by rfl) HWS.out HWT.out (by unfold maxLen; omega) (by omega) HLS.out.bel HLS.out.bel.size ?_; intro ad4 c4 w4 hown4 hbe4 hkp4; have OW4 := Lib.hid hown4; have LS4 : Hid (LS w8 w4 adb (LB + 2 * j) cb (BS ++ tabE (fun i => digs (W i) 2) j)) := Lib.hid ⟨hkp4 _ _ _ _ _ (by decide) HLS.out.own, HLS.out.len, hbe4⟩; clear hown4 hbe4 hkp4))
                      refine (lay_ls LS4.out (r) 2 (by omega) (by omega) (by decide) (by omega) rfl).mono ?_
                      rintro e w5 ⟨ad5, c5, rfl, hl5, hk5⟩
                      have L5 := Lib.hid hl5
                      have OW5 := Lib.hid (hk5 _ _ _ _ _ (by decide) OW4.out)
                      clear hl5 hk5
                      go_wp2_with fail
                      have e9 : LB + 2 * (j + 1) = LB + 2 * j + 2 := by omega
                      go_roundg g
                      case measure => omega
                      case rel =>
                        refine ⟨j + 1, _, _, _, _, by omega, by go_num, by rw [e9], rfl, Lib.hid ?_, Lib.hid ?_⟩
                        · rw [e9, HTN.out]
                          rw [HV.out, HVV.out, ← List.append_assoc]
                          exact L5.out
                        · rw [HWN.out, toI_append, HV.out, HVV.out]
                          exact OW5.out
                    · have := HMZ.out
                      rw [if_neg (by omega)] at hWj
                      have HVV := Lib.hid hWj
                      have q1 : ((r : Int) == (n : Int) + 1) = true := by rw [beq_iff_eq]; omega
                      have q2 : ((m : Int) == 0) = false := by have := HMZ.out; rw [beq_eq_false_iff_ne]; omega
                      have q3 :  (n : Int) < (r : Int) := by omega
                      have q4 : ¬ (r : Int) < ((n : Int) + 1) := by have := HNZ.out; omega
                      clear hWj hc hc2

                      go_wp2_with (at_builtin; first
                        | (refine wpList_push_k rfl (.tmp 225) (.tmp 227) sliceInt rfl w8.heap.size w8 (.slice ad3 j c3) (toI ((List.range j).map W)) j ((r : Int)) rfl (by rfl) HWS.out HWT.out (by unfold maxLen; omega) (by omega) HLS.out.bel HLS.out.bel.size ?_; intro ad4 c4 w4 hown4 hbe4 hkp4; have OW4 := Lib.hid hown4; have LS4 : Hid (LS w8 w4 adb (LB + 2 * j) cb (BS ++ tabE (fun i => digs (W i) 2) j)) := Lib.hid ⟨hkp4 _ _ _ _ _ (by decide) HLS.out.own, HLS.out.len, hbe4⟩; clear hown4 hbe4 hkp4))
                      refine (lay_ls LS4.out (r) 2 (by omega) (by omega) (by decide) (by omega) rfl).mono ?_
                      rintro e w5 ⟨ad5, c5, rfl, hl5, hk5⟩
                      have L5 := Lib.hid hl5
                      have OW5 := Lib.hid (hk5 _ _ _ _ _ (by decide) OW4.out)
                      clear hl5 hk5
                      go_wp2_with fail
                      have e9 : LB + 2 * (j + 1) = LB + 2 * j + 2 := by omega
                      go_roundg g
                      case measure => omega
                      case rel =>
                        refine ⟨j + 1, _, _, _, _, by omega, by go_num, by rw [e9], rfl, Lib.hid ?_, Lib.hid ?_⟩
                        · rw [e9, HTN.out]
                          rw [HV.out, HVV.out, ← List.append_assoc]
                          exact L5.out
                        · rw [HWN.out, toI_append, HV.out, HVV.out]
                          exact OW5.out
                    · have := HNZ.out
                      have := HMZ.out
                      rw [if_neg (by omega)] at hWj
                      have HVV := Lib.hid hWj
                      have q1 : ((r : Int) == (n : Int) + 1) = false := by rw [beq_eq_false_iff_ne]; omega
                      have q2 : ((m : Int) == 0) = false := by have := HMZ.out; rw [beq_eq_false_iff_ne]; omega
                      have q3 :  (n : Int) < (r : Int) := by omega
                      have q4 : ¬ (r : Int) < ((n : Int) + 1) := by have := HNZ.out; omega
                      clear hWj hc hc2

                      go_wp2_with (at_builtin; first
                        | (refine wpList_push_k rfl (.tmp 225) (.tmp 227) sliceInt rfl w8.heap.size w8 (.slice ad3 j c3) (toI ((List.range j).map W)) j ((r : Int)) rfl (by rfl) HWS.out HWT.out (by unfold maxLen; omega) (by omega) HLS.out.bel HLS.out.bel.size ?_; intro ad4 c4 w4 hown4 hbe4 hkp4; have OW4 := Lib.hid hown4; have LS4 : Hid (LS w8 w4 adb (LB + 2 * j) cb (BS ++ tabE (fun i => digs (W i) 2) j)) := Lib.hid ⟨hkp4 _ _ _ _ _ (by decide) HLS.out.own, HLS.out.len, hbe4⟩; clear hown4 hbe4 hkp4))
                      refine (lay_ls LS4.out (r) 2 (by omega) (by omega) (by decide) (by omega) rfl).mono ?_
                      rintro e w5 ⟨ad5, c5, rfl, hl5, hk5⟩
                      have L5 := Lib.hid hl5
                      have OW5 := Lib.hid (hk5 _ _ _ _ _ (by decide) OW4.out)
                      clear hl5 hk5
                      go_wp2_with fail
                      have e9 : LB + 2 * (j + 1) = LB + 2 * j + 2 := by omega
                      go_roundg g
                      case measure => omega
                      case rel =>
                        refine ⟨j + 1, _, _, _, _, by omega, by go_num, by rw [e9], rfl, Lib.hid ?_, Lib.hid ?_⟩
                        · rw [e9, HTN.out]
                          rw [HV.out, HVV.out, ← List.append_assoc]
                          exact L5.out
                        · rw [HWN.out, toI_append, HV.out, HVV.out]
                          exact OW5.out
            | succ g =>
              have hjn : j < m := by omega
              obtain ⟨b2, o2, rfl, hb2, hc0⟩ := R2.out j (by rw [HM.out]; exact hjn)
              have HC2 : Hid (∀ wx, Below w8.heap.size w8 wx → wx.cell? ⟨b2, o2 + j, none⟩ = some (.string (N.getD j .empty))) := Lib.hid (fun wx h => by rw [h.cell (p := ⟨b2, o2 + j, none⟩) hb2]; exact hc0)
              have hib : 1 + n + j < k := by have := HQ1.out; omega
              have HC1 := Lib.hid (HCA.out (1 + n + j) hib)
              have hds : (N.getD j .empty).size ≤ 9223372036854775807 := by
                have := S2.out _ (List.getElem_mem (show j < N.length by rw [HM.out]; exact hjn))
                rw [getDT (by rw [HM.out]; exact hjn)]
                omega
              have HSY := Lib.hid (fun w1 => sysv_any (N.getD j .empty) w1 hds)
              have hsyv : sysOf (N.getD j .empty).data.toList = syN j := by rw [HSYN.out]
              rw [hsyv] at HSY
              have hsl : syN j < 268435456 := by rw [← hsyv]; exact sysOf_lt _
              have hav : at_ (1 + n + j) < 10498 := HAL.out _ hib
              generalize N.getD j .empty = t at *
              obtain ⟨av, hava⟩ : ∃ av, at_ (1 + n + j) = av := ⟨_, rfl⟩
              obtain ⟨sv, hsva⟩ : ∃ sv, syN j = sv := ⟨_, rfl⟩
              rw [hava] at HC1 hav
              rw [hsva] at HSY hsl
              have HAVA := Lib.hid hava
              have HSVA := Lib.hid hsva
              clear hava hsva hsyv hds
              have hb9 := HC2.out _ HLS.out.bel
              clear hc0
              by_cases hlast : j = m - 1
              · have hq : ((j : Int) == (m : Int) - 1) = true := by rw [beq_iff_eq]; omega
                have HNX : Hid ((if j = m - 1 then 0 else 16) = 0) := Lib.hid (if_pos hlast)
                clear hlast
                go_wp2_with fail
                clear hq hb9
                refine (HSY.out _).mono ?_
                rintro e w11 ⟨rfl, rfl⟩
                go_wp2_with fail
                refine (lay_ls HLS.out (sv) 4 (by omega) (by omega) (by decide) (by omega) rfl).mono ?_
                rintro e wl6 ⟨adl6, cl6, rfl, hl6, -⟩
                have L6 := Lib.hid hl6
                clear hl6
                go_wp2_with fail
                refine (lay_ls L6.out (0) 2 (by omega) (by omega) (by decide) (by omega) rfl).mono ?_
                rintro e wl7 ⟨adl7, cl7, rfl, hl7, -⟩
                have L7 := Lib.hid hl7
                clear hl7 L6
                go_wp2_with fail
                refine (lay_ls L7.out ((n + 1) + j) 2 (by omega) (by omega) (by decide) (by omega) rfl).mono ?_
                rintro e wl8 ⟨adl8, cl8, rfl, hl8, -⟩
                have L8 := Lib.hid hl8
                clear hl8 L7
                have hb9 := HC1.out _ L8.out.bel
                go_wp2_with fail
                clear hb9
                refine (lay_ls L8.out (av) 4 (by omega) (by omega) (by decide) (by omega) rfl).mono ?_
                rintro e wl9 ⟨adl9, cl9, rfl, hl9, -⟩
                have L9 := Lib.hid hl9
                clear hl9 L8
                go_wp2_with fail
                refine (lay_ls L9.out (0) 4 (by omega) (by omega) (by decide) (by omega) rfl).mono ?_
                rintro e wl10 ⟨adl10, cl10, rfl, hl10, -⟩
                have L10 := Lib.hid hl10
                clear hl10 L9
                go_wp2_with fail
                have e9 : 28 * n + 16 + 16 * (j + 1) = 28 * n + 16 + 16 * j + 4 + 2 + 2 + 4 + 4 := by omega
                go_roundg g
                case measure => omega
                case rel =>
                  refine ⟨j + 1, _, _, by omega, by go_num, by rw [e9], Lib.hid ?_⟩
                  rw [e9, tabE_succ]
                  have hE : auxE at_ syN n (n + 1) m j = digs sv 4 ++ digs 0 2 ++ digs ((n + 1) + j) 2 ++ digs av 4 ++ digs 0 4 := by unfold auxE; rw [HNX.out, HAVA.out, HSVA.out]
                  rw [hE]
                  simpa only [List.append_assoc] using L10.out
              · have hq : ((j : Int) == (m : Int) - 1) = false := by rw [beq_eq_false_iff_ne]; omega
                have HNX : Hid ((if j = m - 1 then 0 else 16) = 16) := Lib.hid (if_neg hlast)
                clear hlast
                go_wp2_with fail
                clear hq hb9
                refine (HSY.out _).mono ?_
                rintro e w11 ⟨rfl, rfl⟩
                go_wp2_with fail
                refine (lay_ls HLS.out (sv) 4 (by omega) (by omega) (by decide) (by omega) rfl).mono ?_
                rintro e wl11 ⟨adl11, cl11, rfl, hl11, -⟩
                have L11 := Lib.hid hl11
                clear hl11
                go_wp2_with fail
                refine (lay_ls L11.out (0) 2 (by omega) (by omega) (by decide) (by omega) rfl).mono ?_
                rintro e wl12 ⟨adl12, cl12, rfl, hl12, -⟩
                have L12 := Lib.hid hl12
                clear hl12 L11
                go_wp2_with fail
                refine (lay_ls L12.out ((n + 1) + j) 2 (by omega) (by omega) (by decide) (by omega) rfl).mono ?_
                rintro e wl13 ⟨adl13, cl13, rfl, hl13, -⟩
                have L13 := Lib.hid hl13
                clear hl13 L12
                have hb9 := HC1.out _ L13.out.bel
                go_wp2_with fail
                clear hb9
                refine (lay_ls L13.out (av) 4 (by omega) (by omega) (by decide) (by omega) rfl).mono ?_
                rintro e wl14 ⟨adl14, cl14, rfl, hl14, -⟩
                have L14 := Lib.hid hl14
                clear hl14 L13
                go_wp2_with fail
                refine (lay_ls L14.out (16) 4 (by omega) (by omega) (by decide) (by omega) rfl).mono ?_
                rintro e wl15 ⟨adl15, cl15, rfl, hl15, -⟩
                have L15 := Lib.hid hl15
                clear hl15 L14
                go_wp2_with fail
                have e9 : 28 * n + 16 + 16 * (j + 1) = 28 * n + 16 + 16 * j + 4 + 2 + 2 + 4 + 4 := by omega
                go_roundg g
                case measure => omega
                case rel =>
                  refine ⟨j + 1, _, _, by omega, by go_num, by rw [e9], Lib.hid ?_⟩
                  rw [e9, tabE_succ]
                  have hE : auxE at_ syN n (n + 1) m j = digs sv 4 ++ digs 0 2 ++ digs ((n + 1) + j) 2 ++ digs av 4 ++ digs 16 4 := by unfold auxE; rw [HNX.out, HAVA.out, HSVA.out]
                  rw [hE]
                  simpa only [List.append_assoc] using L15.out
        | succ g =>
          have hjn : j < n := by omega
          obtain ⟨b0, o0, rfl, hb0, hc0⟩ := R0.out j (by rw [HN.out]; exact hjn)
          have HC0 : Hid (∀ wx, Below w8.heap.size w8 wx → wx.cell? ⟨b0, o0 + j, none⟩ = some (.string (D.getD j .empty))) := Lib.hid (fun wx h => by rw [h.cell (p := ⟨b0, o0 + j, none⟩) hb0]; exact hc0)
          have hib : 1 + j < k := by have := HQ1.out; omega
          have HC1 := Lib.hid (HCA.out (1 + j) hib)
          have hds : (D.getD j .empty).size ≤ 9223372036854775807 := by
            have := S0.out _ (List.getElem_mem (show j < D.length by rw [HN.out]; exact hjn))
            rw [getDT (by rw [HN.out]; exact hjn)]
            omega
          have HSY := Lib.hid (fun w1 => sysv_any (D.getD j .empty) w1 hds)
          have hsyv : sysOf (D.getD j .empty).data.toList = syD j := by rw [HSYD.out]
          rw [hsyv] at HSY
          have hsl : syD j < 268435456 := by rw [← hsyv]; exact sysOf_lt _
          have hav : at_ (1 + j) < 10498 := HAL.out _ hib
          generalize D.getD j .empty = t at *
          obtain ⟨av, hava⟩ : ∃ av, at_ (1 + j) = av := ⟨_, rfl⟩
          obtain ⟨sv, hsva⟩ : ∃ sv, syD j = sv := ⟨_, rfl⟩
          rw [hava] at HC1 hav
          rw [hsva] at HSY hsl
          have HAVA := Lib.hid hava
          have HSVA := Lib.hid hsva
          clear hava hsva hsyv hds hc0
          by_cases hlast : j = n - 1
          · have hq : ((j : Int) == (n : Int) - 1) = true := by rw [beq_iff_eq]; omega
            have HNX : Hid ((if j = n - 1 then 0 else 28) = 0) := Lib.hid (if_pos hlast)
            clear hlast
            go_wp2_with fail
            clear hq
            refine (lay_ls HLS.out (1) 2 (by omega) (by omega) (by decide) (by omega) rfl).mono ?_
            rintro e wl1 ⟨adl1, cl1, rfl, hl1, -⟩
            have L1 := Lib.hid hl1
            clear hl1
            go_wp2_with fail
            refine (lay_ls L1.out (0) 2 (by omega) (by omega) (by decide) (by omega) rfl).mono ?_
            rintro e wl2 ⟨adl2, cl2, rfl, hl2, -⟩
            have L2 := Lib.hid hl2
            clear hl2 L1
            go_wp2_with fail
            refine (lay_ls L2.out (j + 1) 2 (by omega) (by omega) (by decide) (by omega) rfl).mono ?_
            rintro e wl3 ⟨adl3, cl3, rfl, hl3, -⟩
            have L3 := Lib.hid hl3
            clear hl3 L2
            go_wp2_with fail
            refine (lay_ls L3.out (1) 2 (by omega) (by omega) (by decide) (by omega) rfl).mono ?_
            rintro e wl4 ⟨adl4, cl4, rfl, hl4, -⟩
            have L4 := Lib.hid hl4
            clear hl4 L3
            have hb9 := HC0.out _ L4.out.bel
            go_wp2_with fail
            clear hb9
            refine (HSY.out _).mono ?_
            rintro e w9 ⟨rfl, rfl⟩
            go_wp2_with fail
            refine (lay_ls L4.out (sv) 4 (by omega) (by omega) (by decide) (by omega) rfl).mono ?_
            rintro e wl5 ⟨adl5, cl5, rfl, hl5, -⟩
            have L5 := Lib.hid hl5
            clear hl5
            go_wp2_with fail
            refine (lay_ls L5.out (20) 4 (by omega) (by omega) (by decide) (by omega) rfl).mono ?_
            rintro e wl6 ⟨adl6, cl6, rfl, hl6, -⟩
            have L6 := Lib.hid hl6
            clear hl6 L5
            go_wp2_with fail
            refine (lay_ls L6.out (0) 4 (by omega) (by omega) (by decide) (by omega) rfl).mono ?_
            rintro e wl7 ⟨adl7, cl7, rfl, hl7, -⟩
            have L7 := Lib.hid hl7
            clear hl7 L6
            have hb9 := HC1.out _ L7.out.bel
            go_wp2_with fail
            clear hb9
            refine (lay_ls L7.out (av) 4 (by omega) (by omega) (by decide) (by omega) rfl).mono ?_
            rintro e wl8 ⟨adl8, cl8, rfl, hl8, -⟩
            have L8 := Lib.hid hl8
            clear hl8
            go_wp2_with fail
            refine (lay_ls L8.out (0) 4 (by omega) (by omega) (by decide) (by omega) rfl).mono ?_
            rintro e wl9 ⟨adl9, cl9, rfl, hl9, -⟩
            have L9 := Lib.hid hl9
            clear hl9 L8
            go_wp2_with fail
            have e9 : 28 * (j + 1) = 28 * j + 2 + 2 + 2 + 2 + 4 + 4 + 4 + 4 + 4 := by omega
            go_roundg g
            case measure => omega
            case rel =>
              refine ⟨j + 1, _, _, by omega, by go_num, by rw [e9], Lib.hid ?_⟩
              rw [e9, tabE_succ]
              have hE : defE at_ syD n j = digs 1 2 ++ digs 0 2 ++ digs (j + 1) 2 ++ digs 1 2 ++ digs sv 4 ++ digs 20 4 ++ digs 0 4 ++ (digs av 4 ++ digs 0 4) := by unfold defE; rw [HNX.out, HAVA.out, HSVA.out]
              rw [hE]
              simpa only [List.append_assoc] using L9.out
          · have hq : ((j : Int) == (n : Int) - 1) = false := by rw [beq_eq_false_iff_ne]; omega
            have HNX : Hid ((if j = n - 1 then 0 else 28) = 28) := Lib.hid (if_neg hlast)
            clear hlast
            go_wp2_with fail
            clear hq
            refine (lay_ls HLS.out (1) 2 (by omega) (by omega) (by decide) (by omega) rfl).mono ?_
            rintro e wl10 ⟨adl10, cl10, rfl, hl10, -⟩
            have L10 := Lib.hid hl10
            clear hl10
            go_wp2_with fail
            refine (lay_ls L10.out (0) 2 (by omega) (by omega) (by decide) (by omega) rfl).mono ?_
            rintro e wl11 ⟨adl11, cl11, rfl, hl11, -⟩
            have L11 := Lib.hid hl11
            clear hl11 L10
            go_wp2_with fail
            refine (lay_ls L11.out (j + 1) 2 (by omega) (by omega) (by decide) (by omega) rfl).mono ?_
            rintro e wl12 ⟨adl12, cl12, rfl, hl12, -⟩
            have L12 := Lib.hid hl12
            clear hl12 L11
            go_wp2_with fail
            refine (lay_ls L12.out (1) 2 (by omega) (by omega) (by decide) (by omega) rfl).mono ?_
            rintro e wl13 ⟨adl13, cl13, rfl, hl13, -⟩
            have L13 := Lib.hid hl13
            clear hl13 L12
            have hb9 := HC0.out _ L13.out.bel
            go_wp2_with fail
            clear hb9
            refine (HSY.out _).mono ?_
            rintro e w9 ⟨rfl, rfl⟩
            go_wp2_with fail
            refine (lay_ls L13.out (sv) 4 (by omega) (by omega) (by decide) (by omega) rfl).mono ?_
            rintro e wl14 ⟨adl14, cl14, rfl, hl14, -⟩
            have L14 := Lib.hid hl14
            clear hl14
            go_wp2_with fail
            refine (lay_ls L14.out (20) 4 (by omega) (by omega) (by decide) (by omega) rfl).mono ?_
            rintro e wl15 ⟨adl15, cl15, rfl, hl15, -⟩
            have L15 := Lib.hid hl15
            clear hl15 L14
            go_wp2_with fail
            refine (lay_ls L15.out (28) 4 (by omega) (by omega) (by decide) (by omega) rfl).mono ?_
            rintro e wl16 ⟨adl16, cl16, rfl, hl16, -⟩
            have L16 := Lib.hid hl16
            clear hl16 L15
            have hb9 := HC1.out _ L16.out.bel
            go_wp2_with fail
            clear hb9
            refine (lay_ls L16.out (av) 4 (by omega) (by omega) (by decide) (by omega) rfl).mono ?_
            rintro e wl17 ⟨adl17, cl17, rfl, hl17, -⟩
            have L17 := Lib.hid hl17
            clear hl17
            go_wp2_with fail
            refine (lay_ls L17.out (0) 4 (by omega) (by omega) (by decide) (by omega) rfl).mono ?_
            rintro e wl18 ⟨adl18, cl18, rfl, hl18, -⟩
            have L18 := Lib.hid hl18
            clear hl18 L17
            go_wp2_with fail
            have e9 : 28 * (j + 1) = 28 * j + 2 + 2 + 2 + 2 + 4 + 4 + 4 + 4 + 4 := by omega
            go_roundg g
            case measure => omega
            case rel =>
              refine ⟨j + 1, _, _, by omega, by go_num, by rw [e9], Lib.hid ?_⟩
              rw [e9, tabE_succ]
              have hE : defE at_ syD n j = digs 1 2 ++ digs 0 2 ++ digs (j + 1) 2 ++ digs 1 2 ++ digs sv 4 ++ digs 20 4 ++ digs 28 4 ++ (digs av 4 ++ digs 0 4) := by unfold defE; rw [HNX.out, HAVA.out, HSVA.out]
              rw [hE]
              simpa only [List.append_assoc] using L18.out
    | succ g =>
      have hkQ : k < Q := by omega
      have hkT : k < T.length := by rw [HQ.out]; exact hkQ
      obtain ⟨b, o, rfl, hbl, hc0⟩ := TR.out k hkT
      have hck : wr.cell? ⟨b, o + k, none⟩ = some (.string (T.getD k .empty)) := by rw [BW.out.cell (p := ⟨b, o + k, none⟩) hbl]; exact hc0
      have HCK : Hid (∀ w1, Below w6.heap.size w6 w1 → w1.cell? ⟨b, o + k, none⟩ = some (.string (T.getD k .empty))) := Lib.hid (fun w1 h => by rw [h.cell (p := ⟨b, o + k, none⟩) hbl]; exact hc0)
      have HBS := Lib.hid (bulk_succ T k hkT)
      have HTL := Lib.hid (tabL_succ T k hkT)
      have HPS := Lib.hid (posL_succ T k)
      have HTN := Lib.hid (tabL_len (T.take k))
      have hts := HTS.out k
      have hbk := HBK.out
      have HNX : Hid (namedF (T.getD k .empty) = true → ∀ j, j < k + 1 → namedF (T.getD j .empty) = true) := Lib.hid (fun h j hj => by
        rcases Nat.lt_or_ge j k with h1 | h1
        · exact HNM.out j h1
        · rw [show j = k by omega]; exact h)
      obtain ⟨t, ht⟩ : ∃ t, T.getD k .empty = t := ⟨_, rfl⟩
      rw [ht] at hck HCK HBS HTL hts HNX
      obtain ⟨K, hK⟩ : ∃ K, bulkT (T.take k) = K := ⟨_, rfl⟩
      rw [hK] at HBS HTN OS hbk HBK ⊢
      have hdn : (some (⟨b, o, none⟩ : Addr)) = some ⟨b, o, none⟩ := rfl
      clear ht hK hc0 hdn
      go_wp2_with fail
      refine (named_any t wr (by omega)).mono ?_
      rintro e w' ⟨rfl, rfl⟩
      cases hnt : namedF t with
      | false =>
        go_wp2_with fail
        go_ret
        exact ⟨rfl, bstep B6.out BW.out⟩
      | true =>
        have HNT := Lib.hid (HNX.out hnt)
        obtain ⟨hz, hsz, -⟩ := named_no hnt
        have HSZ := Lib.hid hsz
        have BS := Lib.hid BW.out.size
        have HPL : Hid ((toI (posL T k)).length = k) := Lib.hid (by rw [toI_length, posL_length])
        clear hnt HNX hz
        go_wp2_with (at_builtin; first
          | (refine wpList_push_k rfl (.tmp 71) (.tmp 74) sliceInt rfl w6.heap.size w6 (.slice ad2 k c2) (toI (posL T k)) k (K + 1) rfl (by rfl) HPL.out OA.out (by unfold maxLen; omega) (by omega) BW.out BS.out ?_; intro ad3 c3 w3 hown3 hbe3 hkp3; have OA3 := Lib.hid hown3; have OS3 := Lib.hid (hkp3 _ _ _ _ _ (by decide) (OS.out)); have B3 := Lib.hid hbe3; have BS3 := Lib.hid hbe3.size; have hck3 := HCK.out _ hbe3; clear hown3 hbe3 hkp3)
          | (refine wpList_text rfl (.tmp 76) (.tmp 80) slice8m Try.underlying9 rfl w6.heap.size w6 (.slice ad1 (K + 1) c1) (tabL (T.take k)) (K + 1) t rfl rfl HTN.out OS3.out (by omega) B3.out BS3.out ?_; intro ad4 c4 w4 hown4 hbe4 hkp4; have OS4 := Lib.hid hown4; have OA4 := Lib.hid (hkp4 _ _ _ _ _ (by decide) OA3.out); have B4 := Lib.hid hbe4; have BS4 := Lib.hid hbe4.size; have HTM := Lib.hid (show (tabL (T.take k) ++ bI t).length = K + 1 + t.size by rw [List.length_append, bI_length, HTN.out]); clear hown4 hbe4 hkp4)
          | (refine wpList_push_k rfl (.tmp 82) (.tmp 83) slice8m rfl w6.heap.size w6 (.slice ad4 (K + 1 + t.size) c4) (tabL (T.take k) ++ bI t) (K + 1 + t.size) 0 rfl (by rfl) HTM.out OS4.out (by unfold maxLen; omega) (by omega) B4.out BS4.out ?_; intro ad5 c5 w8 hown5 hbe5 hkp5; have OS5 := Lib.hid hown5; have OA5 := Lib.hid (hkp5 _ _ _ _ _ (by decide) OA4.out); have B5 := Lib.hid hbe5; clear hown5 hbe5 hkp5))
        go_roundg g
        case measure => omega
        case rel =>
          have e6 : K + (t.size + 1) + 1 = K + 1 + t.size + 1 := by omega
          refine ⟨k + 1, ad5, ad3, c5, c3, by omega, by go_num, by rw [HBS.out, e6], rfl, Lib.hid ?_, Lib.hid ?_, B5, HNT, Lib.hid ?_⟩
          · rw [HBS.out, HTL.out, e6]; exact OS5.out
          · rw [HPS.out, toI_append, HTN.out, show toI [K + 1] = [(K : Int) + 1] by simp [toI]]; exact OA5.out
          · rw [HBS.out]; have := HSZ.out; omega
end Go.Proofs.Ytikpkblemegggaa

