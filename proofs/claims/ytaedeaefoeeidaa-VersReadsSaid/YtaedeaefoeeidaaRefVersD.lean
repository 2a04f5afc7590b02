/- Layer 8, the document's own answer: the versions of a need. -/
import Derived.Test.YtaedeaefoeeidaaRefVersC
namespace Go.Proofs.Ytaedeaefoeeidaa
open Go.RowKit Go.Maps
set_option linter.unusedVariables false
set_option linter.unusedSimpArgs false

/-- versions that are answered, and an error's number -/
def VsAns (r : RRef) (wc : World) (g : Nat) (X : (List Nat × List AuxD) × Nat) (w : World) (e : Ending) (w' : World) : Prop :=
  ∃ ad n c, e = .returned (.tuple #[.slice ad n c, .int .i64 (X.2 : Int)]) ∧ (X.2 = 0 → n = X.1.2.length ∧ St r wc g X.1.1 w' ∧ OwnS w' wc.heap.size 82 3 (.slice ad X.1.2.length c) (auxRows X.1.2) ∧ KT w w') ∧ Below wc.heap.size wc w'
theorem VsAns.no {r : RRef} {wc : World} {g : Nat} {X : (List Nat × List AuxD) × Nat} {w w' : World} {c : Nat} (hX : X.2 = c) (hc : c ≠ 0) (hb : Below wc.heap.size wc w') : VsAns r wc g X w (.returned (.tuple #[.slice none 0 0, .int .i64 (c : Int)])) w' :=
  ⟨none, 0, 0, by rw [hX], fun h => absurd (hX.symm.trans h) hc, hb⟩

set_option maxRecDepth 100000 in
set_option maxHeartbeats 16000000 in
theorem refVersions_any (r : RRef) (wc : World) (g : Nat) (told0 : List Nat) (fr0 st0 m : Nat) (w : World) (h : St r wc g told0 w) (h1 : fr0 < 18446744073709551616) (h2 : st0 < 18446744073709551616) (hm : m ≤ 64) :
    Calls Try.prog 38 #[.pointer (some ⟨g, 0, none⟩), .int .u64 (fr0 : Int), .int .u64 (st0 : Int), .int .i64 (m : Int)] w (VsAns r wc g (chainV (auxStep r.ss) r.bs r.ps 16 m fr0 st0 (told0, [])) w) := by
  obtain ⟨X, hX⟩ : ∃ X, chainV (auxStep r.ss) r.bs r.ps 16 m fr0 st0 (told0, []) = X := ⟨_, rfl⟩
  have HX := Lib.hid hX
  have HS := Lib.hid h
  have HSW := Lib.hid h.bel.size
  have HF := Lib.hid (And.intro h1 h2)
  rw [hX]
  clear h h1 h2 hX
  go_enter Try.func38, Try.ntmps38
  go_wp2_with fail
  go_loopg [1, 2, 10, 11] m (fun gg ad by_ out i wr => ∃ (k fr st : Nat) (oa : Option Addr) (oc : Nat) (told : List Nat) (l : List AuxD), k + gg = m ∧ ad = .int .u64 (fr : Int) ∧ by_ = .int .u64 (st : Int) ∧ out = .slice oa k oc ∧ i = .int .i64 (k : Int) ∧ Hid (fr < 18446744073709551616 ∧ st < 18446744073709551616) ∧ Hid (l.length = k) ∧ Hid (St r wc g told wr) ∧ Hid (OwnS wr w.heap.size 82 3 (.slice oa k oc) (auxRows l)) ∧ Hid (KT w wr) ∧ Hid (chainV (auxStep r.ss) r.bs r.ps 16 gg fr st (told, l) = X))
  case atStart => exact ⟨0, fr0, st0, none, 0, told0, [], by omega, rfl, rfl, rfl, rfl, HF, Lib.hid rfl, HS, Lib.hid (OwnS.nil _ _ _ _), Lib.hid (KT.refl _), HX⟩
  case round =>
    obtain ⟨k, fr, st, oa, oc, told, l, hk, rfl, rfl, rfl, rfl, HFS, HL, HR, HO, HK, HC⟩ := hrel
    clear HX HF HS
    cases gk with
    | zero =>
      obtain rfl : k = m := by omega
      go_wp2_with fail
      go_ret2
      have hx := HC.out
      rw [chainV_zero] at hx
      subst hx
      exact ⟨oa, k, oc, rfl, fun _ => ⟨HL.out.symm, HR.out, by rw [HL.out]; exact HO.out.mono HSW.out, HK.out⟩, HR.out.bel⟩
    | succ g1 =>
      have hkm : k < m := by omega
      rcases itemF_two r.bs r.ps fr st 16 (show ∀ x ∈ r.bs, x < 256 from HR.out.good.hb.2) with ⟨b, at_, hI, hbl, hat, hb256⟩ | ⟨at_, hI⟩
      · have HE := Lib.hid (HR.out.yes HFS.out.1 HFS.out.2 (by decide) hI hbl)
        obtain ⟨T, hT⟩ : ∃ T, textF r.ss (numOf ((b.drop 8).take 4)) = T := ⟨_, rfl⟩
        have htsz := textF_size r.ss (numOf ((b.drop 8).take 4))
        rw [hT] at htsz
        obtain ⟨t, ct⟩ := T
        have b0 := numOf_four b hb256 0
        have b4 := numOf_two b hb256 4
        have b6 := numOf_two b hb256 6
        have b8 := numOf_four b hb256 8
        have b12 := numOf_four b hb256 12
        have hd : (b.drop 12).take 4 = b.drop (16 - 4) := List.take_of_length_le (by rw [List.length_drop, hbl]; decide)
        have NB : ∀ i j : Nat, i < j → j ≤ 16 → j - i ≤ 8 → ∀ (wx : World) (ad : Option Addr) (c : Nat), BRow wx ad b → 16 ≤ c → _ := fun i j h1 h2 h3 wx ad c hr hc => refN_at ad c 16 b i j wx hr hbl hc (by decide) h1 h2 h3
        have HN0 := Lib.hid (NB 0 4 (by decide) (by decide) (by decide))
        have HN4 := Lib.hid (NB 4 6 (by decide) (by decide) (by decide))
        have HN6 := Lib.hid (NB 6 8 (by decide) (by decide) (by decide))
        have HN8 := Lib.hid (NB 8 12 (by decide) (by decide) (by decide))
        have HN12 := Lib.hid (NB 12 16 (by decide) (by decide) (by decide))
        simp only [show 4 - 0 = 4 from rfl, show 6 - 4 = 2 from rfl, show 8 - 6 = 2 from rfl, show 12 - 8 = 4 from rfl, show 16 - 12 = 4 from rfl] at HN0 HN4 HN6 HN8 HN12
        have HT := Lib.hid (fun (wx : World) (hx : St r wc g told wx) => hx.text _ (Nat.lt_trans b8 (by decide)) hT)
        have hsy := sysOf_lt t.data.toList
        have HSY := Lib.hid (fun (wx : World) => refSysv t wx (by simp only at htsz; omega))
        have e0 : b.take 4 = (b.drop 0).take 4 := rfl
        have HC0 : Hid (ct ≠ 0 → X.2 = ct) := Lib.hid (fun hc => by
          rw [← HC.out, chainV_read (s' := (told, l ++ [AuxD.zero])) (c := ct) hI ?_ hc]
          unfold auxStep auxF
          rw [hT, if_pos hc])
        have HCA : Hid (ct = 0 → (sysOf t.data.toList ≠ numOf ((b.drop 0).take 4) ∨ numOf ((b.drop 6).take 2) % 32768 < 2) → X.2 = 3) := Lib.hid (fun h0 hc => by
          rw [← HC.out, chainV_read (s' := (told, l ++ [AuxD.zero])) (c := 3) hI ?_ (by decide)]
          unfold auxStep auxF
          rw [hT, if_neg (by simpa using h0), if_pos (by simpa using hc)])
        have HCB : Hid (ct = 0 → ¬ (sysOf t.data.toList ≠ numOf ((b.drop 0).take 4) ∨ numOf ((b.drop 6).take 2) % 32768 < 2) → numOf ((b.drop 6).take 2) % 32768 ∈ told → X.2 = 5) := Lib.hid (fun h0 hc hm => by
          rw [← HC.out, chainV_read (s' := (told, l ++ [AuxD.zero])) (c := 5) hI ?_ (by decide)]
          unfold auxStep auxF
          rw [hT, if_neg (by simpa using h0), if_neg (by simpa using hc), if_pos hm])
        have HCS : Hid (ct = 0 → ¬ (sysOf t.data.toList ≠ numOf ((b.drop 0).take 4) ∨ numOf ((b.drop 6).take 2) % 32768 < 2) → ¬ numOf ((b.drop 6).take 2) % 32768 ∈ told → auxStep r.ss (told, l) b at_ = ((told ++ [numOf ((b.drop 6).take 2) % 32768], l ++ [⟨numOf ((b.drop 6).take 2) % 32768, decide (numOf ((b.drop 4).take 2) / 2 % 2 = 1), t⟩]), 0)) := Lib.hid (fun h0 hc hm => by
          unfold auxStep auxF
          rw [hT, if_neg (by simpa using h0), if_neg (by simpa using hc), if_neg hm])
        have HC1 : Hid (ct = 0 → ¬ (sysOf t.data.toList ≠ numOf ((b.drop 0).take 4) ∨ numOf ((b.drop 6).take 2) % 32768 < 2) → ¬ numOf ((b.drop 6).take 2) % 32768 ∈ told → numOf (b.drop (16 - 4)) = 0 → 0 < g1 → X.2 = 3) := Lib.hid (fun h0 hc hm hz hg => by rw [← HC.out, chainV_form hI (HCS.out h0 hc hm) hz hg])
        have HC2 : Hid (ct = 0 → ¬ (sysOf t.data.toList ≠ numOf ((b.drop 0).take 4) ∨ numOf ((b.drop 6).take 2) % 32768 < 2) → ¬ numOf ((b.drop 6).take 2) % 32768 ∈ told → ¬ (numOf (b.drop (16 - 4)) = 0 ∧ 0 < g1) → chainV (auxStep r.ss) r.bs r.ps 16 g1 at_ (numOf (b.drop (16 - 4))) (told ++ [numOf ((b.drop 6).take 2) % 32768], l ++ [⟨numOf ((b.drop 6).take 2) % 32768, decide (numOf ((b.drop 4).take 2) / 2 % 2 = 1), t⟩]) = X) := Lib.hid (fun h0 hc hm hz => by rw [← HC.out, chainV_on hI (HCS.out h0 hc hm) hz])
        rw [← hd] at HC1 HC2
        have HAT := Lib.hid hat
        clear hI hT hd hb256 hat HC NB e0 HCS htsz hbl
        obtain ⟨x, hx⟩ : ∃ x, numOf ((b.drop 6).take 2) % 32768 = x := ⟨_, rfl⟩
        rw [hx] at HCA HCB HC1 HC2
        have hxi : ((numOf ((b.drop 6).take 2) : Nat) : Int) % 32768 = (x : Int) := by rw [← hx]; omega
        have hx15 : x < 32768 := by omega
        clear hx
        have HHAD := Lib.hid (fun (wx : World) (hs : St r wc g told wx) => hs.had x hx15)
        obtain ⟨sy, hsyE⟩ : ∃ sy, sysOf t.data.toList = sy := ⟨_, rfl⟩
        rw [hsyE] at hsy HSY HCA HCB HC1 HC2
        clear hsyE
        generalize numOf ((b.drop 0).take 4) = q0 at *
        generalize numOf ((b.drop 4).take 2) = q4 at *
        generalize numOf ((b.drop 6).take 2) = q6 at *
        generalize numOf ((b.drop 8).take 4) = q8 at *
        generalize numOf ((b.drop 12).take 4) = q at *
        generalize at_ = at1 at *
        go_wp2_with fail
        refine HE.out.mono ?_
        rintro e w1 ⟨ad, c, rfl, hr, hc16, hb1⟩
        have HR1 := Lib.hid (HR.out.below hb1)
        have HK1 := Lib.hid (HK.out.trans (KT.below hb1))
        have HO1 := Lib.hid (HO.out.below hb1)
        have c4 := HR1.out.c4
        have BRC := Lib.hid hr
        have M12 := Lib.hid (fun (wx : World) (hbx : Below wc.heap.size wc wx) => HN12.out wx ad c (hr.below hbx) hc16)
        have M8 := Lib.hid (fun (wx : World) (hbx : Below wc.heap.size wc wx) => HN8.out wx ad c (hr.below hbx) hc16)
        have M6 := Lib.hid (fun (wx : World) (hbx : Below wc.heap.size wc wx) => HN6.out wx ad c (hr.below hbx) hc16)
        have M4 := Lib.hid (fun (wx : World) (hbx : Below wc.heap.size wc wx) => HN4.out wx ad c (hr.below hbx) hc16)
        have M0 := Lib.hid (fun (wx : World) (hbx : Below wc.heap.size wc wx) => HN0.out wx ad c (hr.below hbx) hc16)
        clear hr hb1 HE HR HO HK HN0 HN4 HN6 HN8 HN12
        go_wp2_with (go_at_call 18; refine (M12.out _ HR1.out.bel).mono ?_; rintro e w' ⟨rfl, rfl⟩)
        go_quiet (first | (go_at_call 18; exact Calls.quiet_eq (M8.out _ (HR1.out.below (below_drewN (Below.refl _ _) _)).bel)) | (go_at_call 37; exact Calls.quiet_eq (HT.out _ (HR1.out.below (below_drewN (Below.refl _ _) _)))))
        have BD : Below w1.heap.size w1 (w1.drewN nq) := below_drewN (Below.refl _ _) _
        have HR2 := Lib.hid (HR1.out.below BD)
        have HK2 := Lib.hid (HK1.out.trans (KT.below BD))
        have HO2 := Lib.hid (HO1.out.below BD)
        have HB2 := Lib.hid HR2.out.bel
        clear BD HR1 HK1 HO1 c4 HT M12 M8
        generalize w1.drewN nq = w2 at *
        have HAD2 := Lib.hid (HHAD.out w2 HR2.out)
        have L6 := Lib.hid (M6.out w2 HB2.out)
        have L0 := Lib.hid (M0.out w2 HB2.out)
        clear HHAD M6 M0
        by_cases h0 : ct = 0
        · subst h0
          by_cases hA : sy ≠ q0 ∨ x < 2
          · have HX3 := Lib.hid (HCA.out rfl hA)
            clear HC0 HCA HCB HC1 HC2
            by_cases hs : sy = q0
            · have hx2 : (x : Int) < 2 := by omega
              subst hs
              have hsq : ((sy : Int) != (sy : Int)) = false := by simp
              clear hA
              go_wp2_with fail
              refine L6.out.mono ?_
              rintro e w' ⟨rfl, rfl⟩
              go_wp2_with fail
              refine HAD2.out.mono ?_
              rintro e w' ⟨rfl, rfl⟩
              go_wp2_with fail
              refine (HSY.out _).mono ?_
              rintro e w' ⟨rfl, rfl⟩
              go_wp2_with fail
              refine L0.out.mono ?_
              rintro e w' ⟨rfl, rfl⟩
              go_wp2_with fail
              go_ret2
              exact VsAns.no (c := 3) HX3.out (by decide) HB2.out
            · have hsq : ((sy : Int) != (q0 : Int)) = true := by rw [bne_iff_ne]; omega
              clear hA
              go_wp2_with fail
              refine L6.out.mono ?_
              rintro e w' ⟨rfl, rfl⟩
              go_wp2_with fail
              refine HAD2.out.mono ?_
              rintro e w' ⟨rfl, rfl⟩
              go_wp2_with fail
              refine (HSY.out _).mono ?_
              rintro e w' ⟨rfl, rfl⟩
              go_wp2_with fail
              refine L0.out.mono ?_
              rintro e w' ⟨rfl, rfl⟩
              go_wp2_with fail
              go_ret2
              exact VsAns.no (c := 3) HX3.out (by decide) HB2.out
          · have hs : sy = q0 := by omega
            have hx2 : ¬ (x : Int) < 2 := by omega
            have hx1 : 1 ≤ x := by omega
            by_cases hm : x ∈ told
            · have HX5 := Lib.hid (HCB.out rfl hA hm)
              have hdm : decide (x ∈ told) = true := decide_eq_true hm
              clear HC0 HCA HCB HC1 HC2 hA hm
              subst hs
              have hsq : ((sy : Int) != (sy : Int)) = false := by simp
              generalize decide (x ∈ told) = dm at *
              subst hdm
              go_wp2_with fail
              refine L6.out.mono ?_
              rintro e w' ⟨rfl, rfl⟩
              go_wp2_with fail
              refine HAD2.out.mono ?_
              rintro e w' ⟨rfl, rfl⟩
              go_wp2_with fail
              refine (HSY.out _).mono ?_
              rintro e w' ⟨rfl, rfl⟩
              go_wp2_with fail
              refine L0.out.mono ?_
              rintro e w' ⟨rfl, rfl⟩
              go_wp2_with fail
              go_ret2
              exact VsAns.no (c := 5) HX5.out (by decide) HB2.out
            · have hdm : decide (x ∈ told) = false := decide_eq_false hm
              by_cases hz : q = 0 ∧ 0 < g1
              · have HX3 := Lib.hid (HC1.out rfl hA hm hz.1 hz.2)
                obtain ⟨rfl, hg1⟩ := hz
                clear HC0 HCA HCB HC1 HC2 hA hm
                subst hs
                have hsq : ((sy : Int) != (sy : Int)) = false := by simp
                generalize decide (x ∈ told) = dm at *
                subst hdm
                go_wp2_with fail
                refine L6.out.mono ?_
                rintro e w' ⟨rfl, rfl⟩
                go_wp2_with fail
                refine HAD2.out.mono ?_
                rintro e w' ⟨rfl, rfl⟩
                go_wp2_with fail
                refine (HSY.out _).mono ?_
                rintro e w' ⟨rfl, rfl⟩
                go_wp2_with fail
                refine L0.out.mono ?_
                rintro e w' ⟨rfl, rfl⟩
                go_wp2_with fail
                go_ret2
                exact VsAns.no (c := 3) HX3.out (by decide) HB2.out
              · have HC3 := Lib.hid (HC2.out rfl hA hm hz)
                have hbit : (((q4 : Int) / 2 % 2) == 1) = decide (q4 / 2 % 2 = 1) := by rw [Bool.eq_iff_iff, beq_iff_eq, decide_eq_true_eq]; omega
                generalize decide (q4 / 2 % 2 = 1) = bt at *
                have HNM := Lib.hid hm
                clear HC0 HCA HCB HC1 HC2 hA hm
                subst hs
                have hsq : ((sy : Int) != (sy : Int)) = false := by simp
                generalize decide (x ∈ told) = dm at *
                subst hdm
                obtain ⟨ta, tc, hbx, how⟩ := HR2.out.box
                have c5 : w2.cell? ⟨g, 5, none⟩ = some (.slice ta told.length tc) := hbx.cell
                have HBX := Lib.hid hbx
                have HOW := Lib.hid how
                have hsz := HB2.out.size
                have HSZ := Lib.hid hsz
                have hlen := HR2.out.tol.len
                obtain ⟨tn, htn⟩ : ∃ tn, told.length = tn := ⟨_, rfl⟩
                have HTN := Lib.hid htn
                rw [htn] at c5 HBX HOW hlen
                have HTI : Hid ((toI told).length = tn) := Lib.hid (by rw [toI_length]; exact htn)
                clear hbx how hsz htn
                by_cases hq0 : q = 0
                · have hgl : ¬ 0 < g1 := fun h => hz ⟨hq0, h⟩
                  have hkm2 : ¬ k + 1 < m := by omega
                  subst hq0
                  clear hz
                  go_wp2_with fail
                  refine L6.out.mono ?_
                  rintro e w' ⟨rfl, rfl⟩
                  go_wp2_with fail
                  refine HAD2.out.mono ?_
                  rintro e w' ⟨rfl, rfl⟩
                  go_wp2_with fail
                  refine (HSY.out _).mono ?_
                  rintro e w' ⟨rfl, rfl⟩
                  go_wp2_with fail
                  refine L0.out.mono ?_
                  rintro e w' ⟨rfl, rfl⟩
                  go_wp2_with (at_builtin; refine wpList_grow rfl (.tmp 83) (.tmp 85) sliceInt rfl wc.heap.size (.slice ta tn tc) (toI told) tn (x : Int) rfl rfl HTI.out HOW.out (by unfold maxLen; omega) (by omega) HSZ.out ?_; intro ta2 tc2 w3 ho3 hg3; have HO3 := Lib.hid ho3; have HG3 := Lib.hid hg3; have cb5 := ((HBX.out.alloc _).grown HG3.out (HBX.out.apart HOW.out (by decide))).cell; have cf5 := ((HBX.out.alloc _).grown HG3.out (HBX.out.apart HOW.out (by decide))).free 5; simp only [RRef.pre, List.size_toArray, List.length_cons, List.length_nil, Nat.zero_add, Nat.reduceAdd] at cb5; clear ho3 hg3)
                  have htell := HR2.out.tell (x := x) (tc := tc) (by rw [HTN.out]; exact HBX.out) (by rw [HTN.out]; exact HOW.out) _ (by rw [HTN.out]; exact HG3.out) (by rw [HTN.out]; exact HO3.out) hx1 hx15 HNM.out
                  rw [HTN.out] at htell
                  have HR4 := Lib.hid htell.1
                  have HK4 := Lib.hid (HK2.out.trans htell.2)
                  have HO4 := Lib.hid (htell.2.ownS HO2.out (by decide) (by decide))
                  clear htell HO3 HG3 cb5 cf5 c5 HBX HOW HR2 HK2 HO2 HB2 HSZ
                  generalize (w3.setCell ⟨g, 5, none⟩ (.slice ta2 (tn + 1) tc2)) = w4 at *
                  have HSZ4 := Lib.hid HK4.out.size
                  have HLL : Hid ((auxRows l).length = k) := Lib.hid (by rw [auxRows, List.length_map]; exact HL.out)
                  refine (M4.out w4 HR4.out.bel).mono ?_
                  rintro e w' ⟨rfl, rfl⟩
                  go_wp2_with (at_builtin; refine wpList_grow_row rfl (.tmp 89) (.tmp 98) rowAux rfl w.heap.size (.slice oa k oc) (auxRows l) k [.int .i64 (x : Int), .bool bt, .string t] rfl rfl HLL.out rfl (by intro u hu; simp only [List.mem_cons, List.not_mem_nil, or_false] at hu; rcases hu with rfl | rfl | rfl <;> rfl) HO4.out (by unfold maxLen; omega) (by omega) HSZ4.out ?_; intro oa2 oc2 w5 ho5 hg5; have HO5 := Lib.hid ho5; have HR5 := Lib.hid (HR4.out.grew HSW.out HO4.out _ hg5 (by decide) (by decide)); have HK5 := Lib.hid (HK4.out.grew HO4.out _ hg5); clear ho5 hg5)
                  go_roundg g1
                  case measure => omega
                  case rel => exact ⟨k + 1, at1, 0, oa2, oc2, told ++ [x], l ++ [⟨x, bt, t⟩], by omega, rfl, rfl, rfl, by go_num, Lib.hid ⟨HAT.out, by omega⟩, Lib.hid (by rw [List.length_append, HL.out]; rfl), HR5, Lib.hid (by rw [auxRows, List.map_append]; exact HO5.out), HK5, HC3⟩
                · have hqi : ((q : Int) == 0) = false := by rw [beq_eq_false_iff_ne]; omega
                  clear hz
                  go_wp2_with fail
                  refine L6.out.mono ?_
                  rintro e w' ⟨rfl, rfl⟩
                  go_wp2_with fail
                  refine HAD2.out.mono ?_
                  rintro e w' ⟨rfl, rfl⟩
                  go_wp2_with fail
                  refine (HSY.out _).mono ?_
                  rintro e w' ⟨rfl, rfl⟩
                  go_wp2_with fail
                  refine L0.out.mono ?_
                  rintro e w' ⟨rfl, rfl⟩
                  go_wp2_with (at_builtin; refine wpList_grow rfl (.tmp 83) (.tmp 85) sliceInt rfl wc.heap.size (.slice ta tn tc) (toI told) tn (x : Int) rfl rfl HTI.out HOW.out (by unfold maxLen; omega) (by omega) HSZ.out ?_; intro ta2 tc2 w3 ho3 hg3; have HO3 := Lib.hid ho3; have HG3 := Lib.hid hg3; have cb5 := ((HBX.out.alloc _).grown HG3.out (HBX.out.apart HOW.out (by decide))).cell; have cf5 := ((HBX.out.alloc _).grown HG3.out (HBX.out.apart HOW.out (by decide))).free 5; simp only [RRef.pre, List.size_toArray, List.length_cons, List.length_nil, Nat.zero_add, Nat.reduceAdd] at cb5; clear ho3 hg3)
                  have htell := HR2.out.tell (x := x) (tc := tc) (by rw [HTN.out]; exact HBX.out) (by rw [HTN.out]; exact HOW.out) _ (by rw [HTN.out]; exact HG3.out) (by rw [HTN.out]; exact HO3.out) hx1 hx15 HNM.out
                  rw [HTN.out] at htell
                  have HR4 := Lib.hid htell.1
                  have HK4 := Lib.hid (HK2.out.trans htell.2)
                  have HO4 := Lib.hid (htell.2.ownS HO2.out (by decide) (by decide))
                  clear htell HO3 HG3 cb5 cf5 c5 HBX HOW HR2 HK2 HO2 HB2 HSZ
                  generalize (w3.setCell ⟨g, 5, none⟩ (.slice ta2 (tn + 1) tc2)) = w4 at *
                  have HSZ4 := Lib.hid HK4.out.size
                  have HLL : Hid ((auxRows l).length = k) := Lib.hid (by rw [auxRows, List.length_map]; exact HL.out)
                  refine (M4.out w4 HR4.out.bel).mono ?_
                  rintro e w' ⟨rfl, rfl⟩
                  go_wp2_with (at_builtin; refine wpList_grow_row rfl (.tmp 89) (.tmp 98) rowAux rfl w.heap.size (.slice oa k oc) (auxRows l) k [.int .i64 (x : Int), .bool bt, .string t] rfl rfl HLL.out rfl (by intro u hu; simp only [List.mem_cons, List.not_mem_nil, or_false] at hu; rcases hu with rfl | rfl | rfl <;> rfl) HO4.out (by unfold maxLen; omega) (by omega) HSZ4.out ?_; intro oa2 oc2 w5 ho5 hg5; have HO5 := Lib.hid ho5; have HR5 := Lib.hid (HR4.out.grew HSW.out HO4.out _ hg5 (by decide) (by decide)); have HK5 := Lib.hid (HK4.out.grew HO4.out _ hg5); clear ho5 hg5)
                  go_roundg g1
                  case measure => omega
                  case rel => exact ⟨k + 1, at1, q, oa2, oc2, told ++ [x], l ++ [⟨x, bt, t⟩], by omega, rfl, rfl, rfl, by go_num, Lib.hid ⟨HAT.out, by omega⟩, Lib.hid (by rw [List.length_append, HL.out]; rfl), HR5, Lib.hid (by rw [auxRows, List.map_append]; exact HO5.out), HK5, HC3⟩
        · have hct : ((ct : Int) != 0) = true := by rw [bne_iff_ne]; omega
          have HX0 := Lib.hid (HC0.out h0)
          clear HC0 HCA HCB HC1 HC2
          go_wp2_with fail
          go_ret2
          exact VsAns.no HX0.out h0 HB2.out
      · have HE := Lib.hid (HR.out.no HFS.out.1 HFS.out.2 (by decide) hI)
        have HX4 : Hid (X.2 = 4) := Lib.hid (by rw [← HC.out, chainV_item hI (by decide)])
        clear hI HC
        go_wp2_with fail
        refine HE.out.mono ?_
        rintro e w1 ⟨x, ad, c, rfl, hb1⟩
        have HR1 := Lib.hid (HR.out.below hb1)
        clear hb1
        go_wp2_with fail
        go_ret2
        exact VsAns.no (c := 4) HX4.out (by decide) HR1.out.bel
end Go.Proofs.Ytaedeaefoeeidaa
