/- Layer 8, the document's own answer: all that is needed of other objects. -/
import Derived.Test.YtaedeaefoeeidaaRefVersD
namespace Go.Proofs.Ytaedeaefoeeidaa
open Go.RowKit Go.Maps
set_option linter.unusedVariables false
set_option linter.unusedSimpArgs false

/-- needs that are answered, and an error's number -/
def NsAns (r : RRef) (wc : World) (g : Nat) (X : (List Nat × List NeedD) × Nat) (w : World) (e : Ending) (w' : World) : Prop :=
  ∃ ad n c, e = .returned (.tuple #[.slice ad n c, .int .i64 (X.2 : Int)]) ∧ (X.2 = 0 → n = X.1.2.length ∧ St r wc g X.1.1 w' ∧ (∃ rows, OwnS w' wc.heap.size 80 2 (.slice ad X.1.2.length c) rows ∧ NeedRows w' wc.heap.size X.1.2 rows) ∧ KT w w') ∧ Below wc.heap.size wc w'
theorem NsAns.no {r : RRef} {wc : World} {g : Nat} {X : (List Nat × List NeedD) × Nat} {w w' : World} {c : Nat} (hX : X.2 = c) (hc : c ≠ 0) (hb : Below wc.heap.size wc w') : NsAns r wc g X w (.returned (.tuple #[.slice none 0 0, .int .i64 (c : Int)])) w' :=
  ⟨none, 0, 0, by rw [hX], fun h => absurd (hX.symm.trans h) hc, hb⟩

set_option maxRecDepth 100000 in
set_option maxHeartbeats 16000000 in
theorem refNeeds_any (r : RRef) (wc : World) (g : Nat) (told0 : List Nat) (fr0 m : Nat) (w : World) (h : St r wc g told0 w) (h1 : fr0 < 18446744073709551616) (hm : m ≤ 64) :
    Calls Try.prog 17 #[.pointer (some ⟨g, 0, none⟩), .int .u64 (fr0 : Int), .int .u64 (m : Int)] w (NsAns r wc g (chainV (needStep r.bs r.ps r.ss) r.bs r.ps 16 m fr0 0 (told0, [])) w) := by
  obtain ⟨X, hX⟩ : ∃ X, chainV (needStep r.bs r.ps r.ss) r.bs r.ps 16 m fr0 0 (told0, []) = X := ⟨_, rfl⟩
  have HX := Lib.hid hX
  have HS := Lib.hid h
  have HSW := Lib.hid h.bel.size
  have HF := Lib.hid h1
  rw [hX]
  clear h h1 hX
  go_enter Try.func17, Try.ntmps17
  go_wp2_with fail
  go_loopg [1, 9, 8, 10] m (fun gg ad by_ out i wr => ∃ (k fr st : Nat) (oa : Option Addr) (oc : Nat) (told : List Nat) (l : List NeedD) (rows : List (List Value)), k + gg = m ∧ ad = .int .u64 (fr : Int) ∧ by_ = .int .u64 (st : Int) ∧ out = .slice oa k oc ∧ i = .int .u64 (k : Int) ∧ Hid (fr < 18446744073709551616 ∧ st < 18446744073709551616) ∧ Hid (l.length = k) ∧ Hid (St r wc g told wr) ∧ Hid (OwnS wr w.heap.size 80 2 (.slice oa k oc) rows) ∧ Hid (NeedRows wr wc.heap.size l rows) ∧ Hid (KT w wr) ∧ Hid (chainV (needStep r.bs r.ps r.ss) r.bs r.ps 16 gg fr st (told, l) = X))
  case atStart => exact ⟨0, fr0, 0, none, 0, told0, [], [], by omega, rfl, rfl, rfl, rfl, Lib.hid ⟨HF.out, by decide⟩, Lib.hid rfl, HS, Lib.hid (OwnS.nil _ _ _ _), Lib.hid trivial, Lib.hid (KT.refl _), HX⟩
  case round =>
    obtain ⟨k, fr, st, oa, oc, told, l, rows, hk, rfl, rfl, rfl, rfl, HFS, HL, HR, HO, HNR, HK, HC⟩ := hrel
    clear HX HF HS
    cases gk with
    | zero =>
      obtain rfl : k = m := by omega
      go_wp2_with fail
      go_ret2
      have hx := HC.out
      rw [chainV_zero] at hx
      subst hx
      exact ⟨oa, k, oc, rfl, fun _ => ⟨HL.out.symm, HR.out, ⟨rows, by rw [HL.out]; exact HO.out.mono HSW.out, HNR.out⟩, HK.out⟩, HR.out.bel⟩
    | succ g1 =>
      have hkm : k < m := by omega
      rcases itemF_two r.bs r.ps fr st 16 (show ∀ x ∈ r.bs, x < 256 from HR.out.good.hb.2) with ⟨b, at_, hI, hbl, hat, hb256⟩ | ⟨at_, hI⟩
      · have HE := Lib.hid (HR.out.yes HFS.out.1 HFS.out.2 (by decide) hI hbl)
        obtain ⟨T, hT⟩ : ∃ T, textF r.ss (numOf ((b.drop 4).take 4)) = T := ⟨_, rfl⟩
        obtain ⟨t, ct⟩ := T
        have b0 := numOf_two b hb256 0
        have b2 := numOf_two b hb256 2
        have b4 := numOf_four b hb256 4
        have b8 := numOf_four b hb256 8
        have b12 := numOf_four b hb256 12
        have hd : (b.drop 12).take 4 = b.drop (16 - 4) := List.take_of_length_le (by rw [List.length_drop, hbl]; decide)
        have NB : ∀ i j : Nat, i < j → j ≤ 16 → j - i ≤ 8 → ∀ (wx : World) (ad : Option Addr) (c : Nat), BRow wx ad b → 16 ≤ c → _ := fun i j h1 h2 h3 wx ad c hr hc => refN_at ad c 16 b i j wx hr hbl hc (by decide) h1 h2 h3
        have HN0 := Lib.hid (NB 0 2 (by decide) (by decide) (by decide))
        have HN2 := Lib.hid (NB 2 4 (by decide) (by decide) (by decide))
        have HN4 := Lib.hid (NB 4 8 (by decide) (by decide) (by decide))
        have HN8 := Lib.hid (NB 8 12 (by decide) (by decide) (by decide))
        have HN12 := Lib.hid (NB 12 16 (by decide) (by decide) (by decide))
        simp only [show 2 - 0 = 2 from rfl, show 4 - 2 = 2 from rfl, show 8 - 4 = 4 from rfl, show 12 - 8 = 4 from rfl, show 16 - 12 = 4 from rfl] at HN0 HN2 HN4 HN8 HN12
        have HT := Lib.hid (fun (wx : World) (hx : St r wc g told wx) => hx.text _ (Nat.lt_trans b4 (by decide)) hT)
        have e0 : b.take 2 = (b.drop 0).take 2 := rfl
        have HCA : Hid ((numOf ((b.drop 0).take 2) ≠ 1 ∨ numOf ((b.drop 2).take 2) = 0) → X.2 = 3) := Lib.hid (fun hc => by
          rw [← HC.out, chainV_read (s' := (told, l ++ [NeedD.zero])) (c := 3) hI ?_ (by decide)]
          unfold needStep needF
          rw [if_pos (by simpa using hc)])
        have HCB : Hid (¬ (numOf ((b.drop 0).take 2) ≠ 1 ∨ numOf ((b.drop 2).take 2) = 0) → 64 < numOf ((b.drop 2).take 2) → X.2 = 2) := Lib.hid (fun hc hm => by
          rw [← HC.out, chainV_read (s' := (told, l ++ [NeedD.zero])) (c := 2) hI ?_ (by decide)]
          unfold needStep needF
          rw [if_neg (by simpa using hc), if_pos hm])
        have HC0 : Hid (¬ (numOf ((b.drop 0).take 2) ≠ 1 ∨ numOf ((b.drop 2).take 2) = 0) → ¬ 64 < numOf ((b.drop 2).take 2) → ct ≠ 0 → X.2 = ct) := Lib.hid (fun hc hm h0 => by
          rw [← HC.out, chainV_read (s' := (told, l ++ [NeedD.zero])) (c := ct) hI ?_ h0]
          unfold needStep needF
          rw [if_neg (by simpa using hc), if_neg hm, hT, if_pos h0])
        obtain ⟨V, hV⟩ : ∃ V, chainV (auxStep r.ss) r.bs r.ps 16 (numOf ((b.drop 2).take 2)) at_ (numOf ((b.drop 8).take 4)) (told, []) = V := ⟨_, rfl⟩
        have HCS : Hid (¬ (numOf ((b.drop 0).take 2) ≠ 1 ∨ numOf ((b.drop 2).take 2) = 0) → ¬ 64 < numOf ((b.drop 2).take 2) → ct = 0 → needStep r.bs r.ps r.ss (told, l) b at_ = ((V.1.1, l ++ [⟨t, V.1.2⟩]), V.2)) := Lib.hid (fun hc hm h0 => by
          unfold needStep needF
          rw [if_neg (by simpa using hc), if_neg hm, hT, if_neg (by simpa using h0), hV])
        have HVS := Lib.hid (fun (wx : World) (hx : St r wc g told wx) (hm : numOf ((b.drop 2).take 2) ≤ 64) => refVersions_any r wc g told at_ (numOf ((b.drop 8).take 4)) (numOf ((b.drop 2).take 2)) wx hx hat (Nat.lt_trans b8 (by decide)) hm)
        rw [hV] at HVS
        have HCV : Hid (¬ (numOf ((b.drop 0).take 2) ≠ 1 ∨ numOf ((b.drop 2).take 2) = 0) → ¬ 64 < numOf ((b.drop 2).take 2) → ct = 0 → V.2 ≠ 0 → X.2 = V.2) := Lib.hid (fun hc hm h0 hv => by rw [← HC.out, chainV_read hI (HCS.out hc hm h0) hv])
        have HC1 : Hid (¬ (numOf ((b.drop 0).take 2) ≠ 1 ∨ numOf ((b.drop 2).take 2) = 0) → ¬ 64 < numOf ((b.drop 2).take 2) → ct = 0 → V.2 = 0 → numOf (b.drop (16 - 4)) = 0 → 0 < g1 → X.2 = 3) := Lib.hid (fun hc hm h0 hv hz hg => by rw [← HC.out, chainV_form hI ((HCS.out hc hm h0).trans (by rw [hv])) hz hg])
        have HC2 : Hid (¬ (numOf ((b.drop 0).take 2) ≠ 1 ∨ numOf ((b.drop 2).take 2) = 0) → ¬ 64 < numOf ((b.drop 2).take 2) → ct = 0 → V.2 = 0 → ¬ (numOf (b.drop (16 - 4)) = 0 ∧ 0 < g1) → chainV (needStep r.bs r.ps r.ss) r.bs r.ps 16 g1 at_ (numOf (b.drop (16 - 4))) (V.1.1, l ++ [⟨t, V.1.2⟩]) = X) := Lib.hid (fun hc hm h0 hv hz => by rw [← HC.out, chainV_on hI ((HCS.out hc hm h0).trans (by rw [hv])) hz])
        rw [← hd] at HC1 HC2
        have HAT := Lib.hid hat
        clear hI hT hV hd hb256 hat HC NB e0 HCS hbl
        generalize numOf ((b.drop 0).take 2) = q0 at *
        generalize numOf ((b.drop 2).take 2) = q2 at *
        generalize numOf ((b.drop 4).take 4) = q4 at *
        generalize numOf ((b.drop 8).take 4) = q8 at *
        generalize numOf ((b.drop 12).take 4) = q at *
        generalize at_ = at1 at *
        obtain ⟨⟨told2, l2⟩, cv⟩ := V
        simp only at HVS HCV HC1 HC2
        go_wp2_with fail
        refine HE.out.mono ?_
        rintro e w1 ⟨ad, c, rfl, hr, hc16, hb1⟩
        have HR1 := Lib.hid (HR.out.below hb1)
        have HK1 := Lib.hid (HK.out.trans (KT.below hb1))
        have HO1 := Lib.hid (HO.out.below hb1)
        have HNR1 := Lib.hid (HNR.out.imp (B' := wc.heap.size) (fun v q ho => ho.below hb1))
        have c4 := HR1.out.c4
        have M12 := Lib.hid (fun (wx : World) (hbx : Below wc.heap.size wc wx) => HN12.out wx ad c (hr.below hbx) hc16)
        have M8 := Lib.hid (fun (wx : World) (hbx : Below wc.heap.size wc wx) => HN8.out wx ad c (hr.below hbx) hc16)
        have M4 := Lib.hid (fun (wx : World) (hbx : Below wc.heap.size wc wx) => HN4.out wx ad c (hr.below hbx) hc16)
        have M2 := Lib.hid (HN2.out w1 ad c (hr.below HR1.out.bel) hc16)
        have M0 := Lib.hid (HN0.out w1 ad c (hr.below HR1.out.bel) hc16)
        clear hr hb1 HE HR HO HK HNR HN0 HN2 HN4 HN8 HN12
        by_cases hA : q0 ≠ 1 ∨ q2 = 0
        · have HX3 := Lib.hid (HCA.out hA)
          clear HC0 HCA HCB HC1 HC2 HCV
          by_cases hs : q0 = 1
          · have hx2 : q2 = 0 := by omega
            subst hs hx2
            clear hA
            go_wp2_with fail
            refine M2.out.mono ?_
            rintro e w' ⟨rfl, rfl⟩
            go_wp2_with fail
            refine M0.out.mono ?_
            rintro e w' ⟨rfl, rfl⟩
            go_wp2_with fail
            go_ret2
            exact NsAns.no (c := 3) HX3.out (by decide) HR1.out.bel
          · have hsq : ((q0 : Int) != 1) = true := by rw [bne_iff_ne]; omega
            clear hA
            go_wp2_with fail
            refine M2.out.mono ?_
            rintro e w' ⟨rfl, rfl⟩
            go_wp2_with fail
            refine M0.out.mono ?_
            rintro e w' ⟨rfl, rfl⟩
            go_wp2_with fail
            go_ret2
            exact NsAns.no (c := 3) HX3.out (by decide) HR1.out.bel
        · have hs : q0 = 1 := by omega
          have hx2 : ((q2 : Int) == 0) = false := by rw [beq_eq_false_iff_ne]; omega
          by_cases hm64 : 64 < q2
          · have HX2 := Lib.hid (HCB.out hA hm64)
            subst hs
            clear HC0 HCA HCB HC1 HC2 HCV hA
            have h64 : (64 : Int) < (q2 : Int) := by omega
            go_wp2_with fail
            refine M2.out.mono ?_
            rintro e w' ⟨rfl, rfl⟩
            go_wp2_with fail
            refine M0.out.mono ?_
            rintro e w' ⟨rfl, rfl⟩
            go_wp2_with fail
            go_ret2
            exact NsAns.no (c := 2) HX2.out (by decide) HR1.out.bel
          · have h64 : ¬ (64 : Int) < (q2 : Int) := by omega
            have HQ2 : Hid (q2 ≤ 64) := Lib.hid (by omega)
            have HA := Lib.hid hA
            have HM64 := Lib.hid hm64
            subst hs
            clear hA hm64 HCA HCB
            go_wp2_with fail
            refine M2.out.mono ?_
            rintro e w' ⟨rfl, rfl⟩
            go_wp2_with fail
            refine M0.out.mono ?_
            rintro e w' ⟨rfl, rfl⟩
            go_wp2_with fail
            go_quiet (first | (go_at_call 18; exact Calls.quiet_eq (M4.out _ (HR1.out.below (below_drewN (Below.refl _ _) _)).bel)) | (go_at_call 37; exact Calls.quiet_eq (HT.out _ (HR1.out.below (below_drewN (Below.refl _ _) _)))))
            have BD : Below w1.heap.size w1 (w1.drewN nq) := below_drewN (Below.refl _ _) _
            have HR2 := Lib.hid (HR1.out.below BD)
            have HK2 := Lib.hid (HK1.out.trans (KT.below BD))
            have HO2 := Lib.hid (HO1.out.below BD)
            have HNR2 := Lib.hid (HNR1.out.imp (B' := wc.heap.size) (fun v q ho => ho.below BD))
            have HB2 := Lib.hid HR2.out.bel
            clear BD HR1 HK1 HO1 HNR1 c4 HT M4 M2 M0
            generalize w1.drewN nq = w2 at *
            by_cases h0 : ct = 0
            · subst h0
              have HV2 := Lib.hid (HVS.out w2 HR2.out HQ2.out)
              by_cases hcv : cv = 0
              · subst hcv
                have HC1' : Hid (q = 0 → 0 < g1 → X.2 = 3) := Lib.hid (fun h1 h2 => HC1.out HA.out HM64.out rfl rfl h1 h2)
                have HC2' := Lib.hid (fun hz => HC2.out HA.out HM64.out rfl rfl hz)
                clear HC0 HC1 HC2 HCV HA HM64 HVS
                go_wp2_with fail
                refine (M8.out w2 HB2.out).mono ?_
                rintro e w' ⟨rfl, rfl⟩
                go_wp2_with fail
                refine HV2.out.mono ?_
                rintro e w3 ⟨va, vn, vc, he, hv, hb3⟩
                obtain ⟨rfl, hst, hos, hkt⟩ := hv rfl
                replace he : e = .returned (.tuple #[.slice va l2.length vc, .int .i64 0]) := he
                subst he
                simp only at hst hos
                have HR3 := Lib.hid hst
                have HA3 := Lib.hid hos
                have HK3 := Lib.hid (HK2.out.trans hkt)
                have HO3 := Lib.hid (hkt.ownS HO2.out (by decide) (by decide))
                have HNR3 := Lib.hid (HNR2.out.imp (B' := wc.heap.size) (fun v q ho => hkt.ownS ho (by decide) (by decide)))
                have HB3 := Lib.hid hb3
                clear hv hst hos hkt hb3 HV2 HR2 HK2 HO2 HNR2 HB2
                have M12' := Lib.hid (M12.out w3 HB3.out)
                clear M12
                have hrl := HNR3.out.len
                rw [HL.out] at hrl
                have HRL := Lib.hid hrl
                clear hrl
                generalize hl2 : l2.length = n2 at *
                have HL2 := Lib.hid hl2
                clear hl2
                have HSZ3 := Lib.hid HK3.out.size
                by_cases hz : q = 0 ∧ 0 < g1
                · have HX3 := Lib.hid (HC1'.out hz.1 hz.2)
                  obtain ⟨rfl, hg1⟩ := hz
                  go_wp2_with fail
                  refine M12'.out.mono ?_
                  rintro e w' ⟨rfl, rfl⟩
                  go_wp2_with fail
                  go_ret2
                  exact NsAns.no (c := 3) HX3.out (by decide) HB3.out
                · have HC3 := Lib.hid (HC2'.out hz)
                  clear HC1' HC2'
                  by_cases hq0 : q = 0
                  · have hgl : ¬ 0 < g1 := fun h => hz ⟨hq0, h⟩
                    have hkm2 : ¬ k + 1 < m := by omega
                    subst hq0
                    clear hz
                    go_wp2_with fail
                    refine M12'.out.mono ?_
                    rintro e w' ⟨rfl, rfl⟩
                    go_wp2_with (at_builtin; refine wpList_grow_row rfl (.tmp 86) (.tmp 90) rowNeed rfl w.heap.size (.slice oa k oc) rows k [.string t, .slice va n2 vc] rfl rfl HRL.out rfl (by intro u hu; simp only [List.mem_cons, List.not_mem_nil, or_false] at hu; rcases hu with rfl | rfl <;> rfl) HO3.out (by unfold maxLen; omega) (by omega) HSZ3.out ?_; intro oa2 oc2 w5 ho5 hg5; have HO5 := Lib.hid ho5; have HR5 := Lib.hid (HR3.out.grew HSW.out HO3.out _ hg5 (by decide) (by decide)); have HK5 := Lib.hid (HK3.out.grew HO3.out _ hg5); have HA5 := Lib.hid (own_grew HA3.out HO3.out _ hg5 (by decide)); have HNR5 := Lib.hid (HNR3.out.imp (B' := wc.heap.size) (fun v q ho => own_grew ho HO3.out _ hg5 (by decide))); clear ho5 hg5)
                    go_roundg g1
                    case measure => omega
                    case rel => exact ⟨k + 1, at1, 0, oa2, oc2, told2, l ++ [⟨t, l2⟩], rows ++ [[.string t, .slice va n2 vc]], by omega, rfl, rfl, rfl, by go_num, Lib.hid ⟨HAT.out, by omega⟩, Lib.hid (by rw [List.length_append, HL.out]; rfl), HR5, HO5, Lib.hid (HNR5.out.snoc ⟨va, vc, by rw [HL2.out], by rw [HL2.out]; exact HA5.out⟩), HK5, HC3⟩
                  · have hqi : ((q : Int) == 0) = false := by rw [beq_eq_false_iff_ne]; omega
                    clear hz
                    go_wp2_with fail
                    refine M12'.out.mono ?_
                    rintro e w' ⟨rfl, rfl⟩
                    go_wp2_with (at_builtin; refine wpList_grow_row rfl (.tmp 86) (.tmp 90) rowNeed rfl w.heap.size (.slice oa k oc) rows k [.string t, .slice va n2 vc] rfl rfl HRL.out rfl (by intro u hu; simp only [List.mem_cons, List.not_mem_nil, or_false] at hu; rcases hu with rfl | rfl <;> rfl) HO3.out (by unfold maxLen; omega) (by omega) HSZ3.out ?_; intro oa2 oc2 w5 ho5 hg5; have HO5 := Lib.hid ho5; have HR5 := Lib.hid (HR3.out.grew HSW.out HO3.out _ hg5 (by decide) (by decide)); have HK5 := Lib.hid (HK3.out.grew HO3.out _ hg5); have HA5 := Lib.hid (own_grew HA3.out HO3.out _ hg5 (by decide)); have HNR5 := Lib.hid (HNR3.out.imp (B' := wc.heap.size) (fun v q ho => own_grew ho HO3.out _ hg5 (by decide))); clear ho5 hg5)
                    go_roundg g1
                    case measure => omega
                    case rel => exact ⟨k + 1, at1, q, oa2, oc2, told2, l ++ [⟨t, l2⟩], rows ++ [[.string t, .slice va n2 vc]], by omega, rfl, rfl, rfl, by go_num, Lib.hid ⟨HAT.out, by omega⟩, Lib.hid (by rw [List.length_append, HL.out]; rfl), HR5, HO5, Lib.hid (HNR5.out.snoc ⟨va, vc, by rw [HL2.out], by rw [HL2.out]; exact HA5.out⟩), HK5, HC3⟩
              · have hcvi : ((cv : Int) != 0) = true := by rw [bne_iff_ne]; omega
                have HX0 := Lib.hid (HCV.out HA.out HM64.out rfl hcv)
                have HCVN := Lib.hid hcv
                clear HC0 HC1 HC2 HCV HA HM64 hcv
                go_wp2_with fail
                refine (M8.out w2 HB2.out).mono ?_
                rintro e w' ⟨rfl, rfl⟩
                go_wp2_with fail
                refine HV2.out.mono ?_
                rintro e w3 ⟨va, vn, vc, he, -, hb3⟩
                replace he : e = .returned (.tuple #[.slice va vn vc, .int .i64 (cv : Int)]) := he
                subst he
                have HB3 := Lib.hid hb3
                clear hb3
                go_wp2_with fail
                go_ret2
                exact NsAns.no HX0.out HCVN.out HB3.out
            · have hct : ((ct : Int) != 0) = true := by rw [bne_iff_ne]; omega
              have HX0 := Lib.hid (HC0.out HA.out HM64.out h0)
              clear HC0 HC1 HC2 HCV
              go_wp2_with fail
              go_ret2
              exact NsAns.no HX0.out h0 HB2.out
      · have HE := Lib.hid (HR.out.no HFS.out.1 HFS.out.2 (by decide) hI)
        have HX4 : Hid (X.2 = 4) := Lib.hid (by rw [← HC.out, chainV_item hI (by decide)])
        clear hI HC
        go_wp2_with fail
        refine HE.out.mono ?_
        rintro e w1 ⟨x, ad, c, rfl, hb1⟩
        have HR1 := Lib.hid (HR.out.below hb1)
        clear hb1
        go_wp2_with fail
        go_ret2
        exact NsAns.no (c := 4) HX4.out (by decide) HR1.out.bel
theorem refNeeds_long (r : RRef) (g fr0 m : Nat) (w : World) (hm : 64 < m) (hm2 : m < 18446744073709551616) :
    Calls Try.prog 17 #[.pointer (some ⟨g, 0, none⟩), .int .u64 (fr0 : Int), .int .u64 (m : Int)] w fun e w' => e = .returned (.tuple #[.slice none 0 0, .int .i64 2]) ∧ w = w' := by
  have hmi : (64 : Int) < (m : Int) := by omega
  clear hm2
  go_enter Try.func17, Try.ntmps17
  go_wp2_with fail
  go_ret2
  exact ⟨rfl, rfl⟩
end Go.Proofs.Ytaedeaefoeeidaa

