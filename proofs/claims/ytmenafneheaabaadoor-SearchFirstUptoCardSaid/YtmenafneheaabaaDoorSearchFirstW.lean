/- Layer 14: the law SearchFirst. -/
import Derived.Test.YtmenafneheaabaaDoorSearchFirstM
import Derived.Test.YtmenafneheaabaaDoorSearchUp
namespace Go.Proofs.YtmenafneheaabaaDoor
open Go.RowKit
set_option linter.unusedVariables false
set_option linter.unusedSimpArgs false

theorem none_slash (s : ByteArray) (h : ∀ i, (h : i < s.size) → s[i] ≠ 47) : Lib.indexByte s.data.toList 47 < 0 := by
  have hge := Lib.indexByte_ge s.data.toList 47
  by_cases e : Lib.indexByte s.data.toList 47 = -1
  · omega
  · exfalso
    obtain ⟨o, ho⟩ : ∃ o : Nat, Lib.indexByte s.data.toList 47 = o := ⟨(Lib.indexByte s.data.toList 47).toNat, by omega⟩
    have h1 := (Lib.indexByte_some ho).1
    have hlt : o < s.data.toList.length := (List.getElem?_eq_some_iff.1 h1).1
    have h2 := (List.getElem?_eq_some_iff.1 h1).2
    exact h o (by simpa using hlt) h2
theorem ask_infoF (name env : ByteArray) (ca : Option Addr) (n cc : Nat) (s : Bool) : (Tryd.prog.info? 25).map (·.size) = some (#[.string name, .slice ca n cc, .string env, .bool s] : Array Value).size := by kernel_rfl
theorem findF_none {F : ByteArray → Option Ent} {S : Shares} : ∀ {Q : List ByteArray} {n : Nat}, findF F S Q = .error n → n = 17
  | [], n, h => by cases h; rfl
  | p :: l, n, h => by
    unfold findF at h
    split at h
    · cases h
    · exact findF_none h

set_option maxRecDepth 100000 in
set_option maxHeartbeats 16000000 in
theorem searchFirst_at (a : Option Addr) (nl cap : Nat) (L : List Nd) (D : Nat → List Nat) (name env : ByteArray) (ca : Option Addr) (n cc : Nat) (C : List OT) (secure : Bool) (w : World) (hr : NdRow w a L) (hln : L.length = nl) (hlnl : nl ≤ 140737488351232) (hD : ∀ i, (hi : i < L.length) → NdOk w L[i] (D i))
    (hns : name.size ≤ 1048576) (hC : CRow w ca C) (hn : C.length = n) (hnl : n ≤ 200000) (hnc : n ≤ cc) (hcn : ca = none → cc = 0) (hs : ∀ o ∈ C, Sizes o) (he : env.size ≤ 1048576) :
    Calls Tryd.prog 4 #[.slice a nl cap, .agg #[.string name, .slice ca n cc, .string env, .bool secure]] w fun e w' => e = .returned (.bool true) ∧ Below w.heap.size w w' := by
  have HUP := Lib.hid (fun (w1 : World) => up_true w1)
  obtain ⟨R, hRl, hRs, hRT⟩ := dirs_prog name env ca n cc C secure w hC hn hnl hnc hcn hs he
  have HRT : Hid (∀ wx, Below w.heap.size w wx → Calls Tryd.prog 7 #[.agg #[.string name, .slice ca n cc, .string env, .bool secure]] wx (DirAns R wx)) := Lib.hid hRT
  have HRS := Lib.hid hRs
  obtain ⟨m, hm⟩ : ∃ m, R.length = m := ⟨_, rfl⟩
  have HM := Lib.hid hm
  have HML : Hid (m ≤ 1099511627776) := Lib.hid (by omega)
  have HNS := Lib.hid hns
  have HTR : Hid (∀ wx, Below w.heap.size w wx → Calls Tryd.prog 8 #[.slice a nl cap] wx fun e w' => TreePost L e w' ∧ Below wx.heap.size wx w') := Lib.hid (fun wx hb => tree_any a nl cap L D wx (hr.below hb) hln hlnl (fun i hi => (hD i hi).below hb))
  have HFI : Hid (∀ wx tb g c F S, Below w.heap.size w wx → TreeAt wx tb g c F → ShAt wx F S → TreeIn F → ¬ name = ⟨#[]⟩ → Lib.indexByte name.data.toList 47 < 0 → Calls Tryd.prog 9 #[.pointer (some ⟨tb, 0, none⟩), .agg #[.string name, .slice ca n cc, .string env, .bool secure]] wx fun e w' => OpenPost wx e w' (findF F S (R.map (pathF name))) ∧ Below wx.heap.size wx w') := Lib.hid (fun wx tb g c F S hb h1 h2 h3 hnm hno => find_any tb g c F S name env ca n cc secure (R.map (pathF name)) wx h1 h2 h3 hnm (fun w1 hb1 => paths_dirs name env ca n cc secure R w1 hno hns hRl hRs (fun w2 hb2 => hRT w2 (bstep (bstep hb hb1) hb2))) (by rw [List.length_map]; exact hRl) (fun q hq => by
    obtain ⟨d, hd, rfl⟩ := List.mem_map.1 hq
    have := pathF_size name d
    have := hRs d hd
    omega))
  obtain ⟨w1, hw1⟩ : ∃ w1, w.alloc (.cells #[.string name, .slice ca n cc, .string env, .bool secure] 25) = w1 := ⟨_, rfl⟩
  have HW1 := Lib.hid hw1
  obtain ⟨ab, hab⟩ : ∃ ab, w.heap.size = ab := ⟨_, rfl⟩
  have B1 : Hid (Below w.heap.size w w1) := Lib.hid (by rw [← hw1]; exact (Below.refl _ _).alloc (Nat.le_refl _) _)
  have X1 : Hid (w1.heap[ab]? = some (.cells #[.string name, .slice ca n cc, .string env, .bool secure] 25)) := Lib.hid (by rw [← hw1, ← hab]; exact heap_alloc_new _ _)
  have HI := Lib.hid (ask_infoF name env ca n cc secure)
  clear hw1 hr hln hlnl hD hns hC hn hnl hnc hcn hs hRl hRs hRT he hm
  go_enter Tryd.func4, Tryd.ntmps4
  go_upto_region 1 with fail
  rw [HW1.out]
  try rw [hab]
  clear hab
  go_wp2_with fail
  refine (HUP.out w1).mono ?_
  rintro e w2 ⟨rfl, hb2⟩
  have B2 := Lib.hid (bstep B1.out hb2)
  have X2 : Hid (w2.heap[ab]? = some (.cells #[.string name, .slice ca n cc, .string env, .bool secure] 25)) := Lib.hid ((hb2.block _ (lt_of_block X1.out)).trans X1.out)
  clear hb2
  go_wp2_with fail
  refine (HTR.out w2 B2.out).mono ?_
  rintro e w3 ⟨hp, hb3⟩
  have B3 := Lib.hid (bstep B2.out hb3)
  have X3 : Hid (w3.heap[ab]? = some (.cells #[.string name, .slice ca n cc, .string env, .bool secure] 25)) := Lib.hid ((hb3.block _ (lt_of_block X2.out)).trans X2.out)
  clear hb3
  rcases hp with rfl | ⟨tb, gm, tc, rb, F, S, rfl, h1, h2, h3⟩
  · go_wp2_with fail
    go_ret
    exact ⟨rfl, B3.out⟩
  have HST : Hid (TreeAt w3 tb gm tc F ∧ ShAt w3 F S ∧ TreeIn F) := Lib.hid ⟨h1, h2, h3⟩
  have c0 : w3.cell? ⟨ab, 0, none⟩ = some (.string name) := by rw [cell_of_row _ _ 0 _ _ _ X3.out]; rfl
  clear h1 h2 h3
  go_wp2_with fail
  go_loopg [8] name.size (fun g iv wr => ∃ k : Nat, k + g = name.size ∧ iv = .int .i64 (k : Int) ∧ Hid (∀ j, (h : j < name.size) → j < k → name[j] ≠ 47) ∧ w3 = wr)
  case atStart => exact ⟨0, by omega, rfl, Lib.hid (fun j _ h => by omega), rfl⟩
  case round =>
    obtain ⟨k, hk, rfl, HJ, rfl⟩ := hrel
    cases gk with
    | succ g =>
      have hlt : k < name.size := by omega
      have i0 : (0 : Int) ≤ (k : Int) := by omega
      have i1 : (k : Int) < (name.size : Int) := by omega
      have t2 : decide ((k : Int) < (name.size : Int)) = true := decide_eq_true i1
      have HKK := Lib.hid hk
      by_cases hz : name[k] = 47
      · have hb : (((name[k]'hlt).toNat : Int) == 47) = true := by rw [toNat_slash]; exact decide_eq_true hz
        clear hz hk
        go_wp2_with fail
        go_ret
        exact ⟨rfl, B3.out⟩
      · have hb : (((name[k]'hlt).toNat : Int) == 47) = false := by rw [toNat_slash]; exact decide_eq_false hz
        have HJ2 : Hid (∀ j, (h : j < name.size) → j < k + 1 → name[j] ≠ 47) := Lib.hid (fun j h hj => by
          by_cases hjk : j < k
          · exact HJ.out j h hjk
          · obtain rfl : j = k := by omega
            exact hz)
        clear hz hk
        go_wp2_with fail
        go_roundg g
        case measure => have := HKK.out; omega
        case rel => exact ⟨k + 1, by have := HKK.out; omega, by have := HNS.out; rw [IntWalk.wrap64_in _ ⟨by omega, by omega⟩]; rfl, HJ2, rfl⟩
    | zero =>
      have HNO : Hid (Lib.indexByte name.data.toList 47 < 0) := Lib.hid (none_slash name (fun i h => HJ.out i h (by omega)))
      have t2 : ¬ k < name.size := by omega
      clear hk
      by_cases hnm : name = ⟨#[]⟩
      · subst hnm
        go_wp2_with (refine wpList_load_row rfl 25 _ rfl ab rfl 25 #[.string ⟨#[]⟩, .slice ca n cc, .string env, .bool secure] (0, 0) _ X3.out Tryd.underlying25 rfl HI.out ?_)
        refine (find_name tb env ca n cc secure w3).mono ?_
        rintro e w4 ⟨rfl, hb4⟩
        rw [errV1v]
        have X4 : Hid ((w4.alloc (.cells #[.string ⟨#[]⟩, .int .i64 0, .slice none 0 0, .bool false] 36)).heap[ab]? = some (.cells #[.string ⟨#[]⟩, .slice ca n cc, .string env, .bool secure] 25)) := Lib.hid (by
          have h := (hb4.block _ (lt_of_block X3.out)).trans X3.out
          exact (heap_alloc_old _ _ (lt_of_block h)).trans h)
        have B4 : Hid (Below w.heap.size w (w4.alloc (.cells #[.string ⟨#[]⟩, .int .i64 0, .slice none 0 0, .bool false] 36))) := Lib.hid ((bstep B3.out hb4).alloc (bstep B3.out hb4).size _)
        clear hb4
        go_upto_region 11 with fail
        generalize w4.alloc (.cells #[.string ⟨#[]⟩, .int .i64 0, .slice none 0 0, .bool false] 36) = w5 at *
        go_wp2_with (refine wpList_load_row rfl 25 _ rfl ab rfl 25 #[.string ⟨#[]⟩, .slice ca n cc, .string env, .bool secure] (0, 0) _ X4.out Tryd.underlying25 rfl HI.out ?_)
        refine (HRT.out w5 B4.out).mono ?_
        rintro e w6 ⟨⟨ra, rc, rfl, htr⟩, hb6⟩
        have B6 := Lib.hid (bstep B4.out hb6)
        have d0 : w6.cell? ⟨ab, 0, none⟩ = some (.string ⟨#[]⟩) := by rw [cell_of_row _ _ 0 _ _ _ ((hb6.block _ (lt_of_block X4.out)).trans X4.out)]; rfl
        rw [HM.out]
        clear htr hb6 c0
        go_wp2_with fail
        go_loopg [12] 0 (fun g iv wr => iv = .int .i64 0 ∧ w6 = wr)
        case atStart => exact ⟨rfl, rfl⟩
        case round =>
          obtain ⟨rfl, rfl⟩ := hrel
          go_wp2_with fail
          all_goals (
            go_ret
            exact ⟨rfl, B6.out⟩)
      · have HFN := Lib.hid (HFI.out w3 tb gm tc F S B3.out HST.out.1 HST.out.2.1 HST.out.2.2 hnm HNO.out)
        have hne : (name.toList == []) = false := by
          have := text_ne hnm
          rwa [empty_list] at this
        clear hnm
        go_wp2_with (refine wpList_load_row rfl 25 _ rfl ab rfl 25 #[.string name, .slice ca n cc, .string env, .bool secure] (0, 0) _ X3.out Tryd.underlying25 rfl HI.out ?_)
        refine HFN.out.mono ?_
        rintro e w4 ⟨hpost, hb4⟩
        cases hV : findF F S (R.map (pathF name)) with
        | error en =>
          have HV : Hid (findF F S ((R.map (pathF name)).drop 0) = .error en) := Lib.hid hV
          have h17 := findF_none hV
          rw [hV] at hpost
          obtain rfl : e = _ := hpost
          rw [errV_yes (by omega)]
          clear h17 hV
          obtain ⟨fb, hfb⟩ : ∃ fb, w4.heap.size = fb := ⟨_, rfl⟩
          obtain ⟨w5, hw5⟩ : ∃ w5, w4.alloc (.cells #[.string ⟨#[]⟩, .int .i64 0, .slice none 0 0, .bool false] 36) = w5 := ⟨_, rfl⟩
          have HW5 := Lib.hid hw5
          have b5 : Hid (Below w3.heap.size w3 w5) := Lib.hid (by rw [← hw5]; exact hb4.alloc hb4.size _)
          have Z5 : Hid (w5.heap[fb]? = some (.cells #[.string ⟨#[]⟩, .int .i64 0, .slice none 0 0, .bool false] 36)) := Lib.hid (by rw [← hw5, ← hfb]; exact heap_alloc_new _ _)
          have X5 : Hid (w5.heap[ab]? = some (.cells #[.string name, .slice ca n cc, .string env, .bool secure] 25)) := Lib.hid ((b5.out.block _ (lt_of_block X3.out)).trans X3.out)
          clear hb4 hw5
          go_upto_region 11 with fail
          rw [HW5.out]
          try rw [hfb]
          go_wp2_with (refine wpList_load_row rfl 25 _ rfl ab rfl 25 #[.string name, .slice ca n cc, .string env, .bool secure] (0, 0) _ X5.out Tryd.underlying25 rfl HI.out ?_)
          refine (HRT.out w5 (bstep B3.out b5.out)).mono ?_
          rintro e w6 ⟨⟨ra, rc, rfl, htr⟩, hb6⟩
          have b6 : Hid (Below w3.heap.size w3 w6) := Lib.hid (bstep b5.out hb6)
          have B6 := Lib.hid (bstep B3.out b6.out)
          have TR6 := Lib.hid htr
          have X6 : Hid (w6.heap[ab]? = some (.cells #[.string name, .slice ca n cc, .string env, .bool secure] 25)) := Lib.hid ((hb6.block _ (lt_of_block X5.out)).trans X5.out)
          have Z6 : Hid (w6.heap[fb]? = some (.cells #[.string ⟨#[]⟩, .int .i64 0, .slice none 0 0, .bool false] 36)) := Lib.hid ((hb6.block _ (lt_of_block Z5.out)).trans Z5.out)
          rw [HM.out]
          clear hb6 htr hfb
          go_wp2_with fail
          go_loopg [12] m (fun g iv wr => ∃ k : Nat, k + g = m ∧ iv = .int .i64 (k : Int) ∧ Hid (findF F S ((R.map (pathF name)).drop k) = .error en) ∧ Hid (Below w6.heap.size w6 wr))
          case atStart => exact ⟨0, by omega, rfl, Lib.hid HV.out, Lib.hid (Below.refl _ _)⟩
          case round =>
            obtain ⟨k, hk, rfl, HG, HB⟩ := hrel
            have HKK := Lib.hid hk
            have XR : Hid (wr.heap[ab]? = some (.cells #[.string name, .slice ca n cc, .string env, .bool secure] 25)) := Lib.hid ((HB.out.block _ (lt_of_block X6.out)).trans X6.out)
            have c0 : wr.cell? ⟨ab, 0, none⟩ = some (.string name) := by rw [cell_of_row _ _ 0 _ _ _ XR.out]; rfl
            cases gk with
            | zero =>
              have hkm : k = m := by omega
              subst hkm
              clear hk
              go_wp2_with fail
              go_ret
              exact ⟨rfl, bstep B6.out HB.out⟩
            | succ g2 =>
              have hlt : k < m := by omega
              have hkR : k < R.length := by rw [HM.out]; exact hlt
              obtain ⟨b1, o1, rfl, hbl, p0⟩ := (TR6.out.below HB.out) k hkR
              obtain ⟨d, hd⟩ : ∃ d, R[k]'hkR = d := ⟨_, rfl⟩
              have hg : R.getD k .empty = d := by rw [← hd]; simp [List.getD, hkR]
              rw [hg] at p0
              have hds : d.size ≤ 2199023255552 := by rw [← hd]; exact HRS.out _ (List.getElem_mem hkR)
              have hdr : findF F S ((R.map (pathF name)).drop k) = match openF F S (pathF name d) with | .ok v => .ok v | .error _ => findF F S ((R.map (pathF name)).drop (k + 1)) := by
                rw [List.drop_eq_getElem_cons (by rw [List.length_map]; exact hkR), List.getElem_map, hd, findF]
                cases openF F S (pathF name d) <;> rfl
              have HDR := Lib.hid (HG.out.symm.trans hdr)
              have HSK := Lib.hid (seek_same HST.out.2.2 S HNO.out d)
              have hsq : ((d ++ (⟨#[47]⟩ : ByteArray)) ++ name).size ≤ 2199024304130 := by
                rw [ByteArray.size_append, ByteArray.size_append]
                have := HNS.out
                show d.size + 1 + name.size ≤ _
                omega
              have hs2 : ((⟨#[47]⟩ : ByteArray) ++ ((d ++ (⟨#[47]⟩ : ByteArray)) ++ name)).size ≤ 2199024304131 := by
                rw [ByteArray.size_append]
                show 1 + _ ≤ _
                omega
              have hpos : 0 < ((d ++ (⟨#[47]⟩ : ByteArray)) ++ name).size := by
                rw [ByteArray.size_append, ByteArray.size_append]
                show 0 < d.size + 1 + name.size
                omega
              have HOP : Hid (∀ (q : ByteArray) wx, q.size ≤ 2199024304131 → Below wr.heap.size wr wx → Calls Tryd.prog 11 #[.pointer (some ⟨tb, 0, none⟩), .string q] wx fun e w' => OpenPost wx e w' (openF F S q) ∧ Below wx.heap.size wx w') := Lib.hid (fun q wx hq hb => open_any tb gm tc F S q wx (HST.out.1.below (bstep b6.out (bstep HB.out hb))) (HST.out.2.1.below (bstep b6.out (bstep HB.out hb))) HST.out.2.2 (by omega))
              have z1 : (9223372036854775807 < d.size + 1) = False := eq_false (by omega)
              have z2 : (9223372036854775807 < d.size + 1 + name.size) = False := eq_false (by have := HNS.out; omega)
              have HQ : Hid (seekF name d = if ((d ++ (⟨#[47]⟩ : ByteArray)) ++ name).get! 0 = 47 then ((d ++ (⟨#[47]⟩ : ByteArray)) ++ name) else (⟨#[47]⟩ : ByteArray) ++ ((d ++ (⟨#[47]⟩ : ByteArray)) ++ name)) := Lib.hid rfl
              have HSQ := Lib.hid hsq
              have HS2 := Lib.hid hs2
              have HPOS := Lib.hid hpos
              have HLT := Lib.hid hlt
              clear hk hkR hg hds hd hdr hsq hs2 hpos
              go_upto_region 15 with fail
              go_quiet (fail)
              have B9 : Hid (Below wr.heap.size wr (wr.drewN nq)) := Lib.hid (below_drewN (Below.refl _ _) _)
              generalize wr.drewN nq = w7 at *
              obtain ⟨q, hq⟩ : ∃ q, (d ++ (⟨#[47]⟩ : ByteArray)) ++ name = q := ⟨_, rfl⟩
              simp only [hq] at HQ HSQ HS2 HPOS ⊢
              have hp' : 0 < q.size := HPOS.out
              have hp1 : (0 : Int) < (q.size : Int) := by omega
              obtain ⟨pa, hpa⟩ : ∃ pa, seekF name d = pa := ⟨_, rfl⟩
              have HSK2 := HSK.out
              rw [hpa] at HSK2
              have HSKE := Lib.hid HSK2
              have finish : Hid (pa.size ≤ 2199024304131 ∧ ((q.get! 0 = 47 ∧ pa = q) ∨ (¬ q.get! 0 = 47 ∧ pa = (⟨#[47]⟩ : ByteArray) ++ q))) := Lib.hid (by
                have h := HQ.out
                rw [hpa] at h
                by_cases h7 : q.get! 0 = 47
                · rw [if_pos h7] at h
                  exact ⟨by rw [h]; have := HSQ.out; omega, .inl ⟨h7, h⟩⟩
                · rw [if_neg h7] at h
                  exact ⟨by rw [h]; exact HS2.out, .inr ⟨h7, h⟩⟩)
              have HX0' : Hid (q.get! 0 = q[0]'hp') := Lib.hid (first_bang q hp')
              clear z1 z2 HQ HSK HSK2 hpa hq c0 p0
              obtain ⟨V8, hV8⟩ : ∃ V8, openF F S pa = V8 := ⟨_, rfl⟩
              have HV8 := Lib.hid hV8
              have HO := Lib.hid (HOP.out pa w7 finish.out.1 B9.out)
              rw [hV8] at HO
              clear hV8
              rcases finish.out.2 with ⟨h7, hpe⟩ | ⟨h7, hpe⟩
              · have hb : (((q[0]'hp').toNat : Int) != 47) = false := by
                  have h := HX0'.out
                  rw [h] at h7
                  rw [h7]
                  rfl
                rw [hpe] at HO
                clear h7 hpe
                go_wp2_with fail
                refine HO.out.mono ?_
                rintro e w8 ⟨hpost, hb8⟩
                have B8 : Hid (Below w6.heap.size w6 w8) := Lib.hid (bstep HB.out (bstep B9.out hb8))
                clear hb8 hb
                cases V8 with
                | error en2 =>
                  have ho := HV8.out
                  have he := openF_err HST.out.2.2.ok ho
                  have hE : Hid (findF F S ((R.map (pathF name)).drop (k + 1)) = .error en) := Lib.hid (by
                    have h := HDR.out
                    cases hpp : openF F S (pathF name d) with
                    | ok v =>
                      have := (HSKE.out v).2 hpp
                      rw [ho] at this
                      cases this
                    | error e3 => rw [hpp] at h; exact h.symm)
                  obtain rfl : e = _ := hpost
                  rw [errV_yes (by omega)]
                  have HN : Hid (Below w6.heap.size w6 (w8.alloc (.cells #[.string ⟨#[]⟩, .int .i64 0, .slice none 0 0, .bool false] 36))) := Lib.hid (B8.out.alloc B8.out.size _)
                  clear he ho HDR
                  go_wp2_with fail
                  go_roundg g2
                  case measure => have := HKK.out; omega
                  case rel => exact ⟨k + 1, by have := HKK.out; omega, by have := HML.out; have := HLT.out; rw [IntWalk.wrap64_in _ ⟨by omega, by omega⟩]; rfl, hE, HN⟩
                | ok v =>
                  have ho := HV8.out
                  have hfin := HDR.out
                  rw [(HSKE.out v).1 ho] at hfin
                  cases hfin
              · have hb : (((q[0]'hp').toNat : Int) != 47) = true := by
                  have h := HX0'.out
                  rw [h] at h7
                  rw [bne_iff_ne]
                  intro e
                  apply h7
                  exact UInt8.toNat_inj.1 (by show _ = 47; omega)
                rw [hpe] at HO
                have z3 : (9223372036854775807 < 1 + q.size) = False := eq_false (by have := HSQ.out; omega)
                clear h7 hpe
                go_wp2_with fail
                refine HO.out.mono ?_
                rintro e w8 ⟨hpost, hb8⟩
                have B8 : Hid (Below w6.heap.size w6 w8) := Lib.hid (bstep HB.out (bstep B9.out hb8))
                clear hb8 hb
                cases V8 with
                | error en2 =>
                  have ho := HV8.out
                  have he := openF_err HST.out.2.2.ok ho
                  have hE : Hid (findF F S ((R.map (pathF name)).drop (k + 1)) = .error en) := Lib.hid (by
                    have h := HDR.out
                    cases hpp : openF F S (pathF name d) with
                    | ok v =>
                      have := (HSKE.out v).2 hpp
                      rw [ho] at this
                      cases this
                    | error e3 => rw [hpp] at h; exact h.symm)
                  obtain rfl : e = _ := hpost
                  rw [errV_yes (by omega)]
                  have HN : Hid (Below w6.heap.size w6 (w8.alloc (.cells #[.string ⟨#[]⟩, .int .i64 0, .slice none 0 0, .bool false] 36))) := Lib.hid (B8.out.alloc B8.out.size _)
                  clear he ho HDR
                  go_wp2_with fail
                  go_roundg g2
                  case measure => have := HKK.out; omega
                  case rel => exact ⟨k + 1, by have := HKK.out; omega, by have := HML.out; have := HLT.out; rw [IntWalk.wrap64_in _ ⟨by omega, by omega⟩]; rfl, hE, HN⟩
                | ok v =>
                  have ho := HV8.out
                  have hfin := HDR.out
                  rw [(HSKE.out v).1 ho] at hfin
                  cases hfin
        | ok v =>
          obtain ⟨vp, vi, vs, vb⟩ := v
          have HV : Hid (findF F S ((R.map (pathF name)).drop 0) = .ok (vp, vi, vs, vb)) := Lib.hid hV
          rw [hV] at hpost
          obtain ⟨fa, fc, rfl, -⟩ := hpost
          obtain ⟨fm, hfm⟩ : ∃ fm, vb.length = fm := ⟨_, rfl⟩
          rw [hfm]
          clear hV hfm
          obtain ⟨fb, hfb⟩ : ∃ fb, w4.heap.size = fb := ⟨_, rfl⟩
          obtain ⟨w5, hw5⟩ : ∃ w5, w4.alloc (.cells #[.string vp, .int .i64 vi, .slice fa fm fc, .bool vs] 36) = w5 := ⟨_, rfl⟩
          have HW5 := Lib.hid hw5
          have b5 : Hid (Below w3.heap.size w3 w5) := Lib.hid (by rw [← hw5]; exact hb4.alloc hb4.size _)
          have Z5 : Hid (w5.heap[fb]? = some (.cells #[.string vp, .int .i64 vi, .slice fa fm fc, .bool vs] 36)) := Lib.hid (by rw [← hw5, ← hfb]; exact heap_alloc_new _ _)
          have X5 : Hid (w5.heap[ab]? = some (.cells #[.string name, .slice ca n cc, .string env, .bool secure] 25)) := Lib.hid ((b5.out.block _ (lt_of_block X3.out)).trans X3.out)
          clear hb4 hw5
          go_upto_region 11 with fail
          rw [HW5.out]
          try rw [hfb]
          go_wp2_with (refine wpList_load_row rfl 25 _ rfl ab rfl 25 #[.string name, .slice ca n cc, .string env, .bool secure] (0, 0) _ X5.out Tryd.underlying25 rfl HI.out ?_)
          refine (HRT.out w5 (bstep B3.out b5.out)).mono ?_
          rintro e w6 ⟨⟨ra, rc, rfl, htr⟩, hb6⟩
          have b6 : Hid (Below w3.heap.size w3 w6) := Lib.hid (bstep b5.out hb6)
          have B6 := Lib.hid (bstep B3.out b6.out)
          have TR6 := Lib.hid htr
          have X6 : Hid (w6.heap[ab]? = some (.cells #[.string name, .slice ca n cc, .string env, .bool secure] 25)) := Lib.hid ((hb6.block _ (lt_of_block X5.out)).trans X5.out)
          have Z6 : Hid (w6.heap[fb]? = some (.cells #[.string vp, .int .i64 vi, .slice fa fm fc, .bool vs] 36)) := Lib.hid ((hb6.block _ (lt_of_block Z5.out)).trans Z5.out)
          rw [HM.out]
          clear hb6 htr hfb
          go_wp2_with fail
          go_loopg [12] m (fun g iv wr => ∃ k : Nat, k + g = m ∧ iv = .int .i64 (k : Int) ∧ Hid (findF F S ((R.map (pathF name)).drop k) = .ok (vp, vi, vs, vb)) ∧ Hid (Below w6.heap.size w6 wr))
          case atStart => exact ⟨0, by omega, rfl, Lib.hid HV.out, Lib.hid (Below.refl _ _)⟩
          case round =>
            obtain ⟨k, hk, rfl, HG, HB⟩ := hrel
            have HKK := Lib.hid hk
            have XR : Hid (wr.heap[ab]? = some (.cells #[.string name, .slice ca n cc, .string env, .bool secure] 25)) := Lib.hid ((HB.out.block _ (lt_of_block X6.out)).trans X6.out)
            have c0 : wr.cell? ⟨ab, 0, none⟩ = some (.string name) := by rw [cell_of_row _ _ 0 _ _ _ XR.out]; rfl
            cases gk with
            | zero =>
              have hkm : k = m := by omega
              subst hkm
              exfalso
              have := HG.out
              rw [List.drop_of_length_le (by rw [List.length_map, HM.out]; exact Nat.le_refl _)] at this
              cases this
            | succ g2 =>
              have hlt : k < m := by omega
              have hkR : k < R.length := by rw [HM.out]; exact hlt
              obtain ⟨b1, o1, rfl, hbl, p0⟩ := (TR6.out.below HB.out) k hkR
              obtain ⟨d, hd⟩ : ∃ d, R[k]'hkR = d := ⟨_, rfl⟩
              have hg : R.getD k .empty = d := by rw [← hd]; simp [List.getD, hkR]
              rw [hg] at p0
              have hds : d.size ≤ 2199023255552 := by rw [← hd]; exact HRS.out _ (List.getElem_mem hkR)
              have hdr : findF F S ((R.map (pathF name)).drop k) = match openF F S (pathF name d) with | .ok v => .ok v | .error _ => findF F S ((R.map (pathF name)).drop (k + 1)) := by
                rw [List.drop_eq_getElem_cons (by rw [List.length_map]; exact hkR), List.getElem_map, hd, findF]
                cases openF F S (pathF name d) <;> rfl
              have HDR := Lib.hid (HG.out.symm.trans hdr)
              have HSK := Lib.hid (seek_same HST.out.2.2 S HNO.out d)
              have hsq : ((d ++ (⟨#[47]⟩ : ByteArray)) ++ name).size ≤ 2199024304130 := by
                rw [ByteArray.size_append, ByteArray.size_append]
                have := HNS.out
                show d.size + 1 + name.size ≤ _
                omega
              have hs2 : ((⟨#[47]⟩ : ByteArray) ++ ((d ++ (⟨#[47]⟩ : ByteArray)) ++ name)).size ≤ 2199024304131 := by
                rw [ByteArray.size_append]
                show 1 + _ ≤ _
                omega
              have hpos : 0 < ((d ++ (⟨#[47]⟩ : ByteArray)) ++ name).size := by
                rw [ByteArray.size_append, ByteArray.size_append]
                show 0 < d.size + 1 + name.size
                omega
              have HOP : Hid (∀ (q : ByteArray) wx, q.size ≤ 2199024304131 → Below wr.heap.size wr wx → Calls Tryd.prog 11 #[.pointer (some ⟨tb, 0, none⟩), .string q] wx fun e w' => OpenPost wx e w' (openF F S q) ∧ Below wx.heap.size wx w') := Lib.hid (fun q wx hq hb => open_any tb gm tc F S q wx (HST.out.1.below (bstep b6.out (bstep HB.out hb))) (HST.out.2.1.below (bstep b6.out (bstep HB.out hb))) HST.out.2.2 (by omega))
              have z1 : (9223372036854775807 < d.size + 1) = False := eq_false (by omega)
              have z2 : (9223372036854775807 < d.size + 1 + name.size) = False := eq_false (by have := HNS.out; omega)
              have HQ : Hid (seekF name d = if ((d ++ (⟨#[47]⟩ : ByteArray)) ++ name).get! 0 = 47 then ((d ++ (⟨#[47]⟩ : ByteArray)) ++ name) else (⟨#[47]⟩ : ByteArray) ++ ((d ++ (⟨#[47]⟩ : ByteArray)) ++ name)) := Lib.hid rfl
              have HSQ := Lib.hid hsq
              have HS2 := Lib.hid hs2
              have HPOS := Lib.hid hpos
              have HLT := Lib.hid hlt
              clear hk hkR hg hds hd hdr hsq hs2 hpos
              go_upto_region 15 with fail
              go_quiet (fail)
              have B9 : Hid (Below wr.heap.size wr (wr.drewN nq)) := Lib.hid (below_drewN (Below.refl _ _) _)
              generalize wr.drewN nq = w7 at *
              obtain ⟨q, hq⟩ : ∃ q, (d ++ (⟨#[47]⟩ : ByteArray)) ++ name = q := ⟨_, rfl⟩
              simp only [hq] at HQ HSQ HS2 HPOS ⊢
              have hp' : 0 < q.size := HPOS.out
              have hp1 : (0 : Int) < (q.size : Int) := by omega
              obtain ⟨pa, hpa⟩ : ∃ pa, seekF name d = pa := ⟨_, rfl⟩
              have HSK2 := HSK.out
              rw [hpa] at HSK2
              have HSKE := Lib.hid HSK2
              have finish : Hid (pa.size ≤ 2199024304131 ∧ ((q.get! 0 = 47 ∧ pa = q) ∨ (¬ q.get! 0 = 47 ∧ pa = (⟨#[47]⟩ : ByteArray) ++ q))) := Lib.hid (by
                have h := HQ.out
                rw [hpa] at h
                by_cases h7 : q.get! 0 = 47
                · rw [if_pos h7] at h
                  exact ⟨by rw [h]; have := HSQ.out; omega, .inl ⟨h7, h⟩⟩
                · rw [if_neg h7] at h
                  exact ⟨by rw [h]; exact HS2.out, .inr ⟨h7, h⟩⟩)
              have HX0' : Hid (q.get! 0 = q[0]'hp') := Lib.hid (first_bang q hp')
              clear z1 z2 HQ HSK HSK2 hpa hq c0 p0
              obtain ⟨V8, hV8⟩ : ∃ V8, openF F S pa = V8 := ⟨_, rfl⟩
              have HV8 := Lib.hid hV8
              have HO := Lib.hid (HOP.out pa w7 finish.out.1 B9.out)
              rw [hV8] at HO
              clear hV8
              rcases finish.out.2 with ⟨h7, hpe⟩ | ⟨h7, hpe⟩
              · have hb : (((q[0]'hp').toNat : Int) != 47) = false := by
                  have h := HX0'.out
                  rw [h] at h7
                  rw [h7]
                  rfl
                rw [hpe] at HO
                clear h7 hpe
                go_wp2_with fail
                refine HO.out.mono ?_
                rintro e w8 ⟨hpost, hb8⟩
                have B8 : Hid (Below w6.heap.size w6 w8) := Lib.hid (bstep HB.out (bstep B9.out hb8))
                clear hb8 hb
                cases V8 with
                | error en2 =>
                  have ho := HV8.out
                  have he := openF_err HST.out.2.2.ok ho
                  have hE : Hid (findF F S ((R.map (pathF name)).drop (k + 1)) = .ok (vp, vi, vs, vb)) := Lib.hid (by
                    have h := HDR.out
                    cases hpp : openF F S (pathF name d) with
                    | ok v =>
                      have := (HSKE.out v).2 hpp
                      rw [ho] at this
                      cases this
                    | error e3 => rw [hpp] at h; exact h.symm)
                  obtain rfl : e = _ := hpost
                  rw [errV_yes (by omega)]
                  have HN : Hid (Below w6.heap.size w6 (w8.alloc (.cells #[.string ⟨#[]⟩, .int .i64 0, .slice none 0 0, .bool false] 36))) := Lib.hid (B8.out.alloc B8.out.size _)
                  clear he ho HDR
                  go_wp2_with fail
                  go_roundg g2
                  case measure => have := HKK.out; omega
                  case rel => exact ⟨k + 1, by have := HKK.out; omega, by have := HML.out; have := HLT.out; rw [IntWalk.wrap64_in _ ⟨by omega, by omega⟩]; rfl, hE, HN⟩
                | ok v =>
                  have ho := HV8.out
                  have hfin := HDR.out
                  rw [(HSKE.out v).1 ho] at hfin
                  obtain rfl : v = (vp, vi, vs, vb) := by cases hfin; rfl
                  obtain ⟨ga, gc, rfl, -⟩ := hpost
                  obtain ⟨gb, hgb⟩ : ∃ gb, w8.heap.size = gb := ⟨_, rfl⟩
                  obtain ⟨gm2, hgm2⟩ : ∃ gm2, vb.length = gm2 := ⟨_, rfl⟩
                  rw [hgm2]
                  obtain ⟨w9, hw9⟩ : ∃ w9, w8.alloc (.cells #[.string vp, .int .i64 vi, .slice ga gm2 gc, .bool vs] 36) = w9 := ⟨_, rfl⟩
                  have HW9 := Lib.hid hw9
                  have B10 : Hid (Below w6.heap.size w6 w9) := Lib.hid (by rw [← hw9]; exact B8.out.alloc B8.out.size _)
                  have y0 : w9.cell? ⟨gb, 0, none⟩ = some (.string vp) := by
                    have h : w9.heap[gb]? = some (.cells #[.string vp, .int .i64 vi, .slice ga gm2 gc, .bool vs] 36) := by rw [← hw9, ← hgb]; exact heap_alloc_new _ _
                    rw [cell_of_row _ _ 0 _ _ _ h]; rfl
                  have y1 : w9.cell? ⟨gb, 1, none⟩ = some (.int .i64 vi) := by
                    have h : w9.heap[gb]? = some (.cells #[.string vp, .int .i64 vi, .slice ga gm2 gc, .bool vs] 36) := by rw [← hw9, ← hgb]; exact heap_alloc_new _ _
                    rw [cell_of_row _ _ 1 _ _ _ h]; rfl
                  have x0 : w9.cell? ⟨fb, 0, none⟩ = some (.string vp) := by rw [cell_of_row _ _ 0 _ _ _ ((B10.out.block _ (lt_of_block Z6.out)).trans Z6.out)]; rfl
                  have x1 : w9.cell? ⟨fb, 1, none⟩ = some (.int .i64 vi) := by rw [cell_of_row _ _ 1 _ _ _ ((B10.out.block _ (lt_of_block Z6.out)).trans Z6.out)]; rfl
                  clear hw9 hgm2 ho hfin HDR
                  go_upto_region 19 with fail
                  rw [HW9.out]
                  try rw [hgb]
                  go_wp2_with fail
                  go_ret
                  exact ⟨rfl, bstep B6.out B10.out⟩
              · have hb : (((q[0]'hp').toNat : Int) != 47) = true := by
                  have h := HX0'.out
                  rw [h] at h7
                  rw [bne_iff_ne]
                  intro e
                  apply h7
                  exact UInt8.toNat_inj.1 (by show _ = 47; omega)
                rw [hpe] at HO
                have z3 : (9223372036854775807 < 1 + q.size) = False := eq_false (by have := HSQ.out; omega)
                clear h7 hpe
                go_wp2_with fail
                refine HO.out.mono ?_
                rintro e w8 ⟨hpost, hb8⟩
                have B8 : Hid (Below w6.heap.size w6 w8) := Lib.hid (bstep HB.out (bstep B9.out hb8))
                clear hb8 hb
                cases V8 with
                | error en2 =>
                  have ho := HV8.out
                  have he := openF_err HST.out.2.2.ok ho
                  have hE : Hid (findF F S ((R.map (pathF name)).drop (k + 1)) = .ok (vp, vi, vs, vb)) := Lib.hid (by
                    have h := HDR.out
                    cases hpp : openF F S (pathF name d) with
                    | ok v =>
                      have := (HSKE.out v).2 hpp
                      rw [ho] at this
                      cases this
                    | error e3 => rw [hpp] at h; exact h.symm)
                  obtain rfl : e = _ := hpost
                  rw [errV_yes (by omega)]
                  have HN : Hid (Below w6.heap.size w6 (w8.alloc (.cells #[.string ⟨#[]⟩, .int .i64 0, .slice none 0 0, .bool false] 36))) := Lib.hid (B8.out.alloc B8.out.size _)
                  clear he ho HDR
                  go_wp2_with fail
                  go_roundg g2
                  case measure => have := HKK.out; omega
                  case rel => exact ⟨k + 1, by have := HKK.out; omega, by have := HML.out; have := HLT.out; rw [IntWalk.wrap64_in _ ⟨by omega, by omega⟩]; rfl, hE, HN⟩
                | ok v =>
                  have ho := HV8.out
                  have hfin := HDR.out
                  rw [(HSKE.out v).1 ho] at hfin
                  obtain rfl : v = (vp, vi, vs, vb) := by cases hfin; rfl
                  obtain ⟨ga, gc, rfl, -⟩ := hpost
                  obtain ⟨gb, hgb⟩ : ∃ gb, w8.heap.size = gb := ⟨_, rfl⟩
                  obtain ⟨gm2, hgm2⟩ : ∃ gm2, vb.length = gm2 := ⟨_, rfl⟩
                  rw [hgm2]
                  obtain ⟨w9, hw9⟩ : ∃ w9, w8.alloc (.cells #[.string vp, .int .i64 vi, .slice ga gm2 gc, .bool vs] 36) = w9 := ⟨_, rfl⟩
                  have HW9 := Lib.hid hw9
                  have B10 : Hid (Below w6.heap.size w6 w9) := Lib.hid (by rw [← hw9]; exact B8.out.alloc B8.out.size _)
                  have y0 : w9.cell? ⟨gb, 0, none⟩ = some (.string vp) := by
                    have h : w9.heap[gb]? = some (.cells #[.string vp, .int .i64 vi, .slice ga gm2 gc, .bool vs] 36) := by rw [← hw9, ← hgb]; exact heap_alloc_new _ _
                    rw [cell_of_row _ _ 0 _ _ _ h]; rfl
                  have y1 : w9.cell? ⟨gb, 1, none⟩ = some (.int .i64 vi) := by
                    have h : w9.heap[gb]? = some (.cells #[.string vp, .int .i64 vi, .slice ga gm2 gc, .bool vs] 36) := by rw [← hw9, ← hgb]; exact heap_alloc_new _ _
                    rw [cell_of_row _ _ 1 _ _ _ h]; rfl
                  have x0 : w9.cell? ⟨fb, 0, none⟩ = some (.string vp) := by rw [cell_of_row _ _ 0 _ _ _ ((B10.out.block _ (lt_of_block Z6.out)).trans Z6.out)]; rfl
                  have x1 : w9.cell? ⟨fb, 1, none⟩ = some (.int .i64 vi) := by rw [cell_of_row _ _ 1 _ _ _ ((B10.out.block _ (lt_of_block Z6.out)).trans Z6.out)]; rfl
                  clear hw9 hgm2 ho hfin HDR
                  go_upto_region 19 with fail
                  rw [HW9.out]
                  try rw [hgb]
                  go_wp2_with fail
                  go_ret
                  exact ⟨rfl, bstep B6.out B10.out⟩
end Go.Proofs.YtmenafneheaabaaDoor
