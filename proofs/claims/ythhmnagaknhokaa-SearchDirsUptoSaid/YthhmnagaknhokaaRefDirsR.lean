/- Layer 14, the document's answer: the directories in which a library is looked for. -/
import Derived.Test.YthhmnagaknhokaaRefDirsE
namespace Go.Proofs.Ythhmnagaknhokaa
open Go.RowKit
set_option linter.unusedVariables false
set_option linter.unusedSimpArgs false


set_option maxRecDepth 100000 in
set_option maxHeartbeats 8000000 in
theorem refDirs_RS (name : ByteArray) (env : ByteArray) (b off m cc : Nat) (C : List OT) (w : World) (hC : CRow w (some ⟨b, off, none⟩) C) (hm : C.length = m + 1) (hml : m ≤ 1048576) (h0 : (C[0]'(by omega)).hasRun = true) (hok2 : AddOK colonP (C[0]'(by omega)).runpath (C[0]'(by omega)).path []) (hok3 : AddOK colonP defaultsF ⟨#[]⟩ (addF true (C[0]'(by omega)).path [] (cutF colonP (C[0]'(by omega)).runpath.data.toList))) :
    Calls Try.prog 8 #[.agg #[.string name, .slice (some ⟨b, off, none⟩) (m + 1) cc, .string env, .bool true]] w fun e w' => (∃ ad c, e = .returned (.slice ad (addF false ⟨#[]⟩ (addF true (C[0]'(by omega)).path [] (cutF colonP (C[0]'(by omega)).runpath.data.toList)) (cutF colonP defaultsF.data.toList)).length c) ∧ TRow w' ad (addF false ⟨#[]⟩ (addF true (C[0]'(by omega)).path [] (cutF colonP (C[0]'(by omega)).runpath.data.toList)) (cutF colonP defaultsF.data.toList))) ∧ Below w.heap.size w w' := by
  obtain ⟨cs, hcs⟩ : ∃ cs : Array Value, #[.string name, .slice (some ⟨b, off, none⟩) (m + 1) cc, .string env, .bool true] = cs := ⟨_, rfl⟩
  have HCS := Lib.hid hcs
  have D0 : Hid (LSt w w.heap.size cs (.slice none 0 0) [] (w.alloc (.cells #[.string name, .slice (some ⟨b, off, none⟩) (m + 1) cc, .string env, .bool true] 28))) := Lib.hid ⟨OwnT.nil _ _ _, by rw [← hcs]; exact heap_alloc_new _ _, (Below.refl _ _).alloc (Nat.le_refl _) _⟩
  have HCELL : Hid (∀ (w1 : World), Below w.heap.size w w1 → ∀ k, (hk : k < C.length) → ∀ j, j < 5 → w1.cell? ⟨b, off + k * 5 + j, none⟩ = (C[k]'hk).cells[j]?) := Lib.hid (fun w1 hb k hk j hj => by
    obtain ⟨b', o', e, hlt, hc⟩ := (hC.below hb) k hk
    cases e
    exact hc j hj)
  have HF4 : Hid (∀ (w1 : World), Below w.heap.size w w1 → w1.cell? ⟨b, off + 4, none⟩ = some (.bool true)) := Lib.hid (fun w1 hb => by
    have h1 := HCELL.out w1 hb 0 (by omega) 4 (by omega)
    rw [Nat.zero_mul, Nat.add_zero] at h1
    rw [h1, ← h0]
    rfl)
  obtain ⟨R, hR⟩ : ∃ R, (addF false ⟨#[]⟩ (addF true (C[0]'(by omega)).path [] (cutF colonP (C[0]'(by omega)).runpath.data.toList)) (cutF colonP defaultsF.data.toList)) = R := ⟨_, rfl⟩
  have HR := Lib.hid hR
  rw [hR]
  have HF0 : Hid (∀ (w1 : World), Below w.heap.size w w1 → w1.cell? ⟨b, off, none⟩ = some (.string (C[0]'(by omega)).path)) := Lib.hid (fun w1 hb => by
    have h1 := HCELL.out w1 hb 0 (by omega) 0 (by omega)
    rw [Nat.zero_mul, Nat.add_zero] at h1
    rw [h1]
    rfl)
  have HF2 : Hid (∀ (w1 : World), Below w.heap.size w w1 → w1.cell? ⟨b, off + 2, none⟩ = some (.string (C[0]'(by omega)).runpath)) := Lib.hid (fun w1 hb => by
    have h1 := HCELL.out w1 hb 0 (by omega) 2 (by omega)
    rw [Nat.zero_mul, Nat.add_zero] at h1
    rw [h1]
    rfl)
  obtain ⟨fp, hfp⟩ : ∃ fp, (C[0]'(by omega)).path = fp := ⟨_, rfl⟩
  obtain ⟨fr, hfr⟩ : ∃ fr, (C[0]'(by omega)).runpath = fr := ⟨_, rfl⟩
  rw [hfp] at hok2 hok3 HR HF0
  rw [hfr] at hok2 hok3 HR HF2
  have HOK2 := Lib.hid hok2
  have HOK3 := Lib.hid hok3
  have HLAY := Lib.hid (fun (sc : Bool) (ad : Option Addr) (c : Nat) (acc : List ByteArray) (list origin : ByteArray) (w1 : World) (hd : LSt w w.heap.size cs (.slice ad acc.length c) acc w1) (ok : AddOK colonP list origin acc) => refLay_any colonP w w.heap.size cs ad c acc sc list ⟨#[58]⟩ origin w1 hd ok.ls ok.os (by decide) among_colon ok.each ok.many)
  have HLAB := Lib.hid (fun (sc : Bool) (ad : Option Addr) (c : Nat) (acc : List ByteArray) (list origin : ByteArray) (w1 : World) (hd : LSt w w.heap.size cs (.slice ad acc.length c) acc w1) (ok : AddOK bothP list origin acc) => refLay_any bothP w w.heap.size cs ad c acc sc list ⟨#[58, 59]⟩ origin w1 hd ok.ls ok.os (by decide) among_both ok.each ok.many)
  have f4 := HF4.out _ D0.out.2.2
  have hmi : (0 : Int) < ((m + 1 : Nat) : Int) := by omega
  have hmi2 : (0 : Int) < (m : Int) + 1 := by omega
  have HM := Lib.hid hm
  clear hC hm h0 hR hcs hok3 hok2 hfp hfr
  go_enter Try.func8, Try.ntmps8
  have f0 := HF0.out _ D0.out.2.2
  have f2 := HF2.out _ D0.out.2.2
  go_wp2_with fail
  generalize w.alloc (.cells #[.string name, .slice (some ⟨b, off, none⟩) (m + 1) cc, .string env, .bool true] 28) = w2 at *
  have k1 := ask_cell HCS.out.symm D0.out 1 (.slice (some ⟨b, off, none⟩) (m + 1) cc) rfl
  have k3 := ask_cell HCS.out.symm D0.out 3 (.bool true) rfl
  go_region_law (first | (go_simp; go_at_call 21; refine (HLAY.out true none 0 [] fr fp _ (D0.out.below (Below.refl _ _).drew) HOK2.out).mono ?_; rintro e w6 ⟨ad6, c6, rfl, hd6⟩; have D6 := Lib.hid hd6; clear hd6))
  all_goals
    go_wp2_with fail
    refine (HLAY.out false ad6 c6 _ defaultsF ⟨#[]⟩ _ D6.out HOK3.out).mono ?_
    rintro e w7 ⟨ad7, c7, rfl, hd7⟩
    rw [HR.out] at hd7 ⊢
    have D7 := Lib.hid hd7
    clear hd7
    go_wp2_with fail
    go_ret
    exact ⟨⟨ad7, c7, rfl, D7.out.1.row.1⟩, D7.out.2.2⟩
set_option maxRecDepth 100000 in
set_option maxHeartbeats 8000000 in
theorem refDirs_RO (name : ByteArray) (b off m cc : Nat) (C : List OT) (w : World) (hC : CRow w (some ⟨b, off, none⟩) C) (hm : C.length = m + 1) (hml : m ≤ 1048576) (h0 : (C[0]'(by omega)).hasRun = true) (hok2 : AddOK colonP (C[0]'(by omega)).runpath (C[0]'(by omega)).path []) (hok3 : AddOK colonP defaultsF ⟨#[]⟩ (addF false (C[0]'(by omega)).path [] (cutF colonP (C[0]'(by omega)).runpath.data.toList))) :
    Calls Try.prog 8 #[.agg #[.string name, .slice (some ⟨b, off, none⟩) (m + 1) cc, .string ⟨#[]⟩, .bool false]] w fun e w' => (∃ ad c, e = .returned (.slice ad (addF false ⟨#[]⟩ (addF false (C[0]'(by omega)).path [] (cutF colonP (C[0]'(by omega)).runpath.data.toList)) (cutF colonP defaultsF.data.toList)).length c) ∧ TRow w' ad (addF false ⟨#[]⟩ (addF false (C[0]'(by omega)).path [] (cutF colonP (C[0]'(by omega)).runpath.data.toList)) (cutF colonP defaultsF.data.toList))) ∧ Below w.heap.size w w' := by
  obtain ⟨cs, hcs⟩ : ∃ cs : Array Value, #[.string name, .slice (some ⟨b, off, none⟩) (m + 1) cc, .string ⟨#[]⟩, .bool false] = cs := ⟨_, rfl⟩
  have HCS := Lib.hid hcs
  have D0 : Hid (LSt w w.heap.size cs (.slice none 0 0) [] (w.alloc (.cells #[.string name, .slice (some ⟨b, off, none⟩) (m + 1) cc, .string ⟨#[]⟩, .bool false] 28))) := Lib.hid ⟨OwnT.nil _ _ _, by rw [← hcs]; exact heap_alloc_new _ _, (Below.refl _ _).alloc (Nat.le_refl _) _⟩
  have HCELL : Hid (∀ (w1 : World), Below w.heap.size w w1 → ∀ k, (hk : k < C.length) → ∀ j, j < 5 → w1.cell? ⟨b, off + k * 5 + j, none⟩ = (C[k]'hk).cells[j]?) := Lib.hid (fun w1 hb k hk j hj => by
    obtain ⟨b', o', e, hlt, hc⟩ := (hC.below hb) k hk
    cases e
    exact hc j hj)
  have HF4 : Hid (∀ (w1 : World), Below w.heap.size w w1 → w1.cell? ⟨b, off + 4, none⟩ = some (.bool true)) := Lib.hid (fun w1 hb => by
    have h1 := HCELL.out w1 hb 0 (by omega) 4 (by omega)
    rw [Nat.zero_mul, Nat.add_zero] at h1
    rw [h1, ← h0]
    rfl)
  obtain ⟨R, hR⟩ : ∃ R, (addF false ⟨#[]⟩ (addF false (C[0]'(by omega)).path [] (cutF colonP (C[0]'(by omega)).runpath.data.toList)) (cutF colonP defaultsF.data.toList)) = R := ⟨_, rfl⟩
  have HR := Lib.hid hR
  rw [hR]
  have HF0 : Hid (∀ (w1 : World), Below w.heap.size w w1 → w1.cell? ⟨b, off, none⟩ = some (.string (C[0]'(by omega)).path)) := Lib.hid (fun w1 hb => by
    have h1 := HCELL.out w1 hb 0 (by omega) 0 (by omega)
    rw [Nat.zero_mul, Nat.add_zero] at h1
    rw [h1]
    rfl)
  have HF2 : Hid (∀ (w1 : World), Below w.heap.size w w1 → w1.cell? ⟨b, off + 2, none⟩ = some (.string (C[0]'(by omega)).runpath)) := Lib.hid (fun w1 hb => by
    have h1 := HCELL.out w1 hb 0 (by omega) 2 (by omega)
    rw [Nat.zero_mul, Nat.add_zero] at h1
    rw [h1]
    rfl)
  obtain ⟨fp, hfp⟩ : ∃ fp, (C[0]'(by omega)).path = fp := ⟨_, rfl⟩
  obtain ⟨fr, hfr⟩ : ∃ fr, (C[0]'(by omega)).runpath = fr := ⟨_, rfl⟩
  rw [hfp] at hok2 hok3 HR HF0
  rw [hfr] at hok2 hok3 HR HF2
  have HOK2 := Lib.hid hok2
  have HOK3 := Lib.hid hok3
  have HLAY := Lib.hid (fun (sc : Bool) (ad : Option Addr) (c : Nat) (acc : List ByteArray) (list origin : ByteArray) (w1 : World) (hd : LSt w w.heap.size cs (.slice ad acc.length c) acc w1) (ok : AddOK colonP list origin acc) => refLay_any colonP w w.heap.size cs ad c acc sc list ⟨#[58]⟩ origin w1 hd ok.ls ok.os (by decide) among_colon ok.each ok.many)
  have HLAB := Lib.hid (fun (sc : Bool) (ad : Option Addr) (c : Nat) (acc : List ByteArray) (list origin : ByteArray) (w1 : World) (hd : LSt w w.heap.size cs (.slice ad acc.length c) acc w1) (ok : AddOK bothP list origin acc) => refLay_any bothP w w.heap.size cs ad c acc sc list ⟨#[58, 59]⟩ origin w1 hd ok.ls ok.os (by decide) among_both ok.each ok.many)
  have f4 := HF4.out _ D0.out.2.2
  have hmi : (0 : Int) < ((m + 1 : Nat) : Int) := by omega
  have hmi2 : (0 : Int) < (m : Int) + 1 := by omega
  have HM := Lib.hid hm
  clear hC hm h0 hR hcs hok3 hok2 hfp hfr
  go_enter Try.func8, Try.ntmps8
  have f0 := HF0.out _ D0.out.2.2
  have f2 := HF2.out _ D0.out.2.2
  go_wp2_with fail
  generalize w.alloc (.cells #[.string name, .slice (some ⟨b, off, none⟩) (m + 1) cc, .string ⟨#[]⟩, .bool false] 28) = w2 at *
  have k1 := ask_cell HCS.out.symm D0.out 1 (.slice (some ⟨b, off, none⟩) (m + 1) cc) rfl
  have k3 := ask_cell HCS.out.symm D0.out 3 (.bool false) rfl
  go_region_law (first | (go_simp; go_at_call 21; refine (HLAY.out false none 0 [] fr fp _ (D0.out.below (Below.refl _ _).drew) HOK2.out).mono ?_; rintro e w6 ⟨ad6, c6, rfl, hd6⟩; have D6 := Lib.hid hd6; clear hd6))
  all_goals
    go_wp2_with fail
    refine (HLAY.out false ad6 c6 _ defaultsF ⟨#[]⟩ _ D6.out HOK3.out).mono ?_
    rintro e w7 ⟨ad7, c7, rfl, hd7⟩
    rw [HR.out] at hd7 ⊢
    have D7 := Lib.hid hd7
    clear hd7
    go_wp2_with fail
    go_ret
    exact ⟨⟨ad7, c7, rfl, D7.out.1.row.1⟩, D7.out.2.2⟩
set_option maxRecDepth 100000 in
set_option maxHeartbeats 8000000 in
theorem refDirs_RA (name : ByteArray) (ec : UInt8) (et : List UInt8) (b off m cc : Nat) (C : List OT) (w : World) (hC : CRow w (some ⟨b, off, none⟩) C) (hm : C.length = m + 1) (hml : m ≤ 1048576) (h0 : (C[0]'(by omega)).hasRun = true) (hok1 : AddOK bothP ⟨(ec :: et).toArray⟩ (C[m]'(by omega)).path []) (hok2 : AddOK colonP (C[0]'(by omega)).runpath (C[0]'(by omega)).path (addF false (C[m]'(by omega)).path [] (cutF bothP (⟨(ec :: et).toArray⟩ : ByteArray).data.toList))) (hok3 : AddOK colonP defaultsF ⟨#[]⟩ (addF false (C[0]'(by omega)).path (addF false (C[m]'(by omega)).path [] (cutF bothP (⟨(ec :: et).toArray⟩ : ByteArray).data.toList)) (cutF colonP (C[0]'(by omega)).runpath.data.toList))) :
    Calls Try.prog 8 #[.agg #[.string name, .slice (some ⟨b, off, none⟩) (m + 1) cc, .string ⟨(ec :: et).toArray⟩, .bool false]] w fun e w' => (∃ ad c, e = .returned (.slice ad (addF false ⟨#[]⟩ (addF false (C[0]'(by omega)).path (addF false (C[m]'(by omega)).path [] (cutF bothP (⟨(ec :: et).toArray⟩ : ByteArray).data.toList)) (cutF colonP (C[0]'(by omega)).runpath.data.toList)) (cutF colonP defaultsF.data.toList)).length c) ∧ TRow w' ad (addF false ⟨#[]⟩ (addF false (C[0]'(by omega)).path (addF false (C[m]'(by omega)).path [] (cutF bothP (⟨(ec :: et).toArray⟩ : ByteArray).data.toList)) (cutF colonP (C[0]'(by omega)).runpath.data.toList)) (cutF colonP defaultsF.data.toList))) ∧ Below w.heap.size w w' := by
  obtain ⟨cs, hcs⟩ : ∃ cs : Array Value, #[.string name, .slice (some ⟨b, off, none⟩) (m + 1) cc, .string ⟨(ec :: et).toArray⟩, .bool false] = cs := ⟨_, rfl⟩
  have HCS := Lib.hid hcs
  have D0 : Hid (LSt w w.heap.size cs (.slice none 0 0) [] (w.alloc (.cells #[.string name, .slice (some ⟨b, off, none⟩) (m + 1) cc, .string ⟨(ec :: et).toArray⟩, .bool false] 28))) := Lib.hid ⟨OwnT.nil _ _ _, by rw [← hcs]; exact heap_alloc_new _ _, (Below.refl _ _).alloc (Nat.le_refl _) _⟩
  have HCELL : Hid (∀ (w1 : World), Below w.heap.size w w1 → ∀ k, (hk : k < C.length) → ∀ j, j < 5 → w1.cell? ⟨b, off + k * 5 + j, none⟩ = (C[k]'hk).cells[j]?) := Lib.hid (fun w1 hb k hk j hj => by
    obtain ⟨b', o', e, hlt, hc⟩ := (hC.below hb) k hk
    cases e
    exact hc j hj)
  have HF4 : Hid (∀ (w1 : World), Below w.heap.size w w1 → w1.cell? ⟨b, off + 4, none⟩ = some (.bool true)) := Lib.hid (fun w1 hb => by
    have h1 := HCELL.out w1 hb 0 (by omega) 4 (by omega)
    rw [Nat.zero_mul, Nat.add_zero] at h1
    rw [h1, ← h0]
    rfl)
  obtain ⟨R, hR⟩ : ∃ R, (addF false ⟨#[]⟩ (addF false (C[0]'(by omega)).path (addF false (C[m]'(by omega)).path [] (cutF bothP (⟨(ec :: et).toArray⟩ : ByteArray).data.toList)) (cutF colonP (C[0]'(by omega)).runpath.data.toList)) (cutF colonP defaultsF.data.toList)) = R := ⟨_, rfl⟩
  have HR := Lib.hid hR
  rw [hR]
  obtain ⟨lo, hlo⟩ : ∃ lo, C[m]'(by omega) = lo := ⟨_, rfl⟩
  have HLO : Hid (∀ (w1 : World), Below w.heap.size w w1 → w1.cell? ⟨b, off + m * 5, none⟩ = some (.string lo.path)) := Lib.hid (fun w1 hb => by
    have h1 := HCELL.out w1 hb m (by omega) 0 (by omega)
    rw [Nat.add_zero] at h1
    rw [h1, hlo]
    rfl)
  rw [hlo] at hok1 hok3 HR hok2
  obtain ⟨lp, hlp⟩ : ∃ lp, lo.path = lp := ⟨_, rfl⟩
  rw [hlp] at hok1 hok3 HR HLO hok2
  have HOK1 := Lib.hid hok1
  have HF0 : Hid (∀ (w1 : World), Below w.heap.size w w1 → w1.cell? ⟨b, off, none⟩ = some (.string (C[0]'(by omega)).path)) := Lib.hid (fun w1 hb => by
    have h1 := HCELL.out w1 hb 0 (by omega) 0 (by omega)
    rw [Nat.zero_mul, Nat.add_zero] at h1
    rw [h1]
    rfl)
  have HF2 : Hid (∀ (w1 : World), Below w.heap.size w w1 → w1.cell? ⟨b, off + 2, none⟩ = some (.string (C[0]'(by omega)).runpath)) := Lib.hid (fun w1 hb => by
    have h1 := HCELL.out w1 hb 0 (by omega) 2 (by omega)
    rw [Nat.zero_mul, Nat.add_zero] at h1
    rw [h1]
    rfl)
  obtain ⟨fp, hfp⟩ : ∃ fp, (C[0]'(by omega)).path = fp := ⟨_, rfl⟩
  obtain ⟨fr, hfr⟩ : ∃ fr, (C[0]'(by omega)).runpath = fr := ⟨_, rfl⟩
  rw [hfp] at hok2 hok3 HR HF0
  rw [hfr] at hok2 hok3 HR HF2
  have HOK2 := Lib.hid hok2
  have HOK3 := Lib.hid hok3
  have HLAY := Lib.hid (fun (sc : Bool) (ad : Option Addr) (c : Nat) (acc : List ByteArray) (list origin : ByteArray) (w1 : World) (hd : LSt w w.heap.size cs (.slice ad acc.length c) acc w1) (ok : AddOK colonP list origin acc) => refLay_any colonP w w.heap.size cs ad c acc sc list ⟨#[58]⟩ origin w1 hd ok.ls ok.os (by decide) among_colon ok.each ok.many)
  have HLAB := Lib.hid (fun (sc : Bool) (ad : Option Addr) (c : Nat) (acc : List ByteArray) (list origin : ByteArray) (w1 : World) (hd : LSt w w.heap.size cs (.slice ad acc.length c) acc w1) (ok : AddOK bothP list origin acc) => refLay_any bothP w w.heap.size cs ad c acc sc list ⟨#[58, 59]⟩ origin w1 hd ok.ls ok.os (by decide) among_both ok.each ok.many)
  have f4 := HF4.out _ D0.out.2.2
  have hmi : (0 : Int) < ((m + 1 : Nat) : Int) := by omega
  have hmi2 : (0 : Int) < (m : Int) + 1 := by omega
  have HM := Lib.hid hm
  clear hC hm h0 hR hcs hok3 hok1 hlo hlp hok2 hfp hfr
  go_enter Try.func8, Try.ntmps8
  have flp := HLO.out _ D0.out.2.2
  go_wp2_with fail
  refine (HLAB.out false none 0 [] ⟨(ec :: et).toArray⟩ lp _ D0.out HOK1.out).mono ?_
  rintro e w5 ⟨ad5, c5, rfl, hd5⟩
  have D5 := Lib.hid hd5
  clear hd5 f4 flp
  have k1 := ask_cell HCS.out.symm D5.out 1 (.slice (some ⟨b, off, none⟩) (m + 1) cc) rfl
  have k2 := ask_cell HCS.out.symm D5.out 2 (.string ⟨(ec :: et).toArray⟩) rfl
  have k3 := ask_cell HCS.out.symm D5.out 3 (.bool false) rfl
  have f4 := HF4.out _ D5.out.2.2
  have f0 := HF0.out _ D5.out.2.2
  have f2 := HF2.out _ D5.out.2.2
  go_wp2_with fail
  go_region_law (first | (go_simp; go_at_call 21; refine (HLAY.out false ad5 c5 _ fr fp _ (D5.out.below (Below.refl _ _).drew) HOK2.out).mono ?_; rintro e w6 ⟨ad6, c6, rfl, hd6⟩; have D6 := Lib.hid hd6; clear hd6))
  all_goals
    go_wp2_with fail
    refine (HLAY.out false ad6 c6 _ defaultsF ⟨#[]⟩ _ D6.out HOK3.out).mono ?_
    rintro e w7 ⟨ad7, c7, rfl, hd7⟩
    rw [HR.out] at hd7 ⊢
    have D7 := Lib.hid hd7
    clear hd7
    go_wp2_with fail
    go_ret
    exact ⟨⟨ad7, c7, rfl, D7.out.1.row.1⟩, D7.out.2.2⟩
end Go.Proofs.Ythhmnagaknhokaa
