/- Layer 14: the directories in which a library is looked for, case by case. -/
import Derived.Test.YtppeapafnnanbaaDoorDirsE
namespace Go.Proofs.YtppeapafnnanbaaDoor
open Go.RowKit
set_option linter.unusedVariables false
set_option linter.unusedSimpArgs false


set_option maxRecDepth 100000 in
set_option maxHeartbeats 8000000 in
theorem dirs_RS (name : ByteArray) (env : ByteArray) (b off m cc : Nat) (C : List OT) (w : World) (hC : CRow w (some ⟨b, off, none⟩) C) (hm : C.length = m + 1) (hml : m ≤ 1048576) (hmc : m + 1 ≤ cc) (h0 : (C[0]'(by omega)).hasRun = true) (hok2 : AddOK colonP (C[0]'(by omega)).runpath (C[0]'(by omega)).path []) (hok3 : AddOK colonP defaultsF ⟨#[]⟩ (addF true (C[0]'(by omega)).path [] (cutF colonP (C[0]'(by omega)).runpath.data.toList))) :
    Calls Tryd.prog 10 #[.agg #[.string name, .slice (some ⟨b, off, none⟩) (m + 1) cc, .string env, .bool true]] w fun e w' => (∃ ad c, e = .returned (.slice ad (addF true ⟨#[]⟩ (addF true (C[0]'(by omega)).path [] (cutF colonP (C[0]'(by omega)).runpath.data.toList)) (cutF colonP defaultsF.data.toList)).length c) ∧ TRow w' ad (addF true ⟨#[]⟩ (addF true (C[0]'(by omega)).path [] (cutF colonP (C[0]'(by omega)).runpath.data.toList)) (cutF colonP defaultsF.data.toList))) ∧ Below w.heap.size w w' := by
  obtain ⟨cs, hcs⟩ : ∃ cs : Array Value, #[.string name, .slice (some ⟨b, off, none⟩) (m + 1) cc, .string env, .bool true] = cs := ⟨_, rfl⟩
  have HCS := Lib.hid hcs
  have D0 : Hid (DSt w (w.heap.size + 1) w.heap.size cs [] ((w.alloc (.cells #[.string name, .slice (some ⟨b, off, none⟩) (m + 1) cc, .string env, .bool true] 25)).alloc (.cells #[.slice none 0 0] 45))) := Lib.hid (by
    have hb1 : Below w.heap.size w ((w.alloc (.cells #[.string name, .slice (some ⟨b, off, none⟩) (m + 1) cc, .string env, .bool true] 25)).alloc (.cells #[.slice none 0 0] 45)) := ((Below.refl _ _).alloc (Nat.le_refl _) _).alloc (by simp) _
    refine ⟨none, 0, ?_, OwnT.nil _ _ _, ?_, hb1⟩
    · have := heap_alloc_new (w.alloc (.cells #[.string name, .slice (some ⟨b, off, none⟩) (m + 1) cc, .string env, .bool true] 25)) (.cells #[.slice none 0 0] 45)
      unfold InBox
      simpa using this
    · rw [heap_alloc_old _ _ (by simp), ← hcs]
      exact heap_alloc_new _ _)
  have HCELL : Hid (∀ (w1 : World), Below w.heap.size w w1 → ∀ k, (hk : k < C.length) → b < w1.heap.size ∧ ∀ j, j < 5 → w1.cell? ⟨b, off + k * 5 + j, none⟩ = (C[k]'hk).cells[j]?) := Lib.hid (fun w1 hb k hk => by
    obtain ⟨b', o', e, hlt, hc⟩ := (hC.below hb) k hk
    cases e
    exact ⟨hlt, fun j hj => hc j hj⟩)
  have HF4 : Hid (∀ (w1 : World), Below w.heap.size w w1 → w1.cell? ⟨b, off + 4, none⟩ = some (.bool true)) := Lib.hid (fun w1 hb => by
    have h1 := (HCELL.out w1 hb 0 (by omega)).2 4 (by omega)
    rw [Nat.zero_mul, Nat.add_zero] at h1
    rw [h1, ← h0]
    rfl)
  obtain ⟨R, hR⟩ : ∃ R, (addF true ⟨#[]⟩ (addF true (C[0]'(by omega)).path [] (cutF colonP (C[0]'(by omega)).runpath.data.toList)) (cutF colonP defaultsF.data.toList)) = R := ⟨_, rfl⟩
  have HR := Lib.hid hR
  rw [hR]
  have HF0 : Hid (∀ (w1 : World), Below w.heap.size w w1 → w1.cell? ⟨b, off, none⟩ = some (.string (C[0]'(by omega)).path)) := Lib.hid (fun w1 hb => by
    have h1 := (HCELL.out w1 hb 0 (by omega)).2 0 (by omega)
    rw [Nat.zero_mul, Nat.add_zero] at h1
    rw [h1]
    rfl)
  have HF2 : Hid (∀ (w1 : World), Below w.heap.size w w1 → w1.cell? ⟨b, off + 2, none⟩ = some (.string (C[0]'(by omega)).runpath)) := Lib.hid (fun w1 hb => by
    have h1 := (HCELL.out w1 hb 0 (by omega)).2 2 (by omega)
    rw [Nat.zero_mul, Nat.add_zero] at h1
    rw [h1]
    rfl)
  obtain ⟨fp, hfp⟩ : ∃ fp, (C[0]'(by omega)).path = fp := ⟨_, rfl⟩
  obtain ⟨fr, hfr⟩ : ∃ fr, (C[0]'(by omega)).runpath = fr := ⟨_, rfl⟩
  rw [hfp] at hok2 hok3 HR HF0
  rw [hfr] at hok2 hok3 HR HF2
  have HOK2 := Lib.hid hok2
  have HOK3 := Lib.hid hok3
  have HADD := Lib.hid (fun (acc : List ByteArray) (list origin : ByteArray) (w1 : World) (hd : DSt w (w.heap.size + 1) w.heap.size cs acc w1) (ok : AddOK colonP list origin acc) => add_any 28 colonP enters_colon colon_any colonP_high w (w.heap.size + 1) w.heap.size cs acc true list origin w1 hd (by omega) (by omega) (by rw [← hcs]; rfl) ok.ls ok.os ok.each ok.many)
  have HADB := Lib.hid (fun (acc : List ByteArray) (list origin : ByteArray) (w1 : World) (hd : DSt w (w.heap.size + 1) w.heap.size cs acc w1) (ok : AddOK bothP list origin acc) => add_any 30 bothP enters_both both_any bothP_high w (w.heap.size + 1) w.heap.size cs acc true list origin w1 hd (by omega) (by omega) (by rw [← hcs]; rfl) ok.ls ok.os ok.each ok.many)
  have f4 := HF4.out _ D0.out.blw
  have hmi : (0 : Int) < ((m + 1 : Nat) : Int) := by omega
  have hmi2 : (0 : Int) < (m : Int) + 1 := by omega
  have HM := Lib.hid hm
  clear hC hm h0 hR hcs hok3 hok2 hfp hfr
  go_enter Tryd.func10, Tryd.ntmps10
  go_wp2_with fail
  generalize (w.alloc (.cells #[.string name, .slice (some ⟨b, off, none⟩) (m + 1) cc, .string env, .bool true] 25)).alloc (.cells #[.slice none 0 0] 45) = wr at *
  have k1 := dst_cell HCS.out.symm D0.out 1 (.slice (some ⟨b, off, none⟩) (m + 1) cc) rfl
  have k3 := dst_cell HCS.out.symm D0.out 3 (.bool true) rfl
  have f0 := HF0.out _ D0.out.blw
  have f2 := HF2.out _ D0.out.blw
  go_region_law (first | (go_simp; go_at_call 25; refine (HADD.out [] fr fp _ (D0.out.below (Below.refl _ _).drew) HOK2.out).mono ?_; rintro e w6 ⟨rfl, hd6⟩; have D6 := Lib.hid hd6; clear hd6))
  all_goals
    go_wp2_with fail
    refine (HADD.out _ defaultsF ⟨#[]⟩ _ D6.out HOK3.out).mono ?_
    rintro e w11 ⟨rfl, hd11⟩
    rw [HR.out] at hd11
    obtain ⟨ad, c, hx, ho, -, hB⟩ := hd11
    have hc11 := hx.cell
    have TR := Lib.hid ho.row.1
    have B11 := Lib.hid hB
    clear hx ho hB
    go_wp2_with fail
    go_ret
    exact ⟨⟨ad, c, rfl, TR.out⟩, B11.out⟩
set_option maxRecDepth 100000 in
set_option maxHeartbeats 8000000 in
theorem dirs_RO (name : ByteArray) (b off m cc : Nat) (C : List OT) (w : World) (hC : CRow w (some ⟨b, off, none⟩) C) (hm : C.length = m + 1) (hml : m ≤ 1048576) (hmc : m + 1 ≤ cc) (h0 : (C[0]'(by omega)).hasRun = true) (hok2 : AddOK colonP (C[0]'(by omega)).runpath (C[0]'(by omega)).path []) (hok3 : AddOK colonP defaultsF ⟨#[]⟩ (addF false (C[0]'(by omega)).path [] (cutF colonP (C[0]'(by omega)).runpath.data.toList))) :
    Calls Tryd.prog 10 #[.agg #[.string name, .slice (some ⟨b, off, none⟩) (m + 1) cc, .string ⟨#[]⟩, .bool false]] w fun e w' => (∃ ad c, e = .returned (.slice ad (addF false ⟨#[]⟩ (addF false (C[0]'(by omega)).path [] (cutF colonP (C[0]'(by omega)).runpath.data.toList)) (cutF colonP defaultsF.data.toList)).length c) ∧ TRow w' ad (addF false ⟨#[]⟩ (addF false (C[0]'(by omega)).path [] (cutF colonP (C[0]'(by omega)).runpath.data.toList)) (cutF colonP defaultsF.data.toList))) ∧ Below w.heap.size w w' := by
  obtain ⟨cs, hcs⟩ : ∃ cs : Array Value, #[.string name, .slice (some ⟨b, off, none⟩) (m + 1) cc, .string ⟨#[]⟩, .bool false] = cs := ⟨_, rfl⟩
  have HCS := Lib.hid hcs
  have D0 : Hid (DSt w (w.heap.size + 1) w.heap.size cs [] ((w.alloc (.cells #[.string name, .slice (some ⟨b, off, none⟩) (m + 1) cc, .string ⟨#[]⟩, .bool false] 25)).alloc (.cells #[.slice none 0 0] 45))) := Lib.hid (by
    have hb1 : Below w.heap.size w ((w.alloc (.cells #[.string name, .slice (some ⟨b, off, none⟩) (m + 1) cc, .string ⟨#[]⟩, .bool false] 25)).alloc (.cells #[.slice none 0 0] 45)) := ((Below.refl _ _).alloc (Nat.le_refl _) _).alloc (by simp) _
    refine ⟨none, 0, ?_, OwnT.nil _ _ _, ?_, hb1⟩
    · have := heap_alloc_new (w.alloc (.cells #[.string name, .slice (some ⟨b, off, none⟩) (m + 1) cc, .string ⟨#[]⟩, .bool false] 25)) (.cells #[.slice none 0 0] 45)
      unfold InBox
      simpa using this
    · rw [heap_alloc_old _ _ (by simp), ← hcs]
      exact heap_alloc_new _ _)
  have HCELL : Hid (∀ (w1 : World), Below w.heap.size w w1 → ∀ k, (hk : k < C.length) → b < w1.heap.size ∧ ∀ j, j < 5 → w1.cell? ⟨b, off + k * 5 + j, none⟩ = (C[k]'hk).cells[j]?) := Lib.hid (fun w1 hb k hk => by
    obtain ⟨b', o', e, hlt, hc⟩ := (hC.below hb) k hk
    cases e
    exact ⟨hlt, fun j hj => hc j hj⟩)
  have HF4 : Hid (∀ (w1 : World), Below w.heap.size w w1 → w1.cell? ⟨b, off + 4, none⟩ = some (.bool true)) := Lib.hid (fun w1 hb => by
    have h1 := (HCELL.out w1 hb 0 (by omega)).2 4 (by omega)
    rw [Nat.zero_mul, Nat.add_zero] at h1
    rw [h1, ← h0]
    rfl)
  obtain ⟨R, hR⟩ : ∃ R, (addF false ⟨#[]⟩ (addF false (C[0]'(by omega)).path [] (cutF colonP (C[0]'(by omega)).runpath.data.toList)) (cutF colonP defaultsF.data.toList)) = R := ⟨_, rfl⟩
  have HR := Lib.hid hR
  rw [hR]
  have HF0 : Hid (∀ (w1 : World), Below w.heap.size w w1 → w1.cell? ⟨b, off, none⟩ = some (.string (C[0]'(by omega)).path)) := Lib.hid (fun w1 hb => by
    have h1 := (HCELL.out w1 hb 0 (by omega)).2 0 (by omega)
    rw [Nat.zero_mul, Nat.add_zero] at h1
    rw [h1]
    rfl)
  have HF2 : Hid (∀ (w1 : World), Below w.heap.size w w1 → w1.cell? ⟨b, off + 2, none⟩ = some (.string (C[0]'(by omega)).runpath)) := Lib.hid (fun w1 hb => by
    have h1 := (HCELL.out w1 hb 0 (by omega)).2 2 (by omega)
    rw [Nat.zero_mul, Nat.add_zero] at h1
    rw [h1]
    rfl)
  obtain ⟨fp, hfp⟩ : ∃ fp, (C[0]'(by omega)).path = fp := ⟨_, rfl⟩
  obtain ⟨fr, hfr⟩ : ∃ fr, (C[0]'(by omega)).runpath = fr := ⟨_, rfl⟩
  rw [hfp] at hok2 hok3 HR HF0
  rw [hfr] at hok2 hok3 HR HF2
  have HOK2 := Lib.hid hok2
  have HOK3 := Lib.hid hok3
  have HADD := Lib.hid (fun (acc : List ByteArray) (list origin : ByteArray) (w1 : World) (hd : DSt w (w.heap.size + 1) w.heap.size cs acc w1) (ok : AddOK colonP list origin acc) => add_any 28 colonP enters_colon colon_any colonP_high w (w.heap.size + 1) w.heap.size cs acc false list origin w1 hd (by omega) (by omega) (by rw [← hcs]; rfl) ok.ls ok.os ok.each ok.many)
  have HADB := Lib.hid (fun (acc : List ByteArray) (list origin : ByteArray) (w1 : World) (hd : DSt w (w.heap.size + 1) w.heap.size cs acc w1) (ok : AddOK bothP list origin acc) => add_any 30 bothP enters_both both_any bothP_high w (w.heap.size + 1) w.heap.size cs acc false list origin w1 hd (by omega) (by omega) (by rw [← hcs]; rfl) ok.ls ok.os ok.each ok.many)
  have f4 := HF4.out _ D0.out.blw
  have hmi : (0 : Int) < ((m + 1 : Nat) : Int) := by omega
  have hmi2 : (0 : Int) < (m : Int) + 1 := by omega
  have HM := Lib.hid hm
  clear hC hm h0 hR hcs hok3 hok2 hfp hfr
  go_enter Tryd.func10, Tryd.ntmps10
  go_wp2_with fail
  generalize (w.alloc (.cells #[.string name, .slice (some ⟨b, off, none⟩) (m + 1) cc, .string ⟨#[]⟩, .bool false] 25)).alloc (.cells #[.slice none 0 0] 45) = wr at *
  have k1 := dst_cell HCS.out.symm D0.out 1 (.slice (some ⟨b, off, none⟩) (m + 1) cc) rfl
  have k3 := dst_cell HCS.out.symm D0.out 3 (.bool false) rfl
  have f0 := HF0.out _ D0.out.blw
  have f2 := HF2.out _ D0.out.blw
  go_region_law (first | (go_simp; go_at_call 25; refine (HADD.out [] fr fp _ (D0.out.below (Below.refl _ _).drew) HOK2.out).mono ?_; rintro e w6 ⟨rfl, hd6⟩; have D6 := Lib.hid hd6; clear hd6))
  all_goals
    go_wp2_with fail
    refine (HADD.out _ defaultsF ⟨#[]⟩ _ D6.out HOK3.out).mono ?_
    rintro e w11 ⟨rfl, hd11⟩
    rw [HR.out] at hd11
    obtain ⟨ad, c, hx, ho, -, hB⟩ := hd11
    have hc11 := hx.cell
    have TR := Lib.hid ho.row.1
    have B11 := Lib.hid hB
    clear hx ho hB
    go_wp2_with fail
    go_ret
    exact ⟨⟨ad, c, rfl, TR.out⟩, B11.out⟩
set_option maxRecDepth 100000 in
set_option maxHeartbeats 8000000 in
theorem dirs_RA (name : ByteArray) (ec : UInt8) (et : List UInt8) (b off m cc : Nat) (C : List OT) (w : World) (hC : CRow w (some ⟨b, off, none⟩) C) (hm : C.length = m + 1) (hml : m ≤ 1048576) (hmc : m + 1 ≤ cc) (h0 : (C[0]'(by omega)).hasRun = true) (hok1 : AddOK bothP ⟨(ec :: et).toArray⟩ (C[m]'(by omega)).path []) (hok2 : AddOK colonP (C[0]'(by omega)).runpath (C[0]'(by omega)).path (addF false (C[m]'(by omega)).path [] (cutF bothP (⟨(ec :: et).toArray⟩ : ByteArray).data.toList))) (hok3 : AddOK colonP defaultsF ⟨#[]⟩ (addF false (C[0]'(by omega)).path (addF false (C[m]'(by omega)).path [] (cutF bothP (⟨(ec :: et).toArray⟩ : ByteArray).data.toList)) (cutF colonP (C[0]'(by omega)).runpath.data.toList))) :
    Calls Tryd.prog 10 #[.agg #[.string name, .slice (some ⟨b, off, none⟩) (m + 1) cc, .string ⟨(ec :: et).toArray⟩, .bool false]] w fun e w' => (∃ ad c, e = .returned (.slice ad (addF false ⟨#[]⟩ (addF false (C[0]'(by omega)).path (addF false (C[m]'(by omega)).path [] (cutF bothP (⟨(ec :: et).toArray⟩ : ByteArray).data.toList)) (cutF colonP (C[0]'(by omega)).runpath.data.toList)) (cutF colonP defaultsF.data.toList)).length c) ∧ TRow w' ad (addF false ⟨#[]⟩ (addF false (C[0]'(by omega)).path (addF false (C[m]'(by omega)).path [] (cutF bothP (⟨(ec :: et).toArray⟩ : ByteArray).data.toList)) (cutF colonP (C[0]'(by omega)).runpath.data.toList)) (cutF colonP defaultsF.data.toList))) ∧ Below w.heap.size w w' := by
  obtain ⟨cs, hcs⟩ : ∃ cs : Array Value, #[.string name, .slice (some ⟨b, off, none⟩) (m + 1) cc, .string ⟨(ec :: et).toArray⟩, .bool false] = cs := ⟨_, rfl⟩
  have HCS := Lib.hid hcs
  have D0 : Hid (DSt w (w.heap.size + 1) w.heap.size cs [] ((w.alloc (.cells #[.string name, .slice (some ⟨b, off, none⟩) (m + 1) cc, .string ⟨(ec :: et).toArray⟩, .bool false] 25)).alloc (.cells #[.slice none 0 0] 45))) := Lib.hid (by
    have hb1 : Below w.heap.size w ((w.alloc (.cells #[.string name, .slice (some ⟨b, off, none⟩) (m + 1) cc, .string ⟨(ec :: et).toArray⟩, .bool false] 25)).alloc (.cells #[.slice none 0 0] 45)) := ((Below.refl _ _).alloc (Nat.le_refl _) _).alloc (by simp) _
    refine ⟨none, 0, ?_, OwnT.nil _ _ _, ?_, hb1⟩
    · have := heap_alloc_new (w.alloc (.cells #[.string name, .slice (some ⟨b, off, none⟩) (m + 1) cc, .string ⟨(ec :: et).toArray⟩, .bool false] 25)) (.cells #[.slice none 0 0] 45)
      unfold InBox
      simpa using this
    · rw [heap_alloc_old _ _ (by simp), ← hcs]
      exact heap_alloc_new _ _)
  have HCELL : Hid (∀ (w1 : World), Below w.heap.size w w1 → ∀ k, (hk : k < C.length) → b < w1.heap.size ∧ ∀ j, j < 5 → w1.cell? ⟨b, off + k * 5 + j, none⟩ = (C[k]'hk).cells[j]?) := Lib.hid (fun w1 hb k hk => by
    obtain ⟨b', o', e, hlt, hc⟩ := (hC.below hb) k hk
    cases e
    exact ⟨hlt, fun j hj => hc j hj⟩)
  have HF4 : Hid (∀ (w1 : World), Below w.heap.size w w1 → w1.cell? ⟨b, off + 4, none⟩ = some (.bool true)) := Lib.hid (fun w1 hb => by
    have h1 := (HCELL.out w1 hb 0 (by omega)).2 4 (by omega)
    rw [Nat.zero_mul, Nat.add_zero] at h1
    rw [h1, ← h0]
    rfl)
  obtain ⟨R, hR⟩ : ∃ R, (addF false ⟨#[]⟩ (addF false (C[0]'(by omega)).path (addF false (C[m]'(by omega)).path [] (cutF bothP (⟨(ec :: et).toArray⟩ : ByteArray).data.toList)) (cutF colonP (C[0]'(by omega)).runpath.data.toList)) (cutF colonP defaultsF.data.toList)) = R := ⟨_, rfl⟩
  have HR := Lib.hid hR
  rw [hR]
  obtain ⟨lo, hlo⟩ : ∃ lo, C[m]'(by omega) = lo := ⟨_, rfl⟩
  have HLO : Hid (∀ (w1 : World), Below w.heap.size w w1 → b < w1.heap.size ∧ ∀ j, j < 5 → w1.cell? ⟨b, off + m * 5 + j, none⟩ = lo.cells[j]?) := Lib.hid (fun w1 hb => by
    rw [← hlo]
    exact HCELL.out w1 hb m (by omega))
  rw [hlo] at hok1 hok3 HR hok2
  have HOK1 := Lib.hid hok1
  have HF0 : Hid (∀ (w1 : World), Below w.heap.size w w1 → w1.cell? ⟨b, off, none⟩ = some (.string (C[0]'(by omega)).path)) := Lib.hid (fun w1 hb => by
    have h1 := (HCELL.out w1 hb 0 (by omega)).2 0 (by omega)
    rw [Nat.zero_mul, Nat.add_zero] at h1
    rw [h1]
    rfl)
  have HF2 : Hid (∀ (w1 : World), Below w.heap.size w w1 → w1.cell? ⟨b, off + 2, none⟩ = some (.string (C[0]'(by omega)).runpath)) := Lib.hid (fun w1 hb => by
    have h1 := (HCELL.out w1 hb 0 (by omega)).2 2 (by omega)
    rw [Nat.zero_mul, Nat.add_zero] at h1
    rw [h1]
    rfl)
  obtain ⟨fp, hfp⟩ : ∃ fp, (C[0]'(by omega)).path = fp := ⟨_, rfl⟩
  obtain ⟨fr, hfr⟩ : ∃ fr, (C[0]'(by omega)).runpath = fr := ⟨_, rfl⟩
  rw [hfp] at hok2 hok3 HR HF0
  rw [hfr] at hok2 hok3 HR HF2
  have HOK2 := Lib.hid hok2
  have HOK3 := Lib.hid hok3
  have HADD := Lib.hid (fun (acc : List ByteArray) (list origin : ByteArray) (w1 : World) (hd : DSt w (w.heap.size + 1) w.heap.size cs acc w1) (ok : AddOK colonP list origin acc) => add_any 28 colonP enters_colon colon_any colonP_high w (w.heap.size + 1) w.heap.size cs acc false list origin w1 hd (by omega) (by omega) (by rw [← hcs]; rfl) ok.ls ok.os ok.each ok.many)
  have HADB := Lib.hid (fun (acc : List ByteArray) (list origin : ByteArray) (w1 : World) (hd : DSt w (w.heap.size + 1) w.heap.size cs acc w1) (ok : AddOK bothP list origin acc) => add_any 30 bothP enters_both both_any bothP_high w (w.heap.size + 1) w.heap.size cs acc false list origin w1 hd (by omega) (by omega) (by rw [← hcs]; rfl) ok.ls ok.os ok.each ok.many)
  have f4 := HF4.out _ D0.out.blw
  have hmi : (0 : Int) < ((m + 1 : Nat) : Int) := by omega
  have hmi2 : (0 : Int) < (m : Int) + 1 := by omega
  have HM := Lib.hid hm
  clear hC hm h0 hR hcs hok3 hok1 hlo hok2 hfp hfr
  go_enter Tryd.func10, Tryd.ntmps10
  go_wp2_with fail
  generalize (w.alloc (.cells #[.string name, .slice (some ⟨b, off, none⟩) (m + 1) cc, .string ⟨(ec :: et).toArray⟩, .bool false] 25)).alloc (.cells #[.slice none 0 0] 45) = wr at *
  have k1 := dst_cell HCS.out.symm D0.out 1 (.slice (some ⟨b, off, none⟩) (m + 1) cc) rfl
  have k2 := dst_cell HCS.out.symm D0.out 2 (.string ⟨(ec :: et).toArray⟩) rfl
  have k3 := dst_cell HCS.out.symm D0.out 3 (.bool false) rfl
  have HLAST : Hid (∀ w', Below wr.heap.size wr w' → Calls Tryd.prog 29 #[.slice (some ⟨b, off, none⟩) (m + 1) cc] w' fun e w'' => e = .returned (.agg #[.string lo.path, .string lo.rpath, .string lo.runpath, .bool lo.hasR, .bool lo.hasRun]) ∧ Below w'.heap.size w' w'') := Lib.hid (fun w' hb => by
    obtain ⟨h1, h2⟩ := HLO.out w' (D0.out.blw.trans (hb.mono D0.out.blw.size))
    exact last_any b off m cc lo w' hmc (by omega) h2 h1)
  have hfp := fun (w1 : World) => field_path w1 (.string lo.path) (.string lo.rpath) (.string lo.runpath) (.bool lo.hasR) (.bool lo.hasRun)
  go_region_law
    (first
      | (go_simp; go_at_call 29; refine (HLAST.out _ (Below.refl _ _).drew).mono ?_; rintro e w9 ⟨rfl, hb9⟩; have D9 := Lib.hid (D0.out.below (bstep (Below.refl _ _).drew hb9)); have k9 : w9.cell? ⟨w.heap.size, 2, none⟩ = some (.string ⟨(ec :: et).toArray⟩) := dst_cell HCS.out.symm D9.out 2 _ rfl; have k91 := dst_cell HCS.out.symm D9.out 1 (.slice (some ⟨b, off, none⟩) (m + 1) cc) rfl)
      | (go_simp; go_at_call 25; refine (HADB.out _ _ _ _ D9.out HOK1.out).mono ?_; rintro e w10 ⟨rfl, hd10⟩; have D10 := Lib.hid hd10))
  all_goals
    clear k1 k2 k3 k9 k91 f4
    have k1 := dst_cell HCS.out.symm D10.out 1 (.slice (some ⟨b, off, none⟩) (m + 1) cc) rfl
    have k3 := dst_cell HCS.out.symm D10.out 3 (.bool false) rfl
    have f4 := HF4.out _ D10.out.blw
    have f0 := HF0.out _ D10.out.blw
    have f2 := HF2.out _ D10.out.blw
    go_wp2_with fail
    go_region_law (first | (go_simp; go_at_call 25; refine (HADD.out _ fr fp _ (D10.out.below (Below.refl _ _).drew) HOK2.out).mono ?_; rintro e w6 ⟨rfl, hd6⟩; have D6 := Lib.hid hd6; clear hd6))
    all_goals
      go_wp2_with fail
      refine (HADD.out _ defaultsF ⟨#[]⟩ _ D6.out HOK3.out).mono ?_
      rintro e w11 ⟨rfl, hd11⟩
      rw [HR.out] at hd11
      obtain ⟨ad, c, hx, ho, -, hB⟩ := hd11
      have hc11 := hx.cell
      have TR := Lib.hid ho.row.1
      have B11 := Lib.hid hB
      clear hx ho hB
      go_wp2_with fail
      go_ret
      exact ⟨⟨ad, c, rfl, TR.out⟩, B11.out⟩
end Go.Proofs.YtppeapafnnanbaaDoor
