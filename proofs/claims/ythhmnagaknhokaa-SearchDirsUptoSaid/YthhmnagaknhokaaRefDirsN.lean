/- Layer 14, the document's answer: the directories in which a library is looked for. -/
import Derived.Test.YthhmnagaknhokaaRefDirsE
namespace Go.Proofs.Ythhmnagaknhokaa
open Go.RowKit
set_option linter.unusedVariables false
set_option linter.unusedSimpArgs false


set_option maxRecDepth 100000 in
set_option maxHeartbeats 8000000 in
theorem refDirs_NS (name : ByteArray) (env : ByteArray) (b off m cc : Nat) (C : List OT) (w : World) (hC : CRow w (some ⟨b, off, none⟩) C) (hm : C.length = m + 1) (hml : m ≤ 1048576) (h0 : (C[0]'(by omega)).hasRun = false) (hok : ∀ k, (hk : k < C.length) → C[k].hasR = true → C[k].hasRun = false → AddOK colonP C[k].rpath C[k].path (chainF true (C.take k))) (hok3 : AddOK colonP defaultsF ⟨#[]⟩ (chainF true C)) :
    Calls Try.prog 8 #[.agg #[.string name, .slice (some ⟨b, off, none⟩) (m + 1) cc, .string env, .bool true]] w fun e w' => (∃ ad c, e = .returned (.slice ad (addF false ⟨#[]⟩ (chainF true C) (cutF colonP defaultsF.data.toList)).length c) ∧ TRow w' ad (addF false ⟨#[]⟩ (chainF true C) (cutF colonP defaultsF.data.toList))) ∧ Below w.heap.size w w' := by
  obtain ⟨cs, hcs⟩ : ∃ cs : Array Value, #[.string name, .slice (some ⟨b, off, none⟩) (m + 1) cc, .string env, .bool true] = cs := ⟨_, rfl⟩
  have HCS := Lib.hid hcs
  have D0 : Hid (LSt w w.heap.size cs (.slice none 0 0) [] (w.alloc (.cells #[.string name, .slice (some ⟨b, off, none⟩) (m + 1) cc, .string env, .bool true] 28))) := Lib.hid ⟨OwnT.nil _ _ _, by rw [← hcs]; exact heap_alloc_new _ _, (Below.refl _ _).alloc (Nat.le_refl _) _⟩
  have HCELL : Hid (∀ (w1 : World), Below w.heap.size w w1 → ∀ k, (hk : k < C.length) → ∀ j, j < 5 → w1.cell? ⟨b, off + k * 5 + j, none⟩ = (C[k]'hk).cells[j]?) := Lib.hid (fun w1 hb k hk j hj => by
    obtain ⟨b', o', e, hlt, hc⟩ := (hC.below hb) k hk
    cases e
    exact hc j hj)
  have HF4 : Hid (∀ (w1 : World), Below w.heap.size w w1 → w1.cell? ⟨b, off + 4, none⟩ = some (.bool false)) := Lib.hid (fun w1 hb => by
    have h1 := HCELL.out w1 hb 0 (by omega) 4 (by omega)
    rw [Nat.zero_mul, Nat.add_zero] at h1
    rw [h1, ← h0]
    rfl)
  obtain ⟨R, hR⟩ : ∃ R, (addF false ⟨#[]⟩ (chainF true C) (cutF colonP defaultsF.data.toList)) = R := ⟨_, rfl⟩
  have HR := Lib.hid hR
  rw [hR]
  have HOK := Lib.hid hok
  have HSUC := Lib.hid (chainF_succ true C)
  have HALL : Hid (chainF true (C.take (m + 1)) = chainF true C) := Lib.hid (by rw [List.take_of_length_le (by omega)])
  obtain ⟨X0, hX0⟩ : ∃ X0, (chainF true C) = X0 := ⟨_, rfl⟩
  rw [hX0] at hok3 HR
  rw [hX0] at HALL
  have HOK3 := Lib.hid hok3
  have HLAY := Lib.hid (fun (sc : Bool) (ad : Option Addr) (c : Nat) (acc : List ByteArray) (list origin : ByteArray) (w1 : World) (hd : LSt w w.heap.size cs (.slice ad acc.length c) acc w1) (ok : AddOK colonP list origin acc) => refLay_any colonP w w.heap.size cs ad c acc sc list ⟨#[58]⟩ origin w1 hd ok.ls ok.os (by decide) among_colon ok.each ok.many)
  have HLAB := Lib.hid (fun (sc : Bool) (ad : Option Addr) (c : Nat) (acc : List ByteArray) (list origin : ByteArray) (w1 : World) (hd : LSt w w.heap.size cs (.slice ad acc.length c) acc w1) (ok : AddOK bothP list origin acc) => refLay_any bothP w w.heap.size cs ad c acc sc list ⟨#[58, 59]⟩ origin w1 hd ok.ls ok.os (by decide) among_both ok.each ok.many)
  have f4 := HF4.out _ D0.out.2.2
  have hmi : (0 : Int) < ((m + 1 : Nat) : Int) := by omega
  have hmi2 : (0 : Int) < (m : Int) + 1 := by omega
  have HM := Lib.hid hm
  clear hC hm h0 hR hcs hok3 hok hX0
  go_enter Try.func8, Try.ntmps8
  go_wp2_with fail
  generalize w.alloc (.cells #[.string name, .slice (some ⟨b, off, none⟩) (m + 1) cc, .string env, .bool true] 28) = w2 at *
  clear f4
  go_loopg [3, 5] (m + 1) (fun g lv i wr => ∃ (k : Nat) (acc : List ByteArray) (ad : Option Addr) (c : Nat), k + g = m + 1 ∧ lv = .slice ad acc.length c ∧ i = .int .i64 (k : Int) ∧ Hid (chainF true (C.take k) = acc) ∧ Hid (LSt w w.heap.size cs (.slice ad acc.length c) acc wr))
  case atStart => exact ⟨0, [], none, 0, by omega, rfl, rfl, Lib.hid rfl, D0⟩
  case round =>
    obtain ⟨k, acc, ad, c, hk, rfl, rfl, HA, DR⟩ := hrel
    clear D0
    cases gk with
    | succ g =>
      have hkC : k < C.length := by rw [HM.out]; omega
      have hki : (k : Int) < (m : Int) + 1 := by omega
      have hcs5 := HCELL.out wr DR.out.2.2 k hkC
      have HNX := Lib.hid (HSUC.out k hkC)
      have HOKK := Lib.hid (HOK.out k hkC)
      have HKK := Lib.hid hk
      rw [HA.out] at HNX HOKK
      generalize C[k] = o at *
      obtain ⟨op, orp, orn, oR, oN⟩ := o
      have c0 : wr.cell? ⟨b, off + k * 5, none⟩ = some (.string op) := hcs5 0 (by omega)
      have c1 : wr.cell? ⟨b, off + k * 5 + 1, none⟩ = some (.string orp) := hcs5 1 (by omega)
      have c3 : wr.cell? ⟨b, off + k * 5 + 3, none⟩ = some (.bool oR) := hcs5 3 (by omega)
      have c4 : wr.cell? ⟨b, off + k * 5 + 4, none⟩ = some (.bool oN) := hcs5 4 (by omega)
      have k1 := ask_cell HCS.out.symm DR.out 1 (.slice (some ⟨b, off, none⟩) (m + 1) cc) rfl
      have k3 := ask_cell HCS.out.symm DR.out 3 (.bool true) rfl
      have hkn : k < m + 1 := by omega
      clear hkC hcs5 hk
      cases oR <;> cases oN
      case' true.false =>
        have HAK := Lib.hid (HOKK.out rfl rfl)
        go_wp2_with fail
        go_region_law (first | (go_simp; go_at_call 21; refine (HLAY.out true ad c acc orp op _ (DR.out.below (Below.refl _ _).drew) HAK.out).mono ?_; rintro e w9 ⟨ad9, c9, rfl, hd9⟩; have D9 := Lib.hid hd9; clear hd9))
        all_goals
          go_wp2_with fail
          go_roundg g
          case measure => omega
          case rel => exact ⟨k + 1, _, ad9, c9, by have := HKK.out; omega, rfl, by go_num, HNX, D9⟩
      all_goals
        go_wp2_with fail
        go_roundg g
        case measure => omega
        case rel => exact ⟨k + 1, acc, ad, c, by have := HKK.out; omega, rfl, by go_num, HNX, DR⟩
    | zero =>
      have hke : k = m + 1 := by omega
      subst hke
      rw [HA.out] at HALL
      obtain rfl : acc = X0 := HALL.out
      clear hk
      have f4 := HF4.out _ DR.out.2.2
      have k1 := ask_cell HCS.out.symm DR.out 1 (.slice (some ⟨b, off, none⟩) (m + 1) cc) rfl
      have k2 := ask_cell HCS.out.symm DR.out 2 (.string env) rfl
      have k3 := ask_cell HCS.out.symm DR.out 3 (.bool true) rfl
      go_wp2_with fail
      refine (HLAY.out false ad c acc defaultsF ⟨#[]⟩ _ DR.out HOK3.out).mono ?_
      rintro e w7 ⟨ad7, c7, rfl, hd7⟩
      rw [HR.out] at hd7 ⊢
      have D7 := Lib.hid hd7
      clear hd7
      go_wp2_with fail
      go_ret
      exact ⟨⟨ad7, c7, rfl, D7.out.1.row.1⟩, D7.out.2.2⟩
set_option maxRecDepth 100000 in
set_option maxHeartbeats 8000000 in
theorem refDirs_NO (name : ByteArray) (b off m cc : Nat) (C : List OT) (w : World) (hC : CRow w (some ⟨b, off, none⟩) C) (hm : C.length = m + 1) (hml : m ≤ 1048576) (h0 : (C[0]'(by omega)).hasRun = false) (hok : ∀ k, (hk : k < C.length) → C[k].hasR = true → C[k].hasRun = false → AddOK colonP C[k].rpath C[k].path (chainF false (C.take k))) (hok3 : AddOK colonP defaultsF ⟨#[]⟩ (chainF false C)) :
    Calls Try.prog 8 #[.agg #[.string name, .slice (some ⟨b, off, none⟩) (m + 1) cc, .string ⟨#[]⟩, .bool false]] w fun e w' => (∃ ad c, e = .returned (.slice ad (addF false ⟨#[]⟩ (chainF false C) (cutF colonP defaultsF.data.toList)).length c) ∧ TRow w' ad (addF false ⟨#[]⟩ (chainF false C) (cutF colonP defaultsF.data.toList))) ∧ Below w.heap.size w w' := by
  obtain ⟨cs, hcs⟩ : ∃ cs : Array Value, #[.string name, .slice (some ⟨b, off, none⟩) (m + 1) cc, .string ⟨#[]⟩, .bool false] = cs := ⟨_, rfl⟩
  have HCS := Lib.hid hcs
  have D0 : Hid (LSt w w.heap.size cs (.slice none 0 0) [] (w.alloc (.cells #[.string name, .slice (some ⟨b, off, none⟩) (m + 1) cc, .string ⟨#[]⟩, .bool false] 28))) := Lib.hid ⟨OwnT.nil _ _ _, by rw [← hcs]; exact heap_alloc_new _ _, (Below.refl _ _).alloc (Nat.le_refl _) _⟩
  have HCELL : Hid (∀ (w1 : World), Below w.heap.size w w1 → ∀ k, (hk : k < C.length) → ∀ j, j < 5 → w1.cell? ⟨b, off + k * 5 + j, none⟩ = (C[k]'hk).cells[j]?) := Lib.hid (fun w1 hb k hk j hj => by
    obtain ⟨b', o', e, hlt, hc⟩ := (hC.below hb) k hk
    cases e
    exact hc j hj)
  have HF4 : Hid (∀ (w1 : World), Below w.heap.size w w1 → w1.cell? ⟨b, off + 4, none⟩ = some (.bool false)) := Lib.hid (fun w1 hb => by
    have h1 := HCELL.out w1 hb 0 (by omega) 4 (by omega)
    rw [Nat.zero_mul, Nat.add_zero] at h1
    rw [h1, ← h0]
    rfl)
  obtain ⟨R, hR⟩ : ∃ R, (addF false ⟨#[]⟩ (chainF false C) (cutF colonP defaultsF.data.toList)) = R := ⟨_, rfl⟩
  have HR := Lib.hid hR
  rw [hR]
  have HOK := Lib.hid hok
  have HSUC := Lib.hid (chainF_succ false C)
  have HALL : Hid (chainF false (C.take (m + 1)) = chainF false C) := Lib.hid (by rw [List.take_of_length_le (by omega)])
  obtain ⟨X0, hX0⟩ : ∃ X0, (chainF false C) = X0 := ⟨_, rfl⟩
  rw [hX0] at hok3 HR
  rw [hX0] at HALL
  have HOK3 := Lib.hid hok3
  have HLAY := Lib.hid (fun (sc : Bool) (ad : Option Addr) (c : Nat) (acc : List ByteArray) (list origin : ByteArray) (w1 : World) (hd : LSt w w.heap.size cs (.slice ad acc.length c) acc w1) (ok : AddOK colonP list origin acc) => refLay_any colonP w w.heap.size cs ad c acc sc list ⟨#[58]⟩ origin w1 hd ok.ls ok.os (by decide) among_colon ok.each ok.many)
  have HLAB := Lib.hid (fun (sc : Bool) (ad : Option Addr) (c : Nat) (acc : List ByteArray) (list origin : ByteArray) (w1 : World) (hd : LSt w w.heap.size cs (.slice ad acc.length c) acc w1) (ok : AddOK bothP list origin acc) => refLay_any bothP w w.heap.size cs ad c acc sc list ⟨#[58, 59]⟩ origin w1 hd ok.ls ok.os (by decide) among_both ok.each ok.many)
  have f4 := HF4.out _ D0.out.2.2
  have hmi : (0 : Int) < ((m + 1 : Nat) : Int) := by omega
  have hmi2 : (0 : Int) < (m : Int) + 1 := by omega
  have HM := Lib.hid hm
  clear hC hm h0 hR hcs hok3 hok hX0
  go_enter Try.func8, Try.ntmps8
  go_wp2_with fail
  generalize w.alloc (.cells #[.string name, .slice (some ⟨b, off, none⟩) (m + 1) cc, .string ⟨#[]⟩, .bool false] 28) = w2 at *
  clear f4
  go_loopg [3, 5] (m + 1) (fun g lv i wr => ∃ (k : Nat) (acc : List ByteArray) (ad : Option Addr) (c : Nat), k + g = m + 1 ∧ lv = .slice ad acc.length c ∧ i = .int .i64 (k : Int) ∧ Hid (chainF false (C.take k) = acc) ∧ Hid (LSt w w.heap.size cs (.slice ad acc.length c) acc wr))
  case atStart => exact ⟨0, [], none, 0, by omega, rfl, rfl, Lib.hid rfl, D0⟩
  case round =>
    obtain ⟨k, acc, ad, c, hk, rfl, rfl, HA, DR⟩ := hrel
    clear D0
    cases gk with
    | succ g =>
      have hkC : k < C.length := by rw [HM.out]; omega
      have hki : (k : Int) < (m : Int) + 1 := by omega
      have hcs5 := HCELL.out wr DR.out.2.2 k hkC
      have HNX := Lib.hid (HSUC.out k hkC)
      have HOKK := Lib.hid (HOK.out k hkC)
      have HKK := Lib.hid hk
      rw [HA.out] at HNX HOKK
      generalize C[k] = o at *
      obtain ⟨op, orp, orn, oR, oN⟩ := o
      have c0 : wr.cell? ⟨b, off + k * 5, none⟩ = some (.string op) := hcs5 0 (by omega)
      have c1 : wr.cell? ⟨b, off + k * 5 + 1, none⟩ = some (.string orp) := hcs5 1 (by omega)
      have c3 : wr.cell? ⟨b, off + k * 5 + 3, none⟩ = some (.bool oR) := hcs5 3 (by omega)
      have c4 : wr.cell? ⟨b, off + k * 5 + 4, none⟩ = some (.bool oN) := hcs5 4 (by omega)
      have k1 := ask_cell HCS.out.symm DR.out 1 (.slice (some ⟨b, off, none⟩) (m + 1) cc) rfl
      have k3 := ask_cell HCS.out.symm DR.out 3 (.bool false) rfl
      have hkn : k < m + 1 := by omega
      clear hkC hcs5 hk
      cases oR <;> cases oN
      case' true.false =>
        have HAK := Lib.hid (HOKK.out rfl rfl)
        go_wp2_with fail
        go_region_law (first | (go_simp; go_at_call 21; refine (HLAY.out false ad c acc orp op _ (DR.out.below (Below.refl _ _).drew) HAK.out).mono ?_; rintro e w9 ⟨ad9, c9, rfl, hd9⟩; have D9 := Lib.hid hd9; clear hd9))
        all_goals
          go_wp2_with fail
          go_roundg g
          case measure => omega
          case rel => exact ⟨k + 1, _, ad9, c9, by have := HKK.out; omega, rfl, by go_num, HNX, D9⟩
      all_goals
        go_wp2_with fail
        go_roundg g
        case measure => omega
        case rel => exact ⟨k + 1, acc, ad, c, by have := HKK.out; omega, rfl, by go_num, HNX, DR⟩
    | zero =>
      have hke : k = m + 1 := by omega
      subst hke
      rw [HA.out] at HALL
      obtain rfl : acc = X0 := HALL.out
      clear hk
      have f4 := HF4.out _ DR.out.2.2
      have k1 := ask_cell HCS.out.symm DR.out 1 (.slice (some ⟨b, off, none⟩) (m + 1) cc) rfl
      have k2 := ask_cell HCS.out.symm DR.out 2 (.string ⟨#[]⟩) rfl
      have k3 := ask_cell HCS.out.symm DR.out 3 (.bool false) rfl
      go_wp2_with fail
      refine (HLAY.out false ad c acc defaultsF ⟨#[]⟩ _ DR.out HOK3.out).mono ?_
      rintro e w7 ⟨ad7, c7, rfl, hd7⟩
      rw [HR.out] at hd7 ⊢
      have D7 := Lib.hid hd7
      clear hd7
      go_wp2_with fail
      go_ret
      exact ⟨⟨ad7, c7, rfl, D7.out.1.row.1⟩, D7.out.2.2⟩
set_option maxRecDepth 100000 in
set_option maxHeartbeats 8000000 in
theorem refDirs_NA (name : ByteArray) (ec : UInt8) (et : List UInt8) (b off m cc : Nat) (C : List OT) (w : World) (hC : CRow w (some ⟨b, off, none⟩) C) (hm : C.length = m + 1) (hml : m ≤ 1048576) (h0 : (C[0]'(by omega)).hasRun = false) (hok : ∀ k, (hk : k < C.length) → C[k].hasR = true → C[k].hasRun = false → AddOK colonP C[k].rpath C[k].path (chainF false (C.take k))) (hok1 : AddOK bothP ⟨(ec :: et).toArray⟩ (C[m]'(by omega)).path (chainF false C)) (hok3 : AddOK colonP defaultsF ⟨#[]⟩ (addF false (C[m]'(by omega)).path (chainF false C) (cutF bothP (⟨(ec :: et).toArray⟩ : ByteArray).data.toList))) :
    Calls Try.prog 8 #[.agg #[.string name, .slice (some ⟨b, off, none⟩) (m + 1) cc, .string ⟨(ec :: et).toArray⟩, .bool false]] w fun e w' => (∃ ad c, e = .returned (.slice ad (addF false ⟨#[]⟩ (addF false (C[m]'(by omega)).path (chainF false C) (cutF bothP (⟨(ec :: et).toArray⟩ : ByteArray).data.toList)) (cutF colonP defaultsF.data.toList)).length c) ∧ TRow w' ad (addF false ⟨#[]⟩ (addF false (C[m]'(by omega)).path (chainF false C) (cutF bothP (⟨(ec :: et).toArray⟩ : ByteArray).data.toList)) (cutF colonP defaultsF.data.toList))) ∧ Below w.heap.size w w' := by
  obtain ⟨cs, hcs⟩ : ∃ cs : Array Value, #[.string name, .slice (some ⟨b, off, none⟩) (m + 1) cc, .string ⟨(ec :: et).toArray⟩, .bool false] = cs := ⟨_, rfl⟩
  have HCS := Lib.hid hcs
  have D0 : Hid (LSt w w.heap.size cs (.slice none 0 0) [] (w.alloc (.cells #[.string name, .slice (some ⟨b, off, none⟩) (m + 1) cc, .string ⟨(ec :: et).toArray⟩, .bool false] 28))) := Lib.hid ⟨OwnT.nil _ _ _, by rw [← hcs]; exact heap_alloc_new _ _, (Below.refl _ _).alloc (Nat.le_refl _) _⟩
  have HCELL : Hid (∀ (w1 : World), Below w.heap.size w w1 → ∀ k, (hk : k < C.length) → ∀ j, j < 5 → w1.cell? ⟨b, off + k * 5 + j, none⟩ = (C[k]'hk).cells[j]?) := Lib.hid (fun w1 hb k hk j hj => by
    obtain ⟨b', o', e, hlt, hc⟩ := (hC.below hb) k hk
    cases e
    exact hc j hj)
  have HF4 : Hid (∀ (w1 : World), Below w.heap.size w w1 → w1.cell? ⟨b, off + 4, none⟩ = some (.bool false)) := Lib.hid (fun w1 hb => by
    have h1 := HCELL.out w1 hb 0 (by omega) 4 (by omega)
    rw [Nat.zero_mul, Nat.add_zero] at h1
    rw [h1, ← h0]
    rfl)
  obtain ⟨R, hR⟩ : ∃ R, (addF false ⟨#[]⟩ (addF false (C[m]'(by omega)).path (chainF false C) (cutF bothP (⟨(ec :: et).toArray⟩ : ByteArray).data.toList)) (cutF colonP defaultsF.data.toList)) = R := ⟨_, rfl⟩
  have HR := Lib.hid hR
  rw [hR]
  have HOK := Lib.hid hok
  have HSUC := Lib.hid (chainF_succ false C)
  have HALL : Hid (chainF false (C.take (m + 1)) = chainF false C) := Lib.hid (by rw [List.take_of_length_le (by omega)])
  obtain ⟨X0, hX0⟩ : ∃ X0, (chainF false C) = X0 := ⟨_, rfl⟩
  rw [hX0] at hok1 hok3 HR
  rw [hX0] at HALL
  obtain ⟨lo, hlo⟩ : ∃ lo, C[m]'(by omega) = lo := ⟨_, rfl⟩
  have HLO : Hid (∀ (w1 : World), Below w.heap.size w w1 → w1.cell? ⟨b, off + m * 5, none⟩ = some (.string lo.path)) := Lib.hid (fun w1 hb => by
    have h1 := HCELL.out w1 hb m (by omega) 0 (by omega)
    rw [Nat.add_zero] at h1
    rw [h1, hlo]
    rfl)
  rw [hlo] at hok1 hok3 HR
  obtain ⟨lp, hlp⟩ : ∃ lp, lo.path = lp := ⟨_, rfl⟩
  rw [hlp] at hok1 hok3 HR HLO
  have HOK1 := Lib.hid hok1
  have HOK3 := Lib.hid hok3
  have HLAY := Lib.hid (fun (sc : Bool) (ad : Option Addr) (c : Nat) (acc : List ByteArray) (list origin : ByteArray) (w1 : World) (hd : LSt w w.heap.size cs (.slice ad acc.length c) acc w1) (ok : AddOK colonP list origin acc) => refLay_any colonP w w.heap.size cs ad c acc sc list ⟨#[58]⟩ origin w1 hd ok.ls ok.os (by decide) among_colon ok.each ok.many)
  have HLAB := Lib.hid (fun (sc : Bool) (ad : Option Addr) (c : Nat) (acc : List ByteArray) (list origin : ByteArray) (w1 : World) (hd : LSt w w.heap.size cs (.slice ad acc.length c) acc w1) (ok : AddOK bothP list origin acc) => refLay_any bothP w w.heap.size cs ad c acc sc list ⟨#[58, 59]⟩ origin w1 hd ok.ls ok.os (by decide) among_both ok.each ok.many)
  have f4 := HF4.out _ D0.out.2.2
  have hmi : (0 : Int) < ((m + 1 : Nat) : Int) := by omega
  have hmi2 : (0 : Int) < (m : Int) + 1 := by omega
  have HM := Lib.hid hm
  clear hC hm h0 hR hcs hok3 hok hX0 hok1 hlo hlp
  go_enter Try.func8, Try.ntmps8
  go_wp2_with fail
  generalize w.alloc (.cells #[.string name, .slice (some ⟨b, off, none⟩) (m + 1) cc, .string ⟨(ec :: et).toArray⟩, .bool false] 28) = w2 at *
  clear f4
  go_loopg [3, 5] (m + 1) (fun g lv i wr => ∃ (k : Nat) (acc : List ByteArray) (ad : Option Addr) (c : Nat), k + g = m + 1 ∧ lv = .slice ad acc.length c ∧ i = .int .i64 (k : Int) ∧ Hid (chainF false (C.take k) = acc) ∧ Hid (LSt w w.heap.size cs (.slice ad acc.length c) acc wr))
  case atStart => exact ⟨0, [], none, 0, by omega, rfl, rfl, Lib.hid rfl, D0⟩
  case round =>
    obtain ⟨k, acc, ad, c, hk, rfl, rfl, HA, DR⟩ := hrel
    clear D0
    cases gk with
    | succ g =>
      have hkC : k < C.length := by rw [HM.out]; omega
      have hki : (k : Int) < (m : Int) + 1 := by omega
      have hcs5 := HCELL.out wr DR.out.2.2 k hkC
      have HNX := Lib.hid (HSUC.out k hkC)
      have HOKK := Lib.hid (HOK.out k hkC)
      have HKK := Lib.hid hk
      rw [HA.out] at HNX HOKK
      generalize C[k] = o at *
      obtain ⟨op, orp, orn, oR, oN⟩ := o
      have c0 : wr.cell? ⟨b, off + k * 5, none⟩ = some (.string op) := hcs5 0 (by omega)
      have c1 : wr.cell? ⟨b, off + k * 5 + 1, none⟩ = some (.string orp) := hcs5 1 (by omega)
      have c3 : wr.cell? ⟨b, off + k * 5 + 3, none⟩ = some (.bool oR) := hcs5 3 (by omega)
      have c4 : wr.cell? ⟨b, off + k * 5 + 4, none⟩ = some (.bool oN) := hcs5 4 (by omega)
      have k1 := ask_cell HCS.out.symm DR.out 1 (.slice (some ⟨b, off, none⟩) (m + 1) cc) rfl
      have k3 := ask_cell HCS.out.symm DR.out 3 (.bool false) rfl
      have hkn : k < m + 1 := by omega
      clear hkC hcs5 hk
      cases oR <;> cases oN
      case' true.false =>
        have HAK := Lib.hid (HOKK.out rfl rfl)
        go_wp2_with fail
        go_region_law (first | (go_simp; go_at_call 21; refine (HLAY.out false ad c acc orp op _ (DR.out.below (Below.refl _ _).drew) HAK.out).mono ?_; rintro e w9 ⟨ad9, c9, rfl, hd9⟩; have D9 := Lib.hid hd9; clear hd9))
        all_goals
          go_wp2_with fail
          go_roundg g
          case measure => omega
          case rel => exact ⟨k + 1, _, ad9, c9, by have := HKK.out; omega, rfl, by go_num, HNX, D9⟩
      all_goals
        go_wp2_with fail
        go_roundg g
        case measure => omega
        case rel => exact ⟨k + 1, acc, ad, c, by have := HKK.out; omega, rfl, by go_num, HNX, DR⟩
    | zero =>
      have hke : k = m + 1 := by omega
      subst hke
      rw [HA.out] at HALL
      obtain rfl : acc = X0 := HALL.out
      clear hk
      have f4 := HF4.out _ DR.out.2.2
      have k1 := ask_cell HCS.out.symm DR.out 1 (.slice (some ⟨b, off, none⟩) (m + 1) cc) rfl
      have k2 := ask_cell HCS.out.symm DR.out 2 (.string ⟨(ec :: et).toArray⟩) rfl
      have k3 := ask_cell HCS.out.symm DR.out 3 (.bool false) rfl
      have flp := HLO.out _ DR.out.2.2
      go_wp2_with fail
      refine (HLAB.out false ad c acc ⟨(ec :: et).toArray⟩ lp _ DR.out HOK1.out).mono ?_
      rintro e w5 ⟨ad5, c5, rfl, hd5⟩
      have D5 := Lib.hid hd5
      clear hd5 k1 k2 k3 f4 flp
      have k1 := ask_cell HCS.out.symm D5.out 1 (.slice (some ⟨b, off, none⟩) (m + 1) cc) rfl
      have k2 := ask_cell HCS.out.symm D5.out 2 (.string ⟨(ec :: et).toArray⟩) rfl
      have k3 := ask_cell HCS.out.symm D5.out 3 (.bool false) rfl
      have f4 := HF4.out _ D5.out.2.2
      go_wp2_with fail
      refine (HLAY.out false ad5 c5 _ defaultsF ⟨#[]⟩ _ D5.out HOK3.out).mono ?_
      rintro e w7 ⟨ad7, c7, rfl, hd7⟩
      rw [HR.out] at hd7 ⊢
      have D7 := Lib.hid hd7
      clear hd7
      go_wp2_with fail
      go_ret
      exact ⟨⟨ad7, c7, rfl, D7.out.1.row.1⟩, D7.out.2.2⟩
end Go.Proofs.Ythhmnagaknhokaa
