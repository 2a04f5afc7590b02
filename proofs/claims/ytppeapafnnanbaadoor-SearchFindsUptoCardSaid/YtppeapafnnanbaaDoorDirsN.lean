/- Layer 14: the directories in which a library is looked for, case by case. -/
import Derived.Test.YtppeapafnnanbaaDoorDirsE
namespace Go.Proofs.YtppeapafnnanbaaDoor
open Go.RowKit
set_option linter.unusedVariables false
set_option linter.unusedSimpArgs false


set_option maxRecDepth 100000 in
set_option maxHeartbeats 8000000 in
theorem dirs_NS (name : ByteArray) (env : ByteArray) (b off m cc : Nat) (C : List OT) (w : World) (hC : CRow w (some ⟨b, off, none⟩) C) (hm : C.length = m + 1) (hml : m ≤ 1048576) (hmc : m + 1 ≤ cc) (h0 : (C[0]'(by omega)).hasRun = false) (hok : ∀ k, (hk : k < C.length) → C[k].hasR = true → C[k].hasRun = false → AddOK colonP C[k].rpath C[k].path (chainF true (C.take k))) (hok3 : AddOK colonP defaultsF ⟨#[]⟩ (chainF true C)) :
    Calls Tryd.prog 10 #[.agg #[.string name, .slice (some ⟨b, off, none⟩) (m + 1) cc, .string env, .bool true]] w fun e w' => (∃ ad c, e = .returned (.slice ad (addF true ⟨#[]⟩ (chainF true C) (cutF colonP defaultsF.data.toList)).length c) ∧ TRow w' ad (addF true ⟨#[]⟩ (chainF true C) (cutF colonP defaultsF.data.toList))) ∧ Below w.heap.size w w' := by
  obtain ⟨cs, hcs⟩ : ∃ cs : Array Value, #[.string name, .slice (some ⟨b, off, none⟩) (m + 1) cc, .string env, .bool true] = cs := ⟨_, rfl⟩
  have HCS := Lib.hid hcs
  have D0 : Hid (DSt w (w.heap.size + 1) w.heap.size cs [] ((w.alloc (.cells #[.string name, .slice (some ⟨b, off, none⟩) (m + 1) cc, .string env, .bool true] 25)).alloc (.cells #[.slice none 0 0] 45))) := Lib.hid (by
    have hb1 : Below w.heap.size w ((w.alloc (.cells #[.string name, .slice (some ⟨b, off, none⟩) (m + 1) cc, .string env, .bool true] 25)).alloc (.cells #[.slice none 0 0] 45)) := ((Below.refl _ _).alloc (Nat.le_refl _) _).alloc (by simp) _
    refine ⟨none, 0, ?_, OwnT.nil _ _ _, ?_, hb1⟩
    · have := heap_alloc_new (w.alloc (.cells #[.string name, .slice (some ⟨b, off, none⟩) (m + 1) cc, .string env, .bool true] 25)) (.cells #[.slice none 0 0] 45)
      unfold InBox
      simpa using this
    · rw [heap_alloc_old _ _ (by simp), ← hcs]
      exact heap_alloc_new _ _)
  have HCELL : Hid (∀ (w1 : World), Below w.heap.size w w1 → ∀ k, (hk : k < C.length) → b < w1.heap.size ∧ ∀ j, j < 5 → w1.cell? ⟨b, off + k * 5 + j, none⟩ = (C[k]'hk).cells[j]?) := Lib.hid (fun w1 hb k hk => by
    obtain ⟨b', o', e, hlt, hc⟩ := (hC.below hb) k hk
    cases e
    exact ⟨hlt, fun j hj => hc j hj⟩)
  have HF4 : Hid (∀ (w1 : World), Below w.heap.size w w1 → w1.cell? ⟨b, off + 4, none⟩ = some (.bool false)) := Lib.hid (fun w1 hb => by
    have h1 := (HCELL.out w1 hb 0 (by omega)).2 4 (by omega)
    rw [Nat.zero_mul, Nat.add_zero] at h1
    rw [h1, ← h0]
    rfl)
  obtain ⟨R, hR⟩ : ∃ R, (addF true ⟨#[]⟩ (chainF true C) (cutF colonP defaultsF.data.toList)) = R := ⟨_, rfl⟩
  have HR := Lib.hid hR
  rw [hR]
  have HOK := Lib.hid hok
  have HSUC := Lib.hid (chainF_succ true C)
  have HALL : Hid (chainF true (C.take (m + 1)) = chainF true C) := Lib.hid (by rw [List.take_of_length_le (by omega)])
  obtain ⟨X0, hX0⟩ : ∃ X0, (chainF true C) = X0 := ⟨_, rfl⟩
  rw [hX0] at hok3 HR HALL
  have HOK3 := Lib.hid hok3
  have HADD := Lib.hid (fun (acc : List ByteArray) (list origin : ByteArray) (w1 : World) (hd : DSt w (w.heap.size + 1) w.heap.size cs acc w1) (ok : AddOK colonP list origin acc) => add_any 28 colonP enters_colon colon_any colonP_high w (w.heap.size + 1) w.heap.size cs acc true list origin w1 hd (by omega) (by omega) (by rw [← hcs]; rfl) ok.ls ok.os ok.each ok.many)
  have HADB := Lib.hid (fun (acc : List ByteArray) (list origin : ByteArray) (w1 : World) (hd : DSt w (w.heap.size + 1) w.heap.size cs acc w1) (ok : AddOK bothP list origin acc) => add_any 30 bothP enters_both both_any bothP_high w (w.heap.size + 1) w.heap.size cs acc true list origin w1 hd (by omega) (by omega) (by rw [← hcs]; rfl) ok.ls ok.os ok.each ok.many)
  have f4 := HF4.out _ D0.out.blw
  have hmi : (0 : Int) < ((m + 1 : Nat) : Int) := by omega
  have hmi2 : (0 : Int) < (m : Int) + 1 := by omega
  have HM := Lib.hid hm
  clear hC hm h0 hR hcs hok3 hok hX0
  go_enter Tryd.func10, Tryd.ntmps10
  go_wp2_with fail
  generalize (w.alloc (.cells #[.string name, .slice (some ⟨b, off, none⟩) (m + 1) cc, .string env, .bool true] 25)).alloc (.cells #[.slice none 0 0] 45) = w2 at *
  clear f4
  go_loopg [24] (m + 1) (fun g i wr => ∃ (k : Nat) (acc : List ByteArray), k + g = m + 1 ∧ i = .int .i64 (k : Int) ∧ Hid (chainF true (C.take k) = acc) ∧ Hid (DSt w (w.heap.size + 1) w.heap.size cs acc wr))
  case atStart => exact ⟨0, [], by omega, rfl, Lib.hid rfl, D0⟩
  case round =>
    obtain ⟨k, acc, hk, rfl, HA, DR⟩ := hrel
    clear D0
    cases gk with
    | succ g =>
      have hkC : k < C.length := by rw [HM.out]; omega
      obtain ⟨hblt, hcs5⟩ := HCELL.out wr DR.out.blw k hkC
      have HNX := Lib.hid (HSUC.out k hkC)
      have HOKK := Lib.hid (HOK.out k hkC)
      have HKK := Lib.hid hk
      have hlt : k < m + 1 := by omega
      rw [HA.out] at HNX HOKK
      generalize C[k] = o at *
      obtain ⟨op, orp, orn, oR, oN⟩ := o
      have c0 : wr.cell? ⟨b, off + k * 5, none⟩ = some (.string op) := hcs5 0 (by omega)
      have c1 : wr.cell? ⟨b, off + k * 5 + 1, none⟩ = some (.string orp) := hcs5 1 (by omega)
      have c2 : wr.cell? ⟨b, off + k * 5 + 2, none⟩ = some (.string orn) := hcs5 2 (by omega)
      have c3 : wr.cell? ⟨b, off + k * 5 + 3, none⟩ = some (.bool oR) := hcs5 3 (by omega)
      have c4 : wr.cell? ⟨b, off + k * 5 + 4, none⟩ = some (.bool oN) := hcs5 4 (by omega)
      have DA : Hid (DSt w (w.heap.size + 1) w.heap.size cs acc (wr.alloc (.cells #[.string op, .string orp, .string orn, .bool oR, .bool oN] 48))) := Lib.hid (DR.out.below ((Below.refl _ _).alloc (Nat.le_refl _) _))
      clear hkC hcs5 hk
      cases oR <;> cases oN
      case' true.false =>
        have HAK := Lib.hid (HOKK.out rfl rfl)
        go_wp2_with fail
        refine (HADD.out _ orp op _ DA.out HAK.out).mono ?_
        rintro e w9 ⟨rfl, hd9⟩
        have DX := Lib.hid hd9
        clear hd9
        go_wp2_with fail
        go_roundg g
        case measure => omega
        case rel => exact ⟨k + 1, _, by have := HKK.out; omega, by go_num, HNX, DX⟩
      all_goals
        go_wp2_with fail
        go_roundg g
        case measure => omega
        case rel => exact ⟨k + 1, acc, by have := HKK.out; omega, by go_num, HNX, DA⟩
    | zero =>
      have hke : k = m + 1 := by omega
      subst hke
      rw [HA.out] at HALL
      obtain rfl : acc = X0 := HALL.out
      clear hk
      have f4 := HF4.out _ DR.out.blw
      have k1 := dst_cell HCS.out.symm DR.out 1 (.slice (some ⟨b, off, none⟩) (m + 1) cc) rfl
      have k2 := dst_cell HCS.out.symm DR.out 2 (.string env) rfl
      have k3 := dst_cell HCS.out.symm DR.out 3 (.bool true) rfl
      go_wp2_with fail
      refine (HADD.out acc defaultsF ⟨#[]⟩ _ DR.out HOK3.out).mono ?_
      rintro e w11 ⟨rfl, hd11⟩
      rw [HR.out] at hd11
      obtain ⟨ad, c, hx, ho, -, hB⟩ := hd11
      have hc11 := hx.cell
      have TR := Lib.hid ho.row.1
      have B11 := Lib.hid hB
      clear hx ho hB
      go_wp2_with fail
      go_ret
      exact ⟨⟨ad, c, rfl, TR.out⟩, B11.out⟩
set_option maxRecDepth 100000 in
set_option maxHeartbeats 8000000 in
theorem dirs_NO (name : ByteArray) (b off m cc : Nat) (C : List OT) (w : World) (hC : CRow w (some ⟨b, off, none⟩) C) (hm : C.length = m + 1) (hml : m ≤ 1048576) (hmc : m + 1 ≤ cc) (h0 : (C[0]'(by omega)).hasRun = false) (hok : ∀ k, (hk : k < C.length) → C[k].hasR = true → C[k].hasRun = false → AddOK colonP C[k].rpath C[k].path (chainF false (C.take k))) (hok3 : AddOK colonP defaultsF ⟨#[]⟩ (chainF false C)) :
    Calls Tryd.prog 10 #[.agg #[.string name, .slice (some ⟨b, off, none⟩) (m + 1) cc, .string ⟨#[]⟩, .bool false]] w fun e w' => (∃ ad c, e = .returned (.slice ad (addF false ⟨#[]⟩ (chainF false C) (cutF colonP defaultsF.data.toList)).length c) ∧ TRow w' ad (addF false ⟨#[]⟩ (chainF false C) (cutF colonP defaultsF.data.toList))) ∧ Below w.heap.size w w' := by
  obtain ⟨cs, hcs⟩ : ∃ cs : Array Value, #[.string name, .slice (some ⟨b, off, none⟩) (m + 1) cc, .string ⟨#[]⟩, .bool false] = cs := ⟨_, rfl⟩
  have HCS := Lib.hid hcs
  have D0 : Hid (DSt w (w.heap.size + 1) w.heap.size cs [] ((w.alloc (.cells #[.string name, .slice (some ⟨b, off, none⟩) (m + 1) cc, .string ⟨#[]⟩, .bool false] 25)).alloc (.cells #[.slice none 0 0] 45))) := Lib.hid (by
    have hb1 : Below w.heap.size w ((w.alloc (.cells #[.string name, .slice (some ⟨b, off, none⟩) (m + 1) cc, .string ⟨#[]⟩, .bool false] 25)).alloc (.cells #[.slice none 0 0] 45)) := ((Below.refl _ _).alloc (Nat.le_refl _) _).alloc (by simp) _
    refine ⟨none, 0, ?_, OwnT.nil _ _ _, ?_, hb1⟩
    · have := heap_alloc_new (w.alloc (.cells #[.string name, .slice (some ⟨b, off, none⟩) (m + 1) cc, .string ⟨#[]⟩, .bool false] 25)) (.cells #[.slice none 0 0] 45)
      unfold InBox
      simpa using this
    · rw [heap_alloc_old _ _ (by simp), ← hcs]
      exact heap_alloc_new _ _)
  have HCELL : Hid (∀ (w1 : World), Below w.heap.size w w1 → ∀ k, (hk : k < C.length) → b < w1.heap.size ∧ ∀ j, j < 5 → w1.cell? ⟨b, off + k * 5 + j, none⟩ = (C[k]'hk).cells[j]?) := Lib.hid (fun w1 hb k hk => by
    obtain ⟨b', o', e, hlt, hc⟩ := (hC.below hb) k hk
    cases e
    exact ⟨hlt, fun j hj => hc j hj⟩)
  have HF4 : Hid (∀ (w1 : World), Below w.heap.size w w1 → w1.cell? ⟨b, off + 4, none⟩ = some (.bool false)) := Lib.hid (fun w1 hb => by
    have h1 := (HCELL.out w1 hb 0 (by omega)).2 4 (by omega)
    rw [Nat.zero_mul, Nat.add_zero] at h1
    rw [h1, ← h0]
    rfl)
  obtain ⟨R, hR⟩ : ∃ R, (addF false ⟨#[]⟩ (chainF false C) (cutF colonP defaultsF.data.toList)) = R := ⟨_, rfl⟩
  have HR := Lib.hid hR
  rw [hR]
  have HOK := Lib.hid hok
  have HSUC := Lib.hid (chainF_succ false C)
  have HALL : Hid (chainF false (C.take (m + 1)) = chainF false C) := Lib.hid (by rw [List.take_of_length_le (by omega)])
  obtain ⟨X0, hX0⟩ : ∃ X0, (chainF false C) = X0 := ⟨_, rfl⟩
  rw [hX0] at hok3 HR HALL
  have HOK3 := Lib.hid hok3
  have HADD := Lib.hid (fun (acc : List ByteArray) (list origin : ByteArray) (w1 : World) (hd : DSt w (w.heap.size + 1) w.heap.size cs acc w1) (ok : AddOK colonP list origin acc) => add_any 28 colonP enters_colon colon_any colonP_high w (w.heap.size + 1) w.heap.size cs acc false list origin w1 hd (by omega) (by omega) (by rw [← hcs]; rfl) ok.ls ok.os ok.each ok.many)
  have HADB := Lib.hid (fun (acc : List ByteArray) (list origin : ByteArray) (w1 : World) (hd : DSt w (w.heap.size + 1) w.heap.size cs acc w1) (ok : AddOK bothP list origin acc) => add_any 30 bothP enters_both both_any bothP_high w (w.heap.size + 1) w.heap.size cs acc false list origin w1 hd (by omega) (by omega) (by rw [← hcs]; rfl) ok.ls ok.os ok.each ok.many)
  have f4 := HF4.out _ D0.out.blw
  have hmi : (0 : Int) < ((m + 1 : Nat) : Int) := by omega
  have hmi2 : (0 : Int) < (m : Int) + 1 := by omega
  have HM := Lib.hid hm
  clear hC hm h0 hR hcs hok3 hok hX0
  go_enter Tryd.func10, Tryd.ntmps10
  go_wp2_with fail
  generalize (w.alloc (.cells #[.string name, .slice (some ⟨b, off, none⟩) (m + 1) cc, .string ⟨#[]⟩, .bool false] 25)).alloc (.cells #[.slice none 0 0] 45) = w2 at *
  clear f4
  go_loopg [24] (m + 1) (fun g i wr => ∃ (k : Nat) (acc : List ByteArray), k + g = m + 1 ∧ i = .int .i64 (k : Int) ∧ Hid (chainF false (C.take k) = acc) ∧ Hid (DSt w (w.heap.size + 1) w.heap.size cs acc wr))
  case atStart => exact ⟨0, [], by omega, rfl, Lib.hid rfl, D0⟩
  case round =>
    obtain ⟨k, acc, hk, rfl, HA, DR⟩ := hrel
    clear D0
    cases gk with
    | succ g =>
      have hkC : k < C.length := by rw [HM.out]; omega
      obtain ⟨hblt, hcs5⟩ := HCELL.out wr DR.out.blw k hkC
      have HNX := Lib.hid (HSUC.out k hkC)
      have HOKK := Lib.hid (HOK.out k hkC)
      have HKK := Lib.hid hk
      have hlt : k < m + 1 := by omega
      rw [HA.out] at HNX HOKK
      generalize C[k] = o at *
      obtain ⟨op, orp, orn, oR, oN⟩ := o
      have c0 : wr.cell? ⟨b, off + k * 5, none⟩ = some (.string op) := hcs5 0 (by omega)
      have c1 : wr.cell? ⟨b, off + k * 5 + 1, none⟩ = some (.string orp) := hcs5 1 (by omega)
      have c2 : wr.cell? ⟨b, off + k * 5 + 2, none⟩ = some (.string orn) := hcs5 2 (by omega)
      have c3 : wr.cell? ⟨b, off + k * 5 + 3, none⟩ = some (.bool oR) := hcs5 3 (by omega)
      have c4 : wr.cell? ⟨b, off + k * 5 + 4, none⟩ = some (.bool oN) := hcs5 4 (by omega)
      have DA : Hid (DSt w (w.heap.size + 1) w.heap.size cs acc (wr.alloc (.cells #[.string op, .string orp, .string orn, .bool oR, .bool oN] 48))) := Lib.hid (DR.out.below ((Below.refl _ _).alloc (Nat.le_refl _) _))
      clear hkC hcs5 hk
      cases oR <;> cases oN
      case' true.false =>
        have HAK := Lib.hid (HOKK.out rfl rfl)
        go_wp2_with fail
        refine (HADD.out _ orp op _ DA.out HAK.out).mono ?_
        rintro e w9 ⟨rfl, hd9⟩
        have DX := Lib.hid hd9
        clear hd9
        go_wp2_with fail
        go_roundg g
        case measure => omega
        case rel => exact ⟨k + 1, _, by have := HKK.out; omega, by go_num, HNX, DX⟩
      all_goals
        go_wp2_with fail
        go_roundg g
        case measure => omega
        case rel => exact ⟨k + 1, acc, by have := HKK.out; omega, by go_num, HNX, DA⟩
    | zero =>
      have hke : k = m + 1 := by omega
      subst hke
      rw [HA.out] at HALL
      obtain rfl : acc = X0 := HALL.out
      clear hk
      have f4 := HF4.out _ DR.out.blw
      have k1 := dst_cell HCS.out.symm DR.out 1 (.slice (some ⟨b, off, none⟩) (m + 1) cc) rfl
      have k2 := dst_cell HCS.out.symm DR.out 2 (.string ⟨#[]⟩) rfl
      have k3 := dst_cell HCS.out.symm DR.out 3 (.bool false) rfl
      go_wp2_with fail
      refine (HADD.out acc defaultsF ⟨#[]⟩ _ DR.out HOK3.out).mono ?_
      rintro e w11 ⟨rfl, hd11⟩
      rw [HR.out] at hd11
      obtain ⟨ad, c, hx, ho, -, hB⟩ := hd11
      have hc11 := hx.cell
      have TR := Lib.hid ho.row.1
      have B11 := Lib.hid hB
      clear hx ho hB
      go_wp2_with fail
      go_ret
      exact ⟨⟨ad, c, rfl, TR.out⟩, B11.out⟩
end Go.Proofs.YtppeapafnnanbaaDoor
