/- Layer 14, the document's answer: the directories in which a library is looked for. -/
import Derived.Test.YthhmnagaknhokaaRefLay
import Derived.Test.YthhmnagaknhokaaDirs
namespace Go.Proofs.Ythhmnagaknhokaa
open Go.RowKit
set_option linter.unusedVariables false
set_option linter.unusedSimpArgs false

theorem among_colon (c : UInt8) : amongF (⟨#[58]⟩ : ByteArray).data.toList c = colonP c.toNat := by
  show ((58 : UInt8) == c || false) = (c.toNat == 58)
  rw [Bool.or_false, Bool.eq_iff_iff, beq_iff_eq, beq_iff_eq, ← UInt8.toNat_inj]
  exact eq_comm
theorem among_both (c : UInt8) : amongF (⟨#[58, 59]⟩ : ByteArray).data.toList c = bothP c.toNat := by
  show ((58 : UInt8) == c || ((59 : UInt8) == c || false)) = (c.toNat == 58 || c.toNat == 59)
  rw [Bool.or_false, Bool.eq_iff_iff, Bool.or_eq_true, Bool.or_eq_true, beq_iff_eq, beq_iff_eq, beq_iff_eq, beq_iff_eq, ← UInt8.toNat_inj, ← UInt8.toNat_inj]
  exact or_congr eq_comm eq_comm
theorem ask_cell {W0 w : World} {ab : Nat} {cs cs' : Array Value} {v : Value} {acc : List ByteArray} (hcs : cs = cs') (h : LSt W0 ab cs v acc w) (j : Nat) (u : Value) (hj : cs'[j]? = some u) : w.cell? ⟨ab, j, none⟩ = some u := by
  rw [cell_of_row _ _ _ _ _ _ h.2.1, hcs]
  exact hj

set_option maxRecDepth 100000 in
set_option maxHeartbeats 8000000 in
theorem refDirs_ES (name : ByteArray) (env : ByteArray) (ca : Option Addr) (cc : Nat) (w : World) (hok3 : AddOK colonP defaultsF ⟨#[]⟩ []) :
    Calls Try.prog 8 #[.agg #[.string name, .slice ca 0 cc, .string env, .bool true]] w fun e w' => (∃ ad c, e = .returned (.slice ad (addF false ⟨#[]⟩ [] (cutF colonP defaultsF.data.toList)).length c) ∧ TRow w' ad (addF false ⟨#[]⟩ [] (cutF colonP defaultsF.data.toList))) ∧ Below w.heap.size w w' := by
  obtain ⟨cs, hcs⟩ : ∃ cs : Array Value, #[.string name, .slice ca 0 cc, .string env, .bool true] = cs := ⟨_, rfl⟩
  have HCS := Lib.hid hcs
  have D0 : Hid (LSt w w.heap.size cs (.slice none 0 0) [] (w.alloc (.cells #[.string name, .slice ca 0 cc, .string env, .bool true] 28))) := Lib.hid ⟨OwnT.nil _ _ _, by rw [← hcs]; exact heap_alloc_new _ _, (Below.refl _ _).alloc (Nat.le_refl _) _⟩
  obtain ⟨R, hR⟩ : ∃ R, (addF false ⟨#[]⟩ [] (cutF colonP defaultsF.data.toList)) = R := ⟨_, rfl⟩
  have HR := Lib.hid hR
  rw [hR]
  have HOK3 := Lib.hid hok3
  have HLAY := Lib.hid (fun (sc : Bool) (ad : Option Addr) (c : Nat) (acc : List ByteArray) (list origin : ByteArray) (w1 : World) (hd : LSt w w.heap.size cs (.slice ad acc.length c) acc w1) (ok : AddOK colonP list origin acc) => refLay_any colonP w w.heap.size cs ad c acc sc list ⟨#[58]⟩ origin w1 hd ok.ls ok.os (by decide) among_colon ok.each ok.many)
  have HLAB := Lib.hid (fun (sc : Bool) (ad : Option Addr) (c : Nat) (acc : List ByteArray) (list origin : ByteArray) (w1 : World) (hd : LSt w w.heap.size cs (.slice ad acc.length c) acc w1) (ok : AddOK bothP list origin acc) => refLay_any bothP w w.heap.size cs ad c acc sc list ⟨#[58, 59]⟩ origin w1 hd ok.ls ok.os (by decide) among_both ok.each ok.many)
  clear hR hcs hok3
  go_enter Try.func8, Try.ntmps8
  go_wp2_with fail
  refine (HLAY.out false none 0 [] defaultsF ⟨#[]⟩ _ D0.out HOK3.out).mono ?_
  rintro e w7 ⟨ad7, c7, rfl, hd7⟩
  rw [HR.out] at hd7 ⊢
  have D7 := Lib.hid hd7
  clear hd7
  go_wp2_with fail
  go_ret
  exact ⟨⟨ad7, c7, rfl, D7.out.1.row.1⟩, D7.out.2.2⟩
set_option maxRecDepth 100000 in
set_option maxHeartbeats 8000000 in
theorem refDirs_EO (name : ByteArray) (ca : Option Addr) (cc : Nat) (w : World) (hok3 : AddOK colonP defaultsF ⟨#[]⟩ []) :
    Calls Try.prog 8 #[.agg #[.string name, .slice ca 0 cc, .string ⟨#[]⟩, .bool false]] w fun e w' => (∃ ad c, e = .returned (.slice ad (addF false ⟨#[]⟩ [] (cutF colonP defaultsF.data.toList)).length c) ∧ TRow w' ad (addF false ⟨#[]⟩ [] (cutF colonP defaultsF.data.toList))) ∧ Below w.heap.size w w' := by
  obtain ⟨cs, hcs⟩ : ∃ cs : Array Value, #[.string name, .slice ca 0 cc, .string ⟨#[]⟩, .bool false] = cs := ⟨_, rfl⟩
  have HCS := Lib.hid hcs
  have D0 : Hid (LSt w w.heap.size cs (.slice none 0 0) [] (w.alloc (.cells #[.string name, .slice ca 0 cc, .string ⟨#[]⟩, .bool false] 28))) := Lib.hid ⟨OwnT.nil _ _ _, by rw [← hcs]; exact heap_alloc_new _ _, (Below.refl _ _).alloc (Nat.le_refl _) _⟩
  obtain ⟨R, hR⟩ : ∃ R, (addF false ⟨#[]⟩ [] (cutF colonP defaultsF.data.toList)) = R := ⟨_, rfl⟩
  have HR := Lib.hid hR
  rw [hR]
  have HOK3 := Lib.hid hok3
  have HLAY := Lib.hid (fun (sc : Bool) (ad : Option Addr) (c : Nat) (acc : List ByteArray) (list origin : ByteArray) (w1 : World) (hd : LSt w w.heap.size cs (.slice ad acc.length c) acc w1) (ok : AddOK colonP list origin acc) => refLay_any colonP w w.heap.size cs ad c acc sc list ⟨#[58]⟩ origin w1 hd ok.ls ok.os (by decide) among_colon ok.each ok.many)
  have HLAB := Lib.hid (fun (sc : Bool) (ad : Option Addr) (c : Nat) (acc : List ByteArray) (list origin : ByteArray) (w1 : World) (hd : LSt w w.heap.size cs (.slice ad acc.length c) acc w1) (ok : AddOK bothP list origin acc) => refLay_any bothP w w.heap.size cs ad c acc sc list ⟨#[58, 59]⟩ origin w1 hd ok.ls ok.os (by decide) among_both ok.each ok.many)
  clear hR hcs hok3
  go_enter Try.func8, Try.ntmps8
  go_wp2_with fail
  refine (HLAY.out false none 0 [] defaultsF ⟨#[]⟩ _ D0.out HOK3.out).mono ?_
  rintro e w7 ⟨ad7, c7, rfl, hd7⟩
  rw [HR.out] at hd7 ⊢
  have D7 := Lib.hid hd7
  clear hd7
  go_wp2_with fail
  go_ret
  exact ⟨⟨ad7, c7, rfl, D7.out.1.row.1⟩, D7.out.2.2⟩
set_option maxRecDepth 100000 in
set_option maxHeartbeats 8000000 in
theorem refDirs_EA (name : ByteArray) (ec : UInt8) (et : List UInt8) (ca : Option Addr) (cc : Nat) (w : World) (hok1 : AddOK bothP ⟨(ec :: et).toArray⟩ ⟨#[]⟩ []) (hok3 : AddOK colonP defaultsF ⟨#[]⟩ (addF false ⟨#[]⟩ [] (cutF bothP (⟨(ec :: et).toArray⟩ : ByteArray).data.toList))) :
    Calls Try.prog 8 #[.agg #[.string name, .slice ca 0 cc, .string ⟨(ec :: et).toArray⟩, .bool false]] w fun e w' => (∃ ad c, e = .returned (.slice ad (addF false ⟨#[]⟩ (addF false ⟨#[]⟩ [] (cutF bothP (⟨(ec :: et).toArray⟩ : ByteArray).data.toList)) (cutF colonP defaultsF.data.toList)).length c) ∧ TRow w' ad (addF false ⟨#[]⟩ (addF false ⟨#[]⟩ [] (cutF bothP (⟨(ec :: et).toArray⟩ : ByteArray).data.toList)) (cutF colonP defaultsF.data.toList))) ∧ Below w.heap.size w w' := by
  obtain ⟨cs, hcs⟩ : ∃ cs : Array Value, #[.string name, .slice ca 0 cc, .string ⟨(ec :: et).toArray⟩, .bool false] = cs := ⟨_, rfl⟩
  have HCS := Lib.hid hcs
  have D0 : Hid (LSt w w.heap.size cs (.slice none 0 0) [] (w.alloc (.cells #[.string name, .slice ca 0 cc, .string ⟨(ec :: et).toArray⟩, .bool false] 28))) := Lib.hid ⟨OwnT.nil _ _ _, by rw [← hcs]; exact heap_alloc_new _ _, (Below.refl _ _).alloc (Nat.le_refl _) _⟩
  obtain ⟨R, hR⟩ : ∃ R, (addF false ⟨#[]⟩ (addF false ⟨#[]⟩ [] (cutF bothP (⟨(ec :: et).toArray⟩ : ByteArray).data.toList)) (cutF colonP defaultsF.data.toList)) = R := ⟨_, rfl⟩
  have HR := Lib.hid hR
  rw [hR]
  have HOK1 := Lib.hid hok1
  have HOK3 := Lib.hid hok3
  have HLAY := Lib.hid (fun (sc : Bool) (ad : Option Addr) (c : Nat) (acc : List ByteArray) (list origin : ByteArray) (w1 : World) (hd : LSt w w.heap.size cs (.slice ad acc.length c) acc w1) (ok : AddOK colonP list origin acc) => refLay_any colonP w w.heap.size cs ad c acc sc list ⟨#[58]⟩ origin w1 hd ok.ls ok.os (by decide) among_colon ok.each ok.many)
  have HLAB := Lib.hid (fun (sc : Bool) (ad : Option Addr) (c : Nat) (acc : List ByteArray) (list origin : ByteArray) (w1 : World) (hd : LSt w w.heap.size cs (.slice ad acc.length c) acc w1) (ok : AddOK bothP list origin acc) => refLay_any bothP w w.heap.size cs ad c acc sc list ⟨#[58, 59]⟩ origin w1 hd ok.ls ok.os (by decide) among_both ok.each ok.many)
  clear hR hcs hok3 hok1
  go_enter Try.func8, Try.ntmps8
  go_wp2_with fail
  refine (HLAB.out false none 0 [] ⟨(ec :: et).toArray⟩ ⟨#[]⟩ _ D0.out HOK1.out).mono ?_
  rintro e w5 ⟨ad5, c5, rfl, hd5⟩
  have D5 := Lib.hid hd5
  clear hd5
  have k1 := ask_cell HCS.out.symm D5.out 1 (.slice ca 0 cc) rfl
  have k2 := ask_cell HCS.out.symm D5.out 2 (.string ⟨(ec :: et).toArray⟩) rfl
  have k3 := ask_cell HCS.out.symm D5.out 3 (.bool false) rfl
  go_wp2_with fail
  refine (HLAY.out false ad5 c5 _ defaultsF ⟨#[]⟩ _ D5.out HOK3.out).mono ?_
  rintro e w7 ⟨ad7, c7, rfl, hd7⟩
  rw [HR.out] at hd7 ⊢
  have D7 := Lib.hid hd7
  clear hd7
  go_wp2_with fail
  go_ret
  exact ⟨⟨ad7, c7, rfl, D7.out.1.row.1⟩, D7.out.2.2⟩
end Go.Proofs.Ythhmnagaknhokaa
