/- Layer 14: the directories in which a library is looked for. -/
import Derived.Test.YtppeapafnnanbaaDoorFirst
namespace Go.Proofs.YtppeapafnnanbaaDoor
open Go.RowKit
set_option linter.unusedVariables false
set_option linter.unusedSimpArgs false

theorem DSt.below {W0 w w' : World} {lb ab : Nat} {cs : Array Value} {acc : List ByteArray} (h : DSt W0 lb ab cs acc w) (hb : Below w.heap.size w w') : DSt W0 lb ab cs acc w' := by
  obtain ⟨ad, c, hx, ho, ha, hB⟩ := h
  exact ⟨ad, c, hx.below hb, ho.below hb, (hb.block _ (lt_of_block ha)).trans ha, hB.trans (hb.mono hB.size)⟩
theorem DSt.blw {W0 w : World} {lb ab : Nat} {cs : Array Value} {acc : List ByteArray} (h : DSt W0 lb ab cs acc w) : Below W0.heap.size W0 w := by
  obtain ⟨ad, c, hx, ho, ha, hB⟩ := h
  exact hB
theorem DSt.ask {W0 w : World} {lb ab : Nat} {cs : Array Value} {acc : List ByteArray} (h : DSt W0 lb ab cs acc w) (j : Nat) : w.cell? ⟨ab, j, none⟩ = cs[j]? := by
  obtain ⟨ad, c, hx, ho, ha, hB⟩ := h
  exact cell_of_row _ _ _ _ _ _ ha
/-- what a list must be for its directories to be laid -/
structure AddOK (p : Nat → Bool) (list origin : ByteArray) (acc : List ByteArray) : Prop where
  ls : list.size ≤ 1099511627776
  os : origin.size ≤ 140737488351232
  each : ∀ l ∈ cutF p list.data.toList, (expF (mkT l) origin).1.length ≤ 140737488355328 ∧ l.length ≤ 140737488351232
  many : acc.length + (cutF p list.data.toList).length ≤ 1099511627776
def chainStep (secure : Bool) (l : List ByteArray) (o : OT) : List ByteArray := if o.hasR && !o.hasRun then addF secure o.path l (cutF colonP o.rpath.data.toList) else l
def chainF (secure : Bool) (C : List OT) : List ByteArray := C.foldl (chainStep secure) []
theorem chainF_succ (secure : Bool) (C : List OT) (k : Nat) (hk : k < C.length) : chainF secure (C.take (k + 1)) = chainStep secure (chainF secure (C.take k)) C[k] := by
  unfold chainF
  rw [List.take_succ_eq_append_getElem hk, List.foldl_append]
  rfl
theorem colonP_high : ∀ r, 128 ≤ r → colonP r = false := fun r h => by unfold colonP; exact beq_eq_false_iff_ne.2 (by omega)
theorem bothP_high : ∀ r, 128 ≤ r → bothP r = false := fun r h => by unfold bothP; rw [Bool.or_eq_false_iff]; exact ⟨beq_eq_false_iff_ne.2 (by omega), beq_eq_false_iff_ne.2 (by omega)⟩
theorem enters_colon : ∀ (args : Array Value) (w : World), (callFunc 28 args).run Tryd.prog w = .ok (.enter 28 args) w := enters_of Tryd.func28 (by kernel_rfl) rfl
theorem enters_both : ∀ (args : Array Value) (w : World), (callFunc 30 args).run Tryd.prog w = .ok (.enter 30 args) w := enters_of Tryd.func30 (by kernel_rfl) rfl
theorem field_path (w : World) (v0 v1 v2 v3 v4 : Value) : (Instr.field 48 (.agg #[v0, v1, v2, v3, v4]) 0).run Tryd.prog w = .ok v0 w := by
  simp [Instr.field, run_underlying Tryd.underlying48, part, asAgg, Tryd.sizeOf9, Tryd.isAgg9, go_sem]
def defaultsF : ByteArray := ⟨#[47, 108, 105, 98, 54, 52, 58, 47, 117, 115, 114, 47, 108, 105, 98, 54, 52]⟩
/-- where the first object has no Runpath, and the environment is asked -/
def dirsA (C : List OT) (env : ByteArray) (last : ByteArray) : List ByteArray :=
  addF false ⟨#[]⟩ (addF false last (chainF false C) (cutF bothP env.data.toList)) (cutF colonP defaultsF.data.toList)

set_option maxRecDepth 100000 in
set_option maxHeartbeats 8000000 in
theorem dirs_a (name env : ByteArray) (ec : UInt8) (et : List UInt8) (b off m cc : Nat) (C : List OT) (w : World) (he : env = ⟨(ec :: et).toArray⟩) (hC : CRow w (some ⟨b, off, none⟩) C) (hm : C.length = m + 1) (hmc : m + 1 ≤ cc) (hml : m ≤ 1048576)
    (h0 : (C[0]'(by omega)).hasRun = false) (hok : ∀ k, (hk : k < C.length) → C[k].hasR = true → C[k].hasRun = false → AddOK colonP C[k].rpath C[k].path (chainF false (C.take k)))
    (hok1 : AddOK bothP env (C[m]'(by omega)).path (chainF false C)) (hok2 : AddOK colonP defaultsF ⟨#[]⟩ (addF false (C[m]'(by omega)).path (chainF false C) (cutF bothP env.data.toList))) :
    Calls Tryd.prog 10 #[.agg #[.string name, .slice (some ⟨b, off, none⟩) (m + 1) cc, .string env, .bool false]] w fun e w' => (∃ ad c, e = .returned (.slice ad (dirsA C env (C[m]'(by omega)).path).length c) ∧ TRow w' ad (dirsA C env (C[m]'(by omega)).path)) ∧ Below w.heap.size w w' := by
  obtain ⟨R, hR⟩ : ∃ R, dirsA C env (C[m]'(by omega)).path = R := ⟨_, rfl⟩
  have HR : Hid (addF false ⟨#[]⟩ (addF false (C[m]'(by omega)).path (chainF false C) (cutF bothP env.data.toList)) (cutF colonP defaultsF.data.toList) = R) := Lib.hid hR
  rw [hR]
  have HC := Lib.hid hC
  have HM := Lib.hid hm
  obtain ⟨lo, hlo⟩ : ∃ lo, C[m]'(by omega) = lo := ⟨_, rfl⟩
  obtain ⟨fo, hfo⟩ : ∃ fo, C[0]'(by omega) = fo := ⟨_, rfl⟩
  have HLO : Hid (∀ (w1 : World), Below w.heap.size w w1 → b < w1.heap.size ∧ ∀ j, j < 5 → w1.cell? ⟨b, off + m * 5 + j, none⟩ = lo.cells[j]?) := Lib.hid (fun w1 hb => by
    obtain ⟨b', o', e, hlt, hc⟩ := (hC.below hb) m (by omega)
    cases e
    exact ⟨hlt, fun j hj => by rw [hc j hj, hlo]⟩)
  have HFO : Hid (∀ (w1 : World), Below w.heap.size w w1 → w1.cell? ⟨b, off + 4, none⟩ = some (.bool false)) := Lib.hid (fun w1 hb => by
    obtain ⟨b', o', e, hlt, hc⟩ := (hC.below hb) 0 (by omega)
    cases e
    have h1 := hc 4 (by omega)
    rw [Nat.zero_mul, Nat.add_zero] at h1
    rw [h1, ← h0]
    rfl)
  rw [hlo] at HR hok1 hok2
  have HOK := Lib.hid hok; have HOK1 := Lib.hid hok1; have HOK2 := Lib.hid hok2
  subst he
  obtain ⟨cs, hcs⟩ : ∃ cs : Array Value, #[.string name, .slice (some ⟨b, off, none⟩) (m + 1) cc, .string ⟨(ec :: et).toArray⟩, .bool false] = cs := ⟨_, rfl⟩
  have HCS := Lib.hid hcs
  have D0 : Hid (DSt w (w.heap.size + 1) w.heap.size cs [] ((w.alloc (.cells #[.string name, .slice (some ⟨b, off, none⟩) (m + 1) cc, .string ⟨(ec :: et).toArray⟩, .bool false] 25)).alloc (.cells #[.slice none 0 0] 45))) := Lib.hid (by
    have hb1 : Below w.heap.size w ((w.alloc (.cells #[.string name, .slice (some ⟨b, off, none⟩) (m + 1) cc, .string ⟨(ec :: et).toArray⟩, .bool false] 25)).alloc (.cells #[.slice none 0 0] 45)) := ((Below.refl _ _).alloc (Nat.le_refl _) _).alloc (by simp) _
    refine ⟨none, 0, ?_, OwnT.nil _ _ _, ?_, hb1⟩
    · have := heap_alloc_new (w.alloc (.cells #[.string name, .slice (some ⟨b, off, none⟩) (m + 1) cc, .string ⟨(ec :: et).toArray⟩, .bool false] 25)) (.cells #[.slice none 0 0] 45)
      unfold InBox
      simpa using this
    · rw [heap_alloc_old _ _ (by simp), ← hcs]
      exact heap_alloc_new _ _)
  have HADD := Lib.hid (fun (acc : List ByteArray) (list origin : ByteArray) (w1 : World) (hd : DSt w (w.heap.size + 1) w.heap.size cs acc w1) (ok : AddOK colonP list origin acc) => add_any 28 colonP enters_colon colon_any colonP_high w (w.heap.size + 1) w.heap.size cs acc false list origin w1 hd (by omega) (by omega) (by rw [← hcs]; rfl) ok.ls ok.os ok.each ok.many)
  have HADB := Lib.hid (fun (acc : List ByteArray) (list origin : ByteArray) (w1 : World) (hd : DSt w (w.heap.size + 1) w.heap.size cs acc w1) (ok : AddOK bothP list origin acc) => add_any 30 bothP enters_both both_any bothP_high w (w.heap.size + 1) w.heap.size cs acc false list origin w1 hd (by omega) (by omega) (by rw [← hcs]; rfl) ok.ls ok.os ok.each ok.many)
  have HCH0 : Hid (chainF false (C.take 0) = []) := Lib.hid rfl
  have D1 : Hid (DSt w (w.heap.size + 1) w.heap.size cs (chainF false (C.take 0)) ((w.alloc (.cells #[.string name, .slice (some ⟨b, off, none⟩) (m + 1) cc, .string ⟨(ec :: et).toArray⟩, .bool false] 25)).alloc (.cells #[.slice none 0 0] 45))) := D0
  have f4 := HFO.out _ D1.out.blw
  have hmi : (0 : Int) < ((m + 1 : Nat) : Int) := by omega
  have hmi2 : (0 : Int) < (m : Int) + 1 := by omega
  clear hR hC hm hlo hfo h0 hok hok1 hok2 hcs D0 HCH0
  go_enter Tryd.func10, Tryd.ntmps10
  go_wp2_with fail
  generalize (w.alloc (.cells #[.string name, .slice (some ⟨b, off, none⟩) (m + 1) cc, .string ⟨(ec :: et).toArray⟩, .bool false] 25)).alloc (.cells #[.slice none 0 0] 45) = w2 at *
  clear f4
  go_loopg [24] (m + 1) (fun g i wr => ∃ k : Nat, k + g = m + 1 ∧ i = .int .i64 (k : Int) ∧ Hid (DSt w (w.heap.size + 1) w.heap.size cs (chainF false (C.take k)) wr))
  case atStart => exact ⟨0, by omega, rfl, D1⟩
  case round =>
    obtain ⟨k, hk, rfl, DR⟩ := hrel
    clear D1
    cases gk with
    | zero =>
      have hke : k = m + 1 := by omega
      subst hke
      clear hk
      have hall : chainF false (C.take (m + 1)) = chainF false C := by rw [List.take_of_length_le (by rw [HM.out]; exact Nat.le_refl _)]
      rw [hall] at DR
      have k1 : wr.cell? ⟨w.heap.size, 1, none⟩ = some (.slice (some ⟨b, off, none⟩) (m + 1) cc) := by rw [DR.out.ask, ← HCS.out]; rfl
      have k2 : wr.cell? ⟨w.heap.size, 2, none⟩ = some (.string ⟨(ec :: et).toArray⟩) := by rw [DR.out.ask, ← HCS.out]; rfl
      have k3 : wr.cell? ⟨w.heap.size, 3, none⟩ = some (.bool false) := by rw [DR.out.ask, ← HCS.out]; rfl
      have HLAST : Hid (∀ w', Below wr.heap.size wr w' → Calls Tryd.prog 29 #[.slice (some ⟨b, off, none⟩) (m + 1) cc] w' fun e w'' => e = .returned (.agg #[.string lo.path, .string lo.rpath, .string lo.runpath, .bool lo.hasR, .bool lo.hasRun]) ∧ Below w'.heap.size w' w'') := Lib.hid (fun w' hb => by
        obtain ⟨h1, h2⟩ := HLO.out w' (DR.out.blw.trans (hb.mono DR.out.blw.size))
        exact last_any b off m cc lo w' hmc (by omega) h2 h1)
      have hfp := fun (w1 : World) => field_path w1 (.string lo.path) (.string lo.rpath) (.string lo.runpath) (.bool lo.hasR) (.bool lo.hasRun)
      clear hall
      go_wp2_with fail
      go_region_law
        (first
          | (go_simp; go_at_call 29; refine (HLAST.out _ (Below.refl _ _).drew).mono ?_; rintro e w9 ⟨rfl, hb9⟩; have D9 := Lib.hid (DR.out.below (bstep (Below.refl _ _).drew hb9)); have k9 : w9.cell? ⟨w.heap.size, 2, none⟩ = some (.string ⟨(ec :: et).toArray⟩) := (by rw [D9.out.ask, ← HCS.out]; rfl))
          | (go_simp; go_at_call 25; refine (HADB.out _ _ _ _ D9.out HOK1.out).mono ?_; rintro e w10 ⟨rfl, hd10⟩; have D10 := Lib.hid hd10))
      all_goals
        clear k1 k2 k3 k9
        have k1 : w10.cell? ⟨w.heap.size, 1, none⟩ = some (.slice (some ⟨b, off, none⟩) (m + 1) cc) := by rw [D10.out.ask, ← HCS.out]; rfl
        have f4 := HFO.out _ D10.out.blw
        go_wp2_with fail
        refine (HADD.out _ defaultsF ⟨#[]⟩ w10 D10.out HOK2.out).mono ?_
        rintro e w11 ⟨rfl, hd11⟩
        rw [HR.out] at hd11
        obtain ⟨ad, c, hx, ho, -, hB⟩ := hd11
        have hc11 := hx.cell
        have TR := Lib.hid ho.row.1
        have B11 := Lib.hid hB
        clear hx ho hB k1 f4
        go_wp2_with fail
        go_ret
        exact ⟨⟨ad, c, rfl, TR.out⟩, B11.out⟩
    | succ g =>
      have hlt : k < m + 1 := by omega
      have hkC : k < C.length := by rw [HM.out]; omega
      obtain ⟨b', o', e1, hblt, hcs'⟩ := (HC.out.below DR.out.blw) k hkC
      cases e1
      have HNX := Lib.hid (chainF_succ false C k hkC)
      have HOKK := Lib.hid (HOK.out k hkC)
      have HKK := Lib.hid hk
      generalize C[k] = o at *
      obtain ⟨op, orp, orn, oR, oN⟩ := o
      have c0 : wr.cell? ⟨b, off + k * 5, none⟩ = some (.string op) := hcs' 0 (by omega)
      have c1 : wr.cell? ⟨b, off + k * 5 + 1, none⟩ = some (.string orp) := hcs' 1 (by omega)
      have c2 : wr.cell? ⟨b, off + k * 5 + 2, none⟩ = some (.string orn) := hcs' 2 (by omega)
      have c3 : wr.cell? ⟨b, off + k * 5 + 3, none⟩ = some (.bool oR) := hcs' 3 (by omega)
      have c4 : wr.cell? ⟨b, off + k * 5 + 4, none⟩ = some (.bool oN) := hcs' 4 (by omega)
      have DA : Hid (DSt w (w.heap.size + 1) w.heap.size cs (chainF false (C.take k)) (wr.alloc (.cells #[.string op, .string orp, .string orn, .bool oR, .bool oN] 48))) := Lib.hid (DR.out.below ((Below.refl _ _).alloc (Nat.le_refl _) _))
      clear hkC hcs' hk
      cases oR <;> cases oN
      · have DX : Hid (DSt w (w.heap.size + 1) w.heap.size cs (chainF false (C.take (k + 1))) (wr.alloc (.cells #[.string op, .string orp, .string orn, .bool false, .bool false] 48))) := Lib.hid (by rw [HNX.out]; exact DA.out)
        go_wp2_with fail
        go_roundg g
        case measure => omega
        case rel => exact ⟨k + 1, by have := HKK.out; omega, by go_num, DX⟩
      · have DX : Hid (DSt w (w.heap.size + 1) w.heap.size cs (chainF false (C.take (k + 1))) (wr.alloc (.cells #[.string op, .string orp, .string orn, .bool false, .bool true] 48))) := Lib.hid (by rw [HNX.out]; exact DA.out)
        go_wp2_with fail
        go_roundg g
        case measure => omega
        case rel => exact ⟨k + 1, by have := HKK.out; omega, by go_num, DX⟩
      · have HAK := Lib.hid (HOKK.out rfl rfl)
        go_wp2_with fail
        refine (HADD.out _ orp op _ DA.out HAK.out).mono ?_
        rintro e w9 ⟨rfl, hd9⟩
        have DX : Hid (DSt w (w.heap.size + 1) w.heap.size cs (chainF false (C.take (k + 1))) w9) := Lib.hid (by rw [HNX.out]; exact hd9)
        clear hd9
        go_wp2_with fail
        go_roundg g
        case measure => omega
        case rel => exact ⟨k + 1, by have := HKK.out; omega, by go_num, DX⟩
      · have DX : Hid (DSt w (w.heap.size + 1) w.heap.size cs (chainF false (C.take (k + 1))) (wr.alloc (.cells #[.string op, .string orp, .string orn, .bool true, .bool true] 48))) := Lib.hid (by rw [HNX.out]; exact DA.out)
        go_wp2_with fail
        go_roundg g
        case measure => omega
        case rel => exact ⟨k + 1, by have := HKK.out; omega, by go_num, DX⟩
end Go.Proofs.YtppeapafnnanbaaDoor
