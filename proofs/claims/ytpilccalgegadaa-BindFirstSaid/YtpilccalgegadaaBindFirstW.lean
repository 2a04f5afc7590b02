/- Layer 17: a scope's symbol for a want, as lists (plain); a row of whole objects in memory. -/
import Derived.Test.YtpilccalgegadaaBindInG
import Derived.StillTailTactics
import Derived.OrdersHeld
import Derived.Deep.RegionHeld3
import Derived.Deep.MidRow
import Derived.Test.YtpilccalgegadaaBindUp
import Derived.WalkMore
import Derived.Deep.LoopGhost
namespace Go.Proofs.Ytpilccalgegadaa
open Go.RowKit
set_option linter.unusedVariables false
set_option linter.unusedSimpArgs false

/-- an object's answer: none where the scope's number names no object -/
def atG (l : List GObj) (nm ver : ByteArray) (i : Int) : Option (Int × Nat) := if 0 ≤ i then (l[i.toNat]?).map (fun x => inG x nm ver) else none
/-- a scope's symbol for a want: the object, the symbol, the code -/
def findG (l : List GObj) (nm ver : ByteArray) : List Int → Int × Int × Nat
  | [] => (-1, -1, 0)
  | i :: s => match atG l nm ver i with
    | none => findG l nm ver s
    | some r => if r.2 ≠ 0 then (0, 0, r.2) else if 0 ≤ r.1 then (i, r.1, 0) else findG l nm ver s
theorem findG_skip {l : List GObj} {nm ver : ByteArray} {i : Int} {s : List Int} (h : atG l nm ver i = none) : findG l nm ver (i :: s) = findG l nm ver s := by rw [findG, h]
theorem findG_bad {l : List GObj} {nm ver : ByteArray} {i : Int} {s : List Int} {r : Int × Nat} (h : atG l nm ver i = some r) (h1 : r.2 ≠ 0) : findG l nm ver (i :: s) = (0, 0, r.2) := by rw [findG, h]; exact if_pos h1
theorem findG_yes {l : List GObj} {nm ver : ByteArray} {i : Int} {s : List Int} {r : Int × Nat} (h : atG l nm ver i = some r) (h1 : r.2 = 0) (h2 : 0 ≤ r.1) : findG l nm ver (i :: s) = (i, r.1, 0) := by
  rw [findG, h]
  show (if r.2 ≠ 0 then _ else _) = _
  rw [if_neg (by simpa using h1), if_pos h2]
theorem findG_no {l : List GObj} {nm ver : ByteArray} {i : Int} {s : List Int} {r : Int × Nat} (h : atG l nm ver i = some r) (h1 : r.2 = 0) (h2 : ¬ 0 ≤ r.1) : findG l nm ver (i :: s) = findG l nm ver s := by
  rw [findG, h]
  show (if r.2 ≠ 0 then _ else _) = _
  rw [if_neg (by simpa using h1), if_neg h2]
/-- what the law asks: a scope finds what its first object that has something finds -/
theorem findG_first (l : List GObj) (nm ver : ByteArray) (i : Int) (s : List Int) : findG l nm ver (i :: s) = if (findG l nm ver [i]).2.2 ≠ 0 then findG l nm ver [i] else if 0 ≤ (findG l nm ver [i]).1 then findG l nm ver [i] else findG l nm ver s := by
  cases h : atG l nm ver i with
  | none =>
    rw [findG_skip h, findG_skip h]
    simp [findG]
  | some r =>
    have hi : 0 ≤ i := by
      unfold atG at h
      split at h
      · assumption
      · cases h
    by_cases h1 : r.2 = 0
    · by_cases h2 : 0 ≤ r.1
      · rw [findG_yes h h1 h2, findG_yes h h1 h2]
        simp [hi]
      · rw [findG_no h h1 h2, findG_no h h1 h2]
        simp [findG]
    · rw [findG_bad h h1, findG_bad h h1]
      simp [h1]
theorem inG_code {x : GObj} (nm ver : ByteArray) (hb : ∀ b ∈ x.bs, b < 256) : (inG x nm ver).2 = 0 ∨ (inG x nm ver).2 = 2 ∨ (inG x nm ver).2 = 3 ∨ (inG x nm ver).2 = 4 := by
  have h : ToldIn x.syms.length (lookG x nm) := by
    have := lookAF_in x.bs x.ps x.hash x.gnu (x.syms.map (·.name)) nm hb
    simpa [lookG] using this
  unfold inG
  rcases h with ⟨h0, -⟩ | ⟨-, h1⟩
  · rw [if_pos h0]
    exact .inl rfl
  · rw [if_neg (by omega)]
    exact .inr h1
theorem GORow.codes {w : World} {a : Option Addr} {l : List GObj} (h : GORow w a l) (nm ver : ByteArray) : ∀ x ∈ l, (inG x nm ver).2 = 0 ∨ (inG x nm ver).2 = 2 ∨ (inG x nm ver).2 = 3 ∨ (inG x nm ver).2 = 4 := by
  intro x hx
  obtain ⟨i, hi, rfl⟩ := List.getElem_of_mem hx
  obtain ⟨b, o, C, D, -, -, -, hC⟩ := h i hi
  obtain ⟨ba, bc, -, hr, -⟩ := hC.bytes
  exact inG_code nm ver hr.2
theorem findG_code {l : List GObj} {nm ver : ByteArray} (h : ∀ x ∈ l, (inG x nm ver).2 = 0 ∨ (inG x nm ver).2 = 2 ∨ (inG x nm ver).2 = 3 ∨ (inG x nm ver).2 = 4) : ∀ s : List Int, (findG l nm ver s).2.2 = 0 ∨ (findG l nm ver s).2.2 = 2 ∨ (findG l nm ver s).2.2 = 3 ∨ (findG l nm ver s).2.2 = 4
  | [] => .inl rfl
  | i :: s => by
    cases ha : atG l nm ver i with
    | none => rw [findG_skip ha]; exact findG_code h s
    | some r =>
      have hr : r.2 = 0 ∨ r.2 = 2 ∨ r.2 = 3 ∨ r.2 = 4 := by
        unfold atG at ha
        split at ha
        · obtain ⟨x, hx, rfl⟩ := Option.map_eq_some_iff.1 ha
          exact h x (List.mem_of_getElem? hx)
        · cases ha
      by_cases h1 : r.2 = 0
      · by_cases h2 : 0 ≤ r.1
        · rw [findG_yes ha h1 h2]; exact .inl rfl
        · rw [findG_no ha h1 h2]; exact findG_code h s
      · rw [findG_bad ha h1]; exact hr
end Go.Proofs.Ytpilccalgegadaa
/- Layer 17: Find, of whatever objects, scope and want. -/
namespace Go.Proofs.Ytpilccalgegadaa
open Go.RowKit
set_option linter.unusedVariables false
set_option linter.unusedSimpArgs false

set_option maxRecDepth 100000 in
set_option maxHeartbeats 16000000 in
theorem find_any (a : Option Addr) (cap n : Nat) (l : List GObj) (sa : Option Addr) (m sc : Nat) (scope : List Int) (nm ver fl : ByteArray) (w : World) (hl : l.length = n) (hn : n ≤ 1099511627776) (h : GORow w a l) (hm : scope.length = m) (hm2 : m ≤ 140737488355328) (hs : Row .i64 w sa scope) (hns : nm.size ≤ 140737488351232) :
    Calls Try.prog 5 #[.slice a n cap, .slice sa m sc, .agg #[.string nm, .string ver, .string fl]] w fun e w' => e = .returned (.tuple #[.agg #[.int .i64 (findG l nm ver scope).1, .int .i64 (findG l nm ver scope).2.1], errV ((findG l nm ver scope).2.2 : Int)]) ∧ Below w.heap.size w w' := by
  have H := Lib.hid h
  have HL := Lib.hid hl
  have HS := Lib.hid hs
  have HM := Lib.hid hm
  have HNS := Lib.hid hns
  obtain ⟨R, hR⟩ : ∃ R, findG l nm ver scope = R := ⟨_, rfl⟩
  have HR0 : Hid (findG l nm ver (scope.drop 0) = R) := Lib.hid hR
  rw [hR]
  have B1 : Hid (Below w.heap.size w ((w.alloc (.cells #[.string nm, .string ver, .string fl] 25)).alloc (.cells #[.int .i64 0, .int .i64 0] 28))) := Lib.hid (((Below.refl _ _).alloc (Nat.le_refl _) _).alloc (by simp) _)
  have HW : Hid (∀ wx, Below ((w.alloc (.cells #[.string nm, .string ver, .string fl] 25)).alloc (.cells #[.int .i64 0, .int .i64 0] 28)).heap.size ((w.alloc (.cells #[.string nm, .string ver, .string fl] 25)).alloc (.cells #[.int .i64 0, .int .i64 0] 28)) wx → wx.heap[w.heap.size]? = some (.cells #[.string nm, .string ver, .string fl] 25) ∧ wx.heap[w.heap.size + 1]? = some (.cells #[.int .i64 0, .int .i64 0] 28)) := Lib.hid (fun wx hb => by
    have e0 : ((w.alloc (.cells #[.string nm, .string ver, .string fl] 25)).alloc (.cells #[.int .i64 0, .int .i64 0] 28)).heap[w.heap.size]? = some (.cells #[.string nm, .string ver, .string fl] 25) := (heap_alloc_old _ _ (by simp)).trans (heap_alloc_new _ _)
    have e1 : ((w.alloc (.cells #[.string nm, .string ver, .string fl] 25)).alloc (.cells #[.int .i64 0, .int .i64 0] 28)).heap[w.heap.size + 1]? = some (.cells #[.int .i64 0, .int .i64 0] 28) := by
      have := heap_alloc_new (w.alloc (.cells #[.string nm, .string ver, .string fl] 25)) (.cells #[.int .i64 0, .int .i64 0] 28)
      simpa using this
    exact ⟨(hb.block _ (lt_of_block e0)).trans e0, (hb.block _ (lt_of_block e1)).trans e1⟩)
  clear h hl hs hm hR
  go_enter Try.func5, Try.ntmps5
  go_wp2_with fail
  generalize ((w.alloc (.cells #[.string nm, .string ver, .string fl] 25)).alloc (.cells #[.int .i64 0, .int .i64 0] 28)) = w1 at *
  obtain ⟨vb, hvb⟩ : ∃ vb, w.heap.size + 1 = vb := ⟨_, rfl⟩
  have HVB : Hid (w.heap.size ≤ vb) := Lib.hid (by omega)
  rw [hvb] at HW ⊢
  clear hvb
  go_loopg [14] m (fun g i wr => ∃ k : Nat, k + g = m ∧ i = .int .i64 (k : Int) ∧ Hid (findG l nm ver (scope.drop k) = R) ∧ Hid (Below w1.heap.size w1 wr))
  case atStart => exact ⟨0, by omega, rfl, HR0, Lib.hid (Below.refl _ _)⟩
  case round =>
    clear HR0
    obtain ⟨k, hk, rfl, HR, HB⟩ := hrel
    have BW := Lib.hid (bstep B1.out HB.out)
    cases gk with
    | zero =>
      have hke : k = m := by omega
      have HF : Hid (R = (-1, -1, 0)) := Lib.hid (by rw [← HR.out, List.drop_of_length_le (by rw [HM.out, hke]; exact Nat.le_refl _)]; rfl)
      obtain ⟨-, qq⟩ := HW.out _ HB.out
      clear hk
      subst hke
      have v0 : wr.cell? ⟨vb, 0, none⟩ = some (.int .i64 0) := by rw [cell_of_row _ _ 0 _ _ _ qq]; rfl
      have v1 : wr.cell? ⟨vb, 1, none⟩ = some (.int .i64 0) := by rw [cell_of_row _ _ 1 _ _ _ qq]; rfl
      have f0 := frozen_of_row wr vb 0 _ _ qq
      have f1 := frozen_of_row wr vb 1 _ _ qq
      have FS := Lib.hid (two_stores qq (.int .i64 (-1)) (.int .i64 (-1)))
      have hr := fun (cs : Array Value) (j : Nat) => cell_setRow_same wr vb j _ cs _ _ qq
      have r0 := hr #[.int .i64 (-1), .int .i64 (-1)] 0
      have r1 := hr #[.int .i64 (-1), .int .i64 (-1)] 1
      simp only [List.getElem?_toArray, List.getElem?_cons_zero, List.getElem?_cons_succ] at r0 r1
      have RR0 := Lib.hid r0
      have RR1 := Lib.hid r1
      have BZ : Hid (Below w.heap.size w (wr.setRow vb #[.int .i64 (-1), .int .i64 (-1)])) := Lib.hid (below_setRow BW.out HVB.out _)
      clear r0 r1 hr qq
      go_wp2_with fail
      rw [FS.out]
      refine bodyPost_ret (by simp [results, Try.results5, go_sem, RR0.out, RR1.out]; try rfl) rfl ?_
      rw [HF.out]
      exact ⟨rfl, BZ.out⟩
    | succ g =>
      have hkm : k < m := by omega
      have hks : k < scope.length := by rw [HM.out]; exact hkm
      obtain ⟨b, of, rfl, hc⟩ := (HS.out.below BW.out) k hks
      have HD : Hid (scope.drop k = scope.getD k 0 :: scope.drop (k + 1)) := Lib.hid (by rw [drop_cons hks, List.getD_eq_getElem?_getD, List.getElem?_eq_getElem hks, Option.getD_some])
      rw [HD.out] at HR
      have hcc : wr.cell? ⟨b, of + k, none⟩ = some (.int .i64 (scope.getD k 0)) := hc
      generalize scope.getD k 0 = i at *
      clear hc hks
      by_cases hi0 : i < 0
      · have HR2 : Hid (findG l nm ver (scope.drop (k + 1)) = R) := Lib.hid (by rw [← HR.out, findG_skip (by unfold atG; rw [if_neg (by omega)])])
        clear HR
        go_wp2_with fail
        go_roundg g
        case measure => omega
        case rel => exact ⟨k + 1, by omega, by go_num, HR2, HB⟩
      · by_cases hin : (n : Int) ≤ i
        · have HR2 : Hid (findG l nm ver (scope.drop (k + 1)) = R) := Lib.hid (by rw [← HR.out, findG_skip (by unfold atG; rw [if_pos (by omega), List.getElem?_eq_none (by rw [HL.out]; omega)]; rfl)])
          clear HR
          go_wp2_with fail
          go_roundg g
          case measure => omega
          case rel => exact ⟨k + 1, by omega, by go_num, HR2, HB⟩
        · obtain ⟨iv, rfl⟩ : ∃ iv : Nat, i = (iv : Int) := ⟨i.toNat, by omega⟩
          have hivn : iv < l.length := by rw [HL.out]; omega
          obtain ⟨b2, o2, C, D, rfl, hlt2, hrg0, hC0⟩ := H.out iv hivn
          have hrg := rangeAt_below hrg0 hlt2 BW.out
          have hC := hC0.below BW.out
          have HAT : Hid (atG l nm ver (iv : Int) = some (inG l[iv] nm ver)) := Lib.hid (by unfold atG; rw [if_pos (by omega)]; simp [hivn])
          generalize l[iv] = x at *
          have HINs := Lib.hid (fun (wx : World) (hb : Below wr.heap.size wr wx) => in_any C D x nm ver fl wx (hC.below hb) HNS.out)
          have HCX : Hid ((inG x nm ver).2 = 0 ∨ (inG x nm ver).2 = 2 ∨ (inG x nm ver).2 = 3 ∨ (inG x nm ver).2 = 4) := Lib.hid (by
            obtain ⟨ba, bc, -, hr8, -⟩ := hC.bytes
            exact inG_code nm ver hr8.2)
          have HCX : Hid ((inG x nm ver).2 = 0 ∨ (inG x nm ver).2 = 2 ∨ (inG x nm ver).2 = 3 ∨ (inG x nm ver).2 = 4) := Lib.hid (by
            obtain ⟨ba, bc, -, hr8, -⟩ := hC.bytes
            exact inG_code nm ver hr8.2)
          have HIL : Hid ((Try.prog.info? 55).map (·.size) = some C.toList.length) := Lib.hid (by rw [show C.toList.length = 54 from hC.size]; kernel_rfl)
          have HRG : Hid (∀ wx, Below wr.heap.size wr wx → wx.rangeAt b2 (o2 + iv * 54) C.toList) := Lib.hid (fun wx hb => rangeAt_below hrg (Nat.lt_of_lt_of_le hlt2 BW.out.size) hb)
          have HWC : Hid (∀ wx, Below wr.heap.size wr wx → wx.cell? ⟨w.heap.size, 0, none⟩ = some (.string nm) ∧ wx.cell? ⟨w.heap.size, 1, none⟩ = some (.string ver) ∧ wx.cell? ⟨w.heap.size, 2, none⟩ = some (.string fl)) := Lib.hid (fun wx hb => by
            obtain ⟨q0, -⟩ := HW.out _ (bstep HB.out hb)
            exact ⟨by rw [cell_of_row _ _ 0 _ _ _ q0]; rfl, by rw [cell_of_row _ _ 1 _ _ _ q0]; rfl, by rw [cell_of_row _ _ 2 _ _ _ q0]; rfl⟩)
          have hivI : (iv : Int) < (n : Int) := by omega
          have hiv0 : (0 : Int) ≤ (iv : Int) := by omega
          clear hrg0 hrg hC hC0 hivn hlt2
          go_upto_region 5 with fail
          refine wp_region_held_drew (S := fun wx => Below wr.heap.size wr wx) (by kernel_rfl) (Below.refl _ _).drew (fun hHeld => ?_)
          refine wpAnyH_take (i := 0) (v := ?_) rfl (by kernel_rfl) (by kernel_rfl) (by kernel_rfl) (fun _ _ _ h => h) (Or.inl ⟨by rfl, ?_⟩) (by assumption) ?_
          rotate_left
          · intro wx hSw
            go_simp
            rfl
          simp only [List.getElem_toArray, List.getElem_cons_zero, List.getElem_cons_succ, Act.put, List.setIfInBounds_toArray, List.set_cons_zero, List.set_cons_succ, Array.toArray_toList]
          refine wpAnyH_take (i := 1) (v := ?_) rfl (by kernel_rfl) (by kernel_rfl) (by kernel_rfl) (fun _ _ _ h => h) (Or.inl ⟨by rfl, ?_⟩) (by assumption) ?_
          rotate_left
          · intro wx hSw
            go_simp
            rfl
          simp only [List.getElem_toArray, List.getElem_cons_zero, List.getElem_cons_succ, Act.put, List.setIfInBounds_toArray, List.set_cons_zero, List.set_cons_succ, Array.toArray_toList]
          refine wpAnyH_take (i := 2) (v := ?_) rfl (by kernel_rfl) (by kernel_rfl) (by kernel_rfl) (fun _ _ _ h => h) (Or.inl ⟨by rfl, ?_⟩) (by assumption) ?_
          rotate_left
          · intro wx hSw
            go_simp
            rfl
          simp only [List.getElem_toArray, List.getElem_cons_zero, List.getElem_cons_succ, Act.put, List.setIfInBounds_toArray, List.set_cons_zero, List.set_cons_succ, Array.toArray_toList]
          refine wpAnyH_take (i := 3) (v := _) rfl (by kernel_rfl) (by kernel_rfl) (by kernel_rfl) (fun _ _ _ h => h) (yieldsIf_load_mid (by rfl) 55 _ rfl b2 (o2 + iv * 54) (by rfl) C.toList _ (fun wx hx => HRG.out wx hx) Try.underlying55 rfl HIL.out) (by assumption) ?_

          simp only [List.getElem_toArray, List.getElem_cons_zero, List.getElem_cons_succ, Act.put, List.setIfInBounds_toArray, List.set_cons_zero, List.set_cons_succ, Array.toArray_toList]
          refine wpAnyH_take (i := 4) (v := ?_) rfl (by kernel_rfl) (by kernel_rfl) (by kernel_rfl) (fun _ _ _ h => h) (Or.inl ⟨by rfl, ?_⟩) (by assumption) ?_
          rotate_left
          · intro wx hSw
            obtain ⟨q0, q1, q2⟩ := HWC.out wx hSw
            go_simp
            rfl
          simp only [List.getElem_toArray, List.getElem_cons_zero, List.getElem_cons_succ, Act.put, List.setIfInBounds_toArray, List.set_cons_zero, List.set_cons_succ, Array.toArray_toList]
          refine wpAnyH_ready (rs := [5]) (by kernel_rfl) (by simp) ?_
          refine AllReadyH.cons rfl (fun K hK => ?_) AllReadyH.nil
          go_simp
          refine (HINs.out _ hHeld).mono ?_
          rintro e w4 ⟨rfl, hb4⟩
          try go_simp
          refine hK.out _ _ (bstep hHeld hb4) (fun hHeld2 => ?_)
          have B4 := Lib.hid hHeld2
          clear hK K hHeld hb4
          try simp only [List.getElem_toArray, List.getElem_cons_zero, List.getElem_cons_succ, Act.put, List.setIfInBounds_toArray, List.set_cons_zero, List.set_cons_succ, Array.toArray_toList]
          refine wpAnyH_take (i := 6) (v := ?_) rfl (by kernel_rfl) (by kernel_rfl) (by kernel_rfl) (fun _ _ _ h => h) (Or.inl ⟨by rfl, ?_⟩) (by assumption) ?_
          rotate_left
          · intro wx hSw
            go_simp
            rfl
          simp only [List.getElem_toArray, List.getElem_cons_zero, List.getElem_cons_succ, Act.put, List.setIfInBounds_toArray, List.set_cons_zero, List.set_cons_succ, Array.toArray_toList]
          refine wpAnyH_take (i := 7) (v := ?_) rfl (by kernel_rfl) (by kernel_rfl) (by kernel_rfl) (fun _ _ _ h => h) (Or.inl ⟨by rfl, ?_⟩) (by assumption) ?_
          rotate_left
          · intro wx hSw
            go_simp
            rfl
          simp only [List.getElem_toArray, List.getElem_cons_zero, List.getElem_cons_succ, Act.put, List.setIfInBounds_toArray, List.set_cons_zero, List.set_cons_succ, Array.toArray_toList]
          refine wpAnyH_take (i := 8) (v := ?_) rfl (by kernel_rfl) (by kernel_rfl) (by kernel_rfl) (fun _ _ _ h => h) (Or.inl ⟨by rfl, ?_⟩) (by assumption) ?_
          rotate_left
          · intro wx hSw
            go_simp
            rfl
          simp only [List.getElem_toArray, List.getElem_cons_zero, List.getElem_cons_succ, Act.put, List.setIfInBounds_toArray, List.set_cons_zero, List.set_cons_succ, Array.toArray_toList]
          refine wpAnyH_take (i := 9) (v := ?_) rfl (by kernel_rfl) (by kernel_rfl) (by kernel_rfl) (fun _ _ _ h => h) (Or.inl ⟨by rfl, ?_⟩) (by assumption) ?_
          rotate_left
          · intro wx hSw
            go_simp
            rfl
          simp only [List.getElem_toArray, List.getElem_cons_zero, List.getElem_cons_succ, Act.put, List.setIfInBounds_toArray, List.set_cons_zero, List.set_cons_succ, Array.toArray_toList]
          refine wpAnyH_take (i := 10) (v := ?_) rfl (by kernel_rfl) (by kernel_rfl) (by kernel_rfl) (fun _ _ _ h => h) (Or.inl ⟨by rfl, ?_⟩) (by assumption) ?_
          rotate_left
          · intro wx hSw
            go_simp
            rfl
          simp only [List.getElem_toArray, List.getElem_cons_zero, List.getElem_cons_succ, Act.put, List.setIfInBounds_toArray, List.set_cons_zero, List.set_cons_succ, Array.toArray_toList]
          refine wpAnyH_done (by kernel_rfl) ?_ _
          have HCODE : Hid ((inG x nm ver).2 = 0 ∨ (inG x nm ver).2 = 2 ∨ (inG x nm ver).2 = 3 ∨ (inG x nm ver).2 = 4) := Lib.hid HCX.out
          obtain ⟨i1, c1, hic⟩ : ∃ i1 c1, inG x nm ver = (i1, c1) := ⟨_, _, rfl⟩
          rw [hic] at HAT HCODE ⊢
          have BF := Lib.hid (bstep BW.out B4.out)
          obtain ⟨-, qq⟩ := HW.out _ (bstep HB.out B4.out)
          clear hic HCX HINs HRG HWC
          by_cases hc1 : c1 = 0
          · subst hc1
            by_cases hi1 : 0 ≤ i1
            · have HF : Hid (R = ((iv : Int), i1, 0)) := Lib.hid (by rw [← HR.out, findG_yes HAT.out rfl hi1])
              rw [show errV (((i1, 0) : Int × Nat).snd : Int) = .nilIface from rfl, show ((i1, 0) : Int × Nat).fst = i1 from rfl]
              have v0 : w4.cell? ⟨vb, 0, none⟩ = some (.int .i64 0) := by rw [cell_of_row _ _ 0 _ _ _ qq]; rfl
              have v1 : w4.cell? ⟨vb, 1, none⟩ = some (.int .i64 0) := by rw [cell_of_row _ _ 1 _ _ _ qq]; rfl
              have f0 := frozen_of_row w4 vb 0 _ _ qq
              have f1 := frozen_of_row w4 vb 1 _ _ qq
              have FS := Lib.hid (two_stores qq (.int .i64 ((iv : Int))) (.int .i64 (i1)))
              have hr := fun (cs : Array Value) (j : Nat) => cell_setRow_same w4 vb j _ cs _ _ qq
              have r0 := hr #[.int .i64 ((iv : Int)), .int .i64 (i1)] 0
              have r1 := hr #[.int .i64 ((iv : Int)), .int .i64 (i1)] 1
              simp only [List.getElem?_toArray, List.getElem?_cons_zero, List.getElem?_cons_succ] at r0 r1
              have RR0 := Lib.hid r0
              have RR1 := Lib.hid r1
              have BZ : Hid (Below w.heap.size w (w4.setRow vb #[.int .i64 ((iv : Int)), .int .i64 (i1)])) := Lib.hid (below_setRow BF.out HVB.out _)
              clear r0 r1 hr qq
              go_wp2_with fail
              rw [FS.out]
              refine bodyPost_ret (by simp [results, Try.results5, go_sem, RR0.out, RR1.out]; try rfl) rfl ?_
              rw [HF.out]
              exact ⟨rfl, BZ.out⟩
            · have HR2 : Hid (findG l nm ver (scope.drop (k + 1)) = R) := Lib.hid (by rw [← HR.out, findG_no HAT.out rfl hi1])
              have HB2 : Hid (Below w1.heap.size w1 w4) := Lib.hid (bstep HB.out B4.out)
              rw [show errV (((i1, 0) : Int × Nat).snd : Int) = .nilIface from rfl, show ((i1, 0) : Int × Nat).fst = i1 from rfl]
              clear HR qq
              go_wp2_with fail
              go_roundg g
              case measure => omega
              case rel => exact ⟨k + 1, by omega, by go_num, HR2, HB2⟩
          · have HF : Hid (R = (0, 0, c1)) := Lib.hid (by rw [← HR.out, findG_bad HAT.out hc1])
            have HCC : Hid (c1 = 2 ∨ c1 = 3 ∨ c1 = 4) := Lib.hid (by have h8 : c1 = 0 ∨ c1 = 2 ∨ c1 = 3 ∨ c1 = 4 := HCODE.out; omega)
            rw [show ((i1, c1) : Int × Nat).snd = c1 from rfl, show ((i1, c1) : Int × Nat).fst = i1 from rfl]
            rw [errVc HCC.out]
            have v0 : w4.cell? ⟨vb, 0, none⟩ = some (.int .i64 0) := by rw [cell_of_row _ _ 0 _ _ _ qq]; rfl
            have v1 : w4.cell? ⟨vb, 1, none⟩ = some (.int .i64 0) := by rw [cell_of_row _ _ 1 _ _ _ qq]; rfl
            have f0 := frozen_of_row w4 vb 0 _ _ qq
            have f1 := frozen_of_row w4 vb 1 _ _ qq
            have FS := Lib.hid (two_stores qq (.int .i64 (0)) (.int .i64 (0)))
            have hr := fun (cs : Array Value) (j : Nat) => cell_setRow_same w4 vb j _ cs _ _ qq
            have r0 := hr #[.int .i64 (0), .int .i64 (0)] 0
            have r1 := hr #[.int .i64 (0), .int .i64 (0)] 1
            simp only [List.getElem?_toArray, List.getElem?_cons_zero, List.getElem?_cons_succ] at r0 r1
            have RR0 := Lib.hid r0
            have RR1 := Lib.hid r1
            have BZ : Hid (Below w.heap.size w (w4.setRow vb #[.int .i64 (0), .int .i64 (0)])) := Lib.hid (below_setRow BF.out HVB.out _)
            clear r0 r1 hr qq
            go_wp2_with fail
            rw [FS.out]
            refine bodyPost_ret (by simp [results, Try.results5, go_sem, RR0.out, RR1.out]; try rfl) rfl ?_
            rw [HF.out]
            exact ⟨by rw [errVc HCC.out], BZ.out⟩
end Go.Proofs.Ytpilccalgegadaa
/- Layer 17: the statement BindFirst, for whatever objects, scope and want. -/
namespace Go.Proofs.Ytpilccalgegadaa
open Go.RowKit
set_option linter.unusedVariables false
set_option linter.unusedSimpArgs false

theorem wrap_succ {k k1 : Nat} (h : (k : Int) + 1 = (k1 : Int)) (hb : (k1 : Int) ≤ 140737488355328) : IntKind.i64.wrap ((k : Int) + 1) = (k1 : Int) := by
  have h1 : -9223372036854775808 ≤ (k : Int) + 1 := by omega
  have h2 : (k : Int) + 1 ≤ 9223372036854775807 := by omega
  exact (IntWalk.i64_in _ ⟨h1, h2⟩).trans h
theorem errVd {c : Nat} (h : c = 0 ∨ c = 2 ∨ c = 3 ∨ c = 4) (h0 : c ≠ 0) : errV (c : Int) = .iface 57 (.int .i64 (c : Int)) := errVc (by omega)

set_option maxRecDepth 100000 in
set_option maxHeartbeats 16000000 in
theorem walk_BindFirst (a : Option Addr) (cap : Nat) (l : List GObj) (sa : Option Addr) (m sc : Nat) (scope : List Int) (nm ver fl : ByteArray) (w : World) (h : GORow w a l) (hl : l.length ≤ 1099511627776) (hm : scope.length = m) (hmc : m ≤ sc) (hm2 : sc ≤ 140737488355328) (hs : Row .i64 w sa scope) (hns : nm.size ≤ 140737488351232) :
    Calls Try.prog 3 #[.slice a l.length cap, .slice sa m sc, .agg #[.string nm, .string ver, .string fl]] w fun e w' => e = .returned (.bool true) ∧ Below w.heap.size w w' := by
  have HCD := Lib.hid (findG_code (h.codes nm ver))
  have HF : Hid (∀ wx, Below w.heap.size w wx → ∀ (ta : Option Addr) (tn tc : Nat) (T : List Int), T.length = tn → tn ≤ 140737488355328 → Row .i64 wx ta T → ∀ s0 s1 d, findG l nm ver T = (s0, s1, d) → Calls Try.prog 5 #[.slice a l.length cap, .slice ta tn tc, .agg #[.string nm, .string ver, .string fl]] wx fun e w' => e = .returned (.tuple #[.agg #[.int .i64 s0, .int .i64 s1], errV (d : Int)]) ∧ Below wx.heap.size wx w') := Lib.hid (fun wx hb ta tn tc T h1 h2 h3 s0 s1 d h4 => by
    have := find_any a cap l.length l ta tn tc T nm ver fl wx rfl hl (h.below hb) h1 h2 h3 hns
    rw [h4] at this
    exact this)
  obtain ⟨r0, r1, c, hR⟩ : ∃ r0 r1 c, findG l nm ver scope = (r0, r1, c) := ⟨_, _, _, rfl⟩
  have HR0 : Hid (findG l nm ver (scope.drop 0) = (r0, r1, c)) := Lib.hid hR
  have HM := Lib.hid hm
  have HS := Lib.hid hs
  have HMC := Lib.hid (And.intro hmc hm2)
  have HCR : Hid (c = 0 ∨ c = 2 ∨ c = 3 ∨ c = 4) := Lib.hid (by have := HCD.out scope; rw [hR] at this; exact this)
  obtain ⟨E, hE⟩ : ∃ E, errV (c : Int) = E := ⟨_, rfl⟩
  have HE := Lib.hid hE
  obtain ⟨w0, hw0⟩ : ∃ w0, w.alloc (.cells #[.string nm, .string ver, .string fl] 25) = w0 := ⟨_, rfl⟩
  have B0 : Hid (Below w.heap.size w w0) := Lib.hid (by rw [← hw0]; exact (Below.refl _ _).alloc (Nat.le_refl _) _)
  have HWC : Hid (∀ wx, Below w0.heap.size w0 wx → wx.cell? ⟨w.heap.size, 0, none⟩ = some (.string nm) ∧ wx.cell? ⟨w.heap.size, 1, none⟩ = some (.string ver) ∧ wx.cell? ⟨w.heap.size, 2, none⟩ = some (.string fl)) := Lib.hid (fun wx hb => by
    have e0 : w0.heap[w.heap.size]? = some (.cells #[.string nm, .string ver, .string fl] 25) := by rw [← hw0]; exact heap_alloc_new _ _
    have q0 := (hb.block _ (lt_of_block e0)).trans e0
    exact ⟨by rw [cell_of_row _ _ 0 _ _ _ q0]; rfl, by rw [cell_of_row _ _ 1 _ _ _ q0]; rfl, by rw [cell_of_row _ _ 2 _ _ _ q0]; rfl⟩)
  have HU := Lib.hid (up_any w0)
  have HFA := Lib.hid (HF.out)
  have HW0 := Lib.hid hw0
  clear h hl hs hR hE hw0 hmc hm2 hm
  go_enter Try.func3, Try.ntmps3
  go_upto_region 1 with fail
  rw [HW0.out]
  clear HW0
  generalize hvB : w.heap.size = vB at HWC ⊢
  have HvB := Lib.hid hvB
  clear hvB
  go_wp2_with fail
  refine HU.out.mono ?_
  rintro e w1 ⟨rfl, hb1⟩
  obtain ⟨c0, c1, c2⟩ := HWC.out w1 hb1
  have B1 : Hid (Below w.heap.size w w1) := Lib.hid (bstep B0.out hb1)
  have D1 : Hid (Below w0.heap.size w0 w1) := Lib.hid hb1
  clear hb1 HU
  go_wp2_with fail
  refine (HF.out w1 B1.out sa m sc scope HM.out (by have := HMC.out; omega) (HS.out.below B1.out) r0 r1 c HR0.out).mono ?_
  rintro e w2 ⟨rfl, hb2⟩
  rw [HE.out]
  have B2 : Hid (Below w.heap.size w w2) := Lib.hid (bstep B1.out hb2)
  have D2 : Hid (Below w0.heap.size w0 w2) := Lib.hid (bstep D1.out hb2)
  clear hb2 c0 c1 c2 B1 D1
  obtain ⟨w3, hw3⟩ : ∃ w3, w2.alloc (.cells #[.int .i64 r0, .int .i64 r1] 28) = w3 := ⟨_, rfl⟩
  have HW3 := Lib.hid hw3
  have B3 : Hid (Below w.heap.size w w3) := Lib.hid (by rw [← hw3]; exact B2.out.alloc B2.out.size _)
  have D3 : Hid (Below w0.heap.size w0 w3) := Lib.hid (by rw [← hw3]; exact D2.out.alloc D2.out.size _)
  have HPC : Hid (∀ wx, Below w3.heap.size w3 wx → wx.heap[w2.heap.size]? = some (.cells #[.int .i64 r0, .int .i64 r1] 28)) := Lib.hid (fun wx hb => by
    have e0 : w3.heap[w2.heap.size]? = some (.cells #[.int .i64 r0, .int .i64 r1] 28) := by rw [← hw3]; exact heap_alloc_new _ _
    exact (hb.block _ (lt_of_block e0)).trans e0)
  clear hw3
  go_upto_region 3 with fail
  rw [HW3.out]
  clear HW3
  generalize w2.heap.size = pB at HPC ⊢
  obtain ⟨c0, c1, c2⟩ := HWC.out w3 D3.out
  go_wp2_with fail
  refine (HF.out w3 B3.out none 0 0 [] rfl (by omega) (fun i hi => by simp at hi) (-1) (-1) 0 rfl).mono ?_
  rintro e w4 ⟨rfl, hb4⟩
  rw [show errV ((0 : Nat) : Int) = .nilIface from rfl]
  have B4 : Hid (Below w.heap.size w w4) := Lib.hid (bstep B3.out hb4)
  have D4 : Hid (Below w0.heap.size w0 w4) := Lib.hid (bstep D3.out hb4)
  have P4 : Hid (Below w3.heap.size w3 w4) := Lib.hid hb4
  clear hb4 c0 c1 c2
  go_upto_region 6 with fail
  obtain ⟨w5, hw5⟩ : ∃ w5, w4.alloc (.cells #[.int .i64 (-1), .int .i64 (-1)] 28) = w5 := ⟨_, rfl⟩
  have B5 : Hid (Below w.heap.size w w5) := Lib.hid (by rw [← hw5]; exact B4.out.alloc B4.out.size _)
  have D5 : Hid (Below w0.heap.size w0 w5) := Lib.hid (by rw [← hw5]; exact D4.out.alloc D4.out.size _)
  have P5 : Hid (Below w3.heap.size w3 w5) := Lib.hid (by rw [← hw5]; exact P4.out.alloc P4.out.size _)
  rw [hw5]
  clear hw5
  have HLL : Hid (∀ (i : Int) (T : List Int), findG l nm ver (i :: T) = if (findG l nm ver [i]).2.2 ≠ 0 then findG l nm ver [i] else if 0 ≤ (findG l nm ver [i]).1 then findG l nm ver [i] else findG l nm ver T) := Lib.hid (fun i T => findG_first l nm ver i T)
  go_wp2_with fail
  go_loopg [12] m (fun g i wr => ∃ k : Nat, k + g = m ∧ i = .int .i64 (k : Int) ∧ Hid (findG l nm ver (scope.drop k) = (r0, r1, c)) ∧ Hid (Below w5.heap.size w5 wr))
  case atStart => exact ⟨0, by omega, rfl, HR0, Lib.hid (Below.refl _ _)⟩
  case round =>
    clear HR0
    obtain ⟨k, hk, rfl, HR, HB⟩ := hrel
    have BW : Hid (Below w.heap.size w wr) := Lib.hid (bstep B5.out HB.out)
    have pp := HPC.out wr (bstep P5.out HB.out)
    cases gk with
    | zero =>
      have hke : k = m := by omega
      have HF : (r0, r1, c) = (-1, -1, 0) := by rw [← HR.out, List.drop_of_length_le (by rw [HM.out, hke]; exact Nat.le_refl _)]; rfl
      simp only [Prod.mk.injEq] at HF
      obtain ⟨rfl, rfl, rfl⟩ := HF
      obtain rfl : E = .nilIface := HE.out.symm
      have q0 : wr.cell? ⟨pB, 0, none⟩ = some (.int .i64 (-1)) := by rw [cell_of_row _ _ 0 _ _ _ pp]; rfl
      clear hk pp
      subst hke
      go_wp2_with fail
      go_ret
      exact ⟨rfl, BW.out⟩
    | succ g =>
      have hkm : k < m := by omega
      have hks : k < scope.length := by rw [HM.out]; exact hkm
      obtain ⟨b, of, rfl, hc⟩ := (HS.out.below BW.out) k hks
      have HD : Hid (scope.drop k = scope.getD k 0 :: scope.drop (k + 1)) := Lib.hid (by rw [drop_cons hks, List.getD_eq_getElem?_getD, List.getElem?_eq_getElem hks, Option.getD_some])
      rw [HD.out, HLL.out] at HR
      obtain ⟨s0, s1, d, hS⟩ : ∃ s0 s1 d, findG l nm ver [scope.getD k 0] = (s0, s1, d) := ⟨_, _, _, rfl⟩
      have HCS : Hid (d = 0 ∨ d = 2 ∨ d = 3 ∨ d = 4) := Lib.hid (by have := HCD.out [scope.getD k 0]; rw [hS] at this; exact this)
      rw [hS] at HR
      have HFQ : Hid (∀ wx, Below wr.heap.size wr wx → Calls Try.prog 5 #[.slice a l.length cap, .slice (some ⟨b, of + k, none⟩) 1 (sc - k), .agg #[.string nm, .string ver, .string fl]] wx fun e w' => e = .returned (.tuple #[.agg #[.int .i64 s0, .int .i64 s1], errV (d : Int)]) ∧ Below wx.heap.size wx w') := Lib.hid (fun wx hb => by
        have hc2 : wx.cell? ⟨b, of + k, none⟩ = some (.int .i64 (scope.getD k 0)) := (hb.cell (p := ⟨b, of + k, none⟩) (by simpa using World.block_lt_of_cell? wr _ hc)).trans hc
        refine HF.out wx (bstep BW.out hb) (some ⟨b, of + k, none⟩) 1 (sc - k) [scope.getD k 0] rfl (by omega) (fun j hj => ?_) s0 s1 d hS
        obtain rfl : j = 0 := by simpa using hj
        exact ⟨b, of + k, rfl, hc2⟩)
      have HWQ : Hid (∀ wx, Below wr.heap.size wr wx → wx.cell? ⟨vB, 0, none⟩ = some (.string nm) ∧ wx.cell? ⟨vB, 1, none⟩ = some (.string ver) ∧ wx.cell? ⟨vB, 2, none⟩ = some (.string fl)) := Lib.hid (fun wx hb => HWC.out wx (bstep D5.out (bstep HB.out hb)))
      obtain ⟨k1, hk1e⟩ : ∃ k1, k1 = k + 1 := ⟨_, rfl⟩
      obtain ⟨ck, hcke⟩ : ∃ ck, sc - k = ck := ⟨_, rfl⟩
      rw [hcke] at HFQ
      have HMC2 := HMC.out
      have hkm2 : (k : Int) < (m : Int) := by omega
      have h01 : (0 : Int) ≤ (k1 : Int) := by omega
      have h02 : (k1 : Int) ≤ (sc : Int) := by omega
      have h03 : (k : Int) ≤ (k1 : Int) := by omega
      have h04 : k1 ≤ sc := by omega
      have h05 : k ≤ k1 := by omega
      have h06 : k1 - k = 1 := by omega
      have h07 : ¬ sc = k := by omega
      have h11 : (0 : Int) ≤ (k : Int) + 1 := by omega
      have h12 : (k : Int) + 1 ≤ (sc : Int) := by omega
      have h13 : (k : Int) ≤ (k : Int) + 1 := by omega
      have h14 : ((k : Int) + 1).toNat = k1 := by omega
      have HMCK : Hid (k < sc ∧ k1 = k + 1 ∧ k < m) := Lib.hid (by omega)
      have hkb : (k1 : Int) ≤ 140737488355328 := by omega
      have hkc : (k : Int) + 1 = (k1 : Int) := by omega
      have hk1 : wrap64 ((k : Int) + 1) = (k1 : Int) := by
        have hk2 : (k1 : Int) ≤ 140737488355328 := by omega
        rw [show (k : Int) + 1 = (k1 : Int) from by omega]
        exact IntWalk.wrap64_in _ ⟨by omega, by omega⟩
      have hk1b : IntKind.i64.wrap ((k : Int) + 1) = (k1 : Int) := wrap_succ hkc hkb
      have HK1 := Lib.hid hk1
      clear hkc
      have HGM : Hid (k1 + g = m) := Lib.hid (by omega)
      clear hks hc HMC2 hk1e hk hkm
      go_upto_region 9 with fail
      obtain ⟨c0, c1, c2⟩ := HWQ.out _ (Below.refl _ _)
      have hHW := HWQ.out
      go_region_held3 (fun wx => Below wr.heap.size wr wx) (first | exact (Below.refl _ _).drew | exact bq | exact (fun h => Below.alloc h h.size _) (by assumption) | exact (bq.setCell (p := ⟨wr.heap.size, 0, none⟩) (Nat.le_refl _) _).setCell (p := ⟨wr.heap.size, 1, none⟩) (Nat.le_refl _) _ | exact bq.alloc bq.size _) (first | (go_at_call 5; go_simp; refine (HFQ.out _ (by assumption)).mono ?_; rintro e w6 ⟨rfl, hb6⟩; have bq : Below wr.heap.size wr w6 := bstep (by assumption) hb6; try (have zz := (hb6.block _ (lt_of_block (heap_alloc_new wr.drew (.cells #[.int .i64 0, .int .i64 0] 28)))).trans (heap_alloc_new wr.drew (.cells #[.int .i64 0, .int .i64 0] 28)); have z0 : w6.cell? ⟨wr.heap.size, 0, none⟩ = some (.int .i64 0) := (cell_of_row w6 _ 0 _ _ _ zz); have z1 : w6.cell? ⟨wr.heap.size, 1, none⟩ = some (.int .i64 0) := (cell_of_row w6 _ 1 _ _ _ zz); have f0 := frozen_of_row w6 wr.heap.size 0 _ _ zz; have f1 := frozen_of_row w6 wr.heap.size 1 _ _ zz)))
      have q7 := heap_alloc_new w6 (.cells #[.int .i64 s0, .int .i64 s1] 28)
      have b7 : Hid (Below wr.heap.size wr (w6.alloc (.cells #[.int .i64 s0, .int .i64 s1] 28))) := Lib.hid (bq.alloc bq.size _)
      generalize w6.alloc (.cells #[.int .i64 s0, .int .i64 s1] 28) = w7 at q7 b7 ⊢
      generalize w6.heap.size = qb at q7 ⊢
      rotate_left 1
      replace zz : w6.heap[wr.heap.size]? = some (.cells #[.int .i64 0, .int .i64 0] 28) := zz
      rw [two_stores zz (.int .i64 s0) (.int .i64 s1)]
      have q7 := setRow_heap w6 wr.heap.size _ #[.int .i64 s0, .int .i64 s1] _ (0, 0) zz
      have b7 : Hid (Below wr.heap.size wr (w6.setRow wr.heap.size #[.int .i64 s0, .int .i64 s1])) := Lib.hid (below_setRow bq (Nat.le_refl _) _)
      generalize w6.setRow wr.heap.size #[.int .i64 s0, .int .i64 s1] = w7 at q7 b7 ⊢
      generalize wr.heap.size = qb at q7 ⊢
      clear zz z0 z1 f0 f1
      all_goals (
        clear c0 c1 c2 hHW hb6 bq pp hk1 hk1b h01 h02 h03 h04 h05 h06 h07 h11 h12 h13 h14 hcke hkm2
        have j0 : w7.cell? ⟨qb, 0, none⟩ = some (.int .i64 s0) := by rw [cell_of_row _ _ 0 _ _ _ q7]; rfl
        have j1 : w7.cell? ⟨qb, 1, none⟩ = some (.int .i64 s1) := by rw [cell_of_row _ _ 1 _ _ _ q7]; rfl
        have pq := HPC.out w7 (bstep P5.out (bstep HB.out b7.out))
        have BZ : Hid (Below w.heap.size w w7) := Lib.hid (bstep BW.out b7.out)
        have HB7 : Hid (Below w5.heap.size w5 w7) := Lib.hid (bstep HB.out b7.out)
        have p0 : w7.cell? ⟨pB, 0, none⟩ = some (.int .i64 r0) := by rw [cell_of_row _ _ 0 _ _ _ pq]; rfl
        have p1 : w7.cell? ⟨pB, 1, none⟩ = some (.int .i64 r1) := by rw [cell_of_row _ _ 1 _ _ _ pq]; rfl
        clear q7 pq b7 HB BW HFQ HWQ
        by_cases hd : d = 0
        · subst hd
          rw [show errV ((0 : Nat) : Int) = .nilIface from rfl]
          by_cases hs0 : 0 ≤ s0
          · have h9 : (s0, s1, 0) = (r0, r1, c) := by
              have := HR.out
              rw [if_neg (by simp), if_pos hs0] at this
              exact this
            simp only [Prod.mk.injEq] at h9
            obtain ⟨rfl, rfl, rfl⟩ := h9
            obtain rfl : E = .nilIface := HE.out.symm
            go_wp2_with fail
            go_ret
            exact ⟨by simp, BZ.out⟩
          · have HR2 : Hid (findG l nm ver (scope.drop k1) = (r0, r1, c)) := Lib.hid (by
              have := HR.out
              rw [if_neg (by simp), if_neg hs0] at this
              rw [HMCK.out.2.1]
              exact this)
            clear HR p0 p1
            have hk1 := HK1.out
            go_wp2_with fail
            go_roundg g
            case measure => omega
            case rel => exact ⟨k1, HGM.out, by go_num, HR2, HB7⟩
        · have h9 : (s0, s1, d) = (r0, r1, c) := by
            have := HR.out
            rw [if_pos hd] at this
            exact this
          simp only [Prod.mk.injEq] at h9
          obtain ⟨rfl, rfl, rfl⟩ := h9
          have HEV := Lib.hid (errVd HCS.out hd)
          obtain rfl : E = .iface 57 (.int .i64 (d : Int)) := by rw [← HE.out, HEV.out]
          rw [HEV.out]
          have HCO : Hid (∀ wx, Calls Try.prog 6 #[.iface 57 (.int .i64 (d : Int))] wx fun e w' => e = .returned (.int .i64 (d : Int)) ∧ wx = w') := Lib.hid (fun wx => by
            have hcs : d = 0 ∨ d = 2 ∨ d = 3 ∨ d = 4 := HCS.out
            have := code_any (d : Int) wx (by omega) (by omega)
            rw [HEV.out] at this
            exact this)
          clear hd p0 p1 j0 j1
          go_wp2_with (go_at_call 6; refine (HCO.out _).mono ?_; rintro e w8 ⟨rfl, rfl⟩)
          go_ret
          exact ⟨by simp, BZ.out⟩)
end Go.Proofs.Ytpilccalgegadaa
