/- Layer 7: a table of the first kind is asked. -/
import Derived.Test.YtpilccalgegadaaHashChains
import Derived.Test.YtpilccalgegadaaHashUp
namespace Go.Proofs.Ytpilccalgegadaa
open Go.RowKit
set_option linter.unusedVariables false
set_option linter.unusedSimpArgs false

/-- symbols whose names can be read -/
def NameRow (w : World) (a : Option Addr) (names : List ByteArray) : Prop := ∀ i, i < names.length → ∃ b o, a = some ⟨b, o, none⟩ ∧ b < w.heap.size ∧ w.cell? ⟨b, o + i * 7, none⟩ = some (.string (names.getD i .empty))
theorem NameRow.below {w w' : World} {a : Option Addr} {names : List ByteArray} (h : NameRow w a names) (hb : Below w.heap.size w w') : NameRow w' a names := by
  intro i hi
  obtain ⟨b, o, e, hlt, hc⟩ := h i hi
  exact ⟨b, o, e, Nat.lt_of_lt_of_le hlt hb.size, by rw [hb.cell (p := ⟨b, o + i * 7, none⟩) hlt]; exact hc⟩

theorem slice64h : IntSlice Try.prog 23 3 .i64 8 := ⟨Try.underlying23, by kernel_rfl⟩

theorem sysOf_lt (l : List UInt8) : sysOf l < 268435456 := by
  induction l using snocInd with
  | nil => simp [sysOf]
  | snoc l b _ => rw [sysOf_snoc]; exact sysStep_lt _ _

theorem text_ne {x y : ByteArray} (h : ¬ x = y) : (x.toList == y.toList) = false := by
  rw [beq_eq_false_iff_ne, ByteArray.toList_eq, ByteArray.toList_eq]
  intro e
  exact h (ByteArray.ext (Array.ext' e))
theorem wrap_word {n : Nat} (h : n < 4294967296) : wrap64 (n : Int) = (n : Int) := IntWalk.wrap64_in _ ⟨by omega, by omega⟩

set_option maxRecDepth 100000 in
set_option maxHeartbeats 4000000 in
theorem clook_any (b1 : Option Addr) (c1 : Nat) (bu : List Nat) (b2 : Option Addr) (c2 : Nat) (ch : List Nat) (la : Option Addr) (lc : Nat) (names : List ByteArray) (name : ByteArray) (w : World)
    (hbu : Row .u32 w b1 (toI bu)) (hch : Row .u32 w b2 (toI ch)) (hlt : (∀ x ∈ bu, x < 4294967296) ∧ ∀ x ∈ ch, x < 4294967296) (hl : NameRow w la names) (hbl : 0 < bu.length) (hbl2 : bu.length ≤ 4096) (hcl : ch.length ≤ 4096) (hnl : names.length ≤ 140737488351232) (hns : name.size ≤ 140737488351232) :
    Calls Try.prog 16 #[.agg #[.slice b1 bu.length c1, .slice b2 ch.length c2], .slice la names.length lc, .string name] w (NumsErr 3 .i64 (lookF (bu, ch) names name (sysOf name.data.toList)) w) := by
  have HSY := Lib.hid (fun (w1 : World) => sysv_any name w1 (by omega))
  have hk0 := sysOf_lt name.data.toList
  generalize sysOf name.data.toList = k at *
  obtain ⟨nb, hnb⟩ : ∃ nb, bu.length = nb := ⟨_, rfl⟩
  have HNB := Lib.hid hnb
  have HK : Hid (k % nb < nb) := Lib.hid (Nat.mod_lt _ (by omega))
  have hrem : ((k : Int)).tmod (nb : Int) = ((k % nb : Nat) : Int) := by
    rw [Int.tmod_eq_emod_of_nonneg (by omega)]; omega
  have HBU := Lib.hid hbu
  have HCH := Lib.hid hch
  have HL := Lib.hid hl
  have HLT1 := Lib.hid hlt.1
  have HLT2 := Lib.hid hlt.2
  obtain ⟨b0, o0, rfl, hc0⟩ := hbu (k % nb) (by rw [toI_length, hnb]; exact HK.out)
  rw [toI_getD] at hc0
  have hb0 : b0 < w.heap.size := by simpa using World.block_lt_of_cell? w _ hc0
  have h0lt : bu.getD (k % nb) 0 < 4294967296 := by
    refine hlt.1 _ ?_
    rw [List.getD, List.getElem?_eq_getElem (by rw [hnb]; exact HK.out)]
    exact List.getElem_mem _
  have HR : Hid (chainGo ch names name ch.length (bu.getD (k % nb) 0) [] = lookF (bu, ch) names name k) := Lib.hid (by rw [← hnb]; rfl)
  obtain ⟨R, hR⟩ : ∃ R, lookF (bu, ch) names name k = R := ⟨_, rfl⟩
  rw [hR] at HR ⊢
  generalize bu.getD (k % nb) 0 = i0 at *
  generalize k % nb = kb at *
  rw [hnb] at hbl hbl2 ⊢
  have hne : ¬ nb = 0 := by omega
  have hwb : IntKind.u32.wrap (nb : Int) = (nb : Int) := by rw [IntKind.wrap_u32]; omega
  have H0LT := Lib.hid h0lt
  have hwi := wrap_word h0lt
  have HKK := Lib.hid hk0
  have hkb := HK.out
  have hkb2 : (kb : Int) < (nb : Int) := by omega
  clear hnb hbu hch hl hlt hR h0lt hk0
  go_enter Try.func16, Try.ntmps16
  go_wp2_with fail
  refine (HSY.out _).mono ?_
  rintro e w5 ⟨rfl, rfl⟩
  go_wp2
  go_quiet (fail)
  go_wp2_with fail
  have B1 : Hid (Below w.heap.size w ((w.alloc (.cells #[.slice (some ⟨b0, o0, none⟩) nb c1, .slice b2 ch.length c2] 73)).drewN nq)) := Lib.hid (below_drewN ((Below.refl _ _).alloc (Nat.le_refl _) _) _)
  have FB : Hid (∀ w1, Below (w.heap.size + 1) ((w.alloc (.cells #[.slice (some ⟨b0, o0, none⟩) nb c1, .slice b2 ch.length c2] 73)).drewN nq) w1 → w1.cell? ⟨w.heap.size, 1, none⟩ = some (.slice b2 ch.length c2)) := Lib.hid (by
    intro w1 h1
    have e1 : w1.heap[w.heap.size]? = some (.cells #[.slice (some ⟨b0, o0, none⟩) nb c1, .slice b2 ch.length c2] 73) := by
      rw [h1.block _ (by omega)]
      exact heap_alloc_new _ _
    rw [cell_of_row _ _ _ _ _ _ e1]
    rfl)
  have hsz : ((w.alloc (.cells #[.slice (some ⟨b0, o0, none⟩) nb c1, .slice b2 ch.length c2] 73)).drewN nq).heap.size = w.heap.size + 1 := by show (w.heap.push _).size = _; simp
  have HSZ := Lib.hid hsz
  clear hsz
  generalize ((w.alloc (.cells #[.slice (some ⟨b0, o0, none⟩) nb c1, .slice b2 ch.length c2] 73)).drewN nq) = w1 at *
  obtain ⟨m, hm⟩ : ∃ m, ch.length = m := ⟨_, rfl⟩
  have HCL := Lib.hid hm
  rw [hm] at HR FB hcl ⊢
  rw [hwi]
  clear hm hc0 hb0 HBU hwb hrem hwi
  go_loopg [8, 10, 11] m (fun g t i s wr => ∃ (sn : Nat) (iv : Nat) (told : List Nat) (ad : Option Addr) (c : Nat), sn + g = m ∧ t = .slice ad told.length c ∧ i = .int .i64 (iv : Int) ∧ s = .int .i64 (sn : Int) ∧ told.length ≤ sn ∧ iv < 4294967296 ∧
    Hid (chainGo ch names name g iv told = R) ∧ Hid (OwnI wr w1.heap.size 3 .i64 (.slice ad told.length c) (toI told)) ∧ Hid (Below w1.heap.size w1 wr))
  case atStart => exact ⟨0, i0, [], none, 0, by omega, rfl, rfl, rfl, by simp, H0LT.out, HR, Lib.hid (OwnI.nil _ _ _ _), Lib.hid (Below.refl _ _)⟩
  case round =>
    obtain ⟨sn, iv, told, ad, c, hsn, rfl, rfl, rfl, htl, hiv, HG, OT, BW⟩ := hrel
    have hcell := FB.out wr (by have := BW.out; rw [HSZ.out] at this; exact this)
    have HIV := Lib.hid hiv
    clear hiv
    by_cases hz : iv = 0
    · subst hz
      have HE : Hid (R = (told, 0)) := Lib.hid (by rw [← HG.out]; exact chainGo_end)
      go_wp2_with fail
      go_ret2
      rw [HE.out]
      exact ⟨ad, c, rfl, OT.out.mono B1.out.size, bstep B1.out BW.out⟩
    · have hz2 : ¬ (iv : Int) = 0 := by omega
      by_cases ho : iv ≥ m ∨ iv ≥ names.length
      · have HE : Hid (R = ([], 4)) := Lib.hid (by rw [← HG.out]; exact chainGo_out hz (by rw [HCL.out]; exact ho))
        rcases Decidable.em (m ≤ iv) with h1 | h1
        · have h2 : (m : Int) ≤ (iv : Int) := by omega
          clear ho h1
          go_wp2_with fail
          go_ret2
          rw [HE.out]
          exact ⟨none, 0, rfl, OwnI.nil _ _ _ _, bstep B1.out BW.out⟩
        · have h2 : ¬ (m : Int) ≤ (iv : Int) := by omega
          have h3 : (names.length : Int) ≤ (iv : Int) := by omega
          clear ho h1
          go_wp2_with fail
          go_ret2
          rw [HE.out]
          exact ⟨none, 0, rfl, OwnI.nil _ _ _ _, bstep B1.out BW.out⟩
      · have h1 : ¬ (m : Int) ≤ (iv : Int) := by omega
        have h2 : ¬ (names.length : Int) ≤ (iv : Int) := by omega
        cases gk with
        | zero =>
          have HE : Hid (R = ([], 3)) := Lib.hid (by rw [← HG.out]; exact chainGo_many hz (by rw [HCL.out]; exact ho))
          have hsm : (sn : Int) = (m : Int) := by omega
          clear ho hz
          go_wp2_with fail
          go_ret2
          rw [HE.out]
          exact ⟨none, 0, rfl, OwnI.nil _ _ _ _, bstep B1.out BW.out⟩
        | succ g =>
          have hsm : ¬ (sn : Int) = (m : Int) := by omega
          have him : iv < m := by omega
          have hin : iv < names.length := by omega
          have HE := Lib.hid ((chainGo_next (ch := ch) (names := names) (name := name) (f := g) (i := iv) (told := told) hz (by rw [HCL.out]; exact ho)).symm.trans HG.out)
          obtain ⟨nb0, no, rfl, -, hnc⟩ := (HL.out.below (bstep B1.out BW.out)) iv hin
          obtain ⟨cb, co, rfl, hcc⟩ := (HCH.out.below (bstep B1.out BW.out)) iv (by rw [toI_length, HCL.out]; exact him)
          rw [toI_getD] at hcc
          have HCN : Hid (∀ w', Below w1.heap.size w1 w' → w'.cell? ⟨cb, co + iv, none⟩ = some (.int .u32 ((ch.getD iv 0 : Nat) : Int))) := Lib.hid (fun w' h => by
            obtain ⟨b, o, e, hc⟩ := (HCH.out.below (bstep B1.out h)) iv (by rw [toI_length, HCL.out]; exact him)
            cases e
            rw [toI_getD] at hc
            exact hc)
          have hclt : ch.getD iv 0 < 4294967296 := by
            refine HLT2.out _ ?_
            rw [List.getD, List.getElem?_eq_getElem (by rw [HCL.out]; exact him)]
            exact List.getElem_mem _
          have HCLT := Lib.hid hclt
          have hwc := wrap_word hclt
          generalize ch.getD iv 0 = nx at *
          generalize names.getD iv .empty = nm at *
          clear ho hclt hz
          by_cases hnm : nm = name
          · rw [if_pos hnm] at HE
            subst hnm
            have hB := Lib.hid BW.out.size
            have htl2 : told.length ≤ 4096 := by omega
            go_wp2_with (at_builtin; go_loud (refine wpList_push rfl (.tmp 54) (.tmp 56) slice64h rfl w1.heap.size w1 (.slice ad told.length c) (toI told) told.length (iv : Int) rfl (by rfl) (toI_length _) OT.out (by unfold maxLen; omega) (by omega) BW.out hB.out ?_); intro ad5 c5 w6 hown5 hbe5; have O5 := Lib.hid hown5; have HB5 := Lib.hid hbe5; have hcell5 := FB.out w6 (by have := hbe5; rw [HSZ.out] at this; exact this); have hcc5 := HCN.out w6 hbe5; clear hown5 hbe5)
            go_roundg g
            case measure => omega
            case rel =>
              have hT : toI told ++ [(iv : Int)] = toI (told ++ [iv]) := by simp [toI]
              have o5 := O5.out
              rw [hT] at o5
              refine ⟨sn + 1, nx, told ++ [iv], ad5, c5, by omega, by simp, rfl, by go_num, by simp; omega, HCLT.out, HE, Lib.hid (by simpa using o5), HB5⟩
          · rw [if_neg hnm] at HE
            have hnmb := text_ne hnm
            clear hnm
            go_wp2_with fail
            go_roundg g
            case measure => omega
            case rel => exact ⟨sn + 1, nx, told, ad, c, by omega, rfl, rfl, by go_num, by omega, HCLT.out, HE, OT, BW⟩
end Go.Proofs.Ytpilccalgegadaa
