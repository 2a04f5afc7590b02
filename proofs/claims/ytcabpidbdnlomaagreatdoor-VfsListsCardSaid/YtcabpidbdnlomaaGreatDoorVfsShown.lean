/- Layer 3: the rows of the document's examples hold. -/
import Derived.Test.YtcabpidbdnlomaaGreatDoorVfsEx
import Derived.Test.YtcabpidbdnlomaaGreatDoorVfsSort
import Derived.Test.YtcabpidbdnlomaaGreatDoorIsSpot
import Derived.Deep.DeepCutAuto
namespace Go.Proofs.YtcabpidbdnlomaaGreatDoor
open Go.RowKit
set_option linter.unusedVariables false
set_option linter.unusedSimpArgs false

def oneNode : List Nd := [⟨⟨#[47, 100, 47, 101]⟩, 0, none, 0, 0, ⟨#[]⟩, false⟩]
theorem one_ok (w : World) : ∀ i, (hi : i < oneNode.length) → NdOk w (oneNode[i]'hi) [] := by
  intro i hi
  have h1 : i < 1 := hi
  have h0 : i = 0 := by omega
  subst h0
  exact ⟨(fun i hi => by cases hi), rfl, Nat.zero_le _, (fun _ => ⟨rfl, rfl⟩), Nat.le_of_ble_eq_true rfl, Nat.le_of_ble_eq_true rfl⟩
theorem laid_last {L : List Nd} {es : List Ent} (h : Laid L es) (h1 : 0 < es.length) : ∃ es', es'.length + 1 = es.length ∧ Laid L es' ∧ ∃ hl : es'.length < L.length, checkF (treeE L es') L[es'.length] = 0 := by
  cases h with
  | nil => cases h1
  | snoc es e h hl hc he => exact ⟨es, by simp, h, hl, hc⟩
theorem one_bad {es : List Ent} (h : Laid oneNode es) (h1 : es.length = oneNode.length) : False := by
  obtain ⟨es', e1, h2, hl, hc⟩ := laid_last h (by rw [h1]; decide)
  have h0 : es'.length = 0 := by have : oneNode.length = 1 := rfl; omega
  rw [laid_check h2 hl] at hc
  have : es' = [] := List.length_eq_zero_iff.1 h0
  subst this
  have := L1_check
  exact absurd (hc.symm.trans this) (by decide)
theorem one_six {es : List Ent} (h : Laid oneNode es) (hl : es.length < oneNode.length) : es = [] ∧ checkF (treeE oneNode es) oneNode[es.length] = 6 := by
  have h0 : es.length = 0 := by have : oneNode.length = 1 := rfl; omega
  have : es = [] := List.length_eq_zero_iff.1 h0
  subst this
  exact ⟨rfl, (laid_check h hl).trans L1_check⟩
theorem five_good {b : Nat} {es : List Ent} (h : Laid (exNodes b) es) (hl : es.length < (exNodes b).length) : checkF (treeE (exNodes b) es) (exNodes b)[es.length] = 0 := by
  rw [laid_check h hl]
  have h5 : es.length < 5 := hl
  have := L5_checks es.length h5
  rw [List.getD_eq_getElem?_getD, List.getElem?_eq_getElem (show es.length < L5.length from h5), Option.getD_some] at this
  exact this

set_option maxRecDepth 100000 in
set_option maxHeartbeats 16000000 in
theorem shown_true (w : World) (hg : ErrType w) : Calls Tryz.prog 4 #[] w fun e w' => e = .returned (.bool true) ∧ Below w.heap.size w w' := by
  have HND := Lib.hid (nodes_any w)
  have HGT := Lib.hid hg
  have heq := run_eql_code
  clear hg
  go_enter Tryz.func4, Tryz.ntmps4
  go_wp2_with fail
  refine HND.out.mono ?_
  rintro e w1 ⟨a, rfl, hr, hok, hb1⟩
  have B1 := Lib.hid hb1
  have HNW := Lib.hid (new_any a 5 5 (exNodes w.heap.size) exBytes w1 hr rfl (by decide) hok)
  have HDL : Hid (∀ i, (hi : i < (exNodes w.heap.size).length) → (exBytes i).length = ((exNodes w.heap.size)[i]'hi).dn ∧ ((exNodes w.heap.size)[i]'hi).dn ≤ 140737488355328) := Lib.hid (fun i hi => ⟨(hok i hi).len, (hok i hi).most⟩)
  have HTRI : Hid ((exNodes w.heap.size).map tri = L5) := Lib.hid (exNodes_tri _)
  have HBAD : Hid (∀ es (hl : es.length < (exNodes w.heap.size).length), Laid (exNodes w.heap.size) es → checkF (treeE (exNodes w.heap.size) es) (exNodes w.heap.size)[es.length] = 0) := Lib.hid (fun es hl h => five_good h hl)
  have HLEN : Hid ((exNodes w.heap.size).length = 5) := Lib.hid rfl
  generalize exNodes w.heap.size = L at *
  clear hb1 hr hok HND
  go_wp2_with fail
  refine HNW.out.mono ?_
  rintro e w2 ⟨hp, hb2⟩
  have B2 := Lib.hid (bstep B1.out hb2)
  rcases hp with ⟨tb, gm, es, rfl, hlen, hla, hat, hsh⟩ | ⟨es, sp, hk, rfl, hla, hne, -, -⟩ | ⟨hk, rfl⟩
  rotate_left 1
  · exact absurd (HBAD.out es hk hla) hne
  · have := HLEN.out; omega
  have HT : Hid (TreeAt w2 tb gm (L.length + 1) (treeE L es) ∧ ShAt w2 (treeE L es) (sharesIn w2 exBytes) ∧ TreeIn (treeE L es)) := Lib.hid ⟨hat, shAt_in hla hsh HDL.out, hla.treeIn⟩
  have ht := laid_tells hla
  rw [hlen, ← List.length_map (f := tri), List.take_length, HTRI.out] at ht
  have HTL := Lib.hid ht
  obtain ⟨su1, bs1, hA⟩ := openF_one HTRI.out hla hlen hsh L5_a (by decide +kernel)
  obtain ⟨su2, bs2, hB⟩ := openF_one HTRI.out hla hlen hsh L5_b (by decide +kernel)
  have hH := openF_bad (S := sharesIn w2 exBytes) HTRI.out hla hlen L5_h
  have hI := openF_bad (S := sharesIn w2 exBytes) HTRI.out hla hlen L5_i
  have HRL : Hid (folF (treeE L es) ⟨#[47, 108, 47, 46, 46]⟩ = .ok slash) := Lib.hid (by rw [folF_K ht]; exact okAt_eq L5_r)
  have HLI : Hid (folF (treeE L es) slash = .ok slash) := Lib.hid (by rw [folF_K ht]; exact okAt_eq L5_l)
  have HOA : Hid (∀ wx, Below w2.heap.size w2 wx → Calls Tryz.prog 11 #[.pointer (some ⟨tb, 0, none⟩), .string ⟨#[47, 47, 108, 105, 98, 47, 46, 47, 46, 46, 47, 108, 47, 97]⟩] wx fun e w' => (∃ ad m c, e = .returned (.tuple #[.agg #[.string ⟨#[47, 108, 105, 98, 47, 97]⟩, .int .i64 1, .slice ad m c, .bool su1], .nilIface])) ∧ Below wx.heap.size wx w') := Lib.hid (fun wx hb => (open_any tb gm _ _ _ ⟨#[47, 47, 108, 105, 98, 47, 46, 47, 46, 46, 47, 108, 47, 97]⟩ wx (HT.out.1.below hb) (HT.out.2.1.below hb) HT.out.2.2 (Nat.le_of_ble_eq_true rfl)).mono (fun e w' h => by
    rw [hA] at h
    obtain ⟨⟨ad, c, he, -⟩, h2⟩ := h
    exact ⟨⟨ad, _, c, he⟩, h2⟩))
  have HOB : Hid (∀ wx, Below w2.heap.size w2 wx → Calls Tryz.prog 11 #[.pointer (some ⟨tb, 0, none⟩), .string ⟨#[47, 98]⟩] wx fun e w' => (∃ ad m c, e = .returned (.tuple #[.agg #[.string ⟨#[47, 98]⟩, .int .i64 1, .slice ad m c, .bool su2], .nilIface])) ∧ Below wx.heap.size wx w') := Lib.hid (fun wx hb => (open_any tb gm _ _ _ ⟨#[47, 98]⟩ wx (HT.out.1.below hb) (HT.out.2.1.below hb) HT.out.2.2 (Nat.le_of_ble_eq_true rfl)).mono (fun e w' h => by
    rw [hB] at h
    obtain ⟨⟨ad, c, he, -⟩, h2⟩ := h
    exact ⟨⟨ad, _, c, he⟩, h2⟩))
  have HOH : Hid (∀ wx, Below w2.heap.size w2 wx → Calls Tryz.prog 11 #[.pointer (some ⟨tb, 0, none⟩), .string ⟨#[47, 98, 47]⟩] wx fun e w' => e = .returned (.tuple #[.agg #[.string ⟨#[]⟩, .int .i64 0, .slice none 0 0, .bool false], .iface 33 (.int .i64 16)]) ∧ Below wx.heap.size wx w') := Lib.hid (fun wx hb => (open_any tb gm _ _ _ ⟨#[47, 98, 47]⟩ wx (HT.out.1.below hb) (HT.out.2.1.below hb) HT.out.2.2 (Nat.le_of_ble_eq_true rfl)).mono (fun e w' h => by
    rw [hH] at h
    exact h))
  have HOI : Hid (∀ wx, Below w2.heap.size w2 wx → Calls Tryz.prog 11 #[.pointer (some ⟨tb, 0, none⟩), .string ⟨#[47, 120]⟩] wx fun e w' => e = .returned (.tuple #[.agg #[.string ⟨#[]⟩, .int .i64 0, .slice none 0 0, .bool false], .iface 33 (.int .i64 15)]) ∧ Below wx.heap.size wx w') := Lib.hid (fun wx hb => (open_any tb gm _ _ _ ⟨#[47, 120]⟩ wx (HT.out.1.below hb) (HT.out.2.1.below hb) HT.out.2.2 (Nat.le_of_ble_eq_true rfl)).mono (fun e w' h => by
    rw [hI] at h
    exact h))
  have HRE : Hid (∀ wx, Below w2.heap.size w2 wx → Calls Tryz.prog 12 #[.pointer (some ⟨tb, 0, none⟩), .string ⟨#[47, 108, 47, 46, 46]⟩] wx fun e w' => e = .returned (.tuple #[.string ⟨#[47]⟩, .nilIface]) ∧ Below wx.heap.size wx w') := Lib.hid (fun wx hb => (real_any tb gm _ _ ⟨#[47, 108, 47, 46, 46]⟩ wx (HT.out.1.below hb) HT.out.2.2.ok (Nat.le_of_ble_eq_true rfl)).mono (fun e w' h => by
    rw [HRL.out] at h
    exact h))
  have HLS : Hid (∀ wx, Below w2.heap.size w2 wx → Calls Tryz.prog 6 #[.pointer (some ⟨tb, 0, none⟩), .string ⟨#[47]⟩] wx fun e w' => (∃ ad cap, e = .returned (.tuple #[.slice ad 4 cap, .nilIface]) ∧ ∃ b off, ad = some ⟨b, off, none⟩ ∧ w'.cell? ⟨b, off, none⟩ = some (.string ⟨#[98]⟩)) ∧ Below wx.heap.size wx w') := Lib.hid (fun wx hb => (list_dir sorts_texts tb gm _ _ slash slash wx (HT.out.1.below hb) HT.out.2.2 (by have := HLEN.out; omega) (Nat.le_of_ble_eq_true rfl) HLI.out (by
      obtain ⟨r, hr, hr1⟩ := HT.out.2.2.ok.root
      rw [hr]
      exact hr1) ⟨⟨#[47, 98]⟩, by
      have h := ht ⟨#[47, 98]⟩
      have h2 : (treeK L5 ⟨#[47, 98]⟩).isSome = true := by decide +kernel
      rw [← h] at h2
      simpa using h2, by decide +kernel⟩).mono (fun e w' h => by
    obtain ⟨⟨ad, cap, ss, hks, he, ho⟩, h2⟩ := h
    have hn := root_names ht hks
    have hl : (namesIn slash ss).length = 4 := by
      have := congrArg List.length hn
      rw [List.length_mergeSort] at this
      exact this
    rw [hn, hl] at ho
    rw [hl] at he
    obtain ⟨b, off, e1, -, e2⟩ := ho.row.1 0 (by decide)
    exact ⟨⟨ad, cap, he, b, off, e1, e2⟩, h2⟩))
  have HTB : Hid (tb < w2.heap.size) := Lib.hid (lt_of_block hat.box)
  clear hb2 hlen hla hat hsh ht hA hB hH hI
  go_wp2_with fail
  refine (HOA.out w2 (Below.refl _ _)).mono ?_
  rintro e w3 ⟨⟨a3, m3, k3, rfl⟩, hb3⟩
  obtain ⟨x3, hx3⟩ : ∃ x3, w3.heap.size = x3 := ⟨_, rfl⟩
  obtain ⟨w4, hw4⟩ : ∃ w4, w3.alloc (.cells #[.string ⟨#[47, 108, 105, 98, 47, 97]⟩, .int .i64 1, .slice a3 m3 k3, .bool su1] 43) = w4 := ⟨_, rfl⟩
  have HW4 := Lib.hid hw4
  have b4 : Hid (Below w2.heap.size w2 w4) := Lib.hid (by rw [← hw4]; exact hb3.alloc hb3.size _)
  have X4 : Hid (w4.heap[x3]? = some (.cells #[.string ⟨#[47, 108, 105, 98, 47, 97]⟩, .int .i64 1, .slice a3 m3 k3, .bool su1] 43)) := Lib.hid (by rw [← hw4, ← hx3]; exact heap_alloc_new _ _)
  clear hb3 hw4
  go_upto_region 5 with fail
  rw [HW4.out]
  try rw [hx3]
  go_wp2_with fail
  refine (HOB.out w4 b4.out).mono ?_
  rintro e w5 ⟨⟨a5, m5, k5, rfl⟩, hb5⟩
  obtain ⟨x5, hx5⟩ : ∃ x5, w5.heap.size = x5 := ⟨_, rfl⟩
  obtain ⟨w6, hw6⟩ : ∃ w6, w5.alloc (.cells #[.string ⟨#[47, 98]⟩, .int .i64 1, .slice a5 m5 k5, .bool su2] 43) = w6 := ⟨_, rfl⟩
  have HW6 := Lib.hid hw6
  have c6 : Below w4.heap.size w4 w6 := by rw [← hw6]; exact hb5.alloc hb5.size _
  have b6 : Hid (Below w2.heap.size w2 w6) := Lib.hid (bstep b4.out c6)
  have X6 : Hid (w6.heap[x3]? = some (.cells #[.string ⟨#[47, 108, 105, 98, 47, 97]⟩, .int .i64 1, .slice a3 m3 k3, .bool su1] 43)) := Lib.hid ((c6.block _ (lt_of_block X4.out)).trans X4.out)
  have Y6 : Hid (w6.heap[x5]? = some (.cells #[.string ⟨#[47, 98]⟩, .int .i64 1, .slice a5 m5 k5, .bool su2] 43)) := Lib.hid (by rw [← hw6, ← hx5]; exact heap_alloc_new _ _)
  clear hb5 hw6 c6
  go_upto_region 6 with fail
  rw [HW6.out]
  try rw [hx5]
  go_wp2_with fail
  refine (HOH.out w6 b6.out).mono ?_
  rintro e w7 ⟨rfl, hb7⟩
  obtain ⟨w8, hw8⟩ : ∃ w8, w7.alloc (.cells #[.string ⟨#[]⟩, .int .i64 0, .slice none 0 0, .bool false] 43) = w8 := ⟨_, rfl⟩
  have HW8 := Lib.hid hw8
  have c8 : Hid (Below w6.heap.size w6 w8) := Lib.hid (by rw [← hw8]; exact hb7.alloc hb7.size _)
  clear hb7 hw8
  go_upto_region 7 with fail
  rw [HW8.out]
  go_wp2_with fail
  refine (HOI.out w8 (bstep b6.out c8.out)).mono ?_
  rintro e w9 ⟨rfl, hb9⟩
  obtain ⟨w10, hw10⟩ : ∃ w10, w9.alloc (.cells #[.string ⟨#[]⟩, .int .i64 0, .slice none 0 0, .bool false] 43) = w10 := ⟨_, rfl⟩
  have HW10 := Lib.hid hw10
  have c10 : Hid (Below w6.heap.size w6 w10) := Lib.hid (by rw [← hw10]; exact bstep c8.out (hb9.alloc hb9.size _))
  clear hb9 hw10
  go_upto_region 8 with fail
  rw [HW10.out]
  go_wp2_with fail
  refine (HRE.out w10 (bstep b6.out c10.out)).mono ?_
  rintro e w11 ⟨rfl, hb11⟩
  have c11 : Hid (Below w6.heap.size w6 w11) := Lib.hid (bstep c10.out hb11)
  clear hb11
  go_wp2_with fail
  refine (HLS.out w11 (bstep b6.out c11.out)).mono ?_
  rintro e w12 ⟨⟨la, lc, rfl, lb, lo, rfl, hl0⟩, hb12⟩
  have c12 : Hid (Below w6.heap.size w6 w12) := Lib.hid (bstep c11.out hb12)
  have L12 : Hid (w12.cell? ⟨lb, lo, none⟩ = some (.string ⟨#[98]⟩)) := Lib.hid hl0
  have HLB : Hid (lb < w12.heap.size) := Lib.hid (by simpa using World.block_lt_of_cell? w12 _ hl0)
  clear hb12 hl0
  obtain ⟨w13, hw13⟩ : ∃ w13, w12.alloc (.cells #[.string ⟨#[47, 100, 47, 101]⟩, .int .i64 0, .slice none 0 0, .string ⟨#[]⟩, .bool false] 49) = w13 := ⟨_, rfl⟩
  have HW13 := Lib.hid hw13
  have d13 : Hid (Below w12.heap.size w12 w13) := Lib.hid (by rw [← hw13]; exact (Below.refl _ _).alloc (Nat.le_refl _) _)
  have HR13 : Hid (NdRow w13 (some ⟨w12.heap.size, 0, none⟩) oneNode) := Lib.hid (rows_new (T := 49) oneNode (by rw [← hw13]; exact heap_alloc_new _ _) rfl)
  have HNW2 := Lib.hid (new_any (some ⟨w12.heap.size, 0, none⟩) 1 1 oneNode (fun _ => []) w13 HR13.out rfl (by decide) (one_ok w13))
  clear hw13
  go_wp2_with fail
  rw [HW13.out]
  refine HNW2.out.mono ?_
  rintro e w14 ⟨hp, hb14⟩
  have c14 : Hid (Below w6.heap.size w6 w14) := Lib.hid (bstep c12.out (bstep d13.out hb14))
  have L14 : Hid (w14.cell? ⟨lb, lo, none⟩ = some (.string ⟨#[98]⟩) ∧ lb < w14.heap.size) := Lib.hid (by
    have h : Below w12.heap.size w12 w14 := bstep d13.out hb14
    exact ⟨(h.cell (p := ⟨lb, lo, none⟩) HLB.out).trans L12.out, Nat.lt_of_lt_of_le HLB.out h.size⟩)
  clear hb14
  rcases hp with ⟨tb2, gm2, es2, rfl, hlen, hla, -⟩ | ⟨es2, sp, hk, rfl, hla, hne, -, hsp⟩ | ⟨hk, rfl⟩
  · exact (one_bad hla hlen).elim
  · obtain ⟨hes, h6⟩ := one_six hla hk
    rw [h6] at hsp
    subst hes
    have S14 : Hid (w14.heap[sp]? = some (.cells #[.int .u64 0, .iface 33 (.int .i64 6)] 73)) := Lib.hid hsp
    have HG14 : Hid (ErrType w14) := Lib.hid (HGT.out.below (bstep B2.out (bstep b6.out c14.out)))
    have HIS := Lib.hid (is_spot sp 0 6 w14 HG14.out (by rw [cell_of_row _ _ 0 _ _ _ S14.out]; rfl) (by rw [cell_of_row _ _ 1 _ _ _ S14.out]; rfl))
    clear hsp hne h6 hk hla
    go_wp2_with fail
    refine HIS.out.mono ?_
    rintro e w15 ⟨rfl, hb15⟩
    have c15 : Hid (Below w6.heap.size w6 w15) := Lib.hid (bstep c14.out hb15)
    have l0 : w15.cell? ⟨lb, lo, none⟩ = some (.string ⟨#[98]⟩) := (hb15.cell (p := ⟨lb, lo, none⟩) L14.out.2).trans L14.out.1
    have p0 : w15.cell? ⟨x3, 0, none⟩ = some (.string ⟨#[47, 108, 105, 98, 47, 97]⟩) := by rw [cell_of_row _ _ 0 _ _ _ ((c15.out.block _ (lt_of_block X6.out)).trans X6.out)]; rfl
    have p1 : w15.cell? ⟨x3, 1, none⟩ = some (.int .i64 1) := by rw [cell_of_row _ _ 1 _ _ _ ((c15.out.block _ (lt_of_block X6.out)).trans X6.out)]; rfl
    have q0 : w15.cell? ⟨x5, 0, none⟩ = some (.string ⟨#[47, 98]⟩) := by rw [cell_of_row _ _ 0 _ _ _ ((c15.out.block _ (lt_of_block Y6.out)).trans Y6.out)]; rfl
    have q1 : w15.cell? ⟨x5, 1, none⟩ = some (.int .i64 1) := by rw [cell_of_row _ _ 1 _ _ _ ((c15.out.block _ (lt_of_block Y6.out)).trans Y6.out)]; rfl
    have B15 := Lib.hid (bstep B2.out (bstep b6.out c15.out))
    clear hb15
    go_wp2_with fail
    go_ret
    exact ⟨rfl, B15.out⟩
  · have : oneNode.length = 1 := rfl
    omega
end Go.Proofs.YtcabpidbdnlomaaGreatDoor
