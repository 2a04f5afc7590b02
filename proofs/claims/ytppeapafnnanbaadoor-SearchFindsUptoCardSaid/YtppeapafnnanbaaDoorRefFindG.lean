/- Layer 14, the document's answer: a library's file, where its name has a slash; whatever the name. -/
import Derived.Test.YtppeapafnnanbaaDoorRefFindS
namespace Go.Proofs.YtppeapafnnanbaaDoor
open Go.RowKit
set_option linter.unusedVariables false
set_option linter.unusedSimpArgs false

set_option maxRecDepth 100000 in
set_option maxHeartbeats 16000000 in
theorem rfind_slash (tb c : Nat) (a : Option Addr) (L : List Nd) (F : ByteArray → Option Ent) (S : Shares) (name env : ByteArray) (ca : Option Addr) (n cc : Nat) (C : List OT) (secure : Bool) (w0 w : World) (h : RefFull w0 w tb a c L F S) (hF : TreeIn F) (hne0 : ¬ name = ⟨#[]⟩) (hns : name.size ≤ 1048576) (hyes : ¬ Lib.indexByte name.data.toList 47 < 0) (hC : CRow w ca C) (hn : C.length = n) (hnl : n ≤ 200000) (hs : ∀ o ∈ C, Sizes o) :
    Calls Tryd.prog 7 #[.pointer (some ⟨tb, 0, none⟩), .agg #[.string name, .slice ca n cc, .string env, .bool secure]] w fun e w' => ROpenPost w0 e (findF F S (slashPaths name (askerF C) secure)) ∧ Below w.heap.size w w' := by
  have hne : (name.toList == []) = false := by
    have := text_ne hne0
    rwa [show (⟨#[]⟩ : ByteArray).toList = [] by rw [ByteArray.toList_eq]] at this
  have HNS := Lib.hid hns
  have HTI := Lib.hid hF
  have HRF := Lib.hid h
  have hos : (askerF C).size ≤ 1048576 := by
    unfold askerF
    split
    · decide
    · exact (hs _ (by simp)).p
  have hel : (expF name (askerF C)).1.length ≤ 1099520016384 := by
    have h1 := expF_len name (askerF C)
    have h2 : name.size * ((askerF C).size + 8) ≤ 1048576 * (1048576 + 8) := Nat.mul_le_mul hns (by omega)
    omega
  have HEX : Hid (∀ wx, Calls Tryd.prog 16 #[.string name, .string (askerF C)] wx (ExpAns (expF name (askerF C)) wx)) := Lib.hid (fun wx => refExpand_any name (askerF C) wx (by omega) (by omega) (by omega))
  obtain ⟨i0, hi0, hat0, hbf0⟩ : ∃ i0, ∃ (h : i0 < name.size), name[i0] = 47 ∧ ∀ j, (hj : j < name.size) → j < i0 → name[j] ≠ 47 := by
    have hge := Lib.indexByte_ge name.data.toList 47
    obtain ⟨i, hi⟩ : ∃ i : Nat, Lib.indexByte name.data.toList 47 = i := ⟨(Lib.indexByte name.data.toList 47).toNat, by omega⟩
    obtain ⟨e1, e2⟩ := Lib.indexByte_some hi
    have hlt : i < name.data.toList.length := (List.getElem?_eq_some_iff.1 e1).1
    have hls : i < name.size := by simpa using hlt
    have gg : ∀ j, (hj : j < name.size) → name.data.toList[j]? = some name[j] := fun j hj => by
      rw [List.getElem?_eq_getElem (by simpa using hj)]
      have h2 : name.data.toList[j]'(by simpa using hj) = name[j] := by simp; rfl
      rw [h2]
    refine ⟨i, hls, ?_, fun j hj hji e => ?_⟩
    · have := gg i hls
      rw [e1] at this
      exact (Option.some.inj this).symm
    · apply e2 j hji
      rw [gg j hj, e]
  have HB0 := Lib.hid hbf0
  have HA0 := Lib.hid hat0
  have HI0 := Lib.hid hi0
  rcases hR : expF name (askerF C) with ⟨PP, own⟩
  rw [hR] at HEX hel
  simp only [] at hel
  have hpl : (mkT PP).size = PP.length := by show PP.toArray.size = _; simp
  obtain ⟨U, hU⟩ : ∃ U, openF F S (rootedF (mkT PP)) = U := ⟨_, rfl⟩
  have HUE : Hid (∀ en, U = .error en → en = 30 ∨ en = 16 ∨ en = 6 ∨ en = 15) := Lib.hid (fun en he => openF_err hF.ok (hU.trans he))
  have hRF : findF F S (slashPaths name (askerF C) secure) = if own && secure then .error 17 else match (generalizing := false) U with | .ok v => .ok v | .error _ => .error 17 := by
    unfold slashPaths
    rw [hR]
    simp only []
    cases hos : (own && secure) with
    | true => rfl
    | false =>
      simp only [Bool.false_eq_true, if_false]
      rw [findF, hU]
      cases U <;> rfl
  rw [hRF]
  have HOS : Hid (∀ wx, Below w.heap.size w wx → Calls Tryd.prog 17 #[.pointer (some ⟨tb, 0, none⟩), .string ⟨PP.toArray⟩] wx fun e w' => SOpenPost w0 e U ∧ Below wx.heap.size wx w') := Lib.hid (fun wx hb => ropenS_any tb (mkT PP) U w0 wx (by omega) (fun wy hy => by
    have := ropen_any tb c a L F S (rootR (mkT PP)) w0 wy (h.below (bstep hb hy)) hF (by have := rootR_size (mkT PP); omega)
    rw [rootR_F, hU] at this
    rw [rootR_F]
    exact this))
  obtain ⟨P, hP⟩ : ∃ P, vP U = P := ⟨_, rfl⟩
  obtain ⟨I, hI⟩ : ∃ I, vI U = I := ⟨_, rfl⟩
  obtain ⟨W, hW⟩ : ∃ W, vS U = W := ⟨_, rfl⟩
  obtain ⟨K, hK⟩ : ∃ K, (vK U == 0) = K := ⟨_, rfl⟩
  have HPS := Lib.hid (And.intro hP (And.intro hI (And.intro hW hK)))
  have HOT : Hid (∀ wx, Below w.heap.size w wx → Calls Tryd.prog 17 #[.pointer (some ⟨tb, 0, none⟩), .string ⟨PP.toArray⟩] wx fun e w' => (∃ ad m' c', e = .returned (.tuple #[.agg #[.string P, .int .i64 I, .slice ad m' c', .bool W], .bool K]) ∧ Fits w0 ad m' c' U) ∧ Below wx.heap.size wx w') := Lib.hid (fun wx hb => (HOS.out wx hb).mono (fun e w' h => by
    obtain ⟨⟨ad, m', c', he, hf⟩, h2⟩ := h
    rw [hP, hI, hW, hK] at he
    exact ⟨⟨ad, m', c', he, hf⟩, h2⟩))
  have HCR := Lib.hid hC
  have HN := Lib.hid hn
  obtain ⟨w1, hw1⟩ : ∃ w1, (w.alloc (.cells #[.string name, .slice ca n cc, .string env, .bool secure] 25)).alloc (.cells #[.string ⟨#[]⟩, .int .i64 0, .slice none 0 0, .bool false] 33) = w1 := ⟨_, rfl⟩
  have HW1 := Lib.hid hw1
  obtain ⟨ab, hab⟩ : ∃ ab, w.heap.size = ab := ⟨_, rfl⟩
  obtain ⟨vb, hvb⟩ : ∃ vb, ab + 1 = vb := ⟨_, rfl⟩
  have B1 : Hid (Below w.heap.size w w1) := Lib.hid (by rw [← hw1]; exact ((Below.refl _ _).alloc (Nat.le_refl _) _).alloc (by simp) _)
  have X1 : Hid (w1.heap[ab]? = some (.cells #[.string name, .slice ca n cc, .string env, .bool secure] 25)) := Lib.hid (by rw [← hw1, ← hab]; exact (heap_alloc_old _ _ (by simp)).trans (heap_alloc_new _ _))
  have Y1 : Hid (w1.heap[vb]? = some (.cells #[.string ⟨#[]⟩, .int .i64 0, .slice none 0 0, .bool false] 33)) := Lib.hid (by
    rw [← hw1, ← hvb, ← hab]
    have := heap_alloc_new (w.alloc (.cells #[.string name, .slice ca n cc, .string env, .bool secure] 25)) (.cells #[.string ⟨#[]⟩, .int .i64 0, .slice none 0 0, .bool false] 33)
    simpa using this)
  have HVB : Hid (w.heap.size ≤ vb) := Lib.hid (by omega)
  have c0 : w1.cell? ⟨ab, 0, none⟩ = some (.string name) := by rw [cell_of_row _ _ 0 _ _ _ X1.out]; rfl
  obtain ⟨z, hz⟩ : ∃ z, name.size = z := ⟨_, rfl⟩
  have HZ := Lib.hid hz
  clear hw1 h hF hne0 hns hz hyes hC hn hs hos hel hbf0 hat0 hR hpl hU hRF HOS hP hI hW hK
  go_enter Tryd.func7, Tryd.ntmps7
  go_upto_region 1 with fail
  rw [HW1.out]
  try rw [hab]
  try rw [hvb]
  clear hab hvb
  go_wp2_with fail
  clear hne c0
  go_loopg [6, 7] z (fun g sv iv wr => ∃ (k : Nat) (sb : Bool), k + g = z ∧ iv = .int .i64 (k : Int) ∧ sv = .bool sb ∧ Hid (sb = decide (i0 < k)) ∧ Hid (Below w1.heap.size w1 wr))
  case atStart => exact ⟨0, false, by omega, rfl, rfl, Lib.hid (by simp), Lib.hid (Below.refl _ _)⟩
  case round =>
    obtain ⟨k, sb, hk, rfl, rfl, HSB, HB⟩ := hrel
    have HKK := Lib.hid hk
    have XR : Hid (wr.heap[ab]? = some (.cells #[.string name, .slice ca n cc, .string env, .bool secure] 25)) := Lib.hid ((HB.out.block _ (lt_of_block X1.out)).trans X1.out)
    have BR : Hid (Below w.heap.size w wr) := Lib.hid (bstep B1.out HB.out)
    have c0 : wr.cell? ⟨ab, 0, none⟩ = some (.string name) := by rw [cell_of_row _ _ 0 _ _ _ XR.out]; rfl
    cases gk with
    | succ g2 =>
      have hlt : k < z := by omega
      have hks : k < name.size := by rw [HZ.out]; exact hlt
      have hlt2 : (k : Int) < (name.size : Int) := by omega
      have hki : (0 : Int) ≤ (k : Int) := by omega
      clear hk
      rcases (show k < i0 ∨ k = i0 ∨ i0 < k by omega) with h3 | h3 | h3
      · obtain rfl : sb = false := by rw [HSB.out]; exact decide_eq_false (by omega)
        have H3 := Lib.hid h3
        have hb : (((name[k]'hks).toNat : Int) == 47) = false := by
          rw [beq_eq_false_iff_ne]
          intro e
          exact HB0.out k hks h3 (UInt8.toNat_inj.1 (by show _ = 47; omega))
        clear h3
        go_wp2_with fail
        go_roundg g2
        case measure => have := HKK.out; omega
        case rel => exact ⟨k + 1, false, by have := HKK.out; omega, (by have := HKK.out; have := HZ.out; have := HNS.out; rw [IntWalk.wrap64_in _ ⟨by omega, by omega⟩]; rfl), rfl, Lib.hid (by have := H3.out; rw [eq_comm, decide_eq_false_iff_not]; omega), HB⟩
      · obtain rfl : sb = false := by rw [HSB.out]; exact decide_eq_false (by omega)
        have H3 := Lib.hid h3
        have hb : (((name[k]'hks).toNat : Int) == 47) = true := by
          subst h3
          rw [HA0.out]
          rfl
        clear h3
        go_wp2_with fail
        go_roundg g2
        case measure => have := HKK.out; omega
        case rel => exact ⟨k + 1, true, by have := HKK.out; omega, (by have := HKK.out; have := HZ.out; have := HNS.out; rw [IntWalk.wrap64_in _ ⟨by omega, by omega⟩]; rfl), rfl, Lib.hid (by have := H3.out; rw [eq_comm, decide_eq_true_eq]; omega), HB⟩
      · obtain rfl : sb = true := by rw [HSB.out]; exact decide_eq_true h3
        have H3 := Lib.hid h3
        clear h3
        go_wp2_with fail
        go_roundg g2
        case measure => have := HKK.out; omega
        case rel => exact ⟨k + 1, true, by have := HKK.out; omega, (by have := HKK.out; have := HZ.out; have := HNS.out; rw [IntWalk.wrap64_in _ ⟨by omega, by omega⟩]; rfl), rfl, Lib.hid (by have := H3.out; rw [eq_comm, decide_eq_true_eq]; omega), HB⟩
    | zero =>
      have hkz : ¬ (k : Int) < (name.size : Int) := by have := HZ.out; omega
      have hkz0 : k = name.size := by have := HZ.out; omega
      obtain rfl : sb = true := by rw [HSB.out]; exact decide_eq_true (by have := HI0.out; omega)
      clear hk
      subst hkz0
      have YR : Hid (wr.heap[vb]? = some (.cells #[.string ⟨#[]⟩, .int .i64 0, .slice none 0 0, .bool false] 33)) := Lib.hid ((HB.out.block _ (lt_of_block Y1.out)).trans Y1.out)
      have c1 : wr.cell? ⟨ab, 1, none⟩ = some (.slice ca n cc) := by rw [cell_of_row _ _ 1 _ _ _ XR.out]; rfl
      cases C with
      | nil =>
        have hn0 : ¬ (0 : Int) < (n : Int) := by have := HN.out; simp at this; omega
        have HE2 : Hid (∀ wx, Calls Tryd.prog 16 #[.string name, .string ⟨#[]⟩] wx (ExpAns (PP, own) wx)) := Lib.hid HEX.out
        clear HEX
        go_wp2_with fail
        refine (HE2.out _).mono ?_
        rintro e w2 ⟨rfl, hb2⟩
        have B2 := Lib.hid (bstep BR.out hb2)
        have X2 : Hid (w2.heap[ab]? = some (.cells #[.string name, .slice ca n cc, .string env, .bool secure] 25)) := Lib.hid ((hb2.block _ (lt_of_block XR.out)).trans XR.out)
        have Y2 : Hid (w2.heap[vb]? = some (.cells #[.string ⟨#[]⟩, .int .i64 0, .slice none 0 0, .bool false] 33)) := Lib.hid ((hb2.block _ (lt_of_block YR.out)).trans YR.out)
        clear hb2
        go_wp2_with fail
        refine (HOT.out w2 B2.out).mono ?_
        rintro e w3 ⟨⟨ad, m', c', rfl, hfit⟩, hb3⟩
        have B3 := Lib.hid (bstep B2.out hb3)
        have HFT := Lib.hid hfit
        have X3 : Hid (w3.heap[ab]? = some (.cells #[.string name, .slice ca n cc, .string env, .bool secure] 25)) := Lib.hid ((hb3.block _ (lt_of_block X2.out)).trans X2.out)
        have Y3 : Hid (w3.heap[vb]? = some (.cells #[.string ⟨#[]⟩, .int .i64 0, .slice none 0 0, .bool false] 33)) := Lib.hid ((hb3.block _ (lt_of_block Y2.out)).trans Y2.out)
        obtain ⟨qb, hqb⟩ : ∃ qb, w3.heap.size = qb := ⟨_, rfl⟩
        obtain ⟨w7, hw7⟩ : ∃ w7, w3.alloc (.cells #[.string P, .int .i64 I, .slice ad m' c', .bool W] 33) = w7 := ⟨_, rfl⟩
        have HW7 := Lib.hid hw7
        have B7 : Hid (Below w.heap.size w w7) := Lib.hid (by rw [← hw7]; exact B3.out.alloc B3.out.size _)
        have Z7 : Hid (w7.heap[qb]? = some (.cells #[.string P, .int .i64 I, .slice ad m' c', .bool W] 33)) := Lib.hid (by rw [← hw7, ← hqb]; exact heap_alloc_new _ _)
        have Y7 : Hid (w7.heap[vb]? = some (.cells #[.string ⟨#[]⟩, .int .i64 0, .slice none 0 0, .bool false] 33)) := Lib.hid (by rw [← hw7]; exact (heap_alloc_old _ _ (lt_of_block Y3.out)).trans Y3.out)
        have c3 : w7.cell? ⟨ab, 3, none⟩ = some (.bool secure) := by
          have hx : w7.heap[ab]? = some (.cells #[.string name, .slice ca n cc, .string env, .bool secure] 25) := by rw [← hw7]; exact (heap_alloc_old _ _ (lt_of_block X3.out)).trans X3.out
          rw [cell_of_row _ _ 3 _ _ _ hx]; rfl
        clear hb3 hfit hw7
        go_upto_region 14 with fail
        rw [HW7.out]
        try rw [hqb]
        clear hqb
        cases own <;> cases secure
        · cases U with
          | error en =>
            have hen := HUE.out en rfl
            obtain rfl : K = false := by
              rw [← HPS.out.2.2.2]
              show ((en : Int) == 0) = false
              rw [beq_eq_false_iff_ne]
              omega
            clear hen HPS HUE
            obtain ⟨w8, hw8⟩ : ∃ w8, w7.setRow vb #[.string ⟨#[]⟩, .int .i64 0, .slice none 0 0, .bool false] = w8 := ⟨_, rfl⟩
            have HW8 := Lib.hid hw8
            have Y8 : Hid (w8.heap[vb]? = some (.cells #[.string ⟨#[]⟩, .int .i64 0, .slice none 0 0, .bool false] 33)) := Lib.hid (by rw [← hw8]; exact setRow_heap _ _ _ _ _ _ Y7.out)
            have B8 : Hid (Below w.heap.size w w8) := Lib.hid (by rw [← hw8]; exact below_setRowV B7.out HVB.out)
            clear hw8
            go_wp2_with (refine wpList_store_row rfl 33 _ _ rfl vb #[.string ⟨#[]⟩, .int .i64 0, .slice none 0 0, .bool false] rfl rfl 33 _ Y7.out (file_info _ _ _ _ _ _) rfl (file_one _ _ _ _ _ _) ?_; rw [HW8.out])
            refine bodyPost_ret_by (results_cell2 Tryd.results7 _ _ vb 33 #[.string ⟨#[]⟩, .int .i64 0, .slice none 0 0, .bool false] (0, 0) _ rfl Y8.out Tryd.underlying33 rfl (file_info _ _ _ _ _ _)) (by rfl) ?_
            exact ⟨rfl, B8.out⟩
          | ok v =>
            obtain rfl : K = true := HPS.out.2.2.2.symm
            obtain ⟨w8, hw8⟩ : ∃ w8, w7.setRow vb #[.string P, .int .i64 I, .slice ad m' c', .bool W] = w8 := ⟨_, rfl⟩
            have HW8 := Lib.hid hw8
            have Y8 : Hid (w8.heap[vb]? = some (.cells #[.string P, .int .i64 I, .slice ad m' c', .bool W] 33)) := Lib.hid (by rw [← hw8]; exact setRow_heap _ _ _ _ _ _ Y7.out)
            have B8 : Hid (Below w.heap.size w w8) := Lib.hid (by rw [← hw8]; exact below_setRowV B7.out HVB.out)
            clear hw8
            go_wp2_with (first | (refine wpList_load_row rfl 33 _ rfl qb rfl 33 #[.string P, .int .i64 I, .slice ad m' c', .bool W] (0, 0) _ Z7.out Tryd.underlying33 rfl (file_info _ _ _ _ _ _) ?_) | (refine wpList_store_row rfl 33 _ _ rfl vb #[.string P, .int .i64 I, .slice ad m' c', .bool W] rfl rfl 33 _ Y7.out (file_info _ _ _ _ _ _) rfl (file_one _ _ _ _ _ _) ?_; rw [HW8.out]))
            refine bodyPost_ret_by (results_cell2 Tryd.results7 _ _ vb 33 #[.string P, .int .i64 I, .slice ad m' c', .bool W] (0, 0) _ rfl Y8.out Tryd.underlying33 rfl (file_info _ _ _ _ _ _)) (by rfl) ?_
            obtain ⟨p1, p2, p3, -⟩ := HPS.out
            exact ⟨form_ropen (V := .ok v) (by rw [p1, p2, p3]; rfl) HFT.out, B8.out⟩
        · cases U with
          | error en =>
            have hen := HUE.out en rfl
            obtain rfl : K = false := by
              rw [← HPS.out.2.2.2]
              show ((en : Int) == 0) = false
              rw [beq_eq_false_iff_ne]
              omega
            clear hen HPS HUE
            obtain ⟨w8, hw8⟩ : ∃ w8, w7.setRow vb #[.string ⟨#[]⟩, .int .i64 0, .slice none 0 0, .bool false] = w8 := ⟨_, rfl⟩
            have HW8 := Lib.hid hw8
            have Y8 : Hid (w8.heap[vb]? = some (.cells #[.string ⟨#[]⟩, .int .i64 0, .slice none 0 0, .bool false] 33)) := Lib.hid (by rw [← hw8]; exact setRow_heap _ _ _ _ _ _ Y7.out)
            have B8 : Hid (Below w.heap.size w w8) := Lib.hid (by rw [← hw8]; exact below_setRowV B7.out HVB.out)
            clear hw8
            go_wp2_with (refine wpList_store_row rfl 33 _ _ rfl vb #[.string ⟨#[]⟩, .int .i64 0, .slice none 0 0, .bool false] rfl rfl 33 _ Y7.out (file_info _ _ _ _ _ _) rfl (file_one _ _ _ _ _ _) ?_; rw [HW8.out])
            refine bodyPost_ret_by (results_cell2 Tryd.results7 _ _ vb 33 #[.string ⟨#[]⟩, .int .i64 0, .slice none 0 0, .bool false] (0, 0) _ rfl Y8.out Tryd.underlying33 rfl (file_info _ _ _ _ _ _)) (by rfl) ?_
            exact ⟨rfl, B8.out⟩
          | ok v =>
            obtain rfl : K = true := HPS.out.2.2.2.symm
            obtain ⟨w8, hw8⟩ : ∃ w8, w7.setRow vb #[.string P, .int .i64 I, .slice ad m' c', .bool W] = w8 := ⟨_, rfl⟩
            have HW8 := Lib.hid hw8
            have Y8 : Hid (w8.heap[vb]? = some (.cells #[.string P, .int .i64 I, .slice ad m' c', .bool W] 33)) := Lib.hid (by rw [← hw8]; exact setRow_heap _ _ _ _ _ _ Y7.out)
            have B8 : Hid (Below w.heap.size w w8) := Lib.hid (by rw [← hw8]; exact below_setRowV B7.out HVB.out)
            clear hw8
            go_wp2_with (first | (refine wpList_load_row rfl 33 _ rfl qb rfl 33 #[.string P, .int .i64 I, .slice ad m' c', .bool W] (0, 0) _ Z7.out Tryd.underlying33 rfl (file_info _ _ _ _ _ _) ?_) | (refine wpList_store_row rfl 33 _ _ rfl vb #[.string P, .int .i64 I, .slice ad m' c', .bool W] rfl rfl 33 _ Y7.out (file_info _ _ _ _ _ _) rfl (file_one _ _ _ _ _ _) ?_; rw [HW8.out]))
            refine bodyPost_ret_by (results_cell2 Tryd.results7 _ _ vb 33 #[.string P, .int .i64 I, .slice ad m' c', .bool W] (0, 0) _ rfl Y8.out Tryd.underlying33 rfl (file_info _ _ _ _ _ _)) (by rfl) ?_
            obtain ⟨p1, p2, p3, -⟩ := HPS.out
            exact ⟨form_ropen (V := .ok v) (by rw [p1, p2, p3]; rfl) HFT.out, B8.out⟩
        · cases U with
          | error en =>
            have hen := HUE.out en rfl
            obtain rfl : K = false := by
              rw [← HPS.out.2.2.2]
              show ((en : Int) == 0) = false
              rw [beq_eq_false_iff_ne]
              omega
            clear hen HPS HUE
            obtain ⟨w8, hw8⟩ : ∃ w8, w7.setRow vb #[.string ⟨#[]⟩, .int .i64 0, .slice none 0 0, .bool false] = w8 := ⟨_, rfl⟩
            have HW8 := Lib.hid hw8
            have Y8 : Hid (w8.heap[vb]? = some (.cells #[.string ⟨#[]⟩, .int .i64 0, .slice none 0 0, .bool false] 33)) := Lib.hid (by rw [← hw8]; exact setRow_heap _ _ _ _ _ _ Y7.out)
            have B8 : Hid (Below w.heap.size w w8) := Lib.hid (by rw [← hw8]; exact below_setRowV B7.out HVB.out)
            clear hw8
            go_wp2_with (refine wpList_store_row rfl 33 _ _ rfl vb #[.string ⟨#[]⟩, .int .i64 0, .slice none 0 0, .bool false] rfl rfl 33 _ Y7.out (file_info _ _ _ _ _ _) rfl (file_one _ _ _ _ _ _) ?_; rw [HW8.out])
            refine bodyPost_ret_by (results_cell2 Tryd.results7 _ _ vb 33 #[.string ⟨#[]⟩, .int .i64 0, .slice none 0 0, .bool false] (0, 0) _ rfl Y8.out Tryd.underlying33 rfl (file_info _ _ _ _ _ _)) (by rfl) ?_
            exact ⟨rfl, B8.out⟩
          | ok v =>
            obtain rfl : K = true := HPS.out.2.2.2.symm
            obtain ⟨w8, hw8⟩ : ∃ w8, w7.setRow vb #[.string P, .int .i64 I, .slice ad m' c', .bool W] = w8 := ⟨_, rfl⟩
            have HW8 := Lib.hid hw8
            have Y8 : Hid (w8.heap[vb]? = some (.cells #[.string P, .int .i64 I, .slice ad m' c', .bool W] 33)) := Lib.hid (by rw [← hw8]; exact setRow_heap _ _ _ _ _ _ Y7.out)
            have B8 : Hid (Below w.heap.size w w8) := Lib.hid (by rw [← hw8]; exact below_setRowV B7.out HVB.out)
            clear hw8
            go_wp2_with (first | (refine wpList_load_row rfl 33 _ rfl qb rfl 33 #[.string P, .int .i64 I, .slice ad m' c', .bool W] (0, 0) _ Z7.out Tryd.underlying33 rfl (file_info _ _ _ _ _ _) ?_) | (refine wpList_store_row rfl 33 _ _ rfl vb #[.string P, .int .i64 I, .slice ad m' c', .bool W] rfl rfl 33 _ Y7.out (file_info _ _ _ _ _ _) rfl (file_one _ _ _ _ _ _) ?_; rw [HW8.out]))
            refine bodyPost_ret_by (results_cell2 Tryd.results7 _ _ vb 33 #[.string P, .int .i64 I, .slice ad m' c', .bool W] (0, 0) _ rfl Y8.out Tryd.underlying33 rfl (file_info _ _ _ _ _ _)) (by rfl) ?_
            obtain ⟨p1, p2, p3, -⟩ := HPS.out
            exact ⟨form_ropen (V := .ok v) (by rw [p1, p2, p3]; rfl) HFT.out, B8.out⟩
        · obtain ⟨w8, hw8⟩ : ∃ w8, w7.setRow vb #[.string ⟨#[]⟩, .int .i64 0, .slice none 0 0, .bool false] = w8 := ⟨_, rfl⟩
          have HW8 := Lib.hid hw8
          have Y8 : Hid (w8.heap[vb]? = some (.cells #[.string ⟨#[]⟩, .int .i64 0, .slice none 0 0, .bool false] 33)) := Lib.hid (by rw [← hw8]; exact setRow_heap _ _ _ _ _ _ Y7.out)
          have B8 : Hid (Below w.heap.size w w8) := Lib.hid (by rw [← hw8]; exact below_setRowV B7.out HVB.out)
          clear hw8
          go_wp2_with (refine wpList_store_row rfl 33 _ _ rfl vb #[.string ⟨#[]⟩, .int .i64 0, .slice none 0 0, .bool false] rfl rfl 33 _ Y7.out (file_info _ _ _ _ _ _) rfl (file_one _ _ _ _ _ _) ?_; rw [HW8.out])
          refine bodyPost_ret_by (results_cell2 Tryd.results7 _ _ vb 33 #[.string ⟨#[]⟩, .int .i64 0, .slice none 0 0, .bool false] (0, 0) _ rfl Y8.out Tryd.underlying33 rfl (file_info _ _ _ _ _ _)) (by rfl) ?_
          exact ⟨rfl, B8.out⟩
      | cons o C2 =>
        have hn1 : 0 < n := by have := HN.out; simp at this; omega
        have hn2 : (0 : Int) < (n : Int) := by omega
        obtain ⟨b5, o5, hca, hb5, hc5⟩ := (HCR.out.below BR.out) 0 (by simp)
        have c5 : wr.cell? ⟨b5, o5, none⟩ = some (.string o.path) := by
          have h5 := hc5 0 (by omega)
          rw [Nat.zero_mul, Nat.add_zero] at h5
          rw [h5]
          rfl
        rw [hca] at c1
        have HE2 : Hid (∀ wx, Calls Tryd.prog 16 #[.string name, .string o.path] wx (ExpAns (PP, own) wx)) := Lib.hid HEX.out
        obtain ⟨op, hop⟩ : ∃ op, o.path = op := ⟨_, rfl⟩
        rw [hop] at HE2 c5
        clear HEX hop hc5 hb5 hn1 hca
        go_wp2_with fail
        refine (HE2.out _).mono ?_
        rintro e w2 ⟨rfl, hb2⟩
        have B2 := Lib.hid (bstep BR.out hb2)
        have X2 : Hid (w2.heap[ab]? = some (.cells #[.string name, .slice ca n cc, .string env, .bool secure] 25)) := Lib.hid ((hb2.block _ (lt_of_block XR.out)).trans XR.out)
        have Y2 : Hid (w2.heap[vb]? = some (.cells #[.string ⟨#[]⟩, .int .i64 0, .slice none 0 0, .bool false] 33)) := Lib.hid ((hb2.block _ (lt_of_block YR.out)).trans YR.out)
        clear hb2
        go_wp2_with fail
        refine (HOT.out w2 B2.out).mono ?_
        rintro e w3 ⟨⟨ad, m', c', rfl, hfit⟩, hb3⟩
        have B3 := Lib.hid (bstep B2.out hb3)
        have HFT := Lib.hid hfit
        have X3 : Hid (w3.heap[ab]? = some (.cells #[.string name, .slice ca n cc, .string env, .bool secure] 25)) := Lib.hid ((hb3.block _ (lt_of_block X2.out)).trans X2.out)
        have Y3 : Hid (w3.heap[vb]? = some (.cells #[.string ⟨#[]⟩, .int .i64 0, .slice none 0 0, .bool false] 33)) := Lib.hid ((hb3.block _ (lt_of_block Y2.out)).trans Y2.out)
        obtain ⟨qb, hqb⟩ : ∃ qb, w3.heap.size = qb := ⟨_, rfl⟩
        obtain ⟨w7, hw7⟩ : ∃ w7, w3.alloc (.cells #[.string P, .int .i64 I, .slice ad m' c', .bool W] 33) = w7 := ⟨_, rfl⟩
        have HW7 := Lib.hid hw7
        have B7 : Hid (Below w.heap.size w w7) := Lib.hid (by rw [← hw7]; exact B3.out.alloc B3.out.size _)
        have Z7 : Hid (w7.heap[qb]? = some (.cells #[.string P, .int .i64 I, .slice ad m' c', .bool W] 33)) := Lib.hid (by rw [← hw7, ← hqb]; exact heap_alloc_new _ _)
        have Y7 : Hid (w7.heap[vb]? = some (.cells #[.string ⟨#[]⟩, .int .i64 0, .slice none 0 0, .bool false] 33)) := Lib.hid (by rw [← hw7]; exact (heap_alloc_old _ _ (lt_of_block Y3.out)).trans Y3.out)
        have c3 : w7.cell? ⟨ab, 3, none⟩ = some (.bool secure) := by
          have hx : w7.heap[ab]? = some (.cells #[.string name, .slice ca n cc, .string env, .bool secure] 25) := by rw [← hw7]; exact (heap_alloc_old _ _ (lt_of_block X3.out)).trans X3.out
          rw [cell_of_row _ _ 3 _ _ _ hx]; rfl
        clear hb3 hfit hw7
        go_upto_region 14 with fail
        rw [HW7.out]
        try rw [hqb]
        clear hqb
        cases own <;> cases secure
        · cases U with
          | error en =>
            have hen := HUE.out en rfl
            obtain rfl : K = false := by
              rw [← HPS.out.2.2.2]
              show ((en : Int) == 0) = false
              rw [beq_eq_false_iff_ne]
              omega
            clear hen HPS HUE
            obtain ⟨w8, hw8⟩ : ∃ w8, w7.setRow vb #[.string ⟨#[]⟩, .int .i64 0, .slice none 0 0, .bool false] = w8 := ⟨_, rfl⟩
            have HW8 := Lib.hid hw8
            have Y8 : Hid (w8.heap[vb]? = some (.cells #[.string ⟨#[]⟩, .int .i64 0, .slice none 0 0, .bool false] 33)) := Lib.hid (by rw [← hw8]; exact setRow_heap _ _ _ _ _ _ Y7.out)
            have B8 : Hid (Below w.heap.size w w8) := Lib.hid (by rw [← hw8]; exact below_setRowV B7.out HVB.out)
            clear hw8
            go_wp2_with (refine wpList_store_row rfl 33 _ _ rfl vb #[.string ⟨#[]⟩, .int .i64 0, .slice none 0 0, .bool false] rfl rfl 33 _ Y7.out (file_info _ _ _ _ _ _) rfl (file_one _ _ _ _ _ _) ?_; rw [HW8.out])
            refine bodyPost_ret_by (results_cell2 Tryd.results7 _ _ vb 33 #[.string ⟨#[]⟩, .int .i64 0, .slice none 0 0, .bool false] (0, 0) _ rfl Y8.out Tryd.underlying33 rfl (file_info _ _ _ _ _ _)) (by rfl) ?_
            exact ⟨rfl, B8.out⟩
          | ok v =>
            obtain rfl : K = true := HPS.out.2.2.2.symm
            obtain ⟨w8, hw8⟩ : ∃ w8, w7.setRow vb #[.string P, .int .i64 I, .slice ad m' c', .bool W] = w8 := ⟨_, rfl⟩
            have HW8 := Lib.hid hw8
            have Y8 : Hid (w8.heap[vb]? = some (.cells #[.string P, .int .i64 I, .slice ad m' c', .bool W] 33)) := Lib.hid (by rw [← hw8]; exact setRow_heap _ _ _ _ _ _ Y7.out)
            have B8 : Hid (Below w.heap.size w w8) := Lib.hid (by rw [← hw8]; exact below_setRowV B7.out HVB.out)
            clear hw8
            go_wp2_with (first | (refine wpList_load_row rfl 33 _ rfl qb rfl 33 #[.string P, .int .i64 I, .slice ad m' c', .bool W] (0, 0) _ Z7.out Tryd.underlying33 rfl (file_info _ _ _ _ _ _) ?_) | (refine wpList_store_row rfl 33 _ _ rfl vb #[.string P, .int .i64 I, .slice ad m' c', .bool W] rfl rfl 33 _ Y7.out (file_info _ _ _ _ _ _) rfl (file_one _ _ _ _ _ _) ?_; rw [HW8.out]))
            refine bodyPost_ret_by (results_cell2 Tryd.results7 _ _ vb 33 #[.string P, .int .i64 I, .slice ad m' c', .bool W] (0, 0) _ rfl Y8.out Tryd.underlying33 rfl (file_info _ _ _ _ _ _)) (by rfl) ?_
            obtain ⟨p1, p2, p3, -⟩ := HPS.out
            exact ⟨form_ropen (V := .ok v) (by rw [p1, p2, p3]; rfl) HFT.out, B8.out⟩
        · cases U with
          | error en =>
            have hen := HUE.out en rfl
            obtain rfl : K = false := by
              rw [← HPS.out.2.2.2]
              show ((en : Int) == 0) = false
              rw [beq_eq_false_iff_ne]
              omega
            clear hen HPS HUE
            obtain ⟨w8, hw8⟩ : ∃ w8, w7.setRow vb #[.string ⟨#[]⟩, .int .i64 0, .slice none 0 0, .bool false] = w8 := ⟨_, rfl⟩
            have HW8 := Lib.hid hw8
            have Y8 : Hid (w8.heap[vb]? = some (.cells #[.string ⟨#[]⟩, .int .i64 0, .slice none 0 0, .bool false] 33)) := Lib.hid (by rw [← hw8]; exact setRow_heap _ _ _ _ _ _ Y7.out)
            have B8 : Hid (Below w.heap.size w w8) := Lib.hid (by rw [← hw8]; exact below_setRowV B7.out HVB.out)
            clear hw8
            go_wp2_with (refine wpList_store_row rfl 33 _ _ rfl vb #[.string ⟨#[]⟩, .int .i64 0, .slice none 0 0, .bool false] rfl rfl 33 _ Y7.out (file_info _ _ _ _ _ _) rfl (file_one _ _ _ _ _ _) ?_; rw [HW8.out])
            refine bodyPost_ret_by (results_cell2 Tryd.results7 _ _ vb 33 #[.string ⟨#[]⟩, .int .i64 0, .slice none 0 0, .bool false] (0, 0) _ rfl Y8.out Tryd.underlying33 rfl (file_info _ _ _ _ _ _)) (by rfl) ?_
            exact ⟨rfl, B8.out⟩
          | ok v =>
            obtain rfl : K = true := HPS.out.2.2.2.symm
            obtain ⟨w8, hw8⟩ : ∃ w8, w7.setRow vb #[.string P, .int .i64 I, .slice ad m' c', .bool W] = w8 := ⟨_, rfl⟩
            have HW8 := Lib.hid hw8
            have Y8 : Hid (w8.heap[vb]? = some (.cells #[.string P, .int .i64 I, .slice ad m' c', .bool W] 33)) := Lib.hid (by rw [← hw8]; exact setRow_heap _ _ _ _ _ _ Y7.out)
            have B8 : Hid (Below w.heap.size w w8) := Lib.hid (by rw [← hw8]; exact below_setRowV B7.out HVB.out)
            clear hw8
            go_wp2_with (first | (refine wpList_load_row rfl 33 _ rfl qb rfl 33 #[.string P, .int .i64 I, .slice ad m' c', .bool W] (0, 0) _ Z7.out Tryd.underlying33 rfl (file_info _ _ _ _ _ _) ?_) | (refine wpList_store_row rfl 33 _ _ rfl vb #[.string P, .int .i64 I, .slice ad m' c', .bool W] rfl rfl 33 _ Y7.out (file_info _ _ _ _ _ _) rfl (file_one _ _ _ _ _ _) ?_; rw [HW8.out]))
            refine bodyPost_ret_by (results_cell2 Tryd.results7 _ _ vb 33 #[.string P, .int .i64 I, .slice ad m' c', .bool W] (0, 0) _ rfl Y8.out Tryd.underlying33 rfl (file_info _ _ _ _ _ _)) (by rfl) ?_
            obtain ⟨p1, p2, p3, -⟩ := HPS.out
            exact ⟨form_ropen (V := .ok v) (by rw [p1, p2, p3]; rfl) HFT.out, B8.out⟩
        · cases U with
          | error en =>
            have hen := HUE.out en rfl
            obtain rfl : K = false := by
              rw [← HPS.out.2.2.2]
              show ((en : Int) == 0) = false
              rw [beq_eq_false_iff_ne]
              omega
            clear hen HPS HUE
            obtain ⟨w8, hw8⟩ : ∃ w8, w7.setRow vb #[.string ⟨#[]⟩, .int .i64 0, .slice none 0 0, .bool false] = w8 := ⟨_, rfl⟩
            have HW8 := Lib.hid hw8
            have Y8 : Hid (w8.heap[vb]? = some (.cells #[.string ⟨#[]⟩, .int .i64 0, .slice none 0 0, .bool false] 33)) := Lib.hid (by rw [← hw8]; exact setRow_heap _ _ _ _ _ _ Y7.out)
            have B8 : Hid (Below w.heap.size w w8) := Lib.hid (by rw [← hw8]; exact below_setRowV B7.out HVB.out)
            clear hw8
            go_wp2_with (refine wpList_store_row rfl 33 _ _ rfl vb #[.string ⟨#[]⟩, .int .i64 0, .slice none 0 0, .bool false] rfl rfl 33 _ Y7.out (file_info _ _ _ _ _ _) rfl (file_one _ _ _ _ _ _) ?_; rw [HW8.out])
            refine bodyPost_ret_by (results_cell2 Tryd.results7 _ _ vb 33 #[.string ⟨#[]⟩, .int .i64 0, .slice none 0 0, .bool false] (0, 0) _ rfl Y8.out Tryd.underlying33 rfl (file_info _ _ _ _ _ _)) (by rfl) ?_
            exact ⟨rfl, B8.out⟩
          | ok v =>
            obtain rfl : K = true := HPS.out.2.2.2.symm
            obtain ⟨w8, hw8⟩ : ∃ w8, w7.setRow vb #[.string P, .int .i64 I, .slice ad m' c', .bool W] = w8 := ⟨_, rfl⟩
            have HW8 := Lib.hid hw8
            have Y8 : Hid (w8.heap[vb]? = some (.cells #[.string P, .int .i64 I, .slice ad m' c', .bool W] 33)) := Lib.hid (by rw [← hw8]; exact setRow_heap _ _ _ _ _ _ Y7.out)
            have B8 : Hid (Below w.heap.size w w8) := Lib.hid (by rw [← hw8]; exact below_setRowV B7.out HVB.out)
            clear hw8
            go_wp2_with (first | (refine wpList_load_row rfl 33 _ rfl qb rfl 33 #[.string P, .int .i64 I, .slice ad m' c', .bool W] (0, 0) _ Z7.out Tryd.underlying33 rfl (file_info _ _ _ _ _ _) ?_) | (refine wpList_store_row rfl 33 _ _ rfl vb #[.string P, .int .i64 I, .slice ad m' c', .bool W] rfl rfl 33 _ Y7.out (file_info _ _ _ _ _ _) rfl (file_one _ _ _ _ _ _) ?_; rw [HW8.out]))
            refine bodyPost_ret_by (results_cell2 Tryd.results7 _ _ vb 33 #[.string P, .int .i64 I, .slice ad m' c', .bool W] (0, 0) _ rfl Y8.out Tryd.underlying33 rfl (file_info _ _ _ _ _ _)) (by rfl) ?_
            obtain ⟨p1, p2, p3, -⟩ := HPS.out
            exact ⟨form_ropen (V := .ok v) (by rw [p1, p2, p3]; rfl) HFT.out, B8.out⟩
        · obtain ⟨w8, hw8⟩ : ∃ w8, w7.setRow vb #[.string ⟨#[]⟩, .int .i64 0, .slice none 0 0, .bool false] = w8 := ⟨_, rfl⟩
          have HW8 := Lib.hid hw8
          have Y8 : Hid (w8.heap[vb]? = some (.cells #[.string ⟨#[]⟩, .int .i64 0, .slice none 0 0, .bool false] 33)) := Lib.hid (by rw [← hw8]; exact setRow_heap _ _ _ _ _ _ Y7.out)
          have B8 : Hid (Below w.heap.size w w8) := Lib.hid (by rw [← hw8]; exact below_setRowV B7.out HVB.out)
          clear hw8
          go_wp2_with (refine wpList_store_row rfl 33 _ _ rfl vb #[.string ⟨#[]⟩, .int .i64 0, .slice none 0 0, .bool false] rfl rfl 33 _ Y7.out (file_info _ _ _ _ _ _) rfl (file_one _ _ _ _ _ _) ?_; rw [HW8.out])
          refine bodyPost_ret_by (results_cell2 Tryd.results7 _ _ vb 33 #[.string ⟨#[]⟩, .int .i64 0, .slice none 0 0, .bool false] (0, 0) _ rfl Y8.out Tryd.underlying33 rfl (file_info _ _ _ _ _ _)) (by rfl) ?_
          exact ⟨rfl, B8.out⟩
theorem rfind_all (tb c : Nat) (a : Option Addr) (L : List Nd) (F : ByteArray → Option Ent) (S : Shares) (name env : ByteArray) (ca : Option Addr) (n cc : Nat) (C : List OT) (secure : Bool) (R : List ByteArray) (w0 w : World) (h : RefFull w0 w tb a c L F S) (hF : TreeIn F) (hns : name.size ≤ 1048576) (hC : CRow w ca C) (hn : C.length = n) (hnl : n ≤ 200000) (hs : ∀ o ∈ C, Sizes o)
    (hRl : R.length ≤ 1099511627776) (hRs : Short R) (hT : ∀ w1, Below w.heap.size w w1 → Calls Tryd.prog 18 #[.agg #[.string name, .slice ca n cc, .string env, .bool secure]] w1 (DirAns R w1)) :
    Calls Tryd.prog 7 #[.pointer (some ⟨tb, 0, none⟩), .agg #[.string name, .slice ca n cc, .string env, .bool secure]] w fun e w' => ROpenPost w0 e (if name = ⟨#[]⟩ then .error 1 else if Lib.indexByte name.data.toList 47 < 0 then findF F S (R.map (pathF name)) else findF F S (slashPaths name (askerF C) secure)) ∧ Below w.heap.size w w' := by
  by_cases hne : name = ⟨#[]⟩
  · rw [if_pos hne]
    subst hne
    exact rfind_name tb env ca n cc secure w0 w
  · rw [if_neg hne]
    by_cases hno : Lib.indexByte name.data.toList 47 < 0
    · rw [if_pos hno]
      exact rfind_dirs tb c a L F S name env ca n cc secure w0 w h hF hne hns hno R hRl hRs hT
    · rw [if_neg hno]
      exact rfind_slash tb c a L F S name env ca n cc C secure w0 w h hF hne hns hno hC hn hnl hs
end Go.Proofs.YtppeapafnnanbaaDoor
