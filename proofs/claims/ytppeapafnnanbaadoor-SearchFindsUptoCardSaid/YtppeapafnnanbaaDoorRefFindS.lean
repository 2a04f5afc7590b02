/- Layer 14, the document's answer: a library's file. -/
import Derived.Test.YtppeapafnnanbaaDoorRefOpenS
import Derived.Test.YtppeapafnnanbaaDoorDirsTwo
import Derived.Test.YtppeapafnnanbaaDoorSearchTree
namespace Go.Proofs.YtppeapafnnanbaaDoor
open Go.RowKit
set_option linter.unusedVariables false
set_option linter.unusedSimpArgs false

theorem rask_info (name env : ByteArray) (ca : Option Addr) (n cc : Nat) (s : Bool) : (Tryd.prog.info? 25).map (·.size) = some (#[.string name, .slice ca n cc, .string env, .bool s] : Array Value).size := by kernel_rfl
theorem seek_root (name d : ByteArray) : rootR ((d ++ slash) ++ name) = seekF name d := by
  unfold rootR seekF
  have hne : ¬ ((d ++ slash) ++ name = ⟨#[]⟩) := by
    intro h
    have := congrArg ByteArray.size h
    rw [ByteArray.size_append, ByteArray.size_append, slash_one] at this
    have h0 : (⟨#[]⟩ : ByteArray).size = 0 := rfl
    omega
  by_cases h : ((d ++ slash) ++ name).get! 0 = 47
  · rw [if_pos h, if_neg (by rintro (e | e); exact hne e; exact e h)]
  · rw [if_neg h, if_pos (.inr h)]
theorem slash_at (s : ByteArray) (hno : Lib.indexByte s.data.toList 47 < 0) : ∀ i, (h : i < s.size) → s[i] ≠ 47 := by
  intro i hi e
  have hge := Lib.indexByte_ge s.data.toList 47
  have := Lib.indexByte_none (show Lib.indexByte s.data.toList 47 = -1 by omega) i
  apply this
  rw [List.getElem?_eq_getElem (by simpa using hi)]
  have h2 : s.data.toList[i]'(by simpa using hi) = s[i] := by simp; rfl
  rw [h2, e]
/-- what is found, by open or not -/
theorem findF_skip {F : ByteArray → Option Ent} {S : Shares} {Q : List ByteArray} {q : ByteArray} {V : Except Nat (ByteArray × Int × Bool × List Nat)} (h : ∀ v, openF F S q = .ok v ↔ V = .ok v) : findF F S (q :: Q) = match (generalizing := false) V with | .ok v => .ok v | .error _ => findF F S Q := by
  rw [findF]
  cases V with
  | ok v => rw [(h v).2 rfl]
  | error n =>
    cases ho : openF F S q with
    | ok v => exact absurd ((h v).1 ho) (by simp)
    | error _ => rfl

set_option maxRecDepth 100000 in
set_option maxHeartbeats 8000000 in
theorem rfind_name (tb : Nat) (env : ByteArray) (ca : Option Addr) (n cc : Nat) (secure : Bool) (w0 w : World) :
    Calls Tryd.prog 7 #[.pointer (some ⟨tb, 0, none⟩), .agg #[.string ⟨#[]⟩, .slice ca n cc, .string env, .bool secure]] w fun e w' => ROpenPost w0 e (.error 1) ∧ Below w.heap.size w w' := by
  obtain ⟨w1, hw1⟩ : ∃ w1, (w.alloc (.cells #[.string ⟨#[]⟩, .slice ca n cc, .string env, .bool secure] 25)).alloc (.cells #[.string ⟨#[]⟩, .int .i64 0, .slice none 0 0, .bool false] 33) = w1 := ⟨_, rfl⟩
  have HW1 := Lib.hid hw1
  obtain ⟨ab, hab⟩ : ∃ ab, w.heap.size = ab := ⟨_, rfl⟩
  obtain ⟨vb, hvb⟩ : ∃ vb, ab + 1 = vb := ⟨_, rfl⟩
  have B1 : Hid (Below w.heap.size w w1) := Lib.hid (by rw [← hw1]; exact ((Below.refl _ _).alloc (Nat.le_refl _) _).alloc (by simp) _)
  have X1 : Hid (w1.heap[ab]? = some (.cells #[.string ⟨#[]⟩, .slice ca n cc, .string env, .bool secure] 25)) := Lib.hid (by rw [← hw1, ← hab]; exact (heap_alloc_old _ _ (by simp)).trans (heap_alloc_new _ _))
  have Y1 : Hid (w1.heap[vb]? = some (.cells #[.string ⟨#[]⟩, .int .i64 0, .slice none 0 0, .bool false] 33)) := Lib.hid (by
    rw [← hw1, ← hvb, ← hab]
    have := heap_alloc_new (w.alloc (.cells #[.string ⟨#[]⟩, .slice ca n cc, .string env, .bool secure] 25)) (.cells #[.string ⟨#[]⟩, .int .i64 0, .slice none 0 0, .bool false] 33)
    simpa using this)
  have HVB : Hid (w.heap.size ≤ vb) := Lib.hid (by omega)
  have c0 : w1.cell? ⟨ab, 0, none⟩ = some (.string ⟨#[]⟩) := by rw [cell_of_row _ _ 0 _ _ _ X1.out]; rfl
  clear hw1
  go_enter Tryd.func7, Tryd.ntmps7
  go_upto_region 1 with fail
  rw [HW1.out]
  try rw [hab]
  try rw [hvb]
  clear hab hvb
  obtain ⟨w8, hw8⟩ : ∃ w8, w1.setRow vb #[.string ⟨#[]⟩, .int .i64 0, .slice none 0 0, .bool false] = w8 := ⟨_, rfl⟩
  have HW8 := Lib.hid hw8
  have Y8 : Hid (w8.heap[vb]? = some (.cells #[.string ⟨#[]⟩, .int .i64 0, .slice none 0 0, .bool false] 33)) := Lib.hid (by rw [← hw8]; exact setRow_heap _ _ _ _ _ _ Y1.out)
  have B8 : Hid (Below w.heap.size w w8) := Lib.hid (by rw [← hw8]; exact below_setRowV B1.out HVB.out)
  clear hw8
  go_wp2_with (refine wpList_store_row rfl 33 _ _ rfl vb #[.string ⟨#[]⟩, .int .i64 0, .slice none 0 0, .bool false] rfl rfl 33 _ Y1.out (file_info _ _ _ _ _ _) rfl (file_one _ _ _ _ _ _) ?_; rw [HW8.out])
  refine bodyPost_ret_by (results_cell2 Tryd.results7 _ _ vb 33 #[.string ⟨#[]⟩, .int .i64 0, .slice none 0 0, .bool false] (0, 0) _ rfl Y8.out Tryd.underlying33 rfl (file_info _ _ _ _ _ _)) (by rfl) ?_
  exact ⟨rfl, B8.out⟩
set_option maxRecDepth 100000 in
set_option maxHeartbeats 16000000 in
theorem rfind_dirs (tb c : Nat) (a : Option Addr) (L : List Nd) (F : ByteArray → Option Ent) (S : Shares) (name env : ByteArray) (ca : Option Addr) (n cc : Nat) (secure : Bool) (w0 w : World) (h : RefFull w0 w tb a c L F S) (hF : TreeIn F) (hne0 : ¬ name = ⟨#[]⟩) (hns : name.size ≤ 1048576) (hno : Lib.indexByte name.data.toList 47 < 0) (R : List ByteArray) (hRl : R.length ≤ 1099511627776) (hRs : Short R) (hT : ∀ w1, Below w.heap.size w w1 → Calls Tryd.prog 18 #[.agg #[.string name, .slice ca n cc, .string env, .bool secure]] w1 (DirAns R w1)) :
    Calls Tryd.prog 7 #[.pointer (some ⟨tb, 0, none⟩), .agg #[.string name, .slice ca n cc, .string env, .bool secure]] w fun e w' => ROpenPost w0 e (findF F S (R.map (pathF name))) ∧ Below w.heap.size w w' := by
  have hne : (name.toList == []) = false := by
    have := text_ne hne0
    rwa [show (⟨#[]⟩ : ByteArray).toList = [] by rw [ByteArray.toList_eq]] at this
  have HNS := Lib.hid hns
  have HTI := Lib.hid hF
  have HRF := Lib.hid h
  have HNO := Lib.hid hno
  have HTD := Lib.hid hT
  obtain ⟨m, hm⟩ : ∃ m, R.length = m := ⟨_, rfl⟩
  have HM := Lib.hid hm
  have HML : Hid (m ≤ 1099511627776) := Lib.hid (by omega)
  have HRS := Lib.hid hRs
  obtain ⟨V, hV⟩ : ∃ V, findF F S (R.map (pathF name)) = V := ⟨_, rfl⟩
  have HV0 : Hid (findF F S ((R.map (pathF name)).drop 0) = V) := Lib.hid hV
  rw [hV]
  clear hV hm hRl hRs hT hno
  obtain ⟨w1, hw1⟩ : ∃ w1, (w.alloc (.cells #[.string name, .slice ca n cc, .string env, .bool secure] 25)).alloc (.cells #[.string ⟨#[]⟩, .int .i64 0, .slice none 0 0, .bool false] 33) = w1 := ⟨_, rfl⟩
  have HW1 := Lib.hid hw1
  obtain ⟨ab, hab⟩ : ∃ ab, w.heap.size = ab := ⟨_, rfl⟩
  obtain ⟨vb, hvb⟩ : ∃ vb, ab + 1 = vb := ⟨_, rfl⟩
  have B1 : Hid (Below w.heap.size w w1) := Lib.hid (by rw [← hw1]; exact ((Below.refl _ _).alloc (Nat.le_refl _) _).alloc (by simp) _)
  have X1 : Hid (w1.heap[ab]? = some (.cells #[.string name, .slice ca n cc, .string env, .bool secure] 25)) := Lib.hid (by rw [← hw1, ← hab]; exact (heap_alloc_old _ _ (by simp)).trans (heap_alloc_new _ _))
  have Y1 : Hid (w1.heap[vb]? = some (.cells #[.string ⟨#[]⟩, .int .i64 0, .slice none 0 0, .bool false] 33)) := Lib.hid (by
    rw [← hw1, ← hvb, ← hab]
    have := heap_alloc_new (w.alloc (.cells #[.string name, .slice ca n cc, .string env, .bool secure] 25)) (.cells #[.string ⟨#[]⟩, .int .i64 0, .slice none 0 0, .bool false] 33)
    simpa using this)
  have HVB : Hid (w.heap.size ≤ vb) := Lib.hid (by omega)
  have c0 : w1.cell? ⟨ab, 0, none⟩ = some (.string name) := by rw [cell_of_row _ _ 0 _ _ _ X1.out]; rfl
  obtain ⟨z, hz⟩ : ∃ z, name.size = z := ⟨_, rfl⟩
  have HZ := Lib.hid hz
  clear hw1 h hF hne0 hns hz
  go_enter Tryd.func7, Tryd.ntmps7
  go_upto_region 1 with fail
  rw [HW1.out]
  try rw [hab]
  try rw [hvb]
  clear hab hvb
  go_wp2_with fail
  clear hne c0
  go_loopg [6, 7] z (fun g sv iv wr => ∃ k : Nat, k + g = z ∧ iv = .int .i64 (k : Int) ∧ sv = .bool false ∧ Hid (Below w1.heap.size w1 wr))
  case atStart => exact ⟨0, by omega, rfl, rfl, Lib.hid (Below.refl _ _)⟩
  case round =>
    obtain ⟨k, hk, rfl, rfl, HB⟩ := hrel
    have HKK := Lib.hid hk
    have XR : Hid (wr.heap[ab]? = some (.cells #[.string name, .slice ca n cc, .string env, .bool secure] 25)) := Lib.hid ((HB.out.block _ (lt_of_block X1.out)).trans X1.out)
    have BR : Hid (Below w.heap.size w wr) := Lib.hid (bstep B1.out HB.out)
    have c0 : wr.cell? ⟨ab, 0, none⟩ = some (.string name) := by rw [cell_of_row _ _ 0 _ _ _ XR.out]; rfl
    cases gk with
    | succ g2 =>
      have hlt : k < z := by omega
      have hks : k < name.size := by rw [HZ.out]; exact hlt
      have hlt2 : (k : Int) < (name.size : Int) := by omega
      have hki : (0 : Int) ≤ (k : Int) := by omega
      have hb : (((name[k]'hks).toNat : Int) == 47) = false := by
        rw [beq_eq_false_iff_ne]
        intro e
        exact slash_at name HNO.out k hks (UInt8.toNat_inj.1 (by show _ = 47; omega))
      clear hk
      go_wp2_with fail
      go_roundg g2
      case measure => have := HKK.out; omega
      case rel => exact ⟨k + 1, by have := HKK.out; omega, (by have := HKK.out; have := HZ.out; have := HNS.out; rw [IntWalk.wrap64_in _ ⟨by omega, by omega⟩]; rfl), rfl, HB⟩
    | zero =>
      have hkz : ¬ (k : Int) < (name.size : Int) := by have := HZ.out; omega
      have hkz0 : k = name.size := by have := HZ.out; omega
      clear hk
      subst hkz0
      have YR : Hid (wr.heap[vb]? = some (.cells #[.string ⟨#[]⟩, .int .i64 0, .slice none 0 0, .bool false] 33)) := Lib.hid ((HB.out.block _ (lt_of_block Y1.out)).trans Y1.out)
      have HI := Lib.hid (rask_info name env ca n cc secure)
      go_wp2_with (refine wpList_load_row rfl 25 _ rfl ab rfl 25 #[.string name, .slice ca n cc, .string env, .bool secure] (0, 0) _ XR.out Tryd.underlying25 rfl HI.out ?_)
      refine (HTD.out wr BR.out).mono ?_
      rintro e w2 ⟨⟨ra, rc, rfl, htr⟩, hb2⟩
      have B2 := Lib.hid (bstep BR.out hb2)
      have TR2 := Lib.hid htr
      have X2 : Hid (w2.heap[ab]? = some (.cells #[.string name, .slice ca n cc, .string env, .bool secure] 25)) := Lib.hid ((hb2.block _ (lt_of_block XR.out)).trans XR.out)
      have Y2 : Hid (w2.heap[vb]? = some (.cells #[.string ⟨#[]⟩, .int .i64 0, .slice none 0 0, .bool false] 33)) := Lib.hid ((hb2.block _ (lt_of_block YR.out)).trans YR.out)
      rw [HM.out]
      clear hb2 htr c0 hkz HKK HB X1 Y1 XR YR BR B1 HTD HW1
      go_wp2_with fail
      go_loopg [14] m (fun g iv wr => ∃ k : Nat, k + g = m ∧ iv = .int .i64 (k : Int) ∧ Hid (findF F S ((R.map (pathF name)).drop k) = V) ∧ Hid (Below w2.heap.size w2 wr))
      case atStart => exact ⟨0, by omega, rfl, HV0, Lib.hid (Below.refl _ _)⟩
      case round =>
        obtain ⟨k, hk, rfl, HG, HB⟩ := hrel
        clear HV0
        have HKK := Lib.hid hk
        have XR : Hid (wr.heap[ab]? = some (.cells #[.string name, .slice ca n cc, .string env, .bool secure] 25)) := Lib.hid ((HB.out.block _ (lt_of_block X2.out)).trans X2.out)
        have YR : Hid (wr.heap[vb]? = some (.cells #[.string ⟨#[]⟩, .int .i64 0, .slice none 0 0, .bool false] 33)) := Lib.hid ((HB.out.block _ (lt_of_block Y2.out)).trans Y2.out)
        have BR : Hid (Below w.heap.size w wr) := Lib.hid (bstep B2.out HB.out)
        cases gk with
        | zero =>
          have hkm : k = m := by omega
          subst hkm
          have HE : Hid (V = .error 17) := Lib.hid (by rw [← HG.out, List.drop_of_length_le (by rw [List.length_map, HM.out]; exact Nat.le_refl _)]; rfl)
          clear hk
          obtain ⟨w8, hw8⟩ : ∃ w8, wr.setRow vb #[.string ⟨#[]⟩, .int .i64 0, .slice none 0 0, .bool false] = w8 := ⟨_, rfl⟩
          have HW8 := Lib.hid hw8
          have Y8 : Hid (w8.heap[vb]? = some (.cells #[.string ⟨#[]⟩, .int .i64 0, .slice none 0 0, .bool false] 33)) := Lib.hid (by rw [← hw8]; exact setRow_heap _ _ _ _ _ _ YR.out)
          have B8 : Hid (Below w.heap.size w w8) := Lib.hid (by rw [← hw8]; exact below_setRowV BR.out HVB.out)
          clear hw8
          go_wp2_with (refine wpList_store_row rfl 33 _ _ rfl vb #[.string ⟨#[]⟩, .int .i64 0, .slice none 0 0, .bool false] rfl rfl 33 _ YR.out (file_info _ _ _ _ _ _) rfl (file_one _ _ _ _ _ _) ?_; rw [HW8.out])
          refine bodyPost_ret_by (results_cell2 Tryd.results7 _ _ vb 33 #[.string ⟨#[]⟩, .int .i64 0, .slice none 0 0, .bool false] (0, 0) _ rfl Y8.out Tryd.underlying33 rfl (file_info _ _ _ _ _ _)) (by rfl) ?_
          rw [HE.out]
          exact ⟨rfl, B8.out⟩
        | succ g2 =>
          have hlt : k < m := by omega
          have hkR : k < R.length := by rw [HM.out]; exact hlt
          obtain ⟨b1, o1, rfl, hbl, p0⟩ := (TR2.out.below HB.out) k hkR
          obtain ⟨d, hd⟩ : ∃ d, R[k]'hkR = d := ⟨_, rfl⟩
          have hg : R.getD k .empty = d := by rw [← hd]; simp [List.getD, hkR]
          rw [hg] at p0
          have hds : d.size ≤ 2199023255552 := by rw [← hd]; exact HRS.out _ (List.getElem_mem hkR)
          have hdr : findF F S ((R.map (pathF name)).drop k) = match openF F S (seekF name d) with | .ok v => .ok v | .error _ => findF F S ((R.map (pathF name)).drop (k + 1)) := by
            rw [List.drop_eq_getElem_cons (by rw [List.length_map]; exact hkR), List.getElem_map, hd]
            exact findF_skip (fun v => (seek_same HTI.out S HNO.out d v).symm)
          have HDR := Lib.hid (HG.out.symm.trans hdr)
          have hsq : ((d ++ (⟨#[47]⟩ : ByteArray)) ++ name).size ≤ 2199024304130 := by
            rw [ByteArray.size_append, ByteArray.size_append]
            have := HNS.out
            show d.size + 1 + name.size ≤ _
            omega
          have hroot : rootR ((d ++ (⟨#[47]⟩ : ByteArray)) ++ name) = seekF name d := seek_root name d
          obtain ⟨U, hU⟩ : ∃ U, openF F S (seekF name d) = U := ⟨_, rfl⟩
          have HUE : Hid (∀ en, U = .error en → en = 30 ∨ en = 16 ∨ en = 6 ∨ en = 15) := Lib.hid (fun en he => openF_err HTI.out.ok (hU.trans he))
          rw [hU] at HDR
          have HOS : Hid (∀ wx, Below wr.heap.size wr wx → Calls Tryd.prog 17 #[.pointer (some ⟨tb, 0, none⟩), .string ((d ++ (⟨#[47]⟩ : ByteArray)) ++ name)] wx fun e w' => SOpenPost w0 e U ∧ Below wx.heap.size wx w') := Lib.hid (fun wx hb => ropenS_any tb _ U w0 wx (by omega) (fun wy hy => by
            have := ropen_any tb c a L F S (rootR ((d ++ (⟨#[47]⟩ : ByteArray)) ++ name)) w0 wy (HRF.out.below (bstep BR.out (bstep hb hy))) HTI.out (by have := rootR_size ((d ++ (⟨#[47]⟩ : ByteArray)) ++ name); omega)
            rw [hroot, hU] at this
            rw [hroot]
            exact this))
          obtain ⟨P, hP⟩ : ∃ P, vP U = P := ⟨_, rfl⟩
          obtain ⟨I, hI⟩ : ∃ I, vI U = I := ⟨_, rfl⟩
          obtain ⟨W, hW⟩ : ∃ W, vS U = W := ⟨_, rfl⟩
          obtain ⟨K, hK⟩ : ∃ K, (vK U == 0) = K := ⟨_, rfl⟩
          have HPS := Lib.hid (And.intro hP (And.intro hI (And.intro hW hK)))
          have HOT : Hid (∀ wx, Below wr.heap.size wr wx → Calls Tryd.prog 17 #[.pointer (some ⟨tb, 0, none⟩), .string ((d ++ (⟨#[47]⟩ : ByteArray)) ++ name)] wx fun e w' => (∃ ad m' c', e = .returned (.tuple #[.agg #[.string P, .int .i64 I, .slice ad m' c', .bool W], .bool K]) ∧ Fits w0 ad m' c' U) ∧ Below wx.heap.size wx w') := Lib.hid (fun wx hb => (HOS.out wx hb).mono (fun e w' h => by
            obtain ⟨⟨ad, m', c', he, hf⟩, h2⟩ := h
            rw [hP, hI, hW, hK] at he
            exact ⟨⟨ad, m', c', he, hf⟩, h2⟩))
          have HWQ : Hid (∀ wx, Below wr.heap.size wr wx → wx.cell? ⟨b1, o1 + k, none⟩ = some (.string d) ∧ wx.cell? ⟨ab, 0, none⟩ = some (.string name)) := Lib.hid (fun wx hb => ⟨(hb.cell (p := ⟨b1, o1 + k, none⟩) hbl).trans p0, by rw [cell_of_row _ _ 0 _ _ _ ((hb.block _ (lt_of_block XR.out)).trans XR.out)]; rfl⟩)
          have z1 : (9223372036854775807 < d.size + 1) = False := eq_false (by omega)
          have z2 : (9223372036854775807 < d.size + 1 + name.size) = False := eq_false (by have := HNS.out; omega)
          have z3 : (9223372036854775807 < (d ++ (⟨#[47]⟩ : ByteArray)).size + name.size) = False := eq_false (by rw [ByteArray.size_append]; have := HNS.out; show ¬ _ < d.size + 1 + name.size; omega)
          have z4 : (9223372036854775807 < d.size + (1 + name.size)) = False := eq_false (by have := HNS.out; omega)
          clear hk hkR hg hds hd hdr hsq hroot hU hP hI hW hK HOS p0 hbl
          go_upto_region 21 with fail
          obtain ⟨c0, c1⟩ := HWQ.out _ (Below.refl _ _)
          have hHW := HWQ.out
          go_region_held3 (fun wx => Below wr.heap.size wr wx) (first | exact (Below.refl _ _).drew | exact bq | exact (fun h => Below.alloc h h.size _) (by assumption) | (rw [EZ.out]; exact below_setRowV bq (Nat.le_refl _)) | exact bq.alloc bq.size _) (first | (go_at_call 17; go_simp; refine (HOT.out _ (by assumption)).mono ?_; rintro e w6 ⟨⟨ad, m', c', rfl, hfit⟩, hb6⟩; have bq : Below wr.heap.size wr w6 := bstep (by assumption) hb6; try (have zz := (hb6.block _ (lt_of_block (heap_alloc_new wr.drew (.cells #[.string ⟨#[]⟩, .int .i64 0, .slice none 0 0, .bool false] 33)))).trans (heap_alloc_new wr.drew (.cells #[.string ⟨#[]⟩, .int .i64 0, .slice none 0 0, .bool false] 33)); obtain ⟨s1, s2, s3, s4, s5, s6, s7, s8⟩ := four_facts (b := wr.heap.size) zz (.string P) (.int .i64 I) (.slice ad m' c'); have EZ := Lib.hid (four_stores (b := wr.heap.size) zz (.string P) (.int .i64 I) (.slice ad m' c') (.bool W)))))
          have q7 := heap_alloc_new w6 (.cells #[.string P, .int .i64 I, .slice ad m' c', .bool W] 33)
          have b7 : Hid (Below wr.heap.size wr (w6.alloc (.cells #[.string P, .int .i64 I, .slice ad m' c', .bool W] 33))) := Lib.hid (bq.alloc bq.size _)
          generalize w6.alloc (.cells #[.string P, .int .i64 I, .slice ad m' c', .bool W] 33) = w7 at q7 b7 ⊢
          generalize w6.heap.size = qb at q7 ⊢
          rotate_left 1
          replace zz : w6.heap[wr.heap.size]? = some (.cells #[.string ⟨#[]⟩, .int .i64 0, .slice none 0 0, .bool false] 33) := zz
          rw [EZ.out]
          have q7 := setRow_heap w6 wr.heap.size _ #[.string P, .int .i64 I, .slice ad m' c', .bool W] _ (0, 0) zz
          have b7 : Hid (Below wr.heap.size wr (w6.setRow wr.heap.size #[.string P, .int .i64 I, .slice ad m' c', .bool W])) := Lib.hid (below_setRowV bq (Nat.le_refl _))
          clear EZ zz s1 s2 s3 s4 s5 s6 s7 s8
          generalize w6.setRow wr.heap.size #[.string P, .int .i64 I, .slice ad m' c', .bool W] = w7 at q7 b7 ⊢
          generalize wr.heap.size = qb at q7 ⊢
          all_goals (
            have Z7 := Lib.hid q7
            have Y7 : Hid (w7.heap[vb]? = some (.cells #[.string ⟨#[]⟩, .int .i64 0, .slice none 0 0, .bool false] 33)) := Lib.hid ((b7.out.block _ (lt_of_block YR.out)).trans YR.out)
            clear q7 hb6 bq c0 c1 hHW HWQ HOT z1 z2 z3 z4
            cases U with
            | error en =>
              have hen := HUE.out en rfl
              have hE : Hid (findF F S ((R.map (pathF name)).drop (k + 1)) = V) := Lib.hid HDR.out.symm
              obtain rfl : K = false := by
                rw [← HPS.out.2.2.2]
                show ((en : Int) == 0) = false
                rw [beq_eq_false_iff_ne]
                omega
              have HN : Hid (Below w2.heap.size w2 w7) := Lib.hid (bstep HB.out b7.out)
              clear hen HDR HPS HUE hfit
              go_wp2_with fail
              go_roundg g2
              case measure => have := HKK.out; omega
              case rel => exact ⟨k + 1, by have := HKK.out; omega, (by have := HML.out; have := HKK.out; rw [IntWalk.wrap64_in _ ⟨by omega, by omega⟩]; rfl), hE, HN⟩
            | ok v =>
              obtain rfl : K = true := HPS.out.2.2.2.symm
              have hE : Hid (V = .ok v) := Lib.hid HDR.out
              have HFT := Lib.hid hfit
              have B7 : Hid (Below w.heap.size w w7) := Lib.hid (bstep BR.out b7.out)
              clear hfit HDR HUE
              obtain ⟨w8, hw8⟩ : ∃ w8, w7.setRow vb #[.string P, .int .i64 I, .slice ad m' c', .bool W] = w8 := ⟨_, rfl⟩
              have HW8 := Lib.hid hw8
              have Y8 : Hid (w8.heap[vb]? = some (.cells #[.string P, .int .i64 I, .slice ad m' c', .bool W] 33)) := Lib.hid (by rw [← hw8]; exact setRow_heap _ _ _ _ _ _ Y7.out)
              have B8 : Hid (Below w.heap.size w w8) := Lib.hid (by rw [← hw8]; exact below_setRowV B7.out HVB.out)
              clear hw8
              go_wp2_with (first | (refine wpList_load_row rfl 33 _ rfl qb rfl 33 #[.string P, .int .i64 I, .slice ad m' c', .bool W] (0, 0) _ Z7.out Tryd.underlying33 rfl (file_info _ _ _ _ _ _) ?_) | (refine wpList_store_row rfl 33 _ _ rfl vb #[.string P, .int .i64 I, .slice ad m' c', .bool W] rfl rfl 33 _ Y7.out (file_info _ _ _ _ _ _) rfl (file_one _ _ _ _ _ _) ?_; rw [HW8.out]))
              refine bodyPost_ret_by (results_cell2 Tryd.results7 _ _ vb 33 #[.string P, .int .i64 I, .slice ad m' c', .bool W] (0, 0) _ rfl Y8.out Tryd.underlying33 rfl (file_info _ _ _ _ _ _)) (by rfl) ?_
              rw [hE.out]
              obtain ⟨p1, p2, p3, -⟩ := HPS.out
              exact ⟨form_ropen (by rw [p1, p2, p3]; rfl) HFT.out, B8.out⟩)
end Go.Proofs.YtppeapafnnanbaaDoor
