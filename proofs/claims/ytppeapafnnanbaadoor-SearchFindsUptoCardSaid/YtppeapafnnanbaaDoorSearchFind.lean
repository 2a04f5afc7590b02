/- Layer 14: a library's file, of the paths at which it may be. -/
import Derived.Test.YtppeapafnnanbaaDoorSearchPaths
import Derived.Test.YtppeapafnnanbaaDoorVfsNew
namespace Go.Proofs.YtppeapafnnanbaaDoor
open Go.RowKit
set_option linter.unusedVariables false
set_option linter.unusedSimpArgs false

/-- the first path that leads to a file -/
def findF (F : ByteArray → Option Ent) (S : Shares) : List ByteArray → Except Nat (ByteArray × Int × Bool × List Nat)
  | [] => .error 17
  | p :: l => match openF F S p with
    | .ok v => .ok v
    | .error _ => findF F S l
theorem errV1v : errV ((1 : Nat) : Int) = .iface 38 (.int .i64 1) := rfl
theorem errV17 : errV ((17 : Nat) : Int) = .iface 38 (.int .i64 17) := rfl
theorem file_info (p : ByteArray) (i : Int) (ad : Option Addr) (m c : Nat) (su : Bool) : (Tryd.prog.info? 33).map (·.size) = some (#[.string p, .int .i64 i, .slice ad m c, .bool su] : Array Value).size := by kernel_rfl
theorem file_one (p : ByteArray) (i : Int) (ad : Option Addr) (m c : Nat) (su : Bool) : (#[.string p, .int .i64 i, .slice ad m c, .bool su] : Array Value).all (·.oneCell') = true := by simp [Value.oneCell']

set_option maxRecDepth 100000 in
set_option maxHeartbeats 8000000 in
theorem find_name (tb : Nat) (env : ByteArray) (ca : Option Addr) (n cc : Nat) (secure : Bool) (w : World) :
    Calls Tryd.prog 6 #[.pointer (some ⟨tb, 0, none⟩), .agg #[.string ⟨#[]⟩, .slice ca n cc, .string env, .bool secure]] w fun e w' => e = .returned (.tuple #[.agg #[.string ⟨#[]⟩, .int .i64 0, .slice none 0 0, .bool false], errV ((1 : Nat) : Int)]) ∧ Below w.heap.size w w' := by
  rw [errV1v]
  obtain ⟨w1, hw1⟩ : ∃ w1, (w.alloc (.cells #[.string ⟨#[]⟩, .slice ca n cc, .string env, .bool secure] 25)).alloc (.cells #[.string ⟨#[]⟩, .int .i64 0, .slice none 0 0, .bool false] 33) = w1 := ⟨_, rfl⟩
  have HW1 := Lib.hid hw1
  obtain ⟨ab, hab⟩ : ∃ ab, w.heap.size = ab := ⟨_, rfl⟩
  obtain ⟨vb, hvb⟩ : ∃ vb, ab + 1 = vb := ⟨_, rfl⟩
  have B1 : Hid (Below w.heap.size w w1) := Lib.hid (by rw [← hw1]; exact ((Below.refl _ _).alloc (Nat.le_refl _) _).alloc (by simp) _)
  have X1 : Hid (w1.heap[ab]? = some (.cells #[.string ⟨#[]⟩, .slice ca n cc, .string env, .bool secure] 25)) := Lib.hid (by rw [← hw1, ← hab]; exact (heap_alloc_old _ _ (by simp)).trans (heap_alloc_new _ _))
  have Y1 : Hid (w1.heap[vb]? = some (.cells #[.string ⟨#[]⟩, .int .i64 0, .slice none 0 0, .bool false] 33)) := Lib.hid (by
    rw [← hw1, ← hvb, ← hab]
    have := heap_alloc_new (w.alloc (.cells #[.string ⟨#[]⟩, .slice ca n cc, .string env, .bool secure] 25)) (.cells #[.string ⟨#[]⟩, .int .i64 0, .slice none 0 0, .bool false] 33)
    simpa using this)
  have c0 : w1.cell? ⟨ab, 0, none⟩ = some (.string ⟨#[]⟩) := by rw [cell_of_row _ _ 0 _ _ _ X1.out]; rfl
  obtain ⟨w8, hw8⟩ : ∃ w8, w1.setRow vb #[.string ⟨#[]⟩, .int .i64 0, .slice none 0 0, .bool false] = w8 := ⟨_, rfl⟩
  have HW8 := Lib.hid hw8
  have Y8 : Hid (w8.heap[vb]? = some (.cells #[.string ⟨#[]⟩, .int .i64 0, .slice none 0 0, .bool false] 33)) := Lib.hid (by rw [← hw8]; exact setRow_heap _ _ _ _ _ _ Y1.out)
  have B8 : Hid (Below w.heap.size w w8) := Lib.hid (by rw [← hw8]; exact below_setRowV B1.out (by omega))
  have HAB := Lib.hid hab
  clear hw1 hw8
  go_enter Tryd.func6, Tryd.ntmps6
  go_upto_region 1 with fail
  rw [HW1.out]
  try rw [hab]
  try rw [hvb]
  go_wp2_with (refine wpList_store_row rfl 33 _ _ rfl vb #[.string ⟨#[]⟩, .int .i64 0, .slice none 0 0, .bool false] rfl rfl 33 _ Y1.out (file_info _ _ _ _ _ _) rfl (file_one _ _ _ _ _ _) ?_; rw [HW8.out])
  refine bodyPost_ret_by (results_cell2 Tryd.results6 _ _ vb 33 #[.string ⟨#[]⟩, .int .i64 0, .slice none 0 0, .bool false] (0, 0) _ rfl Y8.out Tryd.underlying33 rfl (file_info _ _ _ _ _ _)) (by rfl) ?_
  exact ⟨rfl, B8.out⟩

set_option maxRecDepth 100000 in
set_option maxHeartbeats 8000000 in
theorem find_any (tb g c : Nat) (F : ByteArray → Option Ent) (S : Shares) (name env : ByteArray) (ca : Option Addr) (n cc : Nat) (secure : Bool) (Q : List ByteArray) (w : World) (h : TreeAt w tb g c F) (hS : ShAt w F S) (hF : TreeIn F) (hnm : ¬ name = ⟨#[]⟩)
    (hP : ∀ w1, Below w.heap.size w w1 → Calls Tryd.prog 14 #[.agg #[.string name, .slice ca n cc, .string env, .bool secure]] w1 (PathsAns Q w1)) (hQl : Q.length ≤ 1099511627776) (hQs : ∀ q ∈ Q, q.size ≤ 140737488355328) :
    Calls Tryd.prog 6 #[.pointer (some ⟨tb, 0, none⟩), .agg #[.string name, .slice ca n cc, .string env, .bool secure]] w fun e w' => OpenPost w e w' (findF F S Q) ∧ Below w.heap.size w w' := by
  have hne : (name.toList == []) = false := by
    have := text_ne hnm
    rwa [show (⟨#[]⟩ : ByteArray).toList = [] by rw [ByteArray.toList_eq]] at this
  obtain ⟨w1, hw1⟩ : ∃ w1, (w.alloc (.cells #[.string name, .slice ca n cc, .string env, .bool secure] 25)).alloc (.cells #[.string ⟨#[]⟩, .int .i64 0, .slice none 0 0, .bool false] 33) = w1 := ⟨_, rfl⟩
  have HW1 := Lib.hid hw1
  obtain ⟨ab, hab⟩ : ∃ ab, w.heap.size = ab := ⟨_, rfl⟩
  obtain ⟨vb, hvb⟩ : ∃ vb, ab + 1 = vb := ⟨_, rfl⟩
  have B1 : Hid (Below w.heap.size w w1) := Lib.hid (by rw [← hw1]; exact ((Below.refl _ _).alloc (Nat.le_refl _) _).alloc (by simp) _)
  have X1 : Hid (w1.heap[ab]? = some (.cells #[.string name, .slice ca n cc, .string env, .bool secure] 25)) := Lib.hid (by rw [← hw1, ← hab]; exact (heap_alloc_old _ _ (by simp)).trans (heap_alloc_new _ _))
  have Y1 : Hid (w1.heap[vb]? = some (.cells #[.string ⟨#[]⟩, .int .i64 0, .slice none 0 0, .bool false] 33)) := Lib.hid (by
    rw [← hw1, ← hvb, ← hab]
    have := heap_alloc_new (w.alloc (.cells #[.string name, .slice ca n cc, .string env, .bool secure] 25)) (.cells #[.string ⟨#[]⟩, .int .i64 0, .slice none 0 0, .bool false] 33)
    simpa using this)
  have c0 : w1.cell? ⟨ab, 0, none⟩ = some (.string name) := by rw [cell_of_row _ _ 0 _ _ _ X1.out]; rfl
  have HI : Hid ((Tryd.prog.info? 25).map (·.size) = some (#[.string name, .slice ca n cc, .string env, .bool secure] : Array Value).size) := Lib.hid (by kernel_rfl)
  have HPA := Lib.hid hP
  have HT := Lib.hid h
  have HSH := Lib.hid hS
  have HTI := Lib.hid hF
  obtain ⟨m, hm⟩ : ∃ m, Q.length = m := ⟨_, rfl⟩
  have HM := Lib.hid hm
  have HML : Hid (m ≤ 1099511627776) := Lib.hid (by omega)
  have HQS := Lib.hid hQs
  obtain ⟨R, hR⟩ : ∃ R, findF F S Q = R := ⟨_, rfl⟩
  have HR0 : Hid (findF F S (Q.drop 0) = R) := Lib.hid hR
  rw [hR]
  have HAB := Lib.hid hab
  have HVB : Hid (w.heap.size ≤ vb) := Lib.hid (by omega)
  clear hw1 h hS hF hnm hP hQl hQs hm hR
  go_enter Tryd.func6, Tryd.ntmps6
  go_upto_region 1 with fail
  rw [HW1.out]
  try rw [hab]
  try rw [hvb]
  go_wp2_with (refine wpList_load_row rfl 25 _ rfl ab rfl 25 #[.string name, .slice ca n cc, .string env, .bool secure] (0, 0) _ X1.out Tryd.underlying25 rfl HI.out ?_)
  refine (HPA.out w1 B1.out).mono ?_
  rintro e w2 ⟨⟨qa, qc, rfl, htr⟩, hb2⟩
  have B2 := Lib.hid (bstep B1.out hb2)
  have TR2 := Lib.hid htr
  have Y2 : Hid (w2.heap[vb]? = some (.cells #[.string ⟨#[]⟩, .int .i64 0, .slice none 0 0, .bool false] 33)) := Lib.hid ((hb2.block _ (lt_of_block Y1.out)).trans Y1.out)
  rw [HM.out]
  clear hb2 htr c0 B1 X1 Y1 HPA hne
  clear hab hvb
  go_wp2_with fail
  go_loopg [22] m (fun g iv wr => ∃ k : Nat, k + g = m ∧ iv = .int .i64 (k : Int) ∧ Hid (findF F S (Q.drop k) = R) ∧ Hid (Below w2.heap.size w2 wr))
  case atStart => exact ⟨0, by omega, rfl, HR0, Lib.hid (Below.refl _ _)⟩
  case round =>
    obtain ⟨k, hk, rfl, HG, HB⟩ := hrel
    clear HR0
    have HKK := Lib.hid hk
    have YR : Hid (wr.heap[vb]? = some (.cells #[.string ⟨#[]⟩, .int .i64 0, .slice none 0 0, .bool false] 33)) := Lib.hid ((HB.out.block _ (lt_of_block Y2.out)).trans Y2.out)
    have BR : Hid (Below w.heap.size w wr) := Lib.hid (bstep B2.out HB.out)
    cases gk with
    | zero =>
      have hkm : k = m := by omega
      subst hkm
      have HE : Hid (R = .error 17) := Lib.hid (by rw [← HG.out, List.drop_of_length_le (by rw [HM.out]; exact Nat.le_refl _)]; rfl)
      obtain ⟨w8, hw8⟩ : ∃ w8, wr.setRow vb #[.string ⟨#[]⟩, .int .i64 0, .slice none 0 0, .bool false] = w8 := ⟨_, rfl⟩
      have HW8 := Lib.hid hw8
      have Y8 : Hid (w8.heap[vb]? = some (.cells #[.string ⟨#[]⟩, .int .i64 0, .slice none 0 0, .bool false] 33)) := Lib.hid (by rw [← hw8]; exact setRow_heap _ _ _ _ _ _ YR.out)
      have B8 : Hid (Below w.heap.size w w8) := Lib.hid (by rw [← hw8]; exact below_setRowV BR.out HVB.out)
      clear hk hw8
      go_wp2_with (refine wpList_store_row rfl 33 _ _ rfl vb #[.string ⟨#[]⟩, .int .i64 0, .slice none 0 0, .bool false] rfl rfl 33 _ YR.out (file_info _ _ _ _ _ _) rfl (file_one _ _ _ _ _ _) ?_; rw [HW8.out])
      refine bodyPost_ret_by (results_cell2 Tryd.results6 _ _ vb 33 #[.string ⟨#[]⟩, .int .i64 0, .slice none 0 0, .bool false] (0, 0) _ rfl Y8.out Tryd.underlying33 rfl (file_info _ _ _ _ _ _)) (by rfl) ?_
      rw [HE.out]
      exact ⟨rfl, B8.out⟩
    | succ g2 =>
      have hlt : k < m := by omega
      have hkQ : k < Q.length := by rw [HM.out]; exact hlt
      obtain ⟨b1, o1, rfl, hbl, p0⟩ := (TR2.out.below HB.out) k hkQ
      obtain ⟨q, hq⟩ : ∃ q, Q[k]'hkQ = q := ⟨_, rfl⟩
      have hg : Q.getD k .empty = q := by rw [← hq]; simp [List.getD, hkQ]
      rw [hg] at p0
      have hqs : q.size ≤ 140737488355328 := by rw [← hq]; exact HQS.out _ (List.getElem_mem hkQ)
      have HOP := Lib.hid (open_any tb g c F S q wr (HT.out.below BR.out) (HSH.out.below BR.out) HTI.out hqs)
      have hdr : findF F S (Q.drop k) = match openF F S q with | .ok v => .ok v | .error _ => findF F S (Q.drop (k + 1)) := by
        rw [List.drop_eq_getElem_cons hkQ, hq, findF]
      have HDR := Lib.hid (HG.out.symm.trans hdr)
      clear hk hkQ hg hqs hq hdr
      go_wp2_with fail
      refine HOP.out.mono ?_
      rintro e w3 ⟨hpost, hb3⟩
      have B3 := Lib.hid (bstep BR.out hb3)
      have Y3 : Hid (w3.heap[vb]? = some (.cells #[.string ⟨#[]⟩, .int .i64 0, .slice none 0 0, .bool false] 33)) := Lib.hid ((hb3.block _ (lt_of_block YR.out)).trans YR.out)
      have BX3 := Lib.hid (bstep HB.out hb3)
      have HS3 : Hid (wr.heap.size ≤ w3.heap.size) := Lib.hid hb3.size
      clear hb3
      cases ho : openF F S q with
      | error en =>
        rw [ho] at hpost
        have he := openF_err HTI.out.ok ho
        have hE : Hid (findF F S (Q.drop (k + 1)) = R) := Lib.hid (by have := HDR.out; rw [ho] at this; exact this.symm)
        obtain rfl : e = _ := hpost
        rw [errV_yes (by omega)]
        have HN : Hid (Below w2.heap.size w2 (w3.alloc (.cells #[.string ⟨#[]⟩, .int .i64 0, .slice none 0 0, .bool false] 33))) := Lib.hid (BX3.out.alloc BX3.out.size _)
        clear he ho HDR
        go_wp2_with fail
        go_roundg g2
        case measure => have := HKK.out; omega
        case rel => exact ⟨k + 1, by have := HKK.out; omega, by have := HML.out; rw [IntWalk.wrap64_in _ ⟨by omega, by omega⟩]; rfl, hE, HN⟩
      | ok v =>
        obtain ⟨fp, fi, fs, fb⟩ := v
        rw [ho] at hpost
        have hE : Hid (R = .ok (fp, fi, fs, fb)) := Lib.hid (by have := HDR.out; rw [ho] at this; exact this)
        obtain ⟨fa, fc, rfl, hown⟩ := hpost
        have HOW := Lib.hid hown
        obtain ⟨fm, hfm⟩ : ∃ fm, fb.length = fm := ⟨_, rfl⟩
        have HFM := Lib.hid hfm
        rw [hfm] at HOW ⊢
        obtain ⟨w4, hw4⟩ : ∃ w4, w3.alloc (.cells #[.string fp, .int .i64 fi, .slice fa fm fc, .bool fs] 33) = w4 := ⟨_, rfl⟩
        have HW4 := Lib.hid hw4
        have B4 : Hid (Below w.heap.size w w4) := Lib.hid (by rw [← hw4]; exact B3.out.alloc B3.out.size _)
        have Z4 : Hid (w4.heap[w3.heap.size]? = some (.cells #[.string fp, .int .i64 fi, .slice fa fm fc, .bool fs] 33)) := Lib.hid (by rw [← hw4]; exact heap_alloc_new _ _)
        have Y4 : Hid (w4.heap[vb]? = some (.cells #[.string ⟨#[]⟩, .int .i64 0, .slice none 0 0, .bool false] 33)) := Lib.hid (by rw [← hw4]; exact (heap_alloc_old _ _ (lt_of_block Y3.out)).trans Y3.out)
        have O4 : Hid (OwnI w4 wr.heap.size 5 .u8 (.slice fa fm fc) (toI fb)) := Lib.hid (by rw [← hw4]; exact HOW.out.allocO _)
        obtain ⟨w8, hw8⟩ : ∃ w8, w4.setRow vb #[.string fp, .int .i64 fi, .slice fa fm fc, .bool fs] = w8 := ⟨_, rfl⟩
        have HW8 := Lib.hid hw8
        have Y8 : Hid (w8.heap[vb]? = some (.cells #[.string fp, .int .i64 fi, .slice fa fm fc, .bool fs] 33)) := Lib.hid (by rw [← hw8]; exact setRow_heap _ _ _ _ _ _ Y4.out)
        have B8 : Hid (Below w.heap.size w w8) := Lib.hid (by rw [← hw8]; exact below_setRowV B4.out HVB.out)
        have O8 : Hid (OwnI w8 w.heap.size 5 .u8 (.slice fa fm fc) (toI fb)) := Lib.hid (by
          rw [← hw8]
          have hvr := lt_of_block YR.out
          exact (O4.out.keepAt (fun g h1 h2 => setRow_other _ _ _ _ (by omega))).mono BR.out.size)
        clear hown hfm hw4 hw8 ho HDR
        go_upto_region 8 with fail
        rw [HW4.out]
        go_wp2_with (first | (refine wpList_load_row rfl 33 _ rfl w3.heap.size rfl 33 #[.string fp, .int .i64 fi, .slice fa fm fc, .bool fs] (0, 0) _ Z4.out Tryd.underlying33 rfl (file_info _ _ _ _ _ _) ?_) | (refine wpList_store_row rfl 33 _ _ rfl vb #[.string fp, .int .i64 fi, .slice fa fm fc, .bool fs] rfl rfl 33 _ Y4.out (file_info _ _ _ _ _ _) rfl (file_one _ _ _ _ _ _) ?_; rw [HW8.out]))
        refine bodyPost_ret_by (results_cell2 Tryd.results6 _ _ vb 33 #[.string fp, .int .i64 fi, .slice fa fm fc, .bool fs] (0, 0) _ rfl Y8.out Tryd.underlying33 rfl (file_info _ _ _ _ _ _)) (by rfl) ?_
        rw [hE.out]
        exact ⟨⟨fa, fc, by rw [HFM.out]; rfl, by rw [HFM.out]; exact O8.out⟩, B8.out⟩
end Go.Proofs.YtppeapafnnanbaaDoor
