/- Layer 14: the law SearchFinds. -/
import Derived.Test.YtppeapafnnanbaaDoorSearchTree2
import Derived.Test.YtppeapafnnanbaaDoorRefFindG
import Derived.Test.YtppeapafnnanbaaDoorSearchUp
import Derived.Laws.BytesArg
import Derived.BigQuiet
namespace Go.Proofs.YtppeapafnnanbaaDoor
open Go.RowKit
set_option linter.unusedVariables false
set_option linter.unusedSimpArgs false

theorem conv_file (w : World) (ad : Option Addr) (m c : Nat) (bs : List Nat) (hl : m = bs.length) (h : Row .u8 w ad (toI bs)) : (convert 31 9 (.slice ad m c)).run Tryd.prog w = .ok (.string (strOfNums (toI bs))) w := by
  cases ad with
  | none =>
    have h0 : bs = [] := by
      cases bs with
      | nil => rfl
      | cons x xs =>
        obtain ⟨b, o, e, -⟩ := h 0 (by simp [toI])
        cases e
    subst h0
    exact run_convert_bytes_nil (P := Tryd.prog) w 31 5 Tryd.underlying31 Tryd.underlying5 _ _ 9 Tryd.underlying9
  | some a =>
    obtain ⟨b, o, s⟩ := a
    subst hl
    by_cases hz : bs = []
    · subst hz
      have h0 : ∀ i, i < 0 → w.cell? ⟨b, o + i, none⟩ = some (.int .u8 ((toI []).getD i 0)) := fun i hi => by omega
      rw [run_convert_bytes_string w 31 9 5 _ _ _ Tryd.underlying31 Tryd.underlying5 Tryd.underlying9]
      rfl
    · have hs : s = none := by
        obtain ⟨b', o', e, -⟩ := h 0 (by rw [toI_length]; exact List.length_pos_iff.2 hz)
        cases e
        rfl
      subst hs
      refine run_convert_bytes_arg (P := Tryd.prog) w 31 5 Tryd.underlying31 Tryd.underlying5 b o bs.length c (toI bs) (toI_length bs) (fun i hi => ?_) 9 Tryd.underlying9
      obtain ⟨b', o', e, hc⟩ := h i (by rw [toI_length]; exact hi)
      cases e
      exact hc
def vB : Except Nat (ByteArray × Int × Bool × List Nat) → List Nat | .error _ => [] | .ok v => v.2.2.2
def vE : Except Nat (ByteArray × Int × Bool × List Nat) → Value | .error n => errV (n : Int) | .ok _ => .nilIface
theorem open_told {w w' : World} {e : Ending} : ∀ {V : Except Nat (ByteArray × Int × Bool × List Nat)}, OpenPost w e w' V → ∃ ad m c, e = .returned (.tuple #[.agg #[.string (vP V), .int .i64 (vI V), .slice ad m c, .bool (vS V)], vE V]) ∧ m = (vB V).length ∧ Row .u8 w' ad (toI (vB V))
  | .error n, h => ⟨none, 0, 0, h, rfl, fun i hi => by cases hi⟩
  | .ok (p, i, su, bs), h => by
    obtain ⟨ad, c, he, ho⟩ := h
    exact ⟨ad, bs.length, c, he, rfl, ho.at.2.1⟩
theorem ropen_told {w0 : World} {e : Ending} : ∀ {V : Except Nat (ByteArray × Int × Bool × List Nat)}, ROpenPost w0 e V → ∃ ad m c, e = .returned (.tuple #[.agg #[.string (vP V), .int .i64 (vI V), .slice ad m c, .bool (vS V)], .int .i64 (vK V)]) ∧ m = (vB V).length ∧ Row .u8 w0 ad (toI (vB V))
  | .error n, h => ⟨none, 0, 0, h, rfl, fun i hi => by cases hi⟩
  | .ok (p, i, su, bs), h => by
    obtain ⟨ad, c, he, hr⟩ := h
    exact ⟨ad, bs.length, c, he, rfl, hr⟩
theorem code_told {V : Except Nat (ByteArray × Int × Bool × List Nat)} (hV : ∀ k, V = .error k → k ≤ 30) (wx : World) : Calls Tryd.prog 8 #[vE V] wx fun e w' => e = .returned (.int .i64 (vK V)) ∧ wx = w' := by
  cases V with
  | error k => exact code_any (k : Int) wx (by omega) (by have := hV k rfl; omega)
  | ok v => exact code_nil wx
theorem findF_17 {F : ByteArray → Option Ent} {S : Shares} : ∀ {Q : List ByteArray} {n : Nat}, findF F S Q = .error n → n = 17
  | [], n, h => by cases h; rfl
  | p :: l, n, h => by
    unfold findF at h
    split at h
    · cases h
    · exact findF_17 h
set_option maxRecDepth 100000 in
set_option maxHeartbeats 8000000 in
theorem find_nil (name env : ByteArray) (ca : Option Addr) (n cc : Nat) (secure : Bool) (w : World) :
    Calls Tryd.prog 6 #[.pointer none, .agg #[.string name, .slice ca n cc, .string env, .bool secure]] w fun e w' => e = .returned (.tuple #[.agg #[.string ⟨#[]⟩, .int .i64 0, .slice none 0 0, .bool false], errV ((1 : Nat) : Int)]) ∧ Below w.heap.size w w' := by
  rw [errV1v]
  obtain ⟨w1, hw1⟩ : ∃ w1, (w.alloc (.cells #[.string name, .slice ca n cc, .string env, .bool secure] 25)).alloc (.cells #[.string ⟨#[]⟩, .int .i64 0, .slice none 0 0, .bool false] 33) = w1 := ⟨_, rfl⟩
  have HW1 := Lib.hid hw1
  obtain ⟨ab, hab⟩ : ∃ ab, w.heap.size = ab := ⟨_, rfl⟩
  obtain ⟨vb, hvb⟩ : ∃ vb, ab + 1 = vb := ⟨_, rfl⟩
  have B1 : Hid (Below w.heap.size w w1) := Lib.hid (by rw [← hw1]; exact ((Below.refl _ _).alloc (Nat.le_refl _) _).alloc (by simp) _)
  have Y1 : Hid (w1.heap[vb]? = some (.cells #[.string ⟨#[]⟩, .int .i64 0, .slice none 0 0, .bool false] 33)) := Lib.hid (by
    rw [← hw1, ← hvb, ← hab]
    have := heap_alloc_new (w.alloc (.cells #[.string name, .slice ca n cc, .string env, .bool secure] 25)) (.cells #[.string ⟨#[]⟩, .int .i64 0, .slice none 0 0, .bool false] 33)
    simpa using this)
  obtain ⟨w8, hw8⟩ : ∃ w8, w1.setRow vb #[.string ⟨#[]⟩, .int .i64 0, .slice none 0 0, .bool false] = w8 := ⟨_, rfl⟩
  have HW8 := Lib.hid hw8
  have Y8 : Hid (w8.heap[vb]? = some (.cells #[.string ⟨#[]⟩, .int .i64 0, .slice none 0 0, .bool false] 33)) := Lib.hid (by rw [← hw8]; exact setRow_heap _ _ _ _ _ _ Y1.out)
  have B8 : Hid (Below w.heap.size w w8) := Lib.hid (by rw [← hw8]; exact below_setRowV B1.out (by omega))
  clear hw1 hw8
  go_enter Tryd.func6, Tryd.ntmps6
  go_upto_region 1 with fail
  rw [HW1.out]
  try rw [hab]
  try rw [hvb]
  go_wp2_with (refine wpList_store_row rfl 33 _ _ rfl vb #[.string ⟨#[]⟩, .int .i64 0, .slice none 0 0, .bool false] rfl rfl 33 _ Y1.out (file_info _ _ _ _ _ _) rfl (file_one _ _ _ _ _ _) ?_; rw [HW8.out])
  refine bodyPost_ret_by (results_cell2 Tryd.results6 _ _ vb 33 #[.string ⟨#[]⟩, .int .i64 0, .slice none 0 0, .bool false] (0, 0) _ rfl Y8.out Tryd.underlying33 rfl (file_info _ _ _ _ _ _)) (by rfl) ?_
  exact ⟨rfl, B8.out⟩

set_option maxRecDepth 100000 in
set_option maxHeartbeats 16000000 in
theorem searchFinds_at (a : Option Addr) (nl cap : Nat) (L : List Nd) (D : Nat → List Nat) (name env : ByteArray) (ca : Option Addr) (n cc : Nat) (C : List OT) (secure : Bool) (w : World) (hr : NdRow w a L) (hln : L.length = nl) (hlnl : nl ≤ 140737488351232) (hD : ∀ i, (hi : i < L.length) → NdOk w L[i] (D i))
    (hns : name.size ≤ 1048576) (hC : CRow w ca C) (hn : C.length = n) (hnl : n ≤ 200000) (hnc : n ≤ cc) (hcn : ca = none → cc = 0) (hs : ∀ o ∈ C, Sizes o) (he : env.size ≤ 1048576) :
    Calls Tryd.prog 3 #[.slice a nl cap, .agg #[.string name, .slice ca n cc, .string env, .bool secure]] w fun e w' => e = .returned (.bool true) ∧ Below w.heap.size w w' := by
  have HUP := Lib.hid (fun (w1 : World) => up_true w1)
  have HEQ := Lib.hid run_eql_code
  obtain ⟨R, hRs, hRl, hRP, hRR⟩ := dirs_both name env ca n cc C secure w hC hn hnl hnc hcn hs he
  have HTR : Hid (∀ wx, Below w.heap.size w wx → Calls Tryd.prog 5 #[.slice a nl cap] wx fun e w' => TreePost2 e w' ∧ Below wx.heap.size wx w') := Lib.hid (fun wx hb => tree2_any a nl cap L D wx (hr.below hb) hln hlnl (fun i hi => (hD i hi).below hb))
  have HFN : Hid (∀ wx F S tb g c, Below w.heap.size w wx → TreeAt wx tb g c F → ShAt wx F S → TreeIn F → ∃ V : Except Nat (ByteArray × Int × Bool × List Nat), (∀ k, V = .error k → k ≤ 30) ∧ (∀ wy, Below wx.heap.size wx wy → Calls Tryd.prog 6 #[.pointer (some ⟨tb, 0, none⟩), .agg #[.string name, .slice ca n cc, .string env, .bool secure]] wy fun e w' => OpenPost wy e w' V ∧ Below wy.heap.size wy w') ∧
      ∀ rb ra rc L2, RefFull wx wx rb ra rc L2 F S → ∀ wy, Below wx.heap.size wx wy → Calls Tryd.prog 7 #[.pointer (some ⟨rb, 0, none⟩), .agg #[.string name, .slice ca n cc, .string env, .bool secure]] wy fun e w' => ROpenPost wx e V ∧ Below wy.heap.size wy w') := Lib.hid (fun wx F S tb g c hb h1 h2 h3 => by
    refine ⟨if name = ⟨#[]⟩ then .error 1 else if Lib.indexByte name.data.toList 47 < 0 then findF F S (R.map (pathF name)) else findF F S (slashPaths name (askerF C) secure), ?_, ?_, ?_⟩
    · intro k hk
      split at hk
      · cases hk; omega
      · split at hk
        · have := findF_17 hk; omega
        · have := findF_17 hk; omega
    · intro wy hy
      by_cases hnm : name = ⟨#[]⟩
      · rw [if_pos hnm]
        subst hnm
        exact find_name tb env ca n cc secure wy
      · rw [if_neg hnm]
        by_cases hno : Lib.indexByte name.data.toList 47 < 0
        · rw [if_pos hno]
          exact find_any tb g c F S name env ca n cc secure (R.map (pathF name)) wy (h1.below hy) (h2.below hy) h3 hnm (fun w1 hb1 => paths_dirs name env ca n cc secure R w1 hno hns hRl hRs (fun w2 hb2 => hRP w2 (bstep hb (bstep hy (bstep hb1 hb2))))) (by rw [List.length_map]; exact hRl) (fun q hq => by
            obtain ⟨d, hd, rfl⟩ := List.mem_map.1 hq
            have := pathF_size name d
            have := hRs d hd
            omega)
        · rw [if_neg hno]
          refine find_any tb g c F S name env ca n cc secure (slashPaths name (askerF C) secure) wy (h1.below hy) (h2.below hy) h3 hnm (fun w1 hb1 => paths_slash name env ca n cc C secure w1 hno hns (hC.below (bstep hb (bstep hy hb1))) hn hnl hs) ?_ ?_
          · unfold slashPaths
            split <;> simp
          · intro q hq
            unfold slashPaths at hq
            split at hq
            · cases hq
            · rw [List.mem_singleton] at hq
              subst hq
              have h1 := rootedF_size (mkT (expF name (askerF C)).1)
              have h2 : (mkT (expF name (askerF C)).1).size = (expF name (askerF C)).1.length := by show Array.size (List.toArray _) = _; simp
              have hos : (askerF C).size ≤ 1048576 := by
                unfold askerF
                split
                · decide
                · exact (hs _ (by simp)).p
              have h3 := expF_len name (askerF C)
              have h4 : name.size * ((askerF C).size + 8) ≤ 1048576 * (1048576 + 8) := Nat.mul_le_mul hns (by omega)
              omega
    · intro rb ra rc L2 hf wy hy
      exact rfind_all rb rc ra L2 F S name env ca n cc C secure R wx wy (hf.below hy) h3 hns (hC.below (bstep hb hy)) hn hnl hs hRl hRs (fun w2 hb2 => hRR w2 (bstep hb (bstep hy hb2))))
  have HFZ := Lib.hid (fun (wx : World) => find_nil name env ca n cc secure wx)
  obtain ⟨w1, hw1⟩ : ∃ w1, w.alloc (.cells #[.string name, .slice ca n cc, .string env, .bool secure] 25) = w1 := ⟨_, rfl⟩
  have HW1 := Lib.hid hw1
  obtain ⟨ab, hab⟩ : ∃ ab, w.heap.size = ab := ⟨_, rfl⟩
  have B1 : Hid (Below w.heap.size w w1) := Lib.hid (by rw [← hw1]; exact (Below.refl _ _).alloc (Nat.le_refl _) _)
  have X1 : Hid (w1.heap[ab]? = some (.cells #[.string name, .slice ca n cc, .string env, .bool secure] 25)) := Lib.hid (by rw [← hw1, ← hab]; exact heap_alloc_new _ _)
  have HI := Lib.hid (rask_info name env ca n cc secure)
  clear hw1 hr hln hlnl hD hns hC hn hnl hnc hcn hs hRl hRs hRP hRR he
  go_enter Tryd.func3, Tryd.ntmps3
  go_upto_region 1 with fail
  rw [HW1.out]
  try rw [hab]
  clear hab
  go_wp2_with fail
  refine (HUP.out w1).mono ?_
  rintro e w2 ⟨rfl, hb2⟩
  have B2 := Lib.hid (bstep B1.out hb2)
  have X2 : Hid (w2.heap[ab]? = some (.cells #[.string name, .slice ca n cc, .string env, .bool secure] 25)) := Lib.hid ((hb2.block _ (lt_of_block X1.out)).trans X1.out)
  clear hb2
  go_wp2_with fail
  refine (HTR.out w2 B2.out).mono ?_
  rintro e w3 ⟨hp, hb3⟩
  have B3 := Lib.hid (bstep B2.out hb3)
  have X3 : Hid (w3.heap[ab]? = some (.cells #[.string name, .slice ca n cc, .string env, .bool secure] 25)) := Lib.hid ((hb3.block _ (lt_of_block X2.out)).trans X2.out)
  clear hb3
  rcases hp with rfl | ⟨tb, gm, tc, rb, ra, rc, L2, F, S, rfl, h1, h2, h3, h4⟩
  · go_wp2_with (refine wpList_load_row rfl 25 _ rfl ab rfl 25 #[.string name, .slice ca n cc, .string env, .bool secure] (0, 0) _ X3.out Tryd.underlying25 rfl HI.out ?_)
    refine (HFZ.out w3).mono ?_
    rintro e w4 ⟨rfl, hb4⟩
    rw [errV1v]
    have B4 : Hid (Below w.heap.size w (w4.alloc (.cells #[.string ⟨#[]⟩, .int .i64 0, .slice none 0 0, .bool false] 33))) := Lib.hid ((bstep B3.out hb4).alloc (bstep B3.out hb4).size _)
    have heq := HEQ.out
    clear hb4
    go_wp2_with fail
    go_ret
    exact ⟨rfl, B4.out⟩
  obtain ⟨V, hV, hFP, hFR⟩ := HFN.out w3 F S tb gm tc B3.out h1 h2 h3
  have HFP := Lib.hid hFP
  have HFR := Lib.hid (hFR rb ra rc L2 h4)
  have HCO := Lib.hid (fun wx => code_told (V := V) hV wx)
  obtain ⟨P, hP⟩ : ∃ P, vP V = P := ⟨_, rfl⟩
  obtain ⟨I, hI⟩ : ∃ I, vI V = I := ⟨_, rfl⟩
  obtain ⟨W, hW⟩ : ∃ W, vS V = W := ⟨_, rfl⟩
  obtain ⟨K, hK⟩ : ∃ K, vK V = K := ⟨_, rfl⟩
  obtain ⟨E, hE⟩ : ∃ E, vE V = E := ⟨_, rfl⟩
  obtain ⟨bs, hbs⟩ : ∃ bs, vB V = bs := ⟨_, rfl⟩
  rw [hE, hK] at HCO
  have HTP : Hid (∀ w0 e w', OpenPost w0 e w' V → ∃ ad m c, e = .returned (.tuple #[.agg #[.string P, .int .i64 I, .slice ad m c, .bool W], E]) ∧ m = bs.length ∧ Row .u8 w' ad (toI bs)) := Lib.hid (fun w0 e w' h => by
    have := open_told h
    rw [hP, hI, hW, hE, hbs] at this
    exact this)
  have HTQ : Hid (∀ w0 e, ROpenPost w0 e V → ∃ ad m c, e = .returned (.tuple #[.agg #[.string P, .int .i64 I, .slice ad m c, .bool W], .int .i64 K]) ∧ m = bs.length ∧ Row .u8 w0 ad (toI bs)) := Lib.hid (fun w0 e h => by
    have := ropen_told h
    rw [hP, hI, hW, hK, hbs] at this
    exact this)
  obtain ⟨xs, hxs⟩ : ∃ xs, strOfNums (toI bs) = xs := ⟨_, rfl⟩
  have HCV : Hid (∀ wx ad m c, m = bs.length → Row .u8 wx ad (toI bs) → (convert 31 9 (.slice ad m c)).run Tryd.prog wx = .ok (.string xs) wx) := Lib.hid (fun wx ad m c hm hr => by rw [← hxs]; exact conv_file wx ad m c bs hm hr)
  clear h1 h2 h3 h4 hV hFP hFR hP hI hW hK hE hbs hxs
  go_wp2_with (refine wpList_load_row rfl 25 _ rfl ab rfl 25 #[.string name, .slice ca n cc, .string env, .bool secure] (0, 0) _ X3.out Tryd.underlying25 rfl HI.out ?_)
  refine (HFP.out w3 (Below.refl _ _)).mono ?_
  rintro e w4 ⟨hpost, hb4⟩
  obtain ⟨fa, fm, fc, rfl, hfm, hfr⟩ := HTP.out _ _ _ hpost
  have HFM := Lib.hid hfm
  obtain ⟨fb, hfb⟩ : ∃ fb, w4.heap.size = fb := ⟨_, rfl⟩
  obtain ⟨w5, hw5⟩ : ∃ w5, w4.alloc (.cells #[.string P, .int .i64 I, .slice fa fm fc, .bool W] 33) = w5 := ⟨_, rfl⟩
  have HW5 := Lib.hid hw5
  have b5 : Hid (Below w3.heap.size w3 w5) := Lib.hid (by rw [← hw5]; exact hb4.alloc hb4.size _)
  have R5 : Hid (Row .u8 w5 fa (toI bs)) := Lib.hid (hfr.below (by rw [← hw5]; exact (Below.refl _ _).alloc (Nat.le_refl _) _))
  have Z5 : Hid (w5.heap[fb]? = some (.cells #[.string P, .int .i64 I, .slice fa fm fc, .bool W] 33)) := Lib.hid (by rw [← hw5, ← hfb]; exact heap_alloc_new _ _)
  have X5 : Hid (w5.heap[ab]? = some (.cells #[.string name, .slice ca n cc, .string env, .bool secure] 25)) := Lib.hid ((b5.out.block _ (lt_of_block X3.out)).trans X3.out)
  clear hpost hb4 hfm hfr hw5
  go_upto_region 7 with fail
  rw [HW5.out]
  try rw [hfb]
  clear hfb
  go_wp2_with (refine wpList_load_row rfl 25 _ rfl ab rfl 25 #[.string name, .slice ca n cc, .string env, .bool secure] (0, 0) _ X5.out Tryd.underlying25 rfl HI.out ?_)
  refine (HFR.out w5 b5.out).mono ?_
  rintro e w6 ⟨hpost, hb6⟩
  obtain ⟨ga, gm2, gc, rfl, hgm, hgr⟩ := HTQ.out _ _ hpost
  obtain ⟨gb, hgb⟩ : ∃ gb, w6.heap.size = gb := ⟨_, rfl⟩
  obtain ⟨w7, hw7⟩ : ∃ w7, w6.alloc (.cells #[.string P, .int .i64 I, .slice ga gm2 gc, .bool W] 33) = w7 := ⟨_, rfl⟩
  have HW7 := Lib.hid hw7
  have b7 : Hid (Below w5.heap.size w5 w7) := Lib.hid (by rw [← hw7]; exact hb6.alloc hb6.size _)
  have Z7 : Hid (w7.heap[gb]? = some (.cells #[.string P, .int .i64 I, .slice ga gm2 gc, .bool W] 33)) := Lib.hid (by rw [← hw7, ← hgb]; exact heap_alloc_new _ _)
  have Y7 : Hid (w7.heap[fb]? = some (.cells #[.string P, .int .i64 I, .slice fa fm fc, .bool W] 33)) := Lib.hid ((b7.out.block _ (lt_of_block Z5.out)).trans Z5.out)
  have B7 : Hid (Below w.heap.size w w7) := Lib.hid (bstep B3.out (bstep b5.out b7.out))
  have k1 := HCV.out w7 fa fm fc HFM.out (R5.out.below b7.out)
  have k2 := HCV.out w7 ga gm2 gc hgm (hgr.below (bstep b5.out b7.out))
  have x0 : w7.cell? ⟨fb, 0, none⟩ = some (.string P) := by rw [cell_of_row _ _ 0 _ _ _ Y7.out]; rfl
  have x1 : w7.cell? ⟨fb, 1, none⟩ = some (.int .i64 I) := by rw [cell_of_row _ _ 1 _ _ _ Y7.out]; rfl
  have x2 : w7.cell? ⟨fb, 2, none⟩ = some (.slice fa fm fc) := by rw [cell_of_row _ _ 2 _ _ _ Y7.out]; rfl
  have x3 : w7.cell? ⟨fb, 3, none⟩ = some (.bool W) := by rw [cell_of_row _ _ 3 _ _ _ Y7.out]; rfl
  have y0 : w7.cell? ⟨gb, 0, none⟩ = some (.string P) := by rw [cell_of_row _ _ 0 _ _ _ Z7.out]; rfl
  have y1 : w7.cell? ⟨gb, 1, none⟩ = some (.int .i64 I) := by rw [cell_of_row _ _ 1 _ _ _ Z7.out]; rfl
  have y2 : w7.cell? ⟨gb, 2, none⟩ = some (.slice ga gm2 gc) := by rw [cell_of_row _ _ 2 _ _ _ Z7.out]; rfl
  have y3 : w7.cell? ⟨gb, 3, none⟩ = some (.bool W) := by rw [cell_of_row _ _ 3 _ _ _ Z7.out]; rfl
  clear hpost hb6 hgm hgr hw7
  go_upto_region 8 with fail
  rw [HW7.out]
  try rw [hgb]
  clear hgb
  go_wp2_with fail
  refine (HCO.out w7).mono ?_
  rintro e w8 ⟨rfl, rfl⟩
  go_wp2_with fail
  go_ret
  exact ⟨rfl, B7.out⟩
end Go.Proofs.YtppeapafnnanbaaDoor
