/- Layer 14: the law SearchSecure. -/
import Derived.Test.YtmenafneheaabaaDoorSearchTree
import Derived.Test.YtmenafneheaabaaDoorSearchUp
namespace Go.Proofs.YtmenafneheaabaaDoor
open Go.RowKit
set_option linter.unusedVariables false
set_option linter.unusedSimpArgs false

theorem findF_err {F : ByteArray → Option Ent} {S : Shares} : ∀ {Q : List ByteArray} {n : Nat}, findF F S Q = .error n → n = 17
  | [], n, h => by cases h; rfl
  | p :: l, n, h => by
    unfold findF at h
    split at h
    · cases h
    · exact findF_err h
/-- the paths, whatever the environment, in secure mode -/
theorem paths_secure (name : ByteArray) (ca : Option Addr) (n cc : Nat) (C : List OT) (w : World) (hns : name.size ≤ 1048576) (hC : CRow w ca C) (hn : C.length = n) (hnl : n ≤ 200000) (hnc : n ≤ cc) (hcn : ca = none → cc = 0) (hs : ∀ o ∈ C, Sizes o) :
    ∃ Q : List ByteArray, Q.length ≤ 1099511627776 ∧ (∀ q ∈ Q, q.size ≤ 140737488355328) ∧ ∀ (env : ByteArray) (w1 : World), Below w.heap.size w w1 → Calls Tryd.prog 21 #[.agg #[.string name, .slice ca n cc, .string env, .bool true]] w1 (PathsAns Q w1) := by
  by_cases hno : Lib.indexByte name.data.toList 47 < 0
  · obtain ⟨R, h1, h2, h3⟩ := dirs_secure ca n cc C w hC hn hnl hnc hcn hs
    refine ⟨R.map (pathF name), by rw [List.length_map]; exact h1, ?_, fun env w1 hb => paths_dirs name env ca n cc true R w1 hno hns h1 h2 (fun w2 hb2 => h3 name env w2 (bstep hb hb2))⟩
    intro q hq
    obtain ⟨d, hd, rfl⟩ := List.mem_map.1 hq
    have := pathF_size name d
    have := h2 d hd
    omega
  · refine ⟨slashPaths name (askerF C) true, ?_, ?_, fun env w1 hb => paths_slash name env ca n cc C true w1 hno hns (hC.below hb) hn hnl hs⟩
    · unfold slashPaths
      split <;> simp
    · intro q hq
      unfold slashPaths at hq
      split at hq
      · cases hq
      · rw [List.mem_singleton] at hq
        subst hq
        have h1 := rootedF_size (mkT (expF name (askerF C)).1)
        have h2 : (mkT (expF name (askerF C)).1).size = (expF name (askerF C)).1.length := by show Array.size (List.toArray _) = _; simp
        have hos : (askerF C).size ≤ 1048576 := by
          unfold askerF
          split
          · decide
          · exact (hs _ (by simp)).p
        have h3 := expF_len name (askerF C)
        have h4 : name.size * ((askerF C).size + 8) ≤ 1048576 * (1048576 + 8) := Nat.mul_le_mul hns (by omega)
        omega
/-- what Find tells, whatever the environment, in secure mode -/
theorem find_secure (tb g c : Nat) (F : ByteArray → Option Ent) (S : Shares) (name : ByteArray) (ca : Option Addr) (n cc : Nat) (C : List OT) (w : World) (h : TreeAt w tb g c F) (hS : ShAt w F S) (hF : TreeIn F) (hns : name.size ≤ 1048576) (hC : CRow w ca C) (hn : C.length = n) (hnl : n ≤ 200000) (hnc : n ≤ cc) (hcn : ca = none → cc = 0) (hs : ∀ o ∈ C, Sizes o) :
    ∃ V : Except Nat (ByteArray × Int × Bool × List Nat), (∀ k, V = .error k → k = 1 ∨ k = 17) ∧ ∀ (env : ByteArray) (w1 : World), Below w.heap.size w w1 → Calls Tryd.prog 9 #[.pointer (some ⟨tb, 0, none⟩), .agg #[.string name, .slice ca n cc, .string env, .bool true]] w1 fun e w' => OpenPost w1 e w' V ∧ Below w1.heap.size w1 w' := by
  by_cases hnm : name = ⟨#[]⟩
  · refine ⟨.error 1, (fun k hk => by cases hk; exact .inl rfl), fun env w1 hb => ?_⟩
    subst hnm
    exact find_name tb env ca n cc true w1
  · obtain ⟨Q, h1, h2, h3⟩ := paths_secure name ca n cc C w hns hC hn hnl hnc hcn hs
    exact ⟨findF F S Q, (fun k hk => .inr (findF_err hk)), fun env w1 hb => find_any tb g c F S name env ca n cc true Q w1 (h.below hb) (hS.below hb) hF hnm (fun w2 hb2 => h3 env w2 (bstep hb hb2)) h1 h2⟩

set_option maxRecDepth 100000 in
set_option maxHeartbeats 4000000 in
theorem same_texts_sec (a b : Option Addr) (c d m : Nat) (T : List ByteArray) (w : World) (hm : T.length = m) (hml : m ≤ 1099511627776) (ha : TRow w a T) (hb : TRow w b T) :
    Calls Tryd.prog 6 #[.slice a m c, .slice b m d] w fun e w' => e = .returned (.bool true) ∧ Below w.heap.size w w' := by
  have HA := Lib.hid ha; clear ha
  have HB := Lib.hid hb; clear hb
  have HM := Lib.hid hm; clear hm
  go_enter Tryd.func6, Tryd.ntmps6
  go_wp2
  go_loopg [5] m (fun g i wr => ∃ k : Nat, k + g = m ∧ i = .int .i64 k ∧ Hid (Below w.heap.size w wr))
  case atStart => exact ⟨0, by omega, rfl, Lib.hid (Below.refl _ _)⟩
  case round =>
    obtain ⟨k, hk, rfl, hdr⟩ := hrel
    cases gk with
    | zero =>
      have hk' : k = m := by omega
      clear hk
      subst hk'
      go_wp2
      go_ret
      exact ⟨rfl, hdr.out⟩
    | succ g =>
      have hlt : k < m := by omega
      obtain ⟨b1, o1, rfl, -, p0⟩ := (HA.out.below hdr.out) k (by rw [HM.out]; exact hlt)
      obtain ⟨b2, o2, rfl, -, q0⟩ := (HB.out.below hdr.out) k (by rw [HM.out]; exact hlt)
      generalize T.getD k .empty = x at *
      go_wp2
      go_quiet (fail)
      go_wp2
      go_roundg g
      case measure => omega
      case rel => exact ⟨k + 1, by omega, by go_num, Lib.hid (below_drewN hdr.out _)⟩

/-- what is told of a file, or of an error, as a value -/
theorem told_value (V : Except Nat (ByteArray × Int × Bool × List Nat)) (hV : ∀ k, V = .error k → k ≤ 30) : ∃ (P : ByteArray) (I : Int) (ev : Value) (E : Int), (∀ wx, Calls Tryd.prog 10 #[ev] wx fun e w' => e = .returned (.int .i64 E) ∧ wx = w') ∧
    ∀ w e w', OpenPost w e w' V → ∃ ad m c su, e = .returned (.tuple #[.agg #[.string P, .int .i64 I, .slice ad m c, .bool su], ev]) := by
  cases V with
  | error k => exact ⟨⟨#[]⟩, 0, errV (k : Int), (k : Int), fun wx => code_any (k : Int) wx (by omega) (by have := hV k rfl; omega), fun w e w' h => ⟨none, 0, 0, false, h⟩⟩
  | ok v =>
    obtain ⟨p, i, su, bs⟩ := v
    exact ⟨p, i, .nilIface, 0, fun wx => code_nil wx, fun w e w' h => by
      obtain ⟨ad, c, he, -⟩ := h
      exact ⟨ad, bs.length, c, su, he⟩⟩
theorem ask_info (name env : ByteArray) (ca : Option Addr) (n cc : Nat) (s : Bool) : (Tryd.prog.info? 25).map (·.size) = some (#[.string name, .slice ca n cc, .string env, .bool s] : Array Value).size := by kernel_rfl
set_option maxRecDepth 100000 in
set_option maxHeartbeats 16000000 in
theorem searchSecure_at (a : Option Addr) (nl cap : Nat) (L : List Nd) (D : Nat → List Nat) (name env other : ByteArray) (ca : Option Addr) (n cc : Nat) (C : List OT) (sec0 : Bool) (w : World) (hr : NdRow w a L) (hln : L.length = nl) (hlnl : nl ≤ 140737488351232) (hD : ∀ i, (hi : i < L.length) → NdOk w L[i] (D i))
    (hns : name.size ≤ 1048576) (hC : CRow w ca C) (hn : C.length = n) (hnl : n ≤ 200000) (hnc : n ≤ cc) (hcn : ca = none → cc = 0) (hs : ∀ o ∈ C, Sizes o) :
    Calls Tryd.prog 3 #[.slice a nl cap, .agg #[.string name, .slice ca n cc, .string env, .bool sec0], .string other] w fun e w' => e = .returned (.bool true) ∧ Below w.heap.size w w' := by
  have HUP := Lib.hid (fun (w1 : World) => up_true w1)
  obtain ⟨R, hRl, hRs, hRT⟩ := dirs_secure ca n cc C w hC hn hnl hnc hcn hs
  have HRT := Lib.hid hRT
  have HRL := Lib.hid hRl
  have HTR : Hid (∀ wx, Below w.heap.size w wx → Calls Tryd.prog 8 #[.slice a nl cap] wx fun e w' => TreePost L e w' ∧ Below wx.heap.size wx w') := Lib.hid (fun wx hb => tree_any a nl cap L D wx (hr.below hb) hln hlnl (fun i hi => (hD i hi).below hb))
  have HFS : Hid (∀ wx tb g c F S, Below w.heap.size w wx → TreeAt wx tb g c F → ShAt wx F S → TreeIn F → ∃ V : Except Nat (ByteArray × Int × Bool × List Nat), (∀ k, V = .error k → k = 1 ∨ k = 17) ∧ ∀ (env : ByteArray) (w1 : World), Below wx.heap.size wx w1 → Calls Tryd.prog 9 #[.pointer (some ⟨tb, 0, none⟩), .agg #[.string name, .slice ca n cc, .string env, .bool true]] w1 fun e w' => OpenPost w1 e w' V ∧ Below w1.heap.size w1 w') := Lib.hid (fun wx tb g c F S hb h1 h2 h3 => find_secure tb g c F S name ca n cc C wx h1 h2 h3 hns (hC.below hb) hn hnl hnc hcn hs)
  obtain ⟨w1, hw1⟩ : ∃ w1, w.alloc (.cells #[.string name, .slice ca n cc, .string env, .bool sec0] 25) = w1 := ⟨_, rfl⟩
  have HW1 := Lib.hid hw1
  obtain ⟨ab, hab⟩ : ∃ ab, w.heap.size = ab := ⟨_, rfl⟩
  have B1 : Hid (Below w.heap.size w w1) := Lib.hid (by rw [← hw1]; exact (Below.refl _ _).alloc (Nat.le_refl _) _)
  have X1 : Hid (w1.heap[ab]? = some (.cells #[.string name, .slice ca n cc, .string env, .bool sec0] 25)) := Lib.hid (by rw [← hw1, ← hab]; exact heap_alloc_new _ _)
  have HAB : Hid (w.heap.size ≤ ab) := Lib.hid (by omega)
  have HABE := Lib.hid hab
  clear hw1 hr hln hlnl hD hns hC hn hnl hnc hcn hs hRl hRs hRT
  go_enter Tryd.func3, Tryd.ntmps3
  go_upto_region 1 with fail
  rw [HW1.out]
  try rw [hab]
  clear hab
  go_wp2_with fail
  refine (HUP.out w1).mono ?_
  rintro e w2 ⟨rfl, hb2⟩
  have B2 := Lib.hid (bstep B1.out hb2)
  have X2 := Lib.hid ((hb2.block _ (lt_of_block X1.out)).trans X1.out)
  clear hb2
  have c3 : w2.cell? ⟨ab, 3, none⟩ = some (.bool sec0) := by rw [cell_of_row _ _ 3 _ _ _ X2.out]; rfl
  have f3 : w2.frozen? ⟨ab, 3, none⟩ = false := frozen_of_row _ _ _ _ _ X2.out
  obtain ⟨w3, hw3⟩ : ∃ w3, w2.setCell ⟨ab, 3, none⟩ (.bool true) = w3 := ⟨_, rfl⟩
  have HW3 := Lib.hid hw3
  have hset : w3 = w2.setRow ab #[.string name, .slice ca n cc, .string env, .bool true] := by
    rw [← hw3, setCell_eq_setRow _ _ _ _ _ _ _ X2.out]
    rfl
  have X3 : Hid (w3.heap[ab]? = some (.cells #[.string name, .slice ca n cc, .string env, .bool true] 25)) := Lib.hid (by rw [hset]; exact setRow_heap _ _ _ _ _ _ X2.out)
  have B3 : Hid (Below w.heap.size w w3) := Lib.hid (by rw [hset]; exact below_setRowV B2.out HAB.out)
  obtain ⟨bb, hbb⟩ : ∃ bb, w3.heap.size = bb := ⟨_, rfl⟩
  obtain ⟨w4, hw4⟩ : ∃ w4, w3.alloc (.cells #[.string name, .slice ca n cc, .string other, .bool true] 25) = w4 := ⟨_, rfl⟩
  have HW4 := Lib.hid hw4
  have X4 : Hid (w4.heap[ab]? = some (.cells #[.string name, .slice ca n cc, .string env, .bool true] 25)) := Lib.hid (by rw [← hw4]; exact (heap_alloc_old _ _ (lt_of_block X3.out)).trans X3.out)
  have Y4 : Hid (w4.heap[bb]? = some (.cells #[.string name, .slice ca n cc, .string other, .bool true] 25)) := Lib.hid (by rw [← hw4, ← hbb]; exact heap_alloc_new _ _)
  have B4 : Hid (Below w.heap.size w w4) := Lib.hid (by rw [← hw4]; exact B3.out.alloc B3.out.size _)
  have HI := Lib.hid (ask_info name env ca n cc true)
  clear hw3 hset hw4
  go_upto_region 3 with fail
  rw [HW3.out]
  go_upto_region 5 with (refine wpList_load_row rfl 25 _ rfl ab rfl 25 #[.string name, .slice ca n cc, .string env, .bool true] (0, 0) _ X3.out Tryd.underlying25 rfl HI.out ?_)
  rw [HW4.out]
  try rw [hbb]
  clear c3 f3 hbb
  have KX : Hid (∀ wx : World, wx.heap[ab]? = some (.cells #[.string name, .slice ca n cc, .string env, .bool true] 25) → wx.heap[bb]? = some (.cells #[.string name, .slice ca n cc, .string other, .bool true] 25) → wx.cell? ⟨ab, 0, none⟩ = some (.string name) ∧ wx.cell? ⟨ab, 1, none⟩ = some (.slice ca n cc) ∧ wx.cell? ⟨ab, 2, none⟩ = some (.string env) ∧ wx.cell? ⟨ab, 3, none⟩ = some (.bool true) ∧ wx.cell? ⟨bb, 0, none⟩ = some (.string name) ∧ wx.cell? ⟨bb, 1, none⟩ = some (.slice ca n cc) ∧ wx.cell? ⟨bb, 2, none⟩ = some (.string other) ∧ wx.cell? ⟨bb, 3, none⟩ = some (.bool true)) := Lib.hid (fun wx h1 h2 => ⟨by rw [cell_of_row _ _ 0 _ _ _ h1]; rfl, by rw [cell_of_row _ _ 1 _ _ _ h1]; rfl, by rw [cell_of_row _ _ 2 _ _ _ h1]; rfl, by rw [cell_of_row _ _ 3 _ _ _ h1]; rfl, by rw [cell_of_row _ _ 0 _ _ _ h2]; rfl, by rw [cell_of_row _ _ 1 _ _ _ h2]; rfl, by rw [cell_of_row _ _ 2 _ _ _ h2]; rfl, by rw [cell_of_row _ _ 3 _ _ _ h2]; rfl⟩)
  have KS : Hid (∀ wx, Below w4.heap.size w4 wx → wx.cell? ⟨ab, 0, none⟩ = some (.string name) ∧ wx.cell? ⟨ab, 1, none⟩ = some (.slice ca n cc) ∧ wx.cell? ⟨ab, 2, none⟩ = some (.string env) ∧ wx.cell? ⟨ab, 3, none⟩ = some (.bool true) ∧ wx.cell? ⟨bb, 0, none⟩ = some (.string name) ∧ wx.cell? ⟨bb, 1, none⟩ = some (.slice ca n cc) ∧ wx.cell? ⟨bb, 2, none⟩ = some (.string other) ∧ wx.cell? ⟨bb, 3, none⟩ = some (.bool true)) := Lib.hid (fun wx hb => KX.out wx ((hb.block _ (lt_of_block X4.out)).trans X4.out) ((hb.block _ (lt_of_block Y4.out)).trans Y4.out))
  go_region_held3 (fun wx => wx.cell? ⟨ab, 0, none⟩ = some (.string name) ∧ wx.cell? ⟨ab, 1, none⟩ = some (.slice ca n cc) ∧ wx.cell? ⟨ab, 2, none⟩ = some (.string env) ∧ wx.cell? ⟨ab, 3, none⟩ = some (.bool true) ∧ wx.cell? ⟨bb, 0, none⟩ = some (.string name) ∧ wx.cell? ⟨bb, 1, none⟩ = some (.slice ca n cc) ∧ wx.cell? ⟨bb, 2, none⟩ = some (.string other) ∧ wx.cell? ⟨bb, 3, none⟩ = some (.bool true))
    (first | exact KS.out _ (Below.refl _ _).drew | exact KS.out _ b7 | exact KS.out _ b6 | exact KS.out _ b5)
    (first | (go_at_call 7; refine (HRT.out name _ w5 (bstep B4.out b5)).mono ?_; rintro e w6 ⟨⟨ad6, c6, rfl, ht6⟩, hb6⟩; have b6 : Below w4.heap.size w4 w6 := bstep b5 hb6; have ht5b := ht5.below hb6; clear hb6) | (go_at_call 7; refine (HRT.out name _ _ B4.out.drew).mono ?_; rintro e w5 ⟨⟨ad5, c5, rfl, ht5⟩, hb5⟩; have b5 : Below w4.heap.size w4 w5 := bstep (Below.refl w4.heap.size w4).drew hb5; clear hb5) | (go_at_call 6; refine (same_texts_sec _ _ _ _ R.length R w6 rfl HRL.out (by assumption) (by assumption)).mono ?_; rintro e w7 ⟨rfl, hb7⟩; have b7 : Below w4.heap.size w4 w7 := bstep b6 hb7; clear hb7))
  all_goals (
    have B7 := Lib.hid (bstep B4.out b7)
    have X7 : Hid (w7.heap[ab]? = some (.cells #[.string name, .slice ca n cc, .string env, .bool true] 25)) := Lib.hid ((b7.block _ (lt_of_block X4.out)).trans X4.out)
    have Y7 : Hid (w7.heap[bb]? = some (.cells #[.string name, .slice ca n cc, .string other, .bool true] 25)) := Lib.hid ((b7.block _ (lt_of_block Y4.out)).trans Y4.out)
    clear b5 b6 b7 ht5 ht6 ht5b KX KS
    go_wp2_with fail
    refine (HTR.out w7 B7.out).mono ?_
    rintro e w8 ⟨hp, hb8⟩
    have B8 := Lib.hid (bstep B7.out hb8)
    have X8 : Hid (w8.heap[ab]? = some (.cells #[.string name, .slice ca n cc, .string env, .bool true] 25)) := Lib.hid ((hb8.block _ (lt_of_block X7.out)).trans X7.out)
    have Y8 : Hid (w8.heap[bb]? = some (.cells #[.string name, .slice ca n cc, .string other, .bool true] 25)) := Lib.hid ((hb8.block _ (lt_of_block Y7.out)).trans Y7.out)
    clear hb8
    rcases hp with rfl | ⟨tb, gm, tc, rb, F, S, rfl, h1, h2, h3⟩
    · go_wp2_with fail
      go_ret
      exact ⟨rfl, B8.out⟩
    · obtain ⟨V, hV, hFd⟩ := HFS.out w8 tb gm tc F S B8.out h1 h2 h3
      obtain ⟨P, I, ev, E, hco, htold⟩ := told_value V (fun k hk => by have := hV k hk; omega)
      have HFD := Lib.hid hFd
      have HCO := Lib.hid hco
      have HTO := Lib.hid htold
      clear h1 h2 h3 hV hFd hco htold
      go_wp2_with (refine wpList_load_row rfl 25 _ rfl ab rfl 25 #[.string name, .slice ca n cc, .string env, .bool true] (0, 0) _ X8.out Tryd.underlying25 rfl HI.out ?_)
      refine (HFD.out env w8 (Below.refl _ _)).mono ?_
      rintro e w9 ⟨hp9, hb9⟩
      obtain ⟨fa, fm, fc, fs, rfl⟩ := HTO.out _ _ _ hp9
      obtain ⟨fb, hfb⟩ : ∃ fb, w9.heap.size = fb := ⟨_, rfl⟩
      obtain ⟨w10, hw10⟩ : ∃ w10, w9.alloc (.cells #[.string P, .int .i64 I, .slice fa fm fc, .bool fs] 36) = w10 := ⟨_, rfl⟩
      have HW10 := Lib.hid hw10
      have b10 : Hid (Below w8.heap.size w8 w10) := Lib.hid (by rw [← hw10]; exact hb9.alloc hb9.size _)
      have Z10 : Hid (w10.heap[fb]? = some (.cells #[.string P, .int .i64 I, .slice fa fm fc, .bool fs] 36)) := Lib.hid (by rw [← hw10, ← hfb]; exact heap_alloc_new _ _)
      have Y10 : Hid (w10.heap[bb]? = some (.cells #[.string name, .slice ca n cc, .string other, .bool true] 25)) := Lib.hid ((b10.out.block _ (lt_of_block Y8.out)).trans Y8.out)
      have HI2 := Lib.hid (ask_info name other ca n cc true)
      clear hp9 hb9 hw10
      go_upto_region 10 with fail
      rw [HW10.out]
      try rw [hfb]
      go_wp2_with (refine wpList_load_row rfl 25 _ rfl bb rfl 25 #[.string name, .slice ca n cc, .string other, .bool true] (0, 0) _ Y10.out Tryd.underlying25 rfl HI2.out ?_)
      refine (HFD.out other w10 b10.out).mono ?_
      rintro e w11 ⟨hp11, hb11⟩
      obtain ⟨ga, gm2, gc, gs, rfl⟩ := HTO.out _ _ _ hp11
      obtain ⟨gb, hgb⟩ : ∃ gb, w11.heap.size = gb := ⟨_, rfl⟩
      obtain ⟨w12, hw12⟩ : ∃ w12, w11.alloc (.cells #[.string P, .int .i64 I, .slice ga gm2 gc, .bool gs] 36) = w12 := ⟨_, rfl⟩
      have HW12 := Lib.hid hw12
      have b12 : Hid (Below w10.heap.size w10 w12) := Lib.hid (by rw [← hw12]; exact hb11.alloc hb11.size _)
      have B12 := Lib.hid (bstep B8.out (bstep b10.out b12.out))
      have z0 : w12.cell? ⟨fb, 0, none⟩ = some (.string P) := by rw [cell_of_row _ _ 0 _ _ _ ((b12.out.block _ (lt_of_block Z10.out)).trans Z10.out)]; rfl
      have z1 : w12.cell? ⟨fb, 1, none⟩ = some (.int .i64 I) := by rw [cell_of_row _ _ 1 _ _ _ ((b12.out.block _ (lt_of_block Z10.out)).trans Z10.out)]; rfl
      have y0 : w12.cell? ⟨gb, 0, none⟩ = some (.string P) := by
        have h : w12.heap[gb]? = some (.cells #[.string P, .int .i64 I, .slice ga gm2 gc, .bool gs] 36) := by rw [← hw12, ← hgb]; exact heap_alloc_new _ _
        rw [cell_of_row _ _ 0 _ _ _ h]; rfl
      have y1 : w12.cell? ⟨gb, 1, none⟩ = some (.int .i64 I) := by
        have h : w12.heap[gb]? = some (.cells #[.string P, .int .i64 I, .slice ga gm2 gc, .bool gs] 36) := by rw [← hw12, ← hgb]; exact heap_alloc_new _ _
        rw [cell_of_row _ _ 1 _ _ _ h]; rfl
      clear hp11 hb11 hw12
      go_upto_region 11 with fail
      rw [HW12.out]
      try rw [hgb]
      go_wp2_with fail
      refine (HCO.out w12).mono ?_
      rintro e w13 ⟨rfl, rfl⟩
      go_wp2_with fail
      refine (HCO.out w12).mono ?_
      rintro e w13 ⟨rfl, rfl⟩
      go_wp2_with fail
      go_ret
      exact ⟨rfl, B12.out⟩)
end Go.Proofs.YtmenafneheaabaaDoor
