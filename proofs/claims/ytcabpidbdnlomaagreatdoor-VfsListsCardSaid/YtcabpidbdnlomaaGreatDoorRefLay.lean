/- Layer 3, the document's answer: may a node be laid? The error's number. -/
import Derived.Test.YtcabpidbdnlomaaGreatDoorRefTree
namespace Go.Proofs.YtcabpidbdnlomaaGreatDoor
open Go.RowKit
set_option linter.unusedVariables false
set_option linter.unusedSimpArgs false

def toR (n : Nd) : Bool := if n.kind = 2 then withinF n.tgt 4096 else if n.kind = 3 then cleanR n.tgt else true
def layR (L : List Nd) (n : Nd) : Nat :=
  if n.kind < 0 ∨ 3 < n.kind then 1
  else if (cleanR n.path && toR n) = false then 30
  else if 0 ≤ findR L n.path then 5
  else if (dirR L (upR n.path)).2 = false then 6
  else if (dirR L (upR n.path)).1 = false then 16
  else if n.kind ≠ 3 then 0
  else if findR L n.tgt < 0 then 6
  else if fileR L (idxR L n.tgt + 1) (idxR L n.tgt) < 0 then 16 else 0

set_option maxRecDepth 100000 in
set_option maxHeartbeats 4000000 in
theorem lay_kind (t : Value) (n : Nd) (w : World) (hk : n.kind < 0 ∨ 3 < n.kind) :
    Calls Tryz.prog 29 #[t, n.v] w fun e w' => e = .returned (.int .i64 1) ∧ Below w.heap.size w w' := by
  obtain ⟨path, kind, da, dn, dc, tgt, su⟩ := n
  unfold Nd.v Nd.cells
  simp only [] at hk ⊢
  have HB : Hid (Below w.heap.size w (w.alloc (.cells #[.string path, .int .i64 kind, .slice da dn dc, .string tgt, .bool su] 49))) := Lib.hid ((Below.refl _ _).alloc (Nat.le_refl _) _)
  rcases (show kind < 0 ∨ (¬ kind < 0 ∧ 3 < kind) by omega) with h | ⟨h, h'⟩
  · have t1 : decide (kind < 0) = true := decide_eq_true h
    clear h hk
    go_enter Tryz.func29, Tryz.ntmps29
    go_wp2_with fail
    go_ret
    exact ⟨rfl, HB.out⟩
  · have t1 : decide (kind < 0) = false := decide_eq_false h
    have t2 : decide (3 < kind) = true := decide_eq_true h'
    clear h h' hk
    go_enter Tryz.func29, Tryz.ntmps29
    go_wp2_with fail
    go_ret
    exact ⟨rfl, HB.out⟩

set_option maxRecDepth 100000 in
set_option maxHeartbeats 8000000 in
theorem lay_name (t : Value) (n : Nd) (w : World) (h0 : 0 ≤ n.kind) (h3 : n.kind ≤ 3) (hn : (cleanR n.path && toR n) = false) (hp : n.path.size ≤ 140737488355328) (ht : n.tgt.size ≤ 140737488355328) :
    Calls Tryz.prog 29 #[t, n.v] w fun e w' => e = .returned (.int .i64 30) ∧ Below w.heap.size w w' := by
  obtain ⟨path, kind, da, dn, dc, tgt, su⟩ := n
  unfold Nd.v Nd.cells
  simp only [] at h0 h3 hn hp ht ⊢
  obtain ⟨w1, hw1⟩ : ∃ w1, w.alloc (.cells #[.string path, .int .i64 kind, .slice da dn dc, .string tgt, .bool su] 49) = w1 := ⟨_, rfl⟩
  obtain ⟨xb, hxb⟩ : ∃ xb, w.heap.size = xb := ⟨_, rfl⟩
  have HW1 := Lib.hid hw1
  have HB : Hid (Below w.heap.size w w1) := Lib.hid (by rw [← hw1]; exact (Below.refl _ _).alloc (Nat.le_refl _) _)
  have HX : Hid (w1.heap[xb]? = some (.cells #[.string path, .int .i64 kind, .slice da dn dc, .string tgt, .bool su] 49)) := Lib.hid (by rw [← hw1, ← hxb]; exact heap_alloc_new _ _)
  have HC : Hid (∀ wx, Below w1.heap.size w1 wx → wx.cell? ⟨xb, 0, none⟩ = some (.string path) ∧ wx.cell? ⟨xb, 1, none⟩ = some (.int .i64 kind) ∧ wx.cell? ⟨xb, 3, none⟩ = some (.string tgt)) := Lib.hid (fun wx hb => by
    have hr := (hb.block _ (lt_of_block HX.out)).trans HX.out
    exact ⟨by rw [cell_of_row _ _ 0 _ _ _ hr]; rfl, by rw [cell_of_row _ _ 1 _ _ _ hr]; rfl, by rw [cell_of_row _ _ 3 _ _ _ hr]; rfl⟩)
  have HCP : Hid (∀ wx, Calls Tryz.prog 46 #[.string path] wx fun e w' => e = .returned (.bool (cleanR path)) ∧ Below wx.heap.size wx w') := Lib.hid (fun wx => rclean_any path wx hp)
  have HCT : Hid (∀ wx, Calls Tryz.prog 46 #[.string tgt] wx fun e w' => e = .returned (.bool (cleanR tgt)) ∧ Below wx.heap.size wx w') := Lib.hid (fun wx => rclean_any tgt wx ht)
  have HPT : Hid (∀ wx, Calls Tryz.prog 47 #[.string tgt] wx fun e w' => e = .returned (.bool (withinF tgt 4096)) ∧ wx = w') := Lib.hid (fun wx => plain_any tgt wx ht)
  have t1 : decide (kind < 0) = false := decide_eq_false (by omega)
  have t2 : decide (3 < kind) = false := decide_eq_false (by omega)
  obtain ⟨cp, hcp⟩ : ∃ cp, cleanR path = cp := ⟨_, rfl⟩
  rw [hcp] at hn HCP
  have hk4 : kind = 0 ∨ kind = 1 ∨ kind = 2 ∨ kind = 3 := by omega
  unfold toR at hn
  simp only [] at hn
  have HNN := Lib.hid hn
  clear hn hcp h0 h3 hp ht
  obtain ⟨p0, p1, p3⟩ := HC.out w1 (Below.refl _ _)
  clear hw1
  go_enter Tryz.func29, Tryz.ntmps29
  go_upto_region 1 with fail
  rw [HW1.out]
  try rw [hxb]
  go_wp2_with fail
  refine (HCP.out w1).mono ?_
  rintro e w2 ⟨rfl, hb2⟩
  have B2 := Lib.hid hb2
  obtain ⟨q0, q1, q3⟩ := HC.out w2 hb2
  clear hb2 p0 p1 p3 t1 t2
  rcases hk4 with rfl | rfl | rfl | rfl
  · have hE : cp = false := by have := HNN.out; simpa using this
    subst hE
    go_wp2_with fail
    go_ret
    exact ⟨rfl, bstep HB.out B2.out⟩
  · have hE : cp = false := by have := HNN.out; simpa using this
    subst hE
    go_wp2_with fail
    go_ret
    exact ⟨rfl, bstep HB.out B2.out⟩
  · have hE : (cp && withinF tgt 4096) = false := by have := HNN.out; simpa using this
    generalize withinF tgt 4096 = q at *
    go_wp2_with fail
    refine (HPT.out w2).mono ?_
    rintro e w3 ⟨rfl, rfl⟩
    cases cp <;> cases q
    · go_wp2_with fail
      go_ret
      exact ⟨rfl, bstep HB.out B2.out⟩
    · go_wp2_with fail
      go_ret
      exact ⟨rfl, bstep HB.out B2.out⟩
    · go_wp2_with fail
      go_ret
      exact ⟨rfl, bstep HB.out B2.out⟩
    · cases hE
  · have hE : (cp && cleanR tgt) = false := by have := HNN.out; simpa using this
    generalize cleanR tgt = q at *
    go_wp2_with fail
    refine (HCT.out w2).mono ?_
    rintro e w3 ⟨rfl, hb3⟩
    have B3 := Lib.hid (bstep B2.out hb3)
    clear hb3
    cases cp <;> cases q
    · go_wp2_with fail
      go_ret
      exact ⟨rfl, bstep HB.out B3.out⟩
    · go_wp2_with fail
      go_ret
      exact ⟨rfl, bstep HB.out B3.out⟩
    · go_wp2_with fail
      go_ret
      exact ⟨rfl, bstep HB.out B3.out⟩
    · cases hE

set_option maxRecDepth 100000 in
set_option maxHeartbeats 16000000 in
theorem lay_rest (tb c : Nat) (a : Option Addr) (L : List Nd) (n : Nd) (w : World) (h : RefAt w tb a c L) (hH : HardOk L) (h0 : 0 ≤ n.kind) (h3 : n.kind ≤ 3) (hn : (cleanR n.path && toR n) = true) (hp : n.path.size ≤ 140737488355328) (ht : n.tgt.size ≤ 140737488355328) :
    Calls Tryz.prog 29 #[.pointer (some ⟨tb, 0, none⟩), n.v] w fun e w' => e = .returned (.int .i64 ((layR L n : Nat) : Int)) ∧ Below w.heap.size w w' := by
  obtain ⟨R, hR⟩ : ∃ R, layR L n = R := ⟨_, rfl⟩
  rw [hR]
  unfold layR at hR
  rw [if_neg (by omega), if_neg (by rw [hn]; simp)] at hR
  obtain ⟨path, kind, da, dn, dc, tgt, su⟩ := n
  unfold Nd.v Nd.cells
  simp only [] at h0 h3 hn hp ht ⊢
  obtain ⟨w1, hw1⟩ : ∃ w1, w.alloc (.cells #[.string path, .int .i64 kind, .slice da dn dc, .string tgt, .bool su] 49) = w1 := ⟨_, rfl⟩
  obtain ⟨xb, hxb⟩ : ∃ xb, w.heap.size = xb := ⟨_, rfl⟩
  have HW1 := Lib.hid hw1
  have HB : Hid (Below w.heap.size w w1) := Lib.hid (by rw [← hw1]; exact (Below.refl _ _).alloc (Nat.le_refl _) _)
  have HX : Hid (w1.heap[xb]? = some (.cells #[.string path, .int .i64 kind, .slice da dn dc, .string tgt, .bool su] 49)) := Lib.hid (by rw [← hw1, ← hxb]; exact heap_alloc_new _ _)
  have HC : Hid (∀ wx, Below w1.heap.size w1 wx → wx.cell? ⟨xb, 0, none⟩ = some (.string path) ∧ wx.cell? ⟨xb, 1, none⟩ = some (.int .i64 kind) ∧ wx.cell? ⟨xb, 3, none⟩ = some (.string tgt)) := Lib.hid (fun wx hb => by
    have hr := (hb.block _ (lt_of_block HX.out)).trans HX.out
    exact ⟨by rw [cell_of_row _ _ 0 _ _ _ hr]; rfl, by rw [cell_of_row _ _ 1 _ _ _ hr]; rfl, by rw [cell_of_row _ _ 3 _ _ _ hr]; rfl⟩)
  have HCP : Hid (∀ wx, Calls Tryz.prog 46 #[.string path] wx fun e w' => e = .returned (.bool (cleanR path)) ∧ Below wx.heap.size wx w') := Lib.hid (fun wx => rclean_any path wx hp)
  have HCT : Hid (∀ wx, Calls Tryz.prog 46 #[.string tgt] wx fun e w' => e = .returned (.bool (cleanR tgt)) ∧ Below wx.heap.size wx w') := Lib.hid (fun wx => rclean_any tgt wx ht)
  have HPT : Hid (∀ wx, Calls Tryz.prog 47 #[.string tgt] wx fun e w' => e = .returned (.bool (withinF tgt 4096)) ∧ wx = w') := Lib.hid (fun wx => plain_any tgt wx ht)
  have t1 : decide (kind < 0) = false := decide_eq_false (by omega)
  have t2 : decide (3 < kind) = false := decide_eq_false (by omega)
  simp only [] at hR
  obtain ⟨hcp, hto⟩ : cleanR path = true ∧ toR ⟨path, kind, da, dn, dc, tgt, su⟩ = true := by simpa using hn
  have hsz := cleanR_size hcp
  rw [hcp] at HCP
  obtain ⟨FP, hFP⟩ : ∃ FP, findR L path = FP := ⟨_, rfl⟩
  obtain ⟨FT, hFT⟩ : ∃ FT, findR L tgt = FT := ⟨_, rfl⟩
  obtain ⟨U, hU⟩ : ∃ U, upR path = U := ⟨_, rfl⟩
  obtain ⟨FL, hFL⟩ : ∃ FL, fileR L (idxR L tgt + 1) (idxR L tgt) = FL := ⟨_, rfl⟩
  rw [hU] at hR
  rcases hd : dirR L U with ⟨d1, d2⟩
  rw [hd, hFP, hFT, hFL] at hR
  simp only [] at hR
  have HFP : Hid (∀ wx, Below w1.heap.size w1 wx → Calls Tryz.prog 37 #[.pointer (some ⟨tb, 0, none⟩), .string path] wx fun e w' => e = .returned (.int .i64 FP) ∧ Below wx.heap.size wx w') := Lib.hid (fun wx hb => by
    have := rfind_any tb c a L path wx (h.below (bstep HB.out hb))
    rw [hFP] at this
    exact this)
  have HFT : Hid (∀ wx, Below w1.heap.size w1 wx → Calls Tryz.prog 37 #[.pointer (some ⟨tb, 0, none⟩), .string tgt] wx fun e w' => e = .returned (.int .i64 FT) ∧ Below wx.heap.size wx w') := Lib.hid (fun wx hb => by
    have := rfind_any tb c a L tgt wx (h.below (bstep HB.out hb))
    rw [hFT] at this
    exact this)
  have HUP : Hid (∀ wx, Calls Tryz.prog 21 #[.string path] wx fun e w' => e = .returned (.string U) ∧ wx = w') := Lib.hid (fun wx => by
    have := up_any path wx hsz.1 (by omega)
    rw [hU] at this
    exact this)
  have HDI : Hid (∀ wx, Below w1.heap.size w1 wx → Calls Tryz.prog 20 #[.pointer (some ⟨tb, 0, none⟩), .string U] wx fun e w' => e = .returned (.tuple #[.bool d1, .bool d2]) ∧ Below wx.heap.size wx w') := Lib.hid (fun wx hb => by
    have := rdir_any tb c a L U wx (h.below (bstep HB.out hb))
    rw [hd] at this
    exact this)
  have HFL : Hid (0 ≤ FT → FT = (idxR L tgt : Int) ∧ ∀ wx, Below w1.heap.size w1 wx → Calls Tryz.prog 48 #[.pointer (some ⟨tb, 0, none⟩), .int .i64 (idxR L tgt : Int)] wx fun e w' => e = .returned (.int .i64 FL) ∧ Below wx.heap.size wx w') := Lib.hid (fun hge => by
    obtain ⟨h1, h2⟩ := findR_lt (L := L) (p := tgt) (by rw [hFT]; exact hge)
    refine ⟨hFT ▸ h2, fun wx hb => ?_⟩
    have := rfile_any tb c a L (idxR L tgt) wx (h.below (bstep HB.out hb)) hH h1
    rw [hFL] at this
    exact this)
  have HR := Lib.hid hR.symm
  have hk4 : kind = 0 ∨ kind = 1 ∨ kind = 2 ∨ kind = 3 := by omega
  have HTO := Lib.hid hto
  generalize idxR L tgt = jx at *
  clear hn hR hcp hto hsz hFP hFT hU hFL hd h0 h3 hp ht h hH
  obtain ⟨p0, p1, p3⟩ := HC.out w1 (Below.refl _ _)
  clear hw1
  go_enter Tryz.func29, Tryz.ntmps29
  go_upto_region 1 with fail
  rw [HW1.out]
  try rw [hxb]
  go_wp2_with fail
  refine (HCP.out w1).mono ?_
  rintro e w2 ⟨rfl, hb2⟩
  have B2 := Lib.hid hb2
  obtain ⟨q0, q1, q3⟩ := HC.out w2 hb2
  clear hb2 p0 p1 p3 t1 t2
  rcases hk4 with rfl | rfl | rfl | rfl
  · have BT := B2
    obtain ⟨wt, hwt⟩ : ∃ wt, w2 = wt := ⟨_, rfl⟩
    subst hwt
    go_wp2_with fail
    refine (HFP.out w2 BT.out).mono ?_
    rintro e w4 ⟨rfl, hb4⟩
    have B4 := Lib.hid (bstep BT.out hb4)
    obtain ⟨x0, x1, x3⟩ := HC.out w4 B4.out
    clear hb4 q0 q1 q3 HFP HCP HCT HPT BT
    by_cases f0 : 0 ≤ FP
    · have hE : Hid (R = 5) := Lib.hid (by rw [HR.out, if_pos f0])
      have tf : decide ((0 : Int) ≤ FP) = true := decide_eq_true f0
      clear f0
      go_wp2_with fail
      go_ret
      rw [hE.out]
      exact ⟨rfl, bstep HB.out B4.out⟩
    have HR2 := Lib.hid (HR.out.trans (if_neg f0))
    have tf : decide ((0 : Int) ≤ FP) = false := decide_eq_false f0
    clear f0 HR
    go_wp2_with fail
    refine (HUP.out w4).mono ?_
    rintro e w' ⟨rfl, rfl⟩
    go_wp2_with fail
    refine (HDI.out w4 B4.out).mono ?_
    rintro e w5 ⟨rfl, hb5⟩
    have B5 := Lib.hid (bstep B4.out hb5)
    obtain ⟨y0, y1, y3⟩ := HC.out w5 B5.out
    clear hb5 x0 x1 x3 HUP HDI tf
    cases d2 with
    | false =>
      have hE : Hid (R = 6) := Lib.hid (by rw [HR2.out]; rfl)
      go_wp2_with fail
      go_ret
      rw [hE.out]
      exact ⟨rfl, bstep HB.out B5.out⟩
    | true =>
      cases d1 with
      | false =>
        have hE : Hid (R = 16) := Lib.hid (by rw [HR2.out]; rfl)
        go_wp2_with fail
        go_ret
        rw [hE.out]
        exact ⟨rfl, bstep HB.out B5.out⟩
      | true =>
        have hE : Hid (R = 0) := Lib.hid (by rw [HR2.out]; rfl)
        go_wp2_with fail
        go_ret
        rw [hE.out]
        exact ⟨rfl, bstep HB.out B5.out⟩
  · have BT := B2
    go_wp2_with fail
    refine (HFP.out w2 BT.out).mono ?_
    rintro e w4 ⟨rfl, hb4⟩
    have B4 := Lib.hid (bstep BT.out hb4)
    obtain ⟨x0, x1, x3⟩ := HC.out w4 B4.out
    clear hb4 q0 q1 q3 HFP HCP HCT HPT BT
    by_cases f0 : 0 ≤ FP
    · have hE : Hid (R = 5) := Lib.hid (by rw [HR.out, if_pos f0])
      have tf : decide ((0 : Int) ≤ FP) = true := decide_eq_true f0
      clear f0
      go_wp2_with fail
      go_ret
      rw [hE.out]
      exact ⟨rfl, bstep HB.out B4.out⟩
    have HR2 := Lib.hid (HR.out.trans (if_neg f0))
    have tf : decide ((0 : Int) ≤ FP) = false := decide_eq_false f0
    clear f0 HR
    go_wp2_with fail
    refine (HUP.out w4).mono ?_
    rintro e w' ⟨rfl, rfl⟩
    go_wp2_with fail
    refine (HDI.out w4 B4.out).mono ?_
    rintro e w5 ⟨rfl, hb5⟩
    have B5 := Lib.hid (bstep B4.out hb5)
    obtain ⟨y0, y1, y3⟩ := HC.out w5 B5.out
    clear hb5 x0 x1 x3 HUP HDI tf
    cases d2 with
    | false =>
      have hE : Hid (R = 6) := Lib.hid (by rw [HR2.out]; rfl)
      go_wp2_with fail
      go_ret
      rw [hE.out]
      exact ⟨rfl, bstep HB.out B5.out⟩
    | true =>
      cases d1 with
      | false =>
        have hE : Hid (R = 16) := Lib.hid (by rw [HR2.out]; rfl)
        go_wp2_with fail
        go_ret
        rw [hE.out]
        exact ⟨rfl, bstep HB.out B5.out⟩
      | true =>
        have hE : Hid (R = 0) := Lib.hid (by rw [HR2.out]; rfl)
        go_wp2_with fail
        go_ret
        rw [hE.out]
        exact ⟨rfl, bstep HB.out B5.out⟩
  · have BT := B2
    have hq : withinF tgt 4096 = true := HTO.out
    rw [hq] at HPT
    clear hq HTO
    go_wp2_with fail
    refine (HPT.out w2).mono ?_
    rintro e w3 ⟨rfl, rfl⟩
    go_wp2_with fail
    refine (HFP.out w2 BT.out).mono ?_
    rintro e w4 ⟨rfl, hb4⟩
    have B4 := Lib.hid (bstep BT.out hb4)
    obtain ⟨x0, x1, x3⟩ := HC.out w4 B4.out
    clear hb4 q0 q1 q3 HFP HCP HCT HPT BT
    by_cases f0 : 0 ≤ FP
    · have hE : Hid (R = 5) := Lib.hid (by rw [HR.out, if_pos f0])
      have tf : decide ((0 : Int) ≤ FP) = true := decide_eq_true f0
      clear f0
      go_wp2_with fail
      go_ret
      rw [hE.out]
      exact ⟨rfl, bstep HB.out B4.out⟩
    have HR2 := Lib.hid (HR.out.trans (if_neg f0))
    have tf : decide ((0 : Int) ≤ FP) = false := decide_eq_false f0
    clear f0 HR
    go_wp2_with fail
    refine (HUP.out w4).mono ?_
    rintro e w' ⟨rfl, rfl⟩
    go_wp2_with fail
    refine (HDI.out w4 B4.out).mono ?_
    rintro e w5 ⟨rfl, hb5⟩
    have B5 := Lib.hid (bstep B4.out hb5)
    obtain ⟨y0, y1, y3⟩ := HC.out w5 B5.out
    clear hb5 x0 x1 x3 HUP HDI tf
    cases d2 with
    | false =>
      have hE : Hid (R = 6) := Lib.hid (by rw [HR2.out]; rfl)
      go_wp2_with fail
      go_ret
      rw [hE.out]
      exact ⟨rfl, bstep HB.out B5.out⟩
    | true =>
      cases d1 with
      | false =>
        have hE : Hid (R = 16) := Lib.hid (by rw [HR2.out]; rfl)
        go_wp2_with fail
        go_ret
        rw [hE.out]
        exact ⟨rfl, bstep HB.out B5.out⟩
      | true =>
        have hE : Hid (R = 0) := Lib.hid (by rw [HR2.out]; rfl)
        go_wp2_with fail
        go_ret
        rw [hE.out]
        exact ⟨rfl, bstep HB.out B5.out⟩
  · have hq : cleanR tgt = true := HTO.out
    rw [hq] at HCT
    clear hq HTO
    go_wp2_with fail
    refine (HCT.out w2).mono ?_
    rintro e w3 ⟨rfl, hb3⟩
    have BT := Lib.hid (bstep B2.out hb3)
    obtain ⟨q0, q1, q3⟩ := HC.out w3 BT.out
    clear hb3
    go_wp2_with fail
    refine (HFP.out w3 BT.out).mono ?_
    rintro e w4 ⟨rfl, hb4⟩
    have B4 := Lib.hid (bstep BT.out hb4)
    obtain ⟨x0, x1, x3⟩ := HC.out w4 B4.out
    clear hb4 q0 q1 q3 HFP HCP HCT HPT BT
    by_cases f0 : 0 ≤ FP
    · have hE : Hid (R = 5) := Lib.hid (by rw [HR.out, if_pos f0])
      have tf : decide ((0 : Int) ≤ FP) = true := decide_eq_true f0
      clear f0
      go_wp2_with fail
      go_ret
      rw [hE.out]
      exact ⟨rfl, bstep HB.out B4.out⟩
    have HR2 := Lib.hid (HR.out.trans (if_neg f0))
    have tf : decide ((0 : Int) ≤ FP) = false := decide_eq_false f0
    clear f0 HR
    go_wp2_with fail
    refine (HUP.out w4).mono ?_
    rintro e w' ⟨rfl, rfl⟩
    go_wp2_with fail
    refine (HDI.out w4 B4.out).mono ?_
    rintro e w5 ⟨rfl, hb5⟩
    have B5 := Lib.hid (bstep B4.out hb5)
    obtain ⟨y0, y1, y3⟩ := HC.out w5 B5.out
    clear hb5 x0 x1 x3 HUP HDI tf
    cases d2 with
    | false =>
      have hE : Hid (R = 6) := Lib.hid (by rw [HR2.out]; rfl)
      go_wp2_with fail
      go_ret
      rw [hE.out]
      exact ⟨rfl, bstep HB.out B5.out⟩
    | true =>
      cases d1 with
      | false =>
        have hE : Hid (R = 16) := Lib.hid (by rw [HR2.out]; rfl)
        go_wp2_with fail
        go_ret
        rw [hE.out]
        exact ⟨rfl, bstep HB.out B5.out⟩
      | true =>
        have HR3 : Hid (R = if FT < 0 then 6 else if FL < 0 then 16 else 0) := Lib.hid (by rw [HR2.out]; rfl)
        go_wp2_with fail
        refine (HFT.out w5 B5.out).mono ?_
        rintro e w6 ⟨rfl, hb6⟩
        have B6 := Lib.hid (bstep B5.out hb6)
        clear hb6 HR2 y0 y1 y3
        by_cases f1 : FT < 0
        · have hE : Hid (R = 6) := Lib.hid (by rw [HR3.out, if_pos f1])
          have tf : decide (FT < 0) = true := decide_eq_true f1
          clear f1
          go_wp2_with fail
          go_ret
          rw [hE.out]
          exact ⟨rfl, bstep HB.out B6.out⟩
        · have HR4 := Lib.hid (HR3.out.trans (if_neg f1))
          have HJ := HFL.out (by omega)
          obtain ⟨hFT, hJ⟩ := HJ
          have HJC := Lib.hid (hJ w6 B6.out)
          have tf : decide (FT < 0) = false := decide_eq_false f1
          clear f1 HR3 hJ HFL
          subst hFT
          go_wp2_with fail
          refine HJC.out.mono ?_
          rintro e w7 ⟨rfl, hb7⟩
          have B7 := Lib.hid (bstep B6.out hb7)
          clear hb7
          by_cases f2 : FL < 0
          · have hE : Hid (R = 16) := Lib.hid (by rw [HR4.out, if_pos f2])
            have tf2 : decide (FL < 0) = true := decide_eq_true f2
            clear f2
            go_wp2_with fail
            go_ret
            rw [hE.out]
            exact ⟨rfl, bstep HB.out B7.out⟩
          · have hE : Hid (R = 0) := Lib.hid (by rw [HR4.out, if_neg f2])
            have tf2 : decide (FL < 0) = false := decide_eq_false f2
            clear f2
            go_wp2_with fail
            go_ret
            rw [hE.out]
            exact ⟨rfl, bstep HB.out B7.out⟩

theorem lay_any (tb c : Nat) (a : Option Addr) (L : List Nd) (n : Nd) (w : World) (h : RefAt w tb a c L) (hH : HardOk L) (hp : n.path.size ≤ 140737488355328) (ht : n.tgt.size ≤ 140737488355328) :
    Calls Tryz.prog 29 #[.pointer (some ⟨tb, 0, none⟩), n.v] w fun e w' => e = .returned (.int .i64 ((layR L n : Nat) : Int)) ∧ Below w.heap.size w w' := by
  by_cases hk : n.kind < 0 ∨ 3 < n.kind
  · have hE : layR L n = 1 := by unfold layR; rw [if_pos hk]
    rw [hE]
    exact lay_kind _ n w hk
  · cases hn : (cleanR n.path && toR n) with
    | false =>
      have hE : layR L n = 30 := by unfold layR; rw [if_neg hk, if_pos hn]
      rw [hE]
      exact lay_name _ n w (by omega) (by omega) hn hp ht
    | true => exact lay_rest tb c a L n w h hH (by omega) (by omega) hn hp ht
end Go.Proofs.YtcabpidbdnlomaaGreatDoor
