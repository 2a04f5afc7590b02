/- Layer 3, the document's answer: is a path a directory's; which file's node a node is. -/
import Derived.Test.YtcabpidbdnlomaaGreatDoorRefFind
namespace Go.Proofs.YtcabpidbdnlomaaGreatDoor
open Go.RowKit
set_option linter.unusedVariables false
set_option linter.unusedSimpArgs false

theorem findR_lt {L : List Nd} {p : ByteArray} (h : 0 ≤ findR L p) : idxR L p < L.length ∧ findR L p = (idxR L p : Int) := by
  unfold findR at *
  split
  · rename_i hh; exact ⟨hh, rfl⟩
  · rename_i hh; rw [if_neg hh] at h; omega
theorem findR_ge (L : List Nd) (p : ByteArray) : -1 ≤ findR L p ∧ findR L p ≤ L.length := by
  unfold findR
  split <;> omega
/-- is a clean path, or the root, a directory's? Is it there? -/
def dirR (L : List Nd) (p : ByteArray) : Bool × Bool :=
  if p = slash then (true, true) else if h : idxR L p < L.length then (decide (L[idxR L p].kind = 1), true) else (false, false)

set_option maxRecDepth 100000 in
set_option maxHeartbeats 4000000 in
theorem rdir_any (tb c : Nat) (a : Option Addr) (L : List Nd) (p : ByteArray) (w : World) (h : RefAt w tb a c L) :
    Calls Tryz.prog 20 #[.pointer (some ⟨tb, 0, none⟩), .string p] w fun e w' => e = .returned (.tuple #[.bool (dirR L p).1, .bool (dirR L p).2]) ∧ Below w.heap.size w w' := by
  by_cases hs : p = slash
  · have hR : dirR L p = (true, true) := by unfold dirR; rw [if_pos hs]
    rw [hR]
    subst hs
    unfold slash
    clear hR h
    go_enter Tryz.func20, Tryz.ntmps20
    go_wp2_with fail
    go_ret2
    exact ⟨rfl, Below.refl _ _⟩
  have hne : (p.toList == [47]) = false := by
    have := text_ne hs
    rwa [show slash.toList = [47] from slash_list] at this
  have HF := Lib.hid (rfind_any tb c a L p w h)
  by_cases hi : idxR L p < L.length
  · have hR : dirR L p = (decide (L[idxR L p].kind = 1), true) := by unfold dirR; rw [if_neg hs, dif_pos hi]
    have hfi : findR L p = (idxR L p : Int) := by unfold findR; rw [if_pos hi]
    rw [hfi] at HF
    rw [hR]
    have HR := Lib.hid h.row
    have HM := Lib.hid h.many
    have HBX := Lib.hid h.box
    obtain ⟨n, hn⟩ : ∃ n, L.length = n := ⟨_, rfl⟩
    rw [hn] at HM HBX
    obtain ⟨k, hk⟩ : ∃ k, idxR L p = k := ⟨_, rfl⟩
    have hkL : k < L.length := by rw [← hk]; exact hi
    obtain ⟨q, hq⟩ : ∃ q, (L[k]'hkL).kind = q := ⟨_, rfl⟩
    have hqq : L[idxR L p].kind = q := by subst hk; exact hq
    rw [hqq]
    rw [hk] at HF
    obtain ⟨R, hRR⟩ : ∃ R, decide (q = 1) = R := ⟨_, rfl⟩
    rw [hRR]
    have hd : (q == 1) = R := by rw [← hRR, Bool.eq_iff_iff, beq_iff_eq, decide_eq_true_eq]
    have HD := Lib.hid hd
    clear hRR hd
    have hlt : k < n := by omega
    have HKL := Lib.hid hkL
    have HQ := Lib.hid hq
    clear hR hfi hs h hi hk hqq hq hn
    go_enter Tryz.func20, Tryz.ntmps20
    go_wp2_with fail
    refine HF.out.mono ?_
    rintro e w2 ⟨rfl, hb2⟩
    have B2 := Lib.hid hb2
    obtain ⟨b, o, rfl, hbl, hcs⟩ := (HR.out.below hb2) k HKL.out
    have c1 : w2.cell? ⟨b, o + k * 5 + 1, none⟩ = some (.int .i64 q) := by rw [← HQ.out]; exact hcs 1 (by omega)
    have t0 : w2.cell? ⟨tb, 0, none⟩ = some (.slice (some ⟨b, o, none⟩) n c) := by
      have := cell_of_row _ _ 0 _ _ _ ((hb2.block _ (lt_of_block HBX.out)).trans HBX.out)
      simpa using this
    clear hb2 hcs
    have hd := HD.out
    have tk : decide ((k : Int) < 0) = false := decide_eq_false (by omega)
    go_wp2_with fail
    go_ret2
    exact ⟨rfl, B2.out⟩
  · have hR : dirR L p = (false, false) := by unfold dirR; rw [if_neg hs, dif_neg hi]
    have hfi : findR L p = -1 := by unfold findR; rw [if_neg hi]
    rw [hfi] at HF
    rw [hR]
    clear hR hfi hs h hi
    go_enter Tryz.func20, Tryz.ntmps20
    go_wp2_with fail
    refine HF.out.mono ?_
    rintro e w2 ⟨rfl, hb2⟩
    have B2 := Lib.hid hb2
    clear hb2
    go_wp2_with fail
    go_ret2
    exact ⟨rfl, B2.out⟩

/-- which file's node a node is; -1: none -/
def fileR (L : List Nd) : Nat → Nat → Int
  | 0, _ => -1
  | f + 1, i => if h : i < L.length then (if L[i].kind = 3 then fileR L f (idxR L L[i].tgt) else if L[i].kind = 0 then (i : Int) else -1) else -1
/-- each further name stands behind what it names -/
def HardOk (L : List Nd) : Prop := ∀ i, (h : i < L.length) → L[i].kind = 3 → idxR L L[i].tgt < i
theorem fileR_fuel {L : List Nd} (hL : HardOk L) : ∀ (f g i : Nat), i < f → i < g → fileR L f i = fileR L g i
  | 0, g, i, hf, hg => by omega
  | f + 1, 0, i, hf, hg => by omega
  | f + 1, g + 1, i, hf, hg => by
    unfold fileR
    split
    · rename_i h
      split
      · rename_i h3
        have := hL i h h3
        exact fileR_fuel hL f g _ (by omega) (by omega)
      · rfl
    · rfl

set_option maxRecDepth 100000 in
set_option maxHeartbeats 4000000 in
theorem rfile_any (tb c : Nat) (a : Option Addr) (L : List Nd) (i : Nat) (w : World) (h : RefAt w tb a c L) (hH : HardOk L) (hi : i < L.length) :
    Calls Tryz.prog 48 #[.pointer (some ⟨tb, 0, none⟩), .int .i64 (i : Int)] w fun e w' => e = .returned (.int .i64 (fileR L (i + 1) i)) ∧ Below w.heap.size w w' := by
  obtain ⟨R, hR⟩ : ∃ R, fileR L (i + 1) i = R := ⟨_, rfl⟩
  obtain ⟨n, hn⟩ : ∃ n, L.length = n := ⟨_, rfl⟩
  have HN := Lib.hid hn
  have HHO := Lib.hid hH
  have HT : Hid (∀ wx, Below w.heap.size w wx → wx.cell? ⟨tb, 0, none⟩ = some (.slice a n c)) := Lib.hid (fun wx hb => by
    have := cell_of_row _ _ 0 _ _ _ (h.below hb).box
    rw [hn] at this
    simpa using this)
  have HRW : Hid (∀ wx, Below w.heap.size w wx → RefAt wx tb a c L) := Lib.hid (fun wx hb => h.below hb)
  have HM : Hid (n ≤ 1024) := Lib.hid (by have := h.many; omega)
  have HI0 : Hid (fileR L (i + 1) i = R ∧ i < L.length) := Lib.hid ⟨hR, hi⟩
  rw [hR]
  clear hR hn h hH hi
  go_enter Tryz.func48, Tryz.ntmps48
  go_wp2_with fail
  go_loopg [1] (i + 1) (fun g iv wr => ∃ k : Nat, k + 1 ≤ g ∧ iv = .int .i64 (k : Int) ∧ Hid (fileR L (k + 1) k = R ∧ k < L.length) ∧ Hid (Below w.heap.size w wr))
  case atStart => exact ⟨i, Nat.le_refl _, rfl, HI0, Lib.hid (Below.refl _ _)⟩
  case round =>
    obtain ⟨k, hk, rfl, HK, HB⟩ := hrel
    have ht := HT.out wr HB.out
    obtain ⟨g, rfl⟩ : ∃ g, gk = g + 1 := ⟨gk - 1, by omega⟩
    have hkL : k < L.length := HK.out.2
    have hlt : k < n := by rw [← HN.out]; exact hkL
    obtain ⟨nd, hnd⟩ : ∃ nd, (L[k]'hkL) = nd := ⟨_, rfl⟩
    obtain ⟨b, o, rfl, hbl, hcs⟩ := (HRW.out wr HB.out).row k hkL
    rw [hnd] at hcs
    have c1 : wr.cell? ⟨b, o + k * 5 + 1, none⟩ = some (.int .i64 nd.kind) := hcs 1 (by omega)
    have c3 : wr.cell? ⟨b, o + k * 5 + 3, none⟩ = some (.string nd.tgt) := hcs 3 (by omega)
    have HKK := Lib.hid hk
    have hst : R = if nd.kind = 3 then fileR L k (idxR L nd.tgt) else if nd.kind = 0 then (k : Int) else -1 := by
      rw [← HK.out.1, fileR, dif_pos hkL, hnd]
    by_cases h3 : nd.kind = 3
    · have hid : idxR L nd.tgt < k := by
        have := HHO.out k hkL (by rw [hnd]; exact h3)
        rw [hnd] at this
        exact this
      have hfi : findR L nd.tgt = (idxR L nd.tgt : Int) := by unfold findR; rw [if_pos (by omega)]
      have HF := Lib.hid (rfind_any tb c (some ⟨b, o, none⟩) L nd.tgt wr (HRW.out wr HB.out))
      rw [hfi] at HF
      rw [if_pos h3] at hst
      have HNX : Hid (fileR L (idxR L nd.tgt + 1) (idxR L nd.tgt) = R ∧ idxR L nd.tgt < L.length) := Lib.hid ⟨by rw [hst]; exact fileR_fuel HHO.out _ _ _ (by omega) hid, by omega⟩
      have HID := Lib.hid hid
      rw [h3] at c1
      generalize idxR L nd.tgt = j at *
      generalize nd.tgt = q at *
      clear hst hfi hid h3 hcs hnd hk hkL
      go_wp2_with fail
      refine HF.out.mono ?_
      rintro e w2 ⟨rfl, hb2⟩
      have B2 := Lib.hid (bstep HB.out hb2)
      clear hb2
      go_wp2_with fail
      go_roundg g
      case measure => omega
      case rel => exact ⟨j, by have := HID.out; have := HKK.out; omega, rfl, HNX, B2⟩
    · rw [if_neg h3] at hst
      have t3 : (nd.kind == 3) = false := beq_eq_false_iff_ne.2 h3
      by_cases h0 : nd.kind = 0
      · rw [if_pos h0] at hst
        have HE := Lib.hid hst
        rw [h0] at c1
        clear hst h3 hcs hnd hk hkL t3 h0 c3
        go_wp2_with fail
        go_ret
        rw [HE.out]
        exact ⟨rfl, HB.out⟩
      · rw [if_neg h0] at hst
        have HE := Lib.hid hst
        have t0 : (nd.kind == 0) = false := beq_eq_false_iff_ne.2 h0
        generalize nd.kind = q at *
        clear hst h3 hcs hnd hk hkL h0 c3
        go_wp2_with fail
        go_ret
        rw [HE.out]
        exact ⟨rfl, HB.out⟩
end Go.Proofs.YtcabpidbdnlomaaGreatDoor
