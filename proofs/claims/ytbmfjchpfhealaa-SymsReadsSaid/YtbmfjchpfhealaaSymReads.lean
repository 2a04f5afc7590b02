/- Layer 6: the symbols of a file, whatever is asked for: the program's answer. -/
import Derived.Test.YtbmfjchpfhealaaSymRead
namespace Go.Proofs.Ytbmfjchpfhealaa
open Go.RowKit
set_option linter.unusedVariables false
set_option linter.unusedSimpArgs false

/-- the symbols of a file; an error's number behind -/
def readF (bs : List Nat) (ps : List PT) (d : DT) (n : Int) : List (List Value) × Nat :=
  if n < 0 then ([], 1) else if 4096 < n then ([], 2) else if (strF bs ps d.strtab d.strsz).2 ≠ 0 then ([], (strF bs ps d.strtab d.strsz).2)
  else if (sliceF bs ps d.symtab (24 * n.toNat)).2 ≠ 0 then ([], (sliceF bs ps d.symtab (24 * n.toNat)).2)
  else if symsErr (strF bs ps d.strtab d.strsz).1 (sliceF bs ps d.symtab (24 * n.toNat)).1 n.toNat = 0 then (symsTo (strF bs ps d.strtab d.strsz).1 (sliceF bs ps d.symtab (24 * n.toNat)).1 n.toNat, 0)
  else ([], symsErr (strF bs ps d.strtab d.strsz).1 (sliceF bs ps d.symtab (24 * n.toNat)).1 n.toNat)
theorem readF_code (bs : List Nat) (ps : List PT) (d : DT) (n : Int) : (readF bs ps d n).2 = 0 ∨ ((readF bs ps d n).1 = [] ∧ 1 ≤ (readF bs ps d n).2 ∧ (readF bs ps d n).2 ≤ 4) := by
  unfold readF
  split
  · right; simp
  · split
    · right; simp
    · split
      · rename_i h
        right
        rcases strF_code bs ps d.strtab d.strsz with h1 | h1 | h1 | h1
        · exact absurd h1 h
        all_goals rw [h1]; simp
      · split
        · rename_i h
          right
          rcases sliceF_alt bs ps d.symtab (24 * n.toNat) with ⟨t, h1, -⟩ | h1
          · rw [h1] at h; exact absurd rfl h
          · rw [h1]; simp
        · split
          · left; rfl
          · rename_i h
            right
            have := symsErr_code (strF bs ps d.strtab d.strsz).1 (sliceF bs ps d.symtab (24 * n.toNat)).1 n.toNat
            simp only [true_and]
            omega
/-- what is told of what is answered without an error -/
theorem readF_yes {bs : List Nat} {ps : List PT} {d : DT} {n : Int} (h : (readF bs ps d n).2 = 0) : 0 ≤ n ∧ n ≤ 4096 ∧ ∃ s t, strF bs ps d.strtab d.strsz = (s, 0) ∧ sliceF bs ps d.symtab (24 * n.toNat) = (t, 0) ∧ symsErr s t n.toNat = 0 ∧ readF bs ps d n = (symsTo s t n.toNat, 0) := by
  unfold readF at h ⊢
  split at h
  · simp at h
  · rename_i h1
    split at h
    · simp at h
    · rename_i h2
      split at h
      · rename_i h3; exact absurd h h3
      · rename_i h3
        split at h
        · rename_i h4; exact absurd h h4
        · rename_i h4
          split at h
          · rename_i h5
            rw [if_neg h1, if_neg h2, if_neg h3, if_neg h4, if_pos h5]
            have e1 : (strF bs ps d.strtab d.strsz).2 = 0 := by simpa using h3
            have e2 : (sliceF bs ps d.symtab (24 * n.toNat)).2 = 0 := by simpa using h4
            exact ⟨by omega, by omega, _, _, Prod.ext rfl e1, Prod.ext rfl e2, h5, rfl⟩
          · rename_i h5; exact absurd h h5

/-- what Read answers, in one -/
def ReadAns (F : List (List Value) × Nat) (w : World) (e : Ending) (w' : World) : Prop :=
  ∃ ad c, e = .returned (.tuple #[.slice ad F.1.length c, errV (F.2 : Int)]) ∧ OwnS w' w.heap.size 39 7 (.slice ad F.1.length c) F.1 ∧ Below w.heap.size w w'
theorem ReadAns.no {F : List (List Value) × Nat} {c : Nat} {w w' : World} (h : F = ([], c)) (hb : Below w.heap.size w w') : ReadAns F w (.returned (.tuple #[.slice none 0 0, errV (c : Int)])) w' := by
  subst h
  exact ⟨none, 0, rfl, OwnS.nil _ _ _ _, hb⟩
theorem errV_pos {c : Nat} (h : 0 < c) : errV (c : Int) = .iface 59 (.int .i64 (c : Int)) := by unfold errV; rw [if_neg (by omega)]

set_option maxRecDepth 100000 in
set_option maxHeartbeats 8000000 in
theorem read_strs (a : Option Addr) (cap : Nat) (bs : List Nat) (ty en : Int) (p : Option Addr) (pc : Nat) (ps : List PT) (d : DT) (n : Nat) (w : World) (hb : BRow w a bs) (hbl : bs.length ≤ 140737488351232) (hbc : bs.length ≤ cap) (hbn : a = none → bs.length = 0 ∧ cap = 0)
    (h : PRow w p ps) (hl : ps.length ≤ 140737488351232) (hd : d.wf) (hn : n ≤ 4096) (c : Nat) (hS : strF bs ps d.strtab d.strsz = ([], c)) (hc : 0 < c) :
    Calls Try.prog 7 #[.slice a bs.length cap, headV ty en p ps.length pc, .agg d.cells, .int .i64 (n : Int)] w (ReadAns ([], c) w) := by
  have HST := Lib.hid (fun (w1 : World) (hb1 : Below w.heap.size w w1) => strings_any a cap bs ty en p pc ps d w1 (hb.below hb1) hbl hbc hbn (h.below hb1) hl hd.strtab hd.strsz)
  rw [hS] at HST
  simp only at HST
  rw [errV_pos hc] at HST
  have HC := Lib.hid (errV_pos hc)
  clear h hb hbn hS hd
  have HI : Hid ((Try.prog.info? 29).map (·.size) = some d.cells.size) := Lib.hid (show _ = some 37 by kernel_rfl)
  have hD5 : d.cells[5]? = some (.int .u64 (d.symtab : Int)) := rfl
  generalize d.cells = D at *
  generalize d.symtab = symtab at *
  have B1 : Hid (Below w.heap.size w ((w.alloc (.cells #[.int .i64 ty, .int .u64 en, .slice p ps.length pc] 26)).alloc (.cells D 29))) := Lib.hid (((Below.refl _ _).alloc (Nat.le_refl _) _).alloc (by simp) _)
  have HG : Hid (((w.alloc (.cells #[.int .i64 ty, .int .u64 en, .slice p ps.length pc] 26)).alloc (.cells D 29)).heap[w.heap.size + 1]? = some (.cells D 29)) := Lib.hid (by
    have := heap_alloc_new (w.alloc (.cells #[.int .i64 ty, .int .u64 en, .slice p ps.length pc] 26)) (.cells D 29)
    simpa using this)
  have FH : Hid (∀ w1, Below ((w.alloc (.cells #[.int .i64 ty, .int .u64 en, .slice p ps.length pc] 26)).alloc (.cells D 29)).heap.size ((w.alloc (.cells #[.int .i64 ty, .int .u64 en, .slice p ps.length pc] 26)).alloc (.cells D 29)) w1 →
      w1.cell? ⟨w.heap.size, 0, none⟩ = some (.int .i64 ty) ∧ w1.cell? ⟨w.heap.size, 1, none⟩ = some (.int .u64 en) ∧ w1.cell? ⟨w.heap.size, 2, none⟩ = some (.slice p ps.length pc) ∧
      w1.cell? ⟨w.heap.size + 1, 5, none⟩ = some (.int .u64 (symtab : Int))) := Lib.hid (by
    intro w1 hw1
    have e1 : ∀ j, w1.cell? ⟨w.heap.size, j, none⟩ = (w.alloc (.cells #[.int .i64 ty, .int .u64 en, .slice p ps.length pc] 26)).cell? ⟨w.heap.size, j, none⟩ := fun j => by
      rw [hw1.cell (p := ⟨w.heap.size, j, none⟩) (by simp; omega)]
      exact (Below.cell (((Below.refl _ _).alloc (Nat.le_refl _) _)) (p := ⟨w.heap.size, j, none⟩) (by simp))
    refine ⟨?_, ?_, ?_, ?_⟩
    · rw [e1, World.cell?_alloc_new]; rfl
    · rw [e1, World.cell?_alloc_new]; rfl
    · rw [e1, World.cell?_alloc_new]; rfl
    · rw [hw1.cell (p := ⟨w.heap.size + 1, 5, none⟩) (by simp), second_cells]
      exact hD5)
  clear hD5
  clear FH
  unfold headV at *
  go_enter Try.func7, Try.ntmps7
  go_wp2_with (refine wpList_load_row rfl 29 _ rfl (w.heap.size + 1) rfl 29 D (0, 0) _ HG.out Try.underlying29 rfl HI.out ?_)
  refine (HST.out _ B1.out).mono ?_
  rintro e w2 ⟨sa, sc, rfl, ho2, hb2⟩
  have B2 := Lib.hid (bstep B1.out hb2)
  clear ho2 hb2 HST HG HI B1
  go_wp2
  go_ret2
  have := ReadAns.no (w := w) (w' := w2) (c := c) rfl B2.out
  rw [HC.out] at this
  exact this

set_option maxRecDepth 100000 in
set_option maxHeartbeats 8000000 in
theorem read_table (a : Option Addr) (cap : Nat) (bs : List Nat) (ty en : Int) (p : Option Addr) (pc : Nat) (ps : List PT) (d : DT) (n : Nat) (w : World) (hb : BRow w a bs) (hbl : bs.length ≤ 140737488351232) (hbc : bs.length ≤ cap) (hbn : a = none → bs.length = 0 ∧ cap = 0)
    (h : PRow w p ps) (hl : ps.length ≤ 140737488351232) (hd : d.wf) (hn : n ≤ 4096) (s : List Nat) (hS : strF bs ps d.strtab d.strsz = (s, 0)) (hT : sliceF bs ps d.symtab (24 * n) = ([], 4)) :
    Calls Try.prog 7 #[.slice a bs.length cap, headV ty en p ps.length pc, .agg d.cells, .int .i64 (n : Int)] w (ReadAns ([], 4) w) := by
  have HST := Lib.hid (fun (w1 : World) (hb1 : Below w.heap.size w w1) => strings_any a cap bs ty en p pc ps d w1 (hb.below hb1) hbl hbc hbn (h.below hb1) hl hd.strtab hd.strsz)
  have HSL := Lib.hid (fun (w1 : World) (hb1 : Below w.heap.size w w1) => slice_any a cap bs ty en p pc ps d.symtab (24 * n) w1 (hb.below hb1) hbl hbc hbn (h.below hb1) hl hd.symtab (small24 hn))
  rw [hS] at HST
  rw [hT] at HSL
  simp only at HST HSL
  push_cast at HSL
  clear h hb hbn hS hT hd
  have HI : Hid ((Try.prog.info? 29).map (·.size) = some d.cells.size) := Lib.hid (show _ = some 37 by kernel_rfl)
  have hD5 : d.cells[5]? = some (.int .u64 (d.symtab : Int)) := rfl
  generalize d.cells = D at *
  generalize d.symtab = symtab at *
  have B1 : Hid (Below w.heap.size w ((w.alloc (.cells #[.int .i64 ty, .int .u64 en, .slice p ps.length pc] 26)).alloc (.cells D 29))) := Lib.hid (((Below.refl _ _).alloc (Nat.le_refl _) _).alloc (by simp) _)
  have HG : Hid (((w.alloc (.cells #[.int .i64 ty, .int .u64 en, .slice p ps.length pc] 26)).alloc (.cells D 29)).heap[w.heap.size + 1]? = some (.cells D 29)) := Lib.hid (by
    have := heap_alloc_new (w.alloc (.cells #[.int .i64 ty, .int .u64 en, .slice p ps.length pc] 26)) (.cells D 29)
    simpa using this)
  have FH : Hid (∀ w1, Below ((w.alloc (.cells #[.int .i64 ty, .int .u64 en, .slice p ps.length pc] 26)).alloc (.cells D 29)).heap.size ((w.alloc (.cells #[.int .i64 ty, .int .u64 en, .slice p ps.length pc] 26)).alloc (.cells D 29)) w1 →
      w1.cell? ⟨w.heap.size, 0, none⟩ = some (.int .i64 ty) ∧ w1.cell? ⟨w.heap.size, 1, none⟩ = some (.int .u64 en) ∧ w1.cell? ⟨w.heap.size, 2, none⟩ = some (.slice p ps.length pc) ∧
      w1.cell? ⟨w.heap.size + 1, 5, none⟩ = some (.int .u64 (symtab : Int))) := Lib.hid (by
    intro w1 hw1
    have e1 : ∀ j, w1.cell? ⟨w.heap.size, j, none⟩ = (w.alloc (.cells #[.int .i64 ty, .int .u64 en, .slice p ps.length pc] 26)).cell? ⟨w.heap.size, j, none⟩ := fun j => by
      rw [hw1.cell (p := ⟨w.heap.size, j, none⟩) (by simp; omega)]
      exact (Below.cell (((Below.refl _ _).alloc (Nat.le_refl _) _)) (p := ⟨w.heap.size, j, none⟩) (by simp))
    refine ⟨?_, ?_, ?_, ?_⟩
    · rw [e1, World.cell?_alloc_new]; rfl
    · rw [e1, World.cell?_alloc_new]; rfl
    · rw [e1, World.cell?_alloc_new]; rfl
    · rw [hw1.cell (p := ⟨w.heap.size + 1, 5, none⟩) (by simp), second_cells]
      exact hD5)
  clear hD5
  unfold headV at *
  go_enter Try.func7, Try.ntmps7
  go_wp2_with (refine wpList_load_row rfl 29 _ rfl (w.heap.size + 1) rfl 29 D (0, 0) _ HG.out Try.underlying29 rfl HI.out ?_)
  refine (HST.out _ B1.out).mono ?_
  rintro e w2 ⟨sa, sc, rfl, ho2, hb2⟩
  obtain ⟨f0, f1, f2, f3⟩ := FH.out _ hb2
  have B2 := Lib.hid (bstep B1.out hb2)
  clear ho2 hb2
  simp only [errV]
  go_wp2_with fail
  refine (HSL.out _ B2.out).mono ?_
  rintro e w3 ⟨ta, tc, rfl, ho3, hb3⟩
  have B3 := Lib.hid (bstep B2.out hb3)
  clear ho3 hb3 f0 f1 f2 f3 FH HSL HST B1 HG HI B2
  simp only [errV]
  go_wp2
  go_ret2
  exact ReadAns.no (w := w) (w' := w3) (c := 4) rfl B3.out

set_option maxRecDepth 100000 in
set_option maxHeartbeats 8000000 in
theorem read_any (a : Option Addr) (cap : Nat) (bs : List Nat) (ty en : Int) (p : Option Addr) (pc : Nat) (ps : List PT) (d : DT) (n : Int) (w : World) (hb : BRow w a bs) (hbl : bs.length ≤ 140737488351232) (hbc : bs.length ≤ cap) (hbn : a = none → bs.length = 0 ∧ cap = 0)
    (h : PRow w p ps) (hl : ps.length ≤ 140737488351232) (hd : d.wf) (hn1 : -9223372036854775808 ≤ n) (hn2 : n < 9223372036854775808) :
    Calls Try.prog 7 #[.slice a bs.length cap, headV ty en p ps.length pc, .agg d.cells, .int .i64 n] w (ReadAns (readF bs ps d n) w) := by
  by_cases hn : n < 0
  · have hF : readF bs ps d n = ([], 1) := by rw [readF, if_pos hn]
    rw [hF]
    clear hF
    have HB : Hid (∀ D, Below w.heap.size w ((w.alloc (.cells #[.int .i64 ty, .int .u64 en, .slice p ps.length pc] 26)).alloc (.cells D 29))) := Lib.hid (fun D => ((Below.refl _ _).alloc (Nat.le_refl _) _).alloc (by simp) _)
    generalize d.cells = D at *
    clear h hb hbn
    unfold headV
    go_enter Try.func7, Try.ntmps7
    go_wp2
    go_ret2
    exact ReadAns.no rfl (HB.out _)
  · by_cases hn4 : 4096 < n
    · have hF : readF bs ps d n = ([], 2) := by rw [readF, if_neg hn, if_pos hn4]
      rw [hF]
      clear hF
      have HB : Hid (∀ D, Below w.heap.size w ((w.alloc (.cells #[.int .i64 ty, .int .u64 en, .slice p ps.length pc] 26)).alloc (.cells D 29))) := Lib.hid (fun D => ((Below.refl _ _).alloc (Nat.le_refl _) _).alloc (by simp) _)
      generalize d.cells = D at *
      clear h hb hbn
      unfold headV
      go_enter Try.func7, Try.ntmps7
      go_wp2
      go_ret2
      exact ReadAns.no rfl (HB.out _)
    · obtain ⟨m, rfl⟩ := Int.eq_ofNat_of_zero_le (show 0 ≤ n by omega)
      have hm : m ≤ 4096 := by omega
      have hmn : ((m : Int)).toNat = m := Int.toNat_natCast m
      rcases strF_code bs ps d.strtab d.strsz with hs0 | hs1
      · obtain ⟨s, hS⟩ : ∃ s, strF bs ps d.strtab d.strsz = (s, 0) := ⟨_, Prod.ext rfl hs0⟩
        rcases sliceF_alt bs ps d.symtab (24 * m) with ⟨t, hT, -, -⟩ | hT
        · have hF : readF bs ps d (m : Int) = if symsErr s t m = 0 then (symsTo s t m, 0) else ([], symsErr s t m) := by
            rw [readF, if_neg hn, if_neg hn4, hmn, hS, hT, if_neg (by simp), if_neg (by simp)]
          refine (read_in a cap bs ty en p pc ps d m w hb hbl hbc hbn h hl hd hm s t hS hT).mono ?_
          rintro e w' ⟨ad, c, rfl, ho, hb'⟩
          rw [hF]
          by_cases h0 : symsErr s t m = 0
          · rw [if_pos h0] at ho ⊢
            rw [if_pos h0] at ho ⊢
            rw [h0]
            have hl : (symsTo s t m).length = m := by simp [symsTo]
            exact ⟨ad, c, by rw [hl], by rw [hl]; exact ho, hb'⟩
          · rw [if_neg h0] at ho ⊢
            rw [if_neg h0] at ho ⊢
            exact ⟨ad, c, rfl, ho, hb'⟩
        · have hF : readF bs ps d (m : Int) = ([], 4) := by
            rw [readF, if_neg hn, if_neg hn4, hmn, hS, hT, if_neg (by simp), if_pos (by simp)]
          rw [hF]
          exact read_table a cap bs ty en p pc ps d m w hb hbl hbc hbn h hl hd hm s hS hT
      · have hF : ∃ c, strF bs ps d.strtab d.strsz = ([], c) ∧ 0 < c := by
          rcases hs1 with h1 | h1 | h1
          · exact ⟨2, h1, by omega⟩
          · exact ⟨3, h1, by omega⟩
          · exact ⟨4, h1, by omega⟩
        obtain ⟨c, hS, hc⟩ := hF
        have hF : readF bs ps d (m : Int) = ([], c) := by
          rw [readF, if_neg hn, if_neg hn4, hmn, hS, if_pos (by simp; omega)]
        rw [hF]
        exact read_strs a cap bs ty en p pc ps d m w hb hbl hbc hbn h hl hd hm c hS hc
end Go.Proofs.Ytbmfjchpfhealaa
