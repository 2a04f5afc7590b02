/- Layer 6, the document's own answer: the symbols of a file, whatever is asked for. -/
import Derived.Test.YtbmfjchpfhealaaRefRead
namespace Go.Proofs.Ytbmfjchpfhealaa
open Go.RowKit
set_option linter.unusedVariables false
set_option linter.unusedSimpArgs false

set_option maxRecDepth 100000 in
set_option maxHeartbeats 8000000 in
theorem ref_strs (a : Option Addr) (cap : Nat) (bs : List Nat) (ty en : Int) (p : Option Addr) (pc : Nat) (ps : List PT) (d : DT) (n : Nat) (w : World) (hb : BRow w a bs) (hbl : bs.length ≤ 140737488351232) (hbc : bs.length ≤ cap) (hbn : a = none → bs.length = 0 ∧ cap = 0)
    (h : PRow w p ps) (hl : ps.length ≤ 140737488351232) (hd : d.wf) (hn : n ≤ 4096) (c : Nat) (hS : strF bs ps d.strtab d.strsz = ([], c)) (hc : 0 < c) :
    Calls Try.prog 10 #[.slice a bs.length cap, headV ty en p ps.length pc, .agg d.cells, .int .i64 (n : Int)] w (RefAns ([], c) w) := by
  have HST := Lib.hid (fun (w1 : World) (hb1 : Below w.heap.size w w1) => refStrings_any a cap bs ty en p pc ps d w1 (hb.below hb1) hbl hbc hbn (h.below hb1) hl hd.strtab hd.strsz)
  rw [hS] at HST
  have hcz : ((c : Int) != 0) = true := by rw [bne_iff_ne]; omega
  clear h hb hbn hS hd
  have HI : Hid ((Try.prog.info? 29).map (·.size) = some d.cells.size) := Lib.hid (show _ = some 37 by kernel_rfl)
  generalize d.cells = D at *
  have B1 : Hid (Below w.heap.size w ((w.alloc (.cells #[.int .i64 ty, .int .u64 en, .slice p ps.length pc] 26)).alloc (.cells D 29))) := Lib.hid (((Below.refl _ _).alloc (Nat.le_refl _) _).alloc (by simp) _)
  have FH : Hid (∀ w1, Below ((w.alloc (.cells #[.int .i64 ty, .int .u64 en, .slice p ps.length pc] 26)).alloc (.cells D 29)).heap.size ((w.alloc (.cells #[.int .i64 ty, .int .u64 en, .slice p ps.length pc] 26)).alloc (.cells D 29)) w1 →
      w1.cell? ⟨w.heap.size, 0, none⟩ = some (.int .i64 ty) ∧ w1.cell? ⟨w.heap.size, 1, none⟩ = some (.int .u64 en) ∧ w1.cell? ⟨w.heap.size, 2, none⟩ = some (.slice p ps.length pc) ∧
      w1.heap[w.heap.size + 1]? = some (.cells D 29)) := Lib.hid (by
    intro w1 hw1
    have e1 : ∀ j, w1.cell? ⟨w.heap.size, j, none⟩ = (w.alloc (.cells #[.int .i64 ty, .int .u64 en, .slice p ps.length pc] 26)).cell? ⟨w.heap.size, j, none⟩ := fun j => by
      rw [hw1.cell (p := ⟨w.heap.size, j, none⟩) (by simp; omega)]
      exact (Below.cell (((Below.refl _ _).alloc (Nat.le_refl _) _)) (p := ⟨w.heap.size, j, none⟩) (by simp))
    refine ⟨?_, ?_, ?_, ?_⟩
    · rw [e1, World.cell?_alloc_new]; rfl
    · rw [e1, World.cell?_alloc_new]; rfl
    · rw [e1, World.cell?_alloc_new]; rfl
    · rw [hw1.block _ (by simp)]
      have := heap_alloc_new (w.alloc (.cells #[.int .i64 ty, .int .u64 en, .slice p ps.length pc] 26)) (.cells D 29)
      simpa using this)
  unfold headV at *
  go_enter Try.func10, Try.ntmps10
  have F3 : Hid (((w.alloc (.cells #[.int .i64 ty, .int .u64 en, .slice p ps.length pc] 26)).alloc (.cells D 29)).heap[w.heap.size + 1]? = some (.cells D 29)) := Lib.hid (FH.out _ (Below.refl _ _)).2.2.2
  clear FH
  go_wp2_with (refine wpList_load_row rfl 29 _ rfl (w.heap.size + 1) rfl 29 D (0, 0) _ F3.out Try.underlying29 rfl HI.out ?_)
  refine (HST.out _ B1.out).mono ?_
  rintro e w2 ⟨sa, sc, rfl, hr2, hsc, hsn, hb2⟩
  have B2 := Lib.hid (bstep B1.out hb2)
  clear hr2 hsn hb2 HST HI B1 F3
  go_wp2
  go_ret2
  exact RefAns.no (c := c) rfl B2.out

set_option maxRecDepth 100000 in
set_option maxHeartbeats 8000000 in
theorem ref_table (a : Option Addr) (cap : Nat) (bs : List Nat) (ty en : Int) (p : Option Addr) (pc : Nat) (ps : List PT) (d : DT) (n : Nat) (w : World) (hb : BRow w a bs) (hbl : bs.length ≤ 140737488351232) (hbc : bs.length ≤ cap) (hbn : a = none → bs.length = 0 ∧ cap = 0)
    (h : PRow w p ps) (hl : ps.length ≤ 140737488351232) (hd : d.wf) (hn : n ≤ 4096) (s : List Nat) (hS : strF bs ps d.strtab d.strsz = (s, 0)) (hT : sliceF bs ps d.symtab (24 * n) = ([], 4)) :
    Calls Try.prog 10 #[.slice a bs.length cap, headV ty en p ps.length pc, .agg d.cells, .int .i64 (n : Int)] w (RefAns ([], 4) w) := by
  have HST := Lib.hid (fun (w1 : World) (hb1 : Below w.heap.size w w1) => refStrings_any a cap bs ty en p pc ps d w1 (hb.below hb1) hbl hbc hbn (h.below hb1) hl hd.strtab hd.strsz)
  have HSL := Lib.hid (fun (w1 : World) (hb1 : Below w.heap.size w w1) => refSlice_any a cap bs ty en p pc ps d.symtab (24 * n) w1 (hb.below hb1) hbl hbc hbn (h.below hb1) hl hd.symtab (small24 hn))
  rw [hS] at HST
  rw [hT] at HSL
  unfold CutAns at HST HSL
  simp only at HST HSL
  push_cast at HSL
  clear h hb hbn hS hT hd
  have HI : Hid ((Try.prog.info? 29).map (·.size) = some d.cells.size) := Lib.hid (show _ = some 37 by kernel_rfl)
  have hD5 : d.cells[5]? = some (.int .u64 (d.symtab : Int)) := rfl
  generalize d.cells = D at *
  generalize d.symtab = symtab at *
  have B1 : Hid (Below w.heap.size w ((w.alloc (.cells #[.int .i64 ty, .int .u64 en, .slice p ps.length pc] 26)).alloc (.cells D 29))) := Lib.hid (((Below.refl _ _).alloc (Nat.le_refl _) _).alloc (by simp) _)
  have FH : Hid (∀ w1, Below ((w.alloc (.cells #[.int .i64 ty, .int .u64 en, .slice p ps.length pc] 26)).alloc (.cells D 29)).heap.size ((w.alloc (.cells #[.int .i64 ty, .int .u64 en, .slice p ps.length pc] 26)).alloc (.cells D 29)) w1 →
      w1.cell? ⟨w.heap.size, 0, none⟩ = some (.int .i64 ty) ∧ w1.cell? ⟨w.heap.size, 1, none⟩ = some (.int .u64 en) ∧ w1.cell? ⟨w.heap.size, 2, none⟩ = some (.slice p ps.length pc) ∧
      w1.heap[w.heap.size + 1]? = some (.cells D 29) ∧ w1.cell? ⟨w.heap.size + 1, 5, none⟩ = some (.int .u64 (symtab : Int))) := Lib.hid (by
    intro w1 hw1
    have e1 : ∀ j, w1.cell? ⟨w.heap.size, j, none⟩ = (w.alloc (.cells #[.int .i64 ty, .int .u64 en, .slice p ps.length pc] 26)).cell? ⟨w.heap.size, j, none⟩ := fun j => by
      rw [hw1.cell (p := ⟨w.heap.size, j, none⟩) (by simp; omega)]
      exact (Below.cell (((Below.refl _ _).alloc (Nat.le_refl _) _)) (p := ⟨w.heap.size, j, none⟩) (by simp))
    refine ⟨?_, ?_, ?_, ?_, ?_⟩
    · rw [e1, World.cell?_alloc_new]; rfl
    · rw [e1, World.cell?_alloc_new]; rfl
    · rw [e1, World.cell?_alloc_new]; rfl
    · rw [hw1.block _ (by simp)]
      have := heap_alloc_new (w.alloc (.cells #[.int .i64 ty, .int .u64 en, .slice p ps.length pc] 26)) (.cells D 29)
      simpa using this
    · rw [hw1.cell (p := ⟨w.heap.size + 1, 5, none⟩) (by simp), second_cells]
      exact hD5)
  clear hD5
  unfold headV at *
  go_enter Try.func10, Try.ntmps10
  have F3 : Hid (((w.alloc (.cells #[.int .i64 ty, .int .u64 en, .slice p ps.length pc] 26)).alloc (.cells D 29)).heap[w.heap.size + 1]? = some (.cells D 29)) := Lib.hid (FH.out _ (Below.refl _ _)).2.2.2.1
  go_wp2_with (refine wpList_load_row rfl 29 _ rfl (w.heap.size + 1) rfl 29 D (0, 0) _ F3.out Try.underlying29 rfl HI.out ?_)
  refine (HST.out _ B1.out).mono ?_
  rintro e w2 ⟨sa, sc, rfl, hr2, hsc, hsn, hb2⟩
  obtain ⟨f0, f1, f2, f3, f4⟩ := FH.out _ hb2
  have B2 := Lib.hid (bstep B1.out hb2)
  clear hr2 hb2 f3 hsn F3
  go_wp2_with fail
  refine (HSL.out _ B2.out).mono ?_
  rintro e w3 ⟨ta, tc, rfl, hr3, htc, htn, hb3⟩
  have B3 := Lib.hid (bstep B2.out hb3)
  clear hr3 hb3 htn f0 f1 f2 f4 FH HSL HST B1 HI B2
  go_wp2
  go_ret2
  exact RefAns.no (c := 4) rfl B3.out

set_option maxRecDepth 100000 in
set_option maxHeartbeats 8000000 in
theorem ref_any (a : Option Addr) (cap : Nat) (bs : List Nat) (ty en : Int) (p : Option Addr) (pc : Nat) (ps : List PT) (d : DT) (n : Int) (w : World) (hb : BRow w a bs) (hbl : bs.length ≤ 140737488351232) (hbc : bs.length ≤ cap) (hbn : a = none → bs.length = 0 ∧ cap = 0)
    (h : PRow w p ps) (hl : ps.length ≤ 140737488351232) (hd : d.wf) (hn1 : -9223372036854775808 ≤ n) (hn2 : n < 9223372036854775808) :
    Calls Try.prog 10 #[.slice a bs.length cap, headV ty en p ps.length pc, .agg d.cells, .int .i64 n] w (RefAns (readF bs ps d n) w) := by
  by_cases hn : n < 0
  · have hF : readF bs ps d n = ([], 1) := by rw [readF, if_pos hn]
    rw [hF]
    clear hF
    have HB : Hid (∀ D, Below w.heap.size w ((w.alloc (.cells #[.int .i64 ty, .int .u64 en, .slice p ps.length pc] 26)).alloc (.cells D 29))) := Lib.hid (fun D => ((Below.refl _ _).alloc (Nat.le_refl _) _).alloc (by simp) _)
    generalize d.cells = D at *
    clear h hb hbn
    unfold headV
    go_enter Try.func10, Try.ntmps10
    go_wp2
    go_ret2
    exact RefAns.no (c := 1) rfl (HB.out _)
  · by_cases hn4 : 4096 < n
    · have hF : readF bs ps d n = ([], 2) := by rw [readF, if_neg hn, if_pos hn4]
      rw [hF]
      clear hF
      have HB : Hid (∀ D, Below w.heap.size w ((w.alloc (.cells #[.int .i64 ty, .int .u64 en, .slice p ps.length pc] 26)).alloc (.cells D 29))) := Lib.hid (fun D => ((Below.refl _ _).alloc (Nat.le_refl _) _).alloc (by simp) _)
      generalize d.cells = D at *
      clear h hb hbn
      unfold headV
      go_enter Try.func10, Try.ntmps10
      go_wp2
      go_ret2
      exact RefAns.no (c := 2) rfl (HB.out _)
    · obtain ⟨m, rfl⟩ := Int.eq_ofNat_of_zero_le (show 0 ≤ n by omega)
      have hm : m ≤ 4096 := by omega
      have hmn : ((m : Int)).toNat = m := Int.toNat_natCast m
      rcases strF_code bs ps d.strtab d.strsz with hs0 | hs1
      · obtain ⟨s, hS⟩ : ∃ s, strF bs ps d.strtab d.strsz = (s, 0) := ⟨_, Prod.ext rfl hs0⟩
        rcases sliceF_alt bs ps d.symtab (24 * m) with ⟨t, hT, -, -⟩ | hT
        · have hF : readF bs ps d (m : Int) = if symsErr s t m = 0 then (symsTo s t m, 0) else ([], symsErr s t m) := by
            rw [readF, if_neg hn, if_neg hn4, hmn, hS, hT, if_neg (by simp), if_neg (by simp)]
          rw [hF]
          exact ref_in a cap bs ty en p pc ps d m w hb hbl hbc hbn h hl hd hm s t hS hT
        · have hF : readF bs ps d (m : Int) = ([], 4) := by
            rw [readF, if_neg hn, if_neg hn4, hmn, hS, hT, if_neg (by simp), if_pos (by simp)]
          rw [hF]
          exact ref_table a cap bs ty en p pc ps d m w hb hbl hbc hbn h hl hd hm s hS hT
      · have hF : ∃ c, strF bs ps d.strtab d.strsz = ([], c) ∧ 0 < c := by
          rcases hs1 with h1 | h1 | h1
          · exact ⟨2, h1, by omega⟩
          · exact ⟨3, h1, by omega⟩
          · exact ⟨4, h1, by omega⟩
        obtain ⟨c, hS, hc⟩ := hF
        have hF : readF bs ps d (m : Int) = ([], c) := by
          rw [readF, if_neg hn, if_neg hn4, hmn, hS, if_pos (by simp; omega)]
        rw [hF]
        exact ref_strs a cap bs ty en p pc ps d m w hb hbl hbc hbn h hl hd hm c hS hc
end Go.Proofs.Ytbmfjchpfhealaa
