/- Layer 6, the document's own answer: the symbols of a file. -/
import Derived.Test.YtbmfjchpfhealaaRefStrs
import Derived.Test.YtbmfjchpfhealaaSymReads
import Derived.StillTailTactics
import Derived.Deep.DeepCutAuto
import Derived.Test.YtbmfjchpfhealaaStepS
namespace Go.Proofs.Ytbmfjchpfhealaa
open Go.RowKit
set_option linter.unusedVariables false
set_option linter.unusedSimpArgs false

/-- what the document's Read answers -/
def RefAns (F : List (List Value) × Nat) (w : World) (e : Ending) (w' : World) : Prop :=
  ∃ ad c, e = .returned (.tuple #[.slice ad F.1.length c, .int .i64 (F.2 : Int)]) ∧ OwnS w' w.heap.size 39 7 (.slice ad F.1.length c) F.1 ∧ Below w.heap.size w w'
theorem RefAns.no {F : List (List Value) × Nat} {c : Nat} {w w' : World} (h : F = ([], c)) (hb : Below w.heap.size w w') : RefAns F w (.returned (.tuple #[.slice none 0 0, .int .i64 (c : Int)])) w' := by
  subst h
  exact ⟨none, 0, rfl, OwnS.nil _ _ _ _, hb⟩
/-- .. the tables being told -/
def RefSyms (s t : List Nat) (n : Nat) (w : World) (e : Ending) (w' : World) : Prop :=
  RefAns (if symsErr s t n = 0 then (symsTo s t n, 0) else ([], symsErr s t n)) w e w'
theorem RefSyms.yes {s t : List Nat} {n : Nat} {w w' : World} {ad : Option Addr} {c : Nat} (h : symsErr s t n = 0) (ho : OwnS w' w.heap.size 39 7 (.slice ad n c) (symsTo s t n)) (hb : Below w.heap.size w w') : RefSyms s t n w (.returned (.tuple #[.slice ad n c, .int .i64 0])) w' := by
  unfold RefSyms
  rw [if_pos h]
  have hl : (symsTo s t n).length = n := by simp [symsTo]
  exact ⟨ad, c, by rw [hl]; rfl, by rw [hl]; exact ho, hb⟩
theorem RefSyms.no {s t : List Nat} {n k : Nat} {w w' : World} (h0 : symsErr s t k = 0) (hk : k < n) (h : symErr s t k ≠ 0) (hb : Below w.heap.size w w') : RefSyms s t n w (.returned (.tuple #[.slice none 0 0, .int .i64 (symErr s t k : Int)])) w' := by
  unfold RefSyms
  rw [symsErr_stays h0 h n hk, if_neg h]
  exact RefAns.no rfl hb

theorem refNumber_cut (b o : Nat) (bs : List Nat) (w : World) (h : BRow w (some ⟨b, o, none⟩) bs) (k n c : Nat) (hk : k + n ≤ bs.length) (hn : n ≤ 8) :
    Calls Try.prog 22 #[.slice (some ⟨b, o + k, none⟩) n c] w fun e w' => e = .returned (.int .u64 ((numOf ((bs.drop k).take n) : Nat) : Int)) ∧ w' = w := by
  have hl : ((bs.drop k).take n).length = n := by simp; omega
  have := refNumber_any (some ⟨b, o + k, none⟩) c ((bs.drop k).take n) w (by simpa [WideShapes.add_plain] using h.cut k n) (by omega)
  rw [hl] at this
  refine this.mono ?_
  rintro e w' ⟨rfl, rfl⟩
  exact ⟨rfl, rfl⟩
theorem refText_still (a : Option Addr) (cap : Nat) (s : List Nat) (off : Nat) (w : World) (h : BRow w a s) (hl : s.length ≤ 140737488351232) (hc : s.length ≤ cap) (ho : off < 18446744073709551616) (nm : ByteArray) (c : Nat) (ht : textF s off = (nm, c)) :
    Calls Try.prog 21 #[.slice a s.length cap, .int .u64 off] w fun e w' => e = .returned (.tuple #[.string nm, .int .i64 (c : Int)]) ∧ w' = w := by
  refine (refText_any a cap s off w h hl hc ho).mono ?_
  rintro e w' ⟨rfl, rfl⟩
  rw [ht]
  exact ⟨rfl, rfl⟩

/-- are the first k bytes 0? -/
def zeroTo (e : List Nat) (k : Nat) : Bool := (e.take k).all (· == 0)
theorem zeroTo_succ {e : List Nat} {k : Nat} (h : k < e.length) : zeroTo e (k + 1) = (zeroTo e k && (e.getD k 0 == 0)) := by
  unfold zeroTo
  rw [List.take_succ_eq_append_getElem h, List.all_append, getD_getElem h]
  simp
theorem zeroTo_all {e : List Nat} (h : e.length = 24) : zeroTo e 24 = decide (e = List.replicate 24 0) := by
  unfold zeroTo
  rw [List.take_of_length_le (by omega), Bool.eq_iff_iff, List.all_eq_true, decide_eq_true_eq]
  constructor
  · intro hh
    rw [← h]
    exact List.eq_replicate_iff.2 ⟨rfl, fun b hb => by simpa using hh b hb⟩
  · intro hh b hb
    rw [hh] at hb
    simp [(List.mem_replicate.1 hb).2]

theorem num_two {bs : List Nat} (h : bs.length = 24) : numOf ((bs.drop 6).take 2) = bs.getD 6 0 + 256 * bs.getD 7 0 := by
  have e6 : bs.drop 6 = bs.getD 6 0 :: bs.drop 7 := by rw [List.drop_eq_getElem_cons (by omega), getD_getElem (by omega)]
  have e7 : bs.drop 7 = bs.getD 7 0 :: bs.drop 8 := by rw [List.drop_eq_getElem_cons (by omega), getD_getElem (by omega)]
  rw [e6, e7]
  simp [numOf]
/-- is a symbol amiss? -/
def badB (x4 : Nat) : Bool := !(decide (x4 / 16 ≤ 2) && typedB (x4 % 16))
theorem symAt_named {s t e : List Nat} {k : Nat} (he : (t.drop (24 * k)).take 24 = e) {nm : ByteArray} (ht : textF s (numOf (e.take 4)) = (nm, 0)) (hb : badB (e.getD 4 0) = false) : symAt s t k = (symCells nm e, 0) := by
  have hok : symOk e = true := by unfold badB at hb; unfold symOk; simpa using hb
  unfold symAt
  rw [he]
  unfold symF
  rw [ht, if_pos rfl, if_pos hok]
theorem symAt_amiss {s t e : List Nat} {k : Nat} (he : (t.drop (24 * k)).take 24 = e) {nm : ByteArray} (ht : textF s (numOf (e.take 4)) = (nm, 0)) (hb : badB (e.getD 4 0) = true) : (symAt s t k).2 = 3 := by
  have hok : symOk e = false := by unfold badB at hb; rw [Bool.not_eq_true'] at hb; exact hb
  unfold symAt
  rw [he]
  unfold symF
  rw [ht, if_pos rfl, if_neg (by rw [hok]; decide)]
theorem symAt_text {s t e : List Nat} {k : Nat} (he : (t.drop (24 * k)).take 24 = e) {nm : ByteArray} {c : Nat} (ht : textF s (numOf (e.take 4)) = (nm, c)) (hc : c ≠ 0) : (symAt s t k).2 = c := by
  unfold symAt
  rw [he]
  unfold symF
  rw [ht, if_neg hc]

set_option maxRecDepth 100000 in
set_option maxHeartbeats 8000000 in
theorem ref_in (a : Option Addr) (cap : Nat) (bs : List Nat) (ty en : Int) (p : Option Addr) (pc : Nat) (ps : List PT) (d : DT) (n : Nat) (w : World) (hb : BRow w a bs) (hbl : bs.length ≤ 140737488351232) (hbc : bs.length ≤ cap) (hbn : a = none → bs.length = 0 ∧ cap = 0)
    (h : PRow w p ps) (hl : ps.length ≤ 140737488351232) (hd : d.wf) (hn : n ≤ 4096) (s t : List Nat) (hS : strF bs ps d.strtab d.strsz = (s, 0)) (hT : sliceF bs ps d.symtab (24 * n) = (t, 0)) :
    Calls Try.prog 10 #[.slice a bs.length cap, headV ty en p ps.length pc, .agg d.cells, .int .i64 (n : Int)] w (RefSyms s t n w) := by
  have HST := Lib.hid (fun (w1 : World) (hb1 : Below w.heap.size w w1) => refStrings_any a cap bs ty en p pc ps d w1 (hb.below hb1) hbl hbc hbn (h.below hb1) hl hd.strtab hd.strsz)
  have HSL := Lib.hid (fun (w1 : World) (hb1 : Below w.heap.size w w1) => refSlice_any a cap bs ty en p pc ps d.symtab (24 * n) w1 (hb.below hb1) hbl hbc hbn (h.below hb1) hl hd.symtab (small24 hn))
  rw [hS] at HST
  rw [hT] at HSL
  obtain ⟨htl, htm⟩ := slice_told hT
  obtain ⟨hs1, hs2, hs3⟩ := strF_told hS
  have hsl : s.length ≤ 140737488351232 := by omega
  have hsb : ∀ b ∈ s, b < 256 := fun b hm => hb.2 b (hs3 b hm)
  have htb : ∀ b ∈ t, b < 256 := fun b hm => hb.2 b (htm b hm)
  have HTB := Lib.hid htb
  have HTL := Lib.hid htl
  unfold CutAns at HST HSL
  simp only at HST HSL
  rw [htl] at HSL
  push_cast at HSL
  clear h hb hbn hS hT hd htb hsb htl htm hs1 hs2 hs3
  have HI : Hid ((Try.prog.info? 29).map (·.size) = some d.cells.size) := Lib.hid (show _ = some 37 by kernel_rfl)
  have hD5 : d.cells[5]? = some (.int .u64 (d.symtab : Int)) := rfl
  generalize d.cells = D at *
  generalize d.symtab = symtab at *
  have B1 : Hid (Below w.heap.size w ((w.alloc (.cells #[.int .i64 ty, .int .u64 en, .slice p ps.length pc] 26)).alloc (.cells D 29))) := Lib.hid (((Below.refl _ _).alloc (Nat.le_refl _) _).alloc (by simp) _)
  have FH : Hid (∀ w1, Below ((w.alloc (.cells #[.int .i64 ty, .int .u64 en, .slice p ps.length pc] 26)).alloc (.cells D 29)).heap.size ((w.alloc (.cells #[.int .i64 ty, .int .u64 en, .slice p ps.length pc] 26)).alloc (.cells D 29)) w1 →
      w1.cell? ⟨w.heap.size, 0, none⟩ = some (.int .i64 ty) ∧ w1.cell? ⟨w.heap.size, 1, none⟩ = some (.int .u64 en) ∧ w1.cell? ⟨w.heap.size, 2, none⟩ = some (.slice p ps.length pc) ∧
      w1.heap[w.heap.size + 1]? = some (.cells D 29) ∧ w1.cell? ⟨w.heap.size + 1, 5, none⟩ = some (.int .u64 (symtab : Int))) := Lib.hid (by
    intro w1 hw1
    have e1 : ∀ j, w1.cell? ⟨w.heap.size, j, none⟩ = (w.alloc (.cells #[.int .i64 ty, .int .u64 en, .slice p ps.length pc] 26)).cell? ⟨w.heap.size, j, none⟩ := fun j => by
      rw [hw1.cell (p := ⟨w.heap.size, j, none⟩) (by simp; omega)]
      exact (Below.cell (((Below.refl _ _).alloc (Nat.le_refl _) _)) (p := ⟨w.heap.size, j, none⟩) (by simp))
    refine ⟨?_, ?_, ?_, ?_, ?_⟩
    · rw [e1, World.cell?_alloc_new]; rfl
    · rw [e1, World.cell?_alloc_new]; rfl
    · rw [e1, World.cell?_alloc_new]; rfl
    · rw [hw1.block _ (by simp)]
      have := heap_alloc_new (w.alloc (.cells #[.int .i64 ty, .int .u64 en, .slice p ps.length pc] 26)) (.cells D 29)
      simpa using this
    · rw [hw1.cell (p := ⟨w.heap.size + 1, 5, none⟩) (by simp), second_cells]
      exact hD5)
  clear hD5
  have SM1 := Lib.hid (small64 hn)
  have SM2 := Lib.hid (small63 hn)
  unfold headV at *
  go_enter Try.func10, Try.ntmps10
  have F3 : Hid (((w.alloc (.cells #[.int .i64 ty, .int .u64 en, .slice p ps.length pc] 26)).alloc (.cells D 29)).heap[w.heap.size + 1]? = some (.cells D 29)) := Lib.hid (FH.out _ (Below.refl _ _)).2.2.2.1
  go_wp2_with (refine wpList_load_row rfl 29 _ rfl (w.heap.size + 1) rfl 29 D (0, 0) _ F3.out Try.underlying29 rfl HI.out ?_)
  refine (HST.out _ B1.out).mono ?_
  rintro e w2 ⟨sa, sc, rfl, hr2, hsc, hsn, hb2⟩
  obtain ⟨f0, f1, f2, f3, f4⟩ := FH.out _ hb2
  have R2 := Lib.hid hr2; have B2 := Lib.hid (bstep B1.out hb2)
  clear hr2 hb2 f3 hsn F3
  go_wp2_with fail
  refine (HSL.out _ B2.out).mono ?_
  rintro e w3 ⟨ta, tc, rfl, hr3, htc, htn, hb3⟩
  have R3 := Lib.hid hr3; have B3 := Lib.hid (bstep B2.out hb3)
  have R2' := Lib.hid (R2.out.below hb3)
  clear hr3 hb3 htn f0 f1 f2 f4 FH HSL HST B1 R2 HI B2
  go_wp2
  go_loopg [14, 15] n (fun gk u i wr => ∃ (k : Nat) (ad1 : Option Addr) (c1 : Nat), k + gk = n ∧ u = .slice ad1 k c1 ∧ i = .int .i64 (k : Int) ∧ Hid (OwnS wr w3.heap.size 39 7 (.slice ad1 k c1) (symsTo s t k)) ∧ Hid (Below w3.heap.size w3 wr) ∧ Hid (symsErr s t k = 0))
  case atStart => exact ⟨0, none, 0, by omega, rfl, rfl, Lib.hid (OwnS.nil _ _ _ _), Lib.hid (Below.refl _ _), Lib.hid rfl⟩
  case round =>
    obtain ⟨k, ad1, c1, hk, rfl, rfl, OW, BW, OK⟩ := hrel
    cases gk with
    | zero =>
      obtain rfl : k = n := by omega
      go_wp2
      go_ret2
      exact RefSyms.yes OK.out (OW.out.mono B3.out.size) (B3.out.trans (BW.out.mono B3.out.size))
    | succ g1 =>
      have hlt : k < n := by omega
      have h24 : ((24 : Int) * (k : Int)).toNat = 24 * k := by omega
      have hne : ¬ tc = 24 * k := by omega
      have hd1 : decide ((k : Int) < (n : Int)) = true := by rw [decide_eq_true_eq]; omega
      obtain ⟨ec, hec⟩ : ∃ ec, tc - 24 * k = ec := ⟨_, rfl⟩
      have hec24 : 24 ≤ ec := by omega
      obtain ⟨b, o, rfl, -⟩ := R3.out.1 0 (by rw [toI_length, HTL.out]; omega)
      obtain ⟨e, he⟩ : ∃ e, (t.drop (24 * k)).take 24 = e := ⟨_, rfl⟩
      have hel : e.length = 24 := by rw [← he]; have := HTL.out; simp; omega
      have HR : Hid (BRow wr (some ⟨b, o + 24 * k, none⟩) e) := Lib.hid (by
        have := (BRow.below R3.out BW.out).cut (24 * k) 24
        rw [he] at this
        simpa [WideShapes.add_plain] using this)
      have HRS : Hid (BRow wr sa s) := Lib.hid (BRow.below R2'.out BW.out)
      have HC : Hid (∀ j, j < 24 → wr.cell? ⟨b, o + 24 * k + j, none⟩ = some (.int .u8 ((e.getD j 0 : Nat) : Int)) ∧ e.getD j 0 < 256) := Lib.hid (fun j hj => by
        obtain ⟨b', o', e', -, hc, hx⟩ := HR.out.at (i := j) (by omega)
        simp only [Option.some.injEq, Addr.mk.injEq, and_true] at e'
        obtain ⟨rfl, rfl⟩ := e'
        exact ⟨hc, hx⟩)
      have HE := Lib.hid he
      clear he
      go_wp2
      go_loopg [17, 18] 24 (fun gk z q wx => ∃ j : Nat, j + gk = 24 ∧ z = .bool (zeroTo e j) ∧ q = .int .i64 (j : Int) ∧ wr = wx)
      case atStart => exact ⟨0, rfl, rfl, rfl, rfl⟩
      case round =>
        obtain ⟨j, hj, rfl, rfl, rfl⟩ := hrel
        cases gk with
        | zero =>
          obtain rfl : j = 24 := by omega
          have hz24 := zeroTo_all hel
          have ways : (((k : Int) == 0) = true ∧ zeroTo e 24 = false ∧ symErr s t k = 3) ∨ (((k : Int) == 0) = true ∧ zeroTo e 24 = true ∧ symErr s t k = (symAt s t k).2) ∨ (((k : Int) == 0) = false ∧ symErr s t k = (symAt s t k).2) := by
            by_cases hk0 : k = 0
            · have he := HE.out
              rw [hk0] at he
              by_cases hz : e = List.replicate 24 0
              · right; left
                refine ⟨by rw [hk0]; rfl, by rw [hz24]; exact decide_eq_true hz, ?_⟩
                rw [hk0]
                exact symErr_zero (he.trans hz) rfl
              · left
                refine ⟨by rw [hk0]; rfl, by rw [hz24]; exact decide_eq_false hz, ?_⟩
                rw [hk0]
                exact symErr_bad (fun h => hz (he.symm.trans h))
            · right; right
              exact ⟨by rw [beq_eq_false_iff_ne]; omega, symErr_later hk0 rfl⟩
          clear hz24
          have BWW : Hid (Below w.heap.size w wr) := Lib.hid (B3.out.trans (BW.out.mono B3.out.size))
          have HNUM := Lib.hid (refNumber_cut b (o + 24 * k) e wr HR.out)
          have hlt4 := num_lt HR.out.2 0 4 (by omega)
          rw [List.drop_zero] at hlt4
          obtain ⟨nm, c, ht⟩ : ∃ nm c, textF s (numOf (e.take 4)) = (nm, c) := ⟨_, _, rfl⟩
          have HTX := Lib.hid (refText_still sa sc s (numOf (e.take 4)) wr HRS.out hsl hsc (by omega) nm c ht)
          have HT := Lib.hid ht
          clear ht
          rcases ways with ⟨hk0, hz, hE⟩ | ways
          · rw [hz]
            have HER := Lib.hid hE
            clear hE hz
            go_wp2
            go_ret2
            have := RefSyms.no (w := w) (w' := wr) OK.out hlt (by rw [HER.out]; decide) BWW.out
            rw [HER.out] at this
            exact this
          · have HER : Hid (symErr s t k = (symAt s t k).2) := Lib.hid (by rcases ways with ⟨-, -, h⟩ | ⟨-, h⟩ <;> exact h)
            rcases ways with ⟨hk0, hz, -⟩ | ⟨hk0, -⟩
            all_goals
              first | rw [hz] | skip
              have hn0 : numOf (e.take 4) = numOf ((e.drop 0).take 4) := by rw [List.drop_zero]
              go_wp2_with fail
              refine (HNUM.out 0 4 _ (by omega) (by omega)).mono ?_
              rintro e' wr ⟨rfl, rfl⟩
              rw [← hn0]
              clear hn0
              go_wp2_with fail
              refine HTX.out.mono ?_
              rintro e' wr ⟨rfl, rfl⟩
              by_cases hc0 : c = 0
              · subst hc0
                obtain ⟨hx4, hb4⟩ := HC.out 4 (by omega)
                obtain ⟨hx5, hb5⟩ := HC.out 5 (by omega)
                obtain ⟨hx6, hb6⟩ := HC.out 6 (by omega)
                obtain ⟨hx7, hb7⟩ := HC.out 7 (by omega)
                have HB1 := Lib.hid (fun h => (symAt_amiss HE.out HT.out h : (symAt s t k).2 = 3))
                have HB0 := Lib.hid (fun h => (symAt_named HE.out HT.out h : symAt s t k = _))
                have HSC : Hid (symCells nm e = [.string nm, .int .i64 ((e.getD 4 0 / 16 : Nat) : Int), .int .i64 ((e.getD 4 0 % 16 : Nat) : Int), .int .i64 ((e.getD 5 0 % 4 : Nat) : Int), .int .i64 ((e.getD 6 0 + 256 * e.getD 7 0 : Nat) : Int), .int .u64 ((numOf ((e.drop 8).take 8) : Nat) : Int), .int .u64 ((numOf ((e.drop 16).take 8) : Nat) : Int)]) := Lib.hid (by
                  rw [symCells, num_two hel])
                generalize e.getD 4 0 = x4 at *
                generalize e.getD 5 0 = x5 at *
                generalize e.getD 6 0 = x6 at *
                generalize e.getD 7 0 = x7 at *
                clear HC
                have q1 : (x4 : Int).tdiv 16 = ((x4 / 16 : Nat) : Int) := by rw [Int.tdiv_eq_ediv_of_nonneg (by omega)]; rfl
                have q3 : (x4 : Int).tmod 16 = ((x4 % 16 : Nat) : Int) := by rw [Int.tmod_eq_emod_of_nonneg (by omega)]; rfl
                go_upto_region 28 with fail
                go_cut [133] (fun v wx => wr = wx ∧ v = .bool (badB x4))
                case first =>
                  by_cases hbd : x4 / 16 ≤ 2
                  · have hd : decide ((2 : Int) < (x4 : Int) / 16) = false := by rw [decide_eq_false_iff_not]; omega
                    have hbb : ∀ q, x4 % 16 = q → badB x4 = !(typedB q) := by intro q hq; unfold badB; rw [hq]; simp [hbd]
                    have HBB := Lib.hid hbb
                    have hq : x4 % 16 = 0 ∨ x4 % 16 = 1 ∨ x4 % 16 = 2 ∨ x4 % 16 = 3 ∨ x4 % 16 = 4 ∨ x4 % 16 = 5 ∨ x4 % 16 = 6 ∨ x4 % 16 = 7 ∨ x4 % 16 = 8 ∨ x4 % 16 = 9 ∨ x4 % 16 = 10 ∨ x4 % 16 = 11 ∨ x4 % 16 = 12 ∨ x4 % 16 = 13 ∨ x4 % 16 = 14 ∨ x4 % 16 = 15 := by omega
                    clear hbb hbd
                    rcases hq with hq | hq | hq | hq | hq | hq | hq | hq | hq | hq | hq | hq | hq | hq | hq | hq
                    all_goals
                      have HB := Lib.hid (HBB.out _ hq)
                      have hqi := congrArg (fun n : Nat => (n : Int)) hq
                      simp only [Int.natCast_emod] at hqi
                      push_cast at hqi
                      clear hq
                      go_wp2
                      go_meet
                      case rel => exact ⟨by trivial, by rw [HB.out]; rfl⟩
                  · have hd : decide ((2 : Int) < (x4 : Int) / 16) = true := by rw [decide_eq_true_eq]; omega
                    have HBB : Hid (badB x4 = true) := Lib.hid (by unfold badB; simp [hbd])
                    clear hbd
                    go_wp2
                    go_meet
                    case rel => exact ⟨by trivial, by rw [HBB.out]⟩
                case rest =>
                  obtain ⟨rfl, rfl⟩ := hcut
                  cases hbd : badB x4 with
                  | true =>
                    have HE2 := Lib.hid (HB1.out hbd)
                    clear hbd
                    go_wp2
                    go_ret2
                    have := RefSyms.no (w := w) (w' := wr) OK.out hlt (by rw [HER.out, HE2.out]; decide) BWW.out
                    rw [HER.out, HE2.out] at this
                    exact this
                  | false =>
                    have HE2 := Lib.hid (HB0.out hbd)
                    clear hbd HB0 HB1
                    have HSC' := Lib.hid (show symAt s t k = _ from HE2.out.trans (by rw [HSC.out]))
                    clear HE2 HSC
                    have KS : Hid (∀ w', Below w3.heap.size w3 w' → w'.cell? ⟨b, o + 24 * k + 5, none⟩ = some (.int .u8 (x5 : Int)) ∧ w'.cell? ⟨b, o + 24 * k + 6, none⟩ = some (.int .u8 (x6 : Int)) ∧ w'.cell? ⟨b, o + 24 * k + 7, none⟩ = some (.int .u8 (x7 : Int))) := Lib.hid (fun w' hb => by
                      obtain ⟨b', o', e', hlt, -⟩ := R3.out.at (i := 0) (by rw [HTL.out]; omega)
                      simp only [Option.some.injEq, Addr.mk.injEq, and_true] at e'
                      obtain ⟨rfl, rfl⟩ := e'
                      have g : ∀ j, w'.cell? ⟨b, j, none⟩ = wr.cell? ⟨b, j, none⟩ := fun j => by
                        rw [hb.cell (p := ⟨b, j, none⟩) hlt, BW.out.cell (p := ⟨b, j, none⟩) hlt]
                      exact ⟨(g _).trans hx5, (g _).trans hx6, (g _).trans hx7⟩)
                    have HNB : Hid (∀ w', Below w3.heap.size w3 w' → ∀ k' n c, k' + n ≤ 24 → n ≤ 8 → Calls Try.prog 22 #[.slice (some ⟨b, o + 24 * k + k', none⟩) n c] w' fun e' w'' => e' = .returned (.int .u64 ((numOf ((e.drop k').take n) : Nat) : Int)) ∧ w'' = w') := Lib.hid (fun w' hb k' n c h1 h2 => by
                      have hR : BRow w' (some ⟨b, o + 24 * k, none⟩) e := by
                        have := (BRow.below R3.out hb).cut (24 * k) 24
                        rw [HE.out] at this
                        simpa [WideShapes.add_plain] using this
                      exact refNumber_cut b (o + 24 * k) e w' hR k' n c (by omega) h2)
                    have n8 : ¬ ec = 8 := by omega
                    have n16 : ¬ ec = 16 := by omega
                    have i8 : (8 : Int) ≤ (ec : Int) := by omega
                    have i16 : (16 : Int) ≤ (ec : Int) := by omega
                    have i24 : (24 : Int) ≤ (ec : Int) := by omega
                    have e8 : ((ec : Int) - 8).toNat = ec - 8 := by omega
                    have e16 : ((ec : Int) - 16).toNat = ec - 16 := by omega
                    have q5 : (x5 : Int).tmod 4 = (x5 : Int) % 4 := by rw [Int.tmod_eq_emod_of_nonneg (by omega)]
                    have q7 : IntKind.i64.wrap ((256 : Int) * (x7 : Int)) = 256 * (x7 : Int) := by rw [IntKind.wrap_i64]; omega
                    have q8 : IntKind.i64.wrap ((x6 : Int) + 256 * (x7 : Int)) = (x6 : Int) + 256 * (x7 : Int) := by rw [IntKind.wrap_i64]; omega
                    have p5 : IntKind.i64.wrap (x5 : Int) = (x5 : Int) := by rw [IntKind.wrap_i64]; omega
                    have p6 : IntKind.i64.wrap (x6 : Int) = (x6 : Int) := by rw [IntKind.wrap_i64]; omega
                    have p7 : IntKind.i64.wrap (x7 : Int) = (x7 : Int) := by rw [IntKind.wrap_i64]; omega
                    obtain ⟨N8, hN8⟩ : ∃ N, numOf ((e.drop 8).take 8) = N := ⟨_, rfl⟩
                    obtain ⟨N16, hN16⟩ : ∃ N, numOf ((e.drop 16).take 8) = N := ⟨_, rfl⟩
                    rw [hN8, hN16] at HSC'
                    clear HNUM HTX HT
                    go_wp2_with fail
                    go_region_held3 (fun w' => Below w3.heap.size w3 w' ∧ w'.cell? ⟨b, o + 24 * k + 5, none⟩ = some (.int .u8 (x5 : Int)) ∧ w'.cell? ⟨b, o + 24 * k + 6, none⟩ = some (.int .u8 (x6 : Int)) ∧ w'.cell? ⟨b, o + 24 * k + 7, none⟩ = some (.int .u8 (x7 : Int)))
                      (first | assumption | exact ⟨BW.out.drew, KS.out _ BW.out.drew⟩ | exact ⟨BW.out.drew.alloc BW.out.size _, KS.out _ (BW.out.drew.alloc BW.out.size _)⟩ | exact ⟨by assumption, KS.out _ (by assumption)⟩)
                      (first
                        | (refine step_push_row rfl (.tmp 134) (.tmp 160) symSlice rfl w3.heap.size w3 (.slice ad1 k c1) (symsTo s t k) k [.string nm, .int .i64 ((x4 : Int) / 16), .int .i64 ((x4 : Int) % 16), .int .i64 ((x5 : Int) % 4), .int .i64 ((x6 : Int) + 256 * (x7 : Int)), .int .u64 (N8 : Int), .int .u64 (N16 : Int)] rfl ⟨wr.heap.size, 0, none⟩ 1 rfl (news_alloc wr.drew _ _) (by simp [symsTo]) rfl (by intro u hu; simp only [List.mem_cons, List.not_mem_nil, or_false] at hu; rcases hu with rfl | rfl | rfl | rfl | rfl | rfl | rfl <;> rfl) (OW.out.below ((Below.refl _ _).drew.alloc (by simp) _)) (by unfold maxLen; omega) (by omega) (BW.out.drew.alloc BW.out.size _) (by have := BW.out.size; simp; omega) ?_; intro ad5 c5 w5 hown5 hbe5)
                        | (go_simp; go_at_call 22; refine (HNB.out _ (by first | exact BW.out.drew | assumption) _ _ _ (by omega) (by omega)).mono ?_; rintro e' w5 ⟨rfl, rfl⟩; simp only [hN8, hN16]))
                    all_goals
                      have OW5 : Hid (OwnS w5 w3.heap.size 39 7 (.slice ad5 (k + 1) c5) (symsTo s t (k + 1))) := Lib.hid (by
                        have e1 : symsTo s t (k + 1) = symsTo s t k ++ [(symAt s t k).1] := by simp [symsTo, List.range_succ]
                        rw [e1, HSC'.out]
                        exact hown5)
                      have HB5 := Lib.hid hbe5
                      have SER := Lib.hid (show symErr s t k = 0 by rw [HER.out, HSC'.out])
                      clear hown5 hbe5 HSC' KS HNB
                      go_wp2
                      go_roundg g1
                      case measure => omega
                      case rel => exact ⟨k + 1, ad5, c5, by omega, rfl, by go_num, OW5, HB5, Lib.hid (symsErr_next OK.out SER.out)⟩
              · have hcz : ((c : Int) != 0) = true := by rw [bne_iff_ne]; omega
                have hE2 := symAt_text HE.out HT.out hc0
                have HE2 := Lib.hid hE2
                have HC0 := Lib.hid hc0
                clear hE2 hc0
                go_wp2
                go_ret2
                have := RefSyms.no (w := w) (w' := wr) OK.out hlt (by rw [HER.out, HE2.out]; exact HC0.out) BWW.out
                rw [HER.out, HE2.out] at this
                exact this
        | succ g2 =>
          obtain ⟨hc, hx⟩ := HC.out j (by omega)
          have HZS := Lib.hid (zeroTo_succ (e := e) (k := j) (by omega))
          cases hz : zeroTo e j with
          | true =>
            rw [hz] at HZS
            have hbq : ((((e.getD j 0 : Nat) : Int)) == 0) = (e.getD j 0 == 0) := by rw [Bool.eq_iff_iff, beq_iff_eq, beq_iff_eq]; omega
            generalize e.getD j 0 = x at *
            clear hz
            go_wp2
            go_roundg g2
            case measure => omega
            case rel => exact ⟨j + 1, by omega, by rw [HZS.out]; first | rfl | (simp), by go_num, rfl⟩
          | false =>
            rw [hz] at HZS
            clear hz
            go_wp2
            go_roundg g2
            case measure => omega
            case rel => exact ⟨j + 1, by omega, by rw [HZS.out]; rfl, by go_num, rfl⟩
end Go.Proofs.Ytbmfjchpfhealaa
