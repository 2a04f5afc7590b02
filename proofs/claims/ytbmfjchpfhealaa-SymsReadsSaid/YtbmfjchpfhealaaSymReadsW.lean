/- Layer 6: SymsReads. -/
import Derived.Test.YtbmfjchpfhealaaRefReads
import Derived.Test.YtbmfjchpfhealaaSymSame
import Derived.Test.YtbmfjchpfhealaaSymStand
namespace Go.Proofs.Ytbmfjchpfhealaa
open Go.RowKit
set_option linter.unusedVariables false
set_option linter.unusedSimpArgs false

/-- string(b): a text of a slice's bytes, nil or not -/
theorem conv_row (w : World) (ad : Option Addr) (c n : Nat) (bs : List Nat) (hl : bs.length = n) (h : BRow w ad bs) : (convert 22 9 (.slice ad n c)).run Try.prog w = .ok (.string ⟨(Lib.bytesOf (toI bs)).toArray⟩) w := by
  subst hl
  cases ad with
  | none =>
    have h0 : bs = [] := by
      cases bs with
      | nil => rfl
      | cons x xs =>
        obtain ⟨b, o, e, -⟩ := h.1 0 (by simp [toI])
        cases e
    subst h0
    exact run_convert_bytes_nil (P := Try.prog) w 22 5 Try.underlying22 Try.underlying5 _ _ 9 Try.underlying9
  | some a =>
    rw [run_convert_bytes_string w 22 9 5 _ _ _ Try.underlying22 Try.underlying5 Try.underlying9]
    have hf := run_firstCells_some (P := Try.prog) w 1 bs.length a bs.length c ((toI bs).map (Value.int .u8)) (by simp [toI]) (by
      intro j u hj
      have hjn : j < bs.length := by
        have := (List.getElem?_eq_some_iff.1 hj).1
        simpa [toI] using this
      obtain ⟨b', o', e', hc⟩ := h.1 j (by rw [toI_length]; exact hjn)
      simp only [Option.some.injEq] at e'
      subst e'
      rw [WideShapes.add_plain, hc]
      rw [List.getElem?_map, List.getElem?_eq_getElem (by rw [toI_length]; exact hjn)] at hj
      simp only [Option.map_some, Option.some.injEq] at hj
      rw [← hj]
      simp [List.getD, List.getElem?_eq_getElem (show j < (toI bs).length from by rw [toI_length]; exact hjn)])
    simp only [Builtin.firstCells, Nat.mul_one] at hf
    rw [run_bytesToString w a bs.length c (toI bs) hf, fold_push]
    simp

set_option maxRecDepth 100000 in
set_option maxHeartbeats 8000000 in
theorem reads_any (a : Option Addr) (cap : Nat) (bs : List Nat) (ty en : Int) (p : Option Addr) (pc : Nat) (ps : List PT) (d : DT) (n : Int) (w : World) (hb : BRow w a bs) (hbl : bs.length ≤ 140737488351232) (hbc : bs.length ≤ cap) (hbn : a = none → bs.length = 0 ∧ cap = 0)
    (h : PRow w p ps) (hl : ps.length ≤ 140737488351232) (hd : d.wf) (hn1 : -9223372036854775808 ≤ n) (hn2 : n < 9223372036854775808) :
    Calls Try.prog 4 #[.slice a bs.length cap, headV ty en p ps.length pc, .agg d.cells, .int .i64 n] w fun e w' => e = .returned (.bool true) ∧ Below w.heap.size w w' := by
  have HRD := Lib.hid (fun (w1 : World) (hb1 : Below w.heap.size w w1) => read_any a cap bs ty en p pc ps d n w1 (hb.below hb1) hbl hbc hbn (h.below hb1) hl hd hn1 hn2)
  have HRR := Lib.hid (fun (w1 : World) (hb1 : Below w.heap.size w w1) => ref_any a cap bs ty en p pc ps d n w1 (hb.below hb1) hbl hbc hbn (h.below hb1) hl hd hn1 hn2)
  have HST := Lib.hid (fun (w1 : World) (hb1 : Below w.heap.size w w1) => strings_any a cap bs ty en p pc ps d w1 (hb.below hb1) hbl hbc hbn (h.below hb1) hl hd.strtab hd.strsz)
  have HSR := Lib.hid (fun (w1 : World) (hb1 : Below w.heap.size w w1) => refStrings_any a cap bs ty en p pc ps d w1 (hb.below hb1) hbl hbc hbn (h.below hb1) hl hd.strtab hd.strsz)
  have HUP := Lib.hid up_true
  have hsb : ∀ x ∈ (strF bs ps d.strtab d.strsz).1, x < 256 := by
    rcases strF_code bs ps d.strtab d.strsz with h0 | h0 | h0 | h0
    · obtain ⟨-, -, h3⟩ := strF_told (s := (strF bs ps d.strtab d.strsz).1) (Prod.ext rfl h0)
      exact fun x hx => hb.2 x (h3 x hx)
    all_goals rw [h0]; intro x hx; cases hx
  have hsc : (strF bs ps d.strtab d.strsz).2 ≤ 4 := by
    rcases strF_code bs ps d.strtab d.strsz with h0 | h0 | h0 | h0
    · omega
    all_goals rw [h0]; decide
  have hrc : (readF bs ps d n).2 ≤ 4 := by rcases readF_code bs ps d n with h0 | ⟨-, -, h0⟩ <;> omega
  have hrl : (readF bs ps d n).1 = [] ∨ ∃ s t m, m ≤ 4096 ∧ (readF bs ps d n).1 = symsTo s t m := by
    rcases readF_code bs ps d n with h0 | ⟨h0, -, -⟩
    · obtain ⟨h1, h2, s, t, -, -, -, hF⟩ := readF_yes h0
      right
      exact ⟨s, t, n.toNat, by omega, by rw [hF]⟩
    · exact .inl h0
  have HSM : Hid (∀ w1 a1 c1 a2 c2, RowS w1 7 a1 (readF bs ps d n).1 → RowS w1 7 a2 (readF bs ps d n).1 → Calls Try.prog 11 #[.slice a1 (readF bs ps d n).1.length c1, .slice a2 (readF bs ps d n).1.length c2] w1 fun e w' => e = .returned (.bool true) ∧ Below w1.heap.size w1 w') := Lib.hid (by
    intro w1 a1 c1 a2 c2 h1 h2
    rcases hrl with h0 | ⟨s, t, m, hm, h0⟩
    · rw [h0]
      exact symSame_eq a1 a2 c1 c2 0 [] [] w1 (by omega) (fun i hi => by simp [symsTo] at hi) (fun i hi => by simp [symsTo] at hi)
    · rw [h0] at h1 h2 ⊢
      have hl : (symsTo s t m).length = m := by simp [symsTo]
      rw [hl]
      exact symSame_eq a1 a2 c1 c2 m s t w1 hm h1 h2)
  have HSB := Lib.hid hsb
  unfold CutAns at HSR
  unfold ReadAns at HRD
  unfold RefAns at HRR
  clear h hb hbn hd hsb hrl
  generalize strF bs ps d.strtab d.strsz = S at *
  generalize readF bs ps d n = R at *
  obtain ⟨s, sc0⟩ := S
  obtain ⟨rows, rc⟩ := R
  simp only at HSM HSR HRD HRR HST HSB hsc hrc
  obtain ⟨rl, hrl⟩ : ∃ rl, rows.length = rl := ⟨_, rfl⟩
  obtain ⟨sl, hsl⟩ : ∃ sl, s.length = sl := ⟨_, rfl⟩
  rw [hrl] at HSM HRD HRR
  rw [hsl] at HST HSR
  have HRL := Lib.hid hrl
  have HSLN := Lib.hid hsl
  clear hrl hsl
  have HC1 := Lib.hid (fun w1 => code_any (sc0 : Int) w1 (by omega) (by omega))
  have HC2 := Lib.hid (fun w1 => code_any (rc : Int) w1 (by omega) (by omega))
  obtain ⟨ev1, hev1⟩ : ∃ ev, errV (sc0 : Int) = ev := ⟨_, rfl⟩
  obtain ⟨ev2, hev2⟩ : ∃ ev, errV (rc : Int) = ev := ⟨_, rfl⟩
  rw [hev1] at HC1 HST
  rw [hev2] at HC2 HRD
  clear hev1 hev2 hsc hrc
  have HI : Hid ((Try.prog.info? 29).map (·.size) = some d.cells.size) := Lib.hid (show _ = some 37 by kernel_rfl)
  generalize d.cells = D at *
  have B1 : Hid (Below w.heap.size w ((w.alloc (.cells #[.int .i64 ty, .int .u64 en, .slice p ps.length pc] 26)).alloc (.cells D 29))) := Lib.hid (((Below.refl _ _).alloc (Nat.le_refl _) _).alloc (by simp) _)
  have FH : Hid (∀ w1, Below ((w.alloc (.cells #[.int .i64 ty, .int .u64 en, .slice p ps.length pc] 26)).alloc (.cells D 29)).heap.size ((w.alloc (.cells #[.int .i64 ty, .int .u64 en, .slice p ps.length pc] 26)).alloc (.cells D 29)) w1 →
      w1.cell? ⟨w.heap.size, 0, none⟩ = some (.int .i64 ty) ∧ w1.cell? ⟨w.heap.size, 1, none⟩ = some (.int .u64 en) ∧ w1.cell? ⟨w.heap.size, 2, none⟩ = some (.slice p ps.length pc) ∧
      w1.heap[w.heap.size + 1]? = some (.cells D 29)) := Lib.hid (by
    intro w1 hw1
    have e1 : ∀ j, w1.cell? ⟨w.heap.size, j, none⟩ = (w.alloc (.cells #[.int .i64 ty, .int .u64 en, .slice p ps.length pc] 26)).cell? ⟨w.heap.size, j, none⟩ := fun j => by
      rw [hw1.cell (p := ⟨w.heap.size, j, none⟩) (by simp; omega)]
      exact (Below.cell (((Below.refl _ _).alloc (Nat.le_refl _) _)) (p := ⟨w.heap.size, j, none⟩) (by simp))
    refine ⟨?_, ?_, ?_, ?_⟩
    · rw [e1, World.cell?_alloc_new]; rfl
    · rw [e1, World.cell?_alloc_new]; rfl
    · rw [e1, World.cell?_alloc_new]; rfl
    · rw [hw1.block _ (by simp)]
      have := heap_alloc_new (w.alloc (.cells #[.int .i64 ty, .int .u64 en, .slice p ps.length pc] 26)) (.cells D 29)
      simpa using this)
  unfold headV at *
  go_enter Try.func4, Try.ntmps4
  go_wp2_with fail
  refine (HUP.out _).mono ?_
  rintro e w1 ⟨rfl, hb1⟩
  obtain ⟨f0, f1, f2, f3⟩ := FH.out _ hb1
  have B2 := Lib.hid (bstep B1.out hb1)
  have F3 := Lib.hid f3; clear f3
  have S1 := Lib.hid hb1
  clear hb1 B1 HUP
  go_wp2_with (refine wpList_load_row rfl 29 _ rfl (w.heap.size + 1) rfl 29 D (0, 0) _ F3.out Try.underlying29 rfl HI.out ?_)
  refine (HST.out _ B2.out).mono ?_
  rintro e w2 ⟨ad1, ac1, rfl, ho, hb2⟩
  clear f0 f1 f2 F3
  obtain ⟨f0, f1, f2, f3⟩ := FH.out _ (bstep S1.out hb2)
  have F3 := Lib.hid f3; clear f3
  have B3 := Lib.hid (bstep B2.out hb2)
  have S2 := Lib.hid (bstep S1.out hb2)
  have R1 : Hid (BRow w2 ad1 s) := Lib.hid ⟨ho.at.2.1, HSB.out⟩
  clear ho hb2 HST B2 S1
  go_wp2_with (refine wpList_load_row rfl 29 _ rfl (w.heap.size + 1) rfl 29 D (0, 0) _ F3.out Try.underlying29 rfl HI.out ?_)
  refine (HSR.out _ B3.out).mono ?_
  rintro e w3 ⟨ad2, ac2, rfl, hr2, -, -, hb3⟩
  clear f0 f1 f2 F3
  obtain ⟨f0, f1, f2, f3⟩ := FH.out _ (bstep S2.out hb3)
  have F3 := Lib.hid f3; clear f3
  have B4 := Lib.hid (bstep B3.out hb3)
  have S3 := Lib.hid (bstep S2.out hb3)
  have R1' := Lib.hid (R1.out.below hb3)
  have R2 := Lib.hid hr2
  clear hr2 hb3 HSR B3 S2 R1
  go_wp2_with (refine wpList_load_row rfl 29 _ rfl (w.heap.size + 1) rfl 29 D (0, 0) _ F3.out Try.underlying29 rfl HI.out ?_)
  refine (HRD.out _ B4.out).mono ?_
  rintro e w4 ⟨ad3, ac3, rfl, ho, hb4⟩
  clear f0 f1 f2 F3
  obtain ⟨f0, f1, f2, f3⟩ := FH.out _ (bstep S3.out hb4)
  have F3 := Lib.hid f3; clear f3
  have B5 := Lib.hid (bstep B4.out hb4)
  have S4 := Lib.hid (bstep S3.out hb4)
  have R1 := Lib.hid (R1'.out.below hb4)
  have R2' := Lib.hid (R2.out.below hb4)
  have Q1 := Lib.hid ho.at.2.1
  clear ho hb4 HRD B4 S3 R1' R2
  go_wp2_with (refine wpList_load_row rfl 29 _ rfl (w.heap.size + 1) rfl 29 D (0, 0) _ F3.out Try.underlying29 rfl HI.out ?_)
  refine (HRR.out _ B5.out).mono ?_
  rintro e w5 ⟨ad4, ac4, rfl, ho, hb5⟩
  have B6 := Lib.hid (bstep B5.out hb5)
  have R1' := Lib.hid (R1.out.below hb5)
  have R2 := Lib.hid (R2'.out.below hb5)
  have Q1' := Lib.hid (Q1.out.below hb5)
  have Q2 := Lib.hid ho.at.2.1
  clear ho hb5 HRR B5 S4 R1 R2' Q1 f0 f1 f2 F3 FH HI
  go_wp2_with fail
  refine (HSM.out w5 _ _ _ _ Q1'.out Q2.out).mono ?_
  rintro e w6 ⟨rfl, hb6⟩
  have B7 := Lib.hid (bstep B6.out hb6)
  have k1 := conv_row w6 ad1 ac1 sl s HSLN.out (R1'.out.below hb6)
  have k2 := conv_row w6 ad2 ac2 sl s HSLN.out (R2.out.below hb6)
  clear hb6 HSM B6 R1' R2 Q1' Q2
  obtain ⟨ts, hts⟩ : ∃ ts : ByteArray, ts = ⟨(Lib.bytesOf (toI s)).toArray⟩ := ⟨_, rfl⟩
  rw [← hts] at k1 k2
  clear hts
  go_wp2_with fail
  refine (HC1.out _).mono ?_
  rintro e w7 ⟨rfl, rfl⟩
  go_wp2_with fail
  refine (HC2.out _).mono ?_
  rintro e w7 ⟨rfl, rfl⟩
  go_wp2
  go_ret
  exact ⟨rfl, B7.out⟩

theorem walk_SymsReads (a : Option Addr) (len cap : Nat) (z : List Int) (ty en : Int) (p : Option Addr) (pc : Nat) (ps : List PT) (d : DT) (n : Int) (W : World) (w0 : IsRow .u8 W a len cap z) (s0 : cap * 1 ≤ 140737488351232) (hp : PRow W p ps) (hpl : ps.length ≤ 140737488351232) (hd : d.wf) (w3 : (Lit.int .i64 n).wf = true) :
    Calls Try.prog 4 #[.slice a len cap, headV ty en p ps.length pc, .agg d.cells, .int .i64 n] W fun e w' => e = .returned (.bool true) ∧ Below W.heap.size W w' := by
  obtain ⟨bs, rfl, hb, hc, hn⟩ := bytes_row w0
  have := bounds_i64 w3
  exact reads_any a cap bs ty en p pc ps d n W hb (by omega) hc hn hp hpl hd (by omega) (by omega)
end Go.Proofs.Ytbmfjchpfhealaa
