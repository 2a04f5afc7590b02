/- Layer 17: the examples at the head of the statements hold. -/
import Derived.Test.YtpilccalgegadaaBindIn
namespace Go.Proofs.Ytpilccalgegadaa
open Go.RowKit
set_option linter.unusedVariables false
set_option linter.unusedSimpArgs false

theorem oc_dyn (pB : Nat) (sy : Value) (bB : Nat) (has : Bool) (wa : Option Addr) (wl wc : Nat) (da : Option Addr) (dl dc : Nat) : ((OC pB sy bB has wa wl wc da dl dc).toList.drop 4).take 37 = DB.toList := by rfl
theorem oc_at (pB : Nat) (sy : Value) (bB : Nat) (has : Bool) (wa : Option Addr) (wl wc : Nat) (da : Option Addr) (dl dc : Nat) (j : Nat) (v : Value) (h : DB.toList[j]? = some v) : (OC pB sy bB has wa wl wc da dl dc)[4 + j]? = some v := by
  rw [← oc_dyn pB sy bB has wa wl wc da dl dc] at h
  have hj : j < 37 := by
    rcases Nat.lt_or_ge j 37 with h1 | h1
    · exact h1
    · rw [List.getElem?_eq_none (by rw [List.length_take]; omega)] at h
      cases h
  rw [List.getElem?_take_of_lt hj, List.getElem?_drop] at h
  rw [← Array.getElem?_toList]
  exact h

/-- the example's object, said by its cells -/
structure OneEx (C : Array Value) (has : Bool) (wa : Option Addr) (wl wc : Nat) (da : Option Addr) (dl dc : Nat) (pB sB bB : Nat) (w : World) : Prop where
  ex : OEx C pB sB bB w
  one : C.all (·.oneCell') = true
  c46 : C[46]? = some (.bool has)
  c47 : C[47]? = some (.slice wa wl wc)
  c48 : C[48]? = some (.slice da dl dc)
  c49 : C[49]? = some (.slice none 0 0)

theorem one_ex (wa : Option Addr) (wl wc : Nat) (da : Option Addr) (dl dc : Nat) (has : Bool) (w : World) (hhas : has = decide (¬ wa = none)) :
    Calls Try.prog 8 #[.slice wa wl wc, .slice da dl dc] w fun e w' => ∃ C pB sB bB, e = .returned (.agg C) ∧ Below w.heap.size w w' ∧ OneEx C has wa wl wc da dl dc pB sB bB w' := by
  refine (one_any wa wl wc da dl dc has w hhas).mono ?_
  rintro e w' ⟨pB, sB, bB, rfl, hb, h1, h2, h3⟩
  exact ⟨_, pB, sB, bB, rfl, hb, ⟨⟨rfl, rfl, rfl, rfl, fun j v hj => oc_at _ _ _ _ _ _ _ _ _ _ j v hj, rfl, rfl, h1, h2, h3⟩, oc_one _ _ _ _ _ _ _ _ _ _ rfl, rfl, rfl, rfl, rfl⟩⟩

/-- the words of the example -/
theorem words_ex {w wx : World} {n : Int} (hb : Below (w.alloc (.cells #[.int .i64 0, .int .i64 n] 3)).heap.size (w.alloc (.cells #[.int .i64 0, .int .i64 n] 3)) wx) :
    (2 = 2 ∧ ∃ b, some (⟨w.heap.size, 0, none⟩ : Addr) = some ⟨b, 0, none⟩ ∧ b < wx.heap.size ∧ wx.cell? ⟨b, 1, none⟩ = some (.int .i64 n)) := by
  have h := (hb.block _ (lt_of_block (heap_alloc_new w _))).trans (heap_alloc_new w (.cells #[.int .i64 0, .int .i64 n] 3))
  exact ⟨rfl, _, rfl, lt_of_block h, by rw [cell_of_row _ _ 1 _ _ _ h]; rfl⟩

set_option maxRecDepth 100000 in
set_option maxHeartbeats 16000000 in
theorem up_any (w : World) : Calls Try.prog 4 #[] w fun e w' => e = .returned (.bool true) ∧ Below w.heap.size w w' := by
  obtain ⟨w1, hw1⟩ : ∃ w1, w.alloc (.cells #[.int .i64 2, .bool false, .string ⟨#[86, 49]⟩, .slice none 0 0] 37) = w1 := ⟨_, rfl⟩
  have B1 : Hid (Below w.heap.size w w1) := Lib.hid (by rw [← hw1]; exact (Below.refl _ _).alloc (Nat.le_refl _) _)
  have HV : Hid (∀ wx, Below w1.heap.size w1 wx → wx.heap[w.heap.size]? = some (.cells #[.int .i64 2, .bool false, .string ⟨#[86, 49]⟩, .slice none 0 0] 37)) := Lib.hid (fun wx hb => by
    have e0 : w1.heap[w.heap.size]? = some (.cells #[.int .i64 2, .bool false, .string ⟨#[86, 49]⟩, .slice none 0 0] 37) := by rw [← hw1]; exact heap_alloc_new _ _
    exact (hb.block _ (lt_of_block e0)).trans e0)
  have HW1 := Lib.hid hw1
  clear hw1
  go_enter Try.func4, Try.ntmps4
  go_upto_region 2 with fail
  rw [HW1.out]
  clear HW1
  generalize hvB : w.heap.size = vB at *
  have HvB := Lib.hid hvB
  clear hvB
  go_wp2_with fail
  refine (one_ex none 0 0 none 0 0 false w1 rfl).mono ?_
  rintro e w2 ⟨C, pB, sB, bB, rfl, hb2, hO⟩
  have HIN := Lib.hid (in_ex C true ⟨#[86, 57]⟩ pB sB bB w2 hO.ex (fun wx hx => suits_1 C hO.ex.size hO.one none 0 0 wx hO.c46 hO.c47))
  have B2 := Lib.hid hb2
  clear hb2 hO
  go_wp2_with fail
  refine HIN.out.mono ?_
  rintro e w3 ⟨rfl, hb3⟩
  have B3 := Lib.hid (bstep B2.out hb3)
  clear hb3 HIN B2
  go_wp2_with fail
  have BA2 : Hid (Below w1.heap.size w1 (w3.alloc (.cells #[.int .i64 0, .int .i64 2] 3))) := Lib.hid (B3.out.alloc B3.out.size _)
  refine (one_ex (some ⟨w3.heap.size, 0, none⟩) 2 2 (some ⟨vB, 0, none⟩) 1 1 true (w3.alloc (.cells #[.int .i64 0, .int .i64 2] 3)) rfl).mono ?_
  rintro e w4 ⟨C2, pB2, sB2, bB2, rfl, hb, hO⟩
  have BO2 := Lib.hid (bstep BA2.out hb)
  have HIN2 := Lib.hid (in_ex C2 true ⟨#[86, 49]⟩ pB2 sB2 bB2 w4 hO.ex (fun wx hx => suits_2 C2 hO.ex.size hO.one _ 2 2 wx hO.c46 hO.c47 (words_ex (bstep hb hx)) vB 1 hO.c48 hO.c49 (HV.out wx (bstep BO2.out hx))))
  clear hb hO BA2
  go_wp2_with fail
  refine HIN2.out.mono ?_
  rintro e w5 ⟨rfl, hb⟩
  have B5 := Lib.hid (bstep BO2.out hb)
  clear hb HIN2 BO2 B3
  go_wp2_with fail
  have BA3 : Hid (Below w1.heap.size w1 (w5.alloc (.cells #[.int .i64 0, .int .i64 2] 3))) := Lib.hid (B5.out.alloc B5.out.size _)
  refine (one_ex (some ⟨w5.heap.size, 0, none⟩) 2 2 (some ⟨vB, 0, none⟩) 1 1 true (w5.alloc (.cells #[.int .i64 0, .int .i64 2] 3)) rfl).mono ?_
  rintro e w6 ⟨C3, pB3, sB3, bB3, rfl, hb, hO⟩
  have BO3 := Lib.hid (bstep BA3.out hb)
  have HIN3 := Lib.hid (in_ex C3 false ⟨#[86, 57]⟩ pB3 sB3 bB3 w6 hO.ex (fun wx hx => suits_3 C3 hO.ex.size hO.one _ 2 2 wx hO.c46 hO.c47 (words_ex (bstep hb hx)) vB 1 hO.c48 hO.c49 (HV.out wx (bstep BO3.out hx))))
  clear hb hO BA3
  go_wp2_with fail
  refine HIN3.out.mono ?_
  rintro e w7 ⟨rfl, hb⟩
  have B7 := Lib.hid (bstep BO3.out hb)
  clear hb HIN3 BO3 B5
  go_wp2_with fail
  have BA4 : Hid (Below w1.heap.size w1 (w7.alloc (.cells #[.int .i64 0, .int .i64 32770] 3))) := Lib.hid (B7.out.alloc B7.out.size _)
  refine (one_ex (some ⟨w7.heap.size, 0, none⟩) 2 2 (some ⟨vB, 0, none⟩) 1 1 true (w7.alloc (.cells #[.int .i64 0, .int .i64 32770] 3)) rfl).mono ?_
  rintro e w8 ⟨C4, pB4, sB4, bB4, rfl, hb, hO⟩
  have BO4 := Lib.hid (bstep BA4.out hb)
  have HIN4 := Lib.hid (in_ex C4 false ⟨#[]⟩ pB4 sB4 bB4 w8 hO.ex (fun wx hx => suits_4 C4 hO.ex.size hO.one _ 2 2 wx hO.c46 hO.c47 (words_ex (bstep hb hx)) vB 1 hO.c48 hO.c49 (HV.out wx (bstep BO4.out hx))))
  clear hb hO BA4
  go_wp2_with fail
  refine HIN4.out.mono ?_
  rintro e w9 ⟨rfl, hb⟩
  have B9 := Lib.hid (bstep BO4.out hb)
  clear hb HIN4 BO4 B7
  go_wp2_with fail
  have BA5 : Hid (Below w1.heap.size w1 (w9.alloc (.cells #[.int .i64 0, .int .i64 1] 3))) := Lib.hid (B9.out.alloc B9.out.size _)
  refine (one_ex (some ⟨w9.heap.size, 0, none⟩) 2 2 (some ⟨vB, 0, none⟩) 1 1 true (w9.alloc (.cells #[.int .i64 0, .int .i64 1] 3)) rfl).mono ?_
  rintro e w10 ⟨C5, pB5, sB5, bB5, rfl, hb, hO⟩
  have BO5 := Lib.hid (bstep BA5.out hb)
  have HIN5 := Lib.hid (in_ex C5 true ⟨#[86, 57]⟩ pB5 sB5 bB5 w10 hO.ex (fun wx hx => suits_5 C5 hO.ex.size hO.one _ 2 2 wx hO.c46 hO.c47 (words_ex (bstep hb hx)) vB 1 hO.c48 hO.c49 (HV.out wx (bstep BO5.out hx))))
  clear hb hO BA5
  go_wp2_with fail
  refine HIN5.out.mono ?_
  rintro e w11 ⟨rfl, hb⟩
  have B11 := Lib.hid (bstep BO5.out hb)
  clear hb HIN5 BO5 B9
  go_wp2_with fail
  go_ret
  have hvB := HvB.out
  subst hvB
  exact ⟨rfl, bstep B1.out B11.out⟩
end Go.Proofs.Ytpilccalgegadaa
