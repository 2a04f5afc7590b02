/- Layer 4: the rows of the document's examples, at the head of all statements. -/
import Derived.Test.YtmjfkcclhbpclaaDoorHeadRight
namespace Go.Proofs.YtmjfkcclhbpclaaDoor
open Go.RowKit
set_option linter.unusedVariables false
set_option linter.unusedSimpArgs false
set_option maxRecDepth 100000

theorem own_u8c {w : World} {B g : Nat} {xs : List Nat} (h : w.heap[g]? = some (.cells (u8c xs) 5)) (hB : B ≤ g) (hm : xs.length ≤ 1048576) : OwnI w B 5 .u8 (.slice (some ⟨g, 0, none⟩) xs.length xs.length) (toI xs) := by
  have e : (toI xs).map (Value.int .u8) = (u8c xs).toList := by unfold toI u8c; rw [List.map_map]; rfl
  have el : (toI xs).length = xs.length := toI_length xs
  unfold OwnI
  rw [el, e]
  refine ⟨?_, .inr ⟨g, xs.length, u8c xs, rfl, hB, h, Nat.le_refl _, by unfold maxLen; omega, ?_, ?_⟩⟩
  · unfold u8c; simp
  · unfold u8c; simp
  · rw [List.take_of_length_le (by unfold u8c; simp)]
def qPT : PT := ⟨1, 0, 0, 0, 0, 1, 4096⟩
theorem read_nil : readF [] = .error (.spot 0 4) := by kernel_rfl
theorem read_zero : readF (List.replicate 64 0) = .error (.spot 0 3) := by kernel_rfl
theorem int_nil : interpF [] [] = .error (.code 6) := by kernel_rfl
theorem read_one : readF (writeF 3 0 [qPT] ++ [7]) = .ok ⟨3, 0, [qPT]⟩ := by kernel_rfl
theorem write_lt : ∀ x ∈ writeF 3 0 [qPT] ++ [7], x < 256 := by decide +kernel
theorem erow_nil (w : World) : BRow w none [] := ⟨fun i hi => by simp [toI] at hi, fun b hb => by simp at hb⟩
theorem prow_one {w : World} {b : Nat} (h : w.heap[b]? = some (.cells #[.int .u32 1, .int .u32 0, .int .u64 0, .int .u64 0, .int .u64 0, .int .u64 1, .int .u64 4096] 37)) : PRow w (some ⟨b, 0, none⟩) [qPT] := fun i hi => by
  obtain rfl : i = 0 := by simp at hi; omega
  refine ⟨show PT.wf qPT from ⟨by decide, by decide, by decide, by decide, by decide, by decide, by decide⟩, b, 0, rfl, lt_of_block h, fun j hj => ?_⟩
  rw [show 0 + 0 * 7 + j = j by omega, cell_of_row _ _ j _ _ _ h]
  rcases (show j = 0 ∨ j = 1 ∨ j = 2 ∨ j = 3 ∨ j = 4 ∨ j = 5 ∨ j = 6 by omega) with rfl | rfl | rfl | rfl | rfl | rfl | rfl <;> rfl
set_option maxHeartbeats 16000000 in
theorem shown_any (w : World) (hg : ErrType w) (hf : FixAt w) :
    Calls Tryd.prog 7 #[] w fun e w' => e = .returned (.bool true) ∧ Below w.heap.size w w' := by
  have HR1 := Lib.hid (hread_any none 0 0 [] w (erow_nil w) rfl (by decide) (fun _ => ⟨rfl, rfl⟩) (by decide) hf)
  have HR2 : Hid (∀ g wx, Below w.heap.size w wx → wx.heap[g]? = some (.cells (u8c (List.replicate 64 0)) 5) → Calls Tryd.prog 9 #[.slice (some ⟨g, 0, none⟩) 64 64] wx (ReadPost wx (List.replicate 64 0))) := Lib.hid (fun g wx hb h => by
    have ho := own_u8c (B := 0) h (Nat.zero_le _) (by rw [List.length_replicate]; decide)
    obtain ⟨-, hrow, -⟩ := OwnI.at ho
    exact hread_any (some ⟨g, 0, none⟩) 64 64 _ wx ⟨hrow, fun x hx => by rw [(List.mem_replicate.1 hx).2]; decide⟩ List.length_replicate (by decide) (fun e => by cases e) (by decide) (hf.below hb))
  have HW1 : Hid (∀ wx, Calls Tryd.prog 8 #[.agg #[.int .i64 4, .int .u64 0, .slice none 0 0]] wx fun e w' => e = .returned (.tuple #[.slice none 0 0, .iface 38 (.int .i64 1)]) ∧ Below wx.heap.size wx w') := Lib.hid (fun wx => hwrite_bad 4 0 none 0 0 wx (by decide) (.inr (.inl rfl)))
  have HI1 : Hid (∀ wx, Calls Tryd.prog 11 #[.slice none 0 0, .agg #[.int .i64 0, .int .u64 0, .slice none 0 0]] wx (IntPost wx [] [])) := Lib.hid (fun wx => interp_any 0 0 none 0 0 [] none 0 0 [] wx ⟨erow_nil wx, rfl, by decide, fun _ => ⟨rfl, rfl⟩, by decide⟩ (fun i hi => by simp at hi) rfl (by decide))
  have HW2 : Hid (∀ wx, Below w.heap.size w wx → Calls Tryd.prog 8 #[.agg #[.int .i64 3, .int .u64 0, .slice (some ⟨wx.heap.size, 0, none⟩) 1 1]] (wx.alloc (.cells #[.int .u32 1, .int .u32 0, .int .u64 0, .int .u64 0, .int .u64 0, .int .u64 1, .int .u64 4096] 37)) (WritePost (wx.alloc (.cells #[.int .u32 1, .int .u32 0, .int .u64 0, .int .u64 0, .int .u64 0, .int .u64 1, .int .u64 4096] 37)) (writeF 3 0 [qPT]))) := Lib.hid (fun wx hb => hwrite_ok 3 0 (some ⟨wx.heap.size, 0, none⟩) 1 1 [qPT] _ (.inr ⟨by decide, by decide⟩) (by decide) (by decide) (prow_one (heap_alloc_new _ _)) rfl (by decide) (by decide) (hf.below (ballo hb _)))
  have HR3 : Hid (∀ ad c wx, Below w.heap.size w wx → OwnI wx 0 5 .u8 (.slice ad 121 c) (toI (writeF 3 0 [qPT]) ++ [7]) → Calls Tryd.prog 9 #[.slice ad 121 c] wx (ReadPost wx (writeF 3 0 [qPT] ++ [7]))) := Lib.hid (fun ad c wx hb ho => by
    have e : toI (writeF 3 0 [qPT]) ++ [7] = toI (writeF 3 0 [qPT] ++ [7]) := by unfold toI; rw [List.map_append]; rfl
    rw [e] at ho
    obtain ⟨hl, hrow, hn⟩ := OwnI.at ho
    have hfit := OwnI.fit ho
    exact hread_any ad 121 c _ wx ⟨hrow, write_lt⟩ (by rw [List.length_append, writeF_len]; rfl) (by decide) (fun e => by have := hn e; omega) hfit.1 (hf.below hb))
  have HIS : Hid (∀ sb (a n : Nat) wx, Below w.heap.size w wx → wx.heap[sb]? = some (.cells #[.int .u64 (a : Int), .iface 38 (.int .i64 (n : Int))] 95) → Calls Tryd.prog 18 #[.iface 90 (.pointer (some ⟨sb, 0, none⟩)), .int .u64 (a : Int), .int .i64 (n : Int)] wx fun e w' => e = .returned (.bool true) ∧ Below wx.heap.size wx w') := Lib.hid (fun sb a n wx hb h => is_spot sb (a : Int) (n : Int) wx (hg.below hb) (by rw [cell_of_row _ _ 0 _ _ _ h]; rfl) (by rw [cell_of_row _ _ 1 _ _ _ h]; rfl))
  have HSL : Hid ((toI (writeF 3 0 [qPT])).length = 120) := Lib.hid (by rw [toI_length, writeF_len]; rfl)
  have HSW : Hid ((writeF 3 0 [qPT]).length = 120) := Lib.hid (by rw [writeF_len]; rfl)
  have HOW : Hid (∀ B g wx, wx.heap[g]? = some (.cells (u8c (writeF 3 0 [qPT])) 5) → B ≤ g → OwnI wx B 5 .u8 (.slice (some ⟨g, 0, none⟩) 120 120) (toI (writeF 3 0 [qPT]))) := Lib.hid (fun B g wx h hB => by
    have := own_u8c h hB (by rw [writeF_len]; decide)
    rwa [writeF_len] at this)
  have hR1 := read_nil
  have hR2 := read_zero
  have hR3 := read_one
  have hI1 := int_nil
  unfold ReadPost at HR1 HR2 HR3
  unfold IntPost at HI1
  unfold WritePost at HW2
  rw [hR1] at HR1
  rw [hR2] at HR2
  rw [hR3] at HR3
  rw [hI1] at HI1
  have he := run_eql_code
  clear hg hf hR1 hR2 hR3 hI1
  go_enter Tryd.func7, Tryd.ntmps7
  go_wp2_with fail
  refine HR1.out.mono ?_
  rintro e w1 ⟨⟨v1, rfl, hv1⟩, b1⟩
  obtain ⟨s1, rfl, hs1⟩ := hv1
  have B1 := Lib.hid b1
  have S1 := Lib.hid hs1
  clear b1 hs1 HR1
  have C1 : Hid (Below w1.heap.size w1 (w1.alloc (.cells #[.int .i64 0, .int .u64 0, .slice none 0 0] 25))) := Lib.hid (ballo (Below.refl _ _) _)
  have D1 := Lib.hid (bstep B1.out C1.out)
  have T1 := Lib.hid ((C1.out.block _ (lt_of_block S1.out)).trans S1.out)
  go_wp2_with (at_make; (refine wpList_make_nums rfl (.const (.int .i64 64)) (.const (.int .i64 64)) slice8w rfl (w1.alloc (.cells #[.int .i64 0, .int .u64 0, .slice none 0 0] 25)).heap.size (w1.alloc (.cells #[.int .i64 0, .int .u64 0, .slice none 0 0] 25)) 64 .i64 .i64 64 64 rfl rfl rfl rfl (by omega) (by unfold maxLen; omega) (Below.refl _ _) (Nat.le_refl _) ?_); intro g w4 ho4 hg4 hb4 hb4'; have O4 := Lib.hid (own_zeros ho4).1; have B4 := Lib.hid hb4; clear ho4 hg4 hb4 hb4')
  have D4 := Lib.hid (bstep D1.out B4.out)
  have T4 := Lib.hid ((B4.out.block _ (lt_of_block T1.out)).trans T1.out)
  refine (HR2.out g w4 D4.out O4.out).mono ?_
  rintro e w5 ⟨⟨v2, rfl, hv2⟩, b5⟩
  obtain ⟨s2, rfl, hs2⟩ := hv2
  have B5 := Lib.hid (bstep D4.out b5)
  have T5 := Lib.hid ((b5.block _ (lt_of_block T4.out)).trans T4.out)
  have U5 := Lib.hid hs2
  clear b5 hs2 HR2 C1
  have C5 : Hid (Below w5.heap.size w5 (w5.alloc (.cells #[.int .i64 0, .int .u64 0, .slice none 0 0] 25))) := Lib.hid (ballo (Below.refl _ _) _)
  have D5 := Lib.hid (bstep B5.out C5.out)
  have T6 := Lib.hid ((C5.out.block _ (lt_of_block T5.out)).trans T5.out)
  have U6 := Lib.hid ((C5.out.block _ (lt_of_block U5.out)).trans U5.out)
  go_wp2_with fail
  generalize w5.alloc (.cells #[.int .i64 0, .int .u64 0, .slice none 0 0] 25) = x5 at *
  refine (HW1.out x5).mono ?_
  rintro e w6 ⟨rfl, b6⟩
  have D6 := Lib.hid (bstep D5.out b6)
  have T7 := Lib.hid ((b6.block _ (lt_of_block T6.out)).trans T6.out)
  have U7 := Lib.hid ((b6.block _ (lt_of_block U6.out)).trans U6.out)
  clear b6 HW1
  go_wp2_with fail
  refine (HI1.out w6).mono ?_
  rintro e w7 ⟨⟨v3, rfl, hv3⟩, b7⟩
  obtain rfl : v3 = .iface 38 (.int .i64 6) := hv3
  have D7 := Lib.hid (bstep D6.out b7)
  have T8 := Lib.hid ((b7.block _ (lt_of_block T7.out)).trans T7.out)
  have U8 := Lib.hid ((b7.block _ (lt_of_block U7.out)).trans U7.out)
  clear b7 HI1
  have HW3 := Lib.hid (HW2.out w7 D7.out)
  have C7 : Hid (Below w7.heap.size w7 (w7.alloc (.cells #[.int .u32 1, .int .u32 0, .int .u64 0, .int .u64 0, .int .u64 0, .int .u64 1, .int .u64 4096] 37))) := Lib.hid (ballo (Below.refl _ _) _)
  go_wp2_with fail
  refine HW3.out.mono ?_
  rintro e w8 ⟨g8, hret, hg8, hg8l, b8⟩
  rw [HSW.out] at hret
  subst hret
  have D78 := Lib.hid (bstep D7.out C7.out)
  have T89 := Lib.hid ((C7.out.block _ (lt_of_block T8.out)).trans T8.out)
  have U89 := Lib.hid ((C7.out.block _ (lt_of_block U8.out)).trans U8.out)
  generalize (w7.alloc (.cells #[.int .u32 1, .int .u32 0, .int .u64 0, .int .u64 0, .int .u64 0, .int .u64 1, .int .u64 4096] 37)) = x7 at *
  have B8 := Lib.hid b8
  have Z8 : Hid (x7.heap.size ≤ w8.heap.size) := Lib.hid b8.size
  have O8 := Lib.hid (HOW.out x7.heap.size g8 w8 hg8 hg8l)
  clear hg8 b8 HW2 HW3 hg8l
  go_wp2_with (at_builtin; go_loud (refine wpList_push rfl (.tmp 42) (.tmp 43) slice8w rfl x7.heap.size x7 (.slice (some ⟨g8, 0, none⟩) 120 120) (toI (writeF 3 0 [qPT])) 120 7 rfl (by rfl) HSL.out O8.out (by unfold maxLen; omega) (by omega) B8.out Z8.out ?_); intro ad9 c9 w9 hown9 hbe9; have O9 := Lib.hid (OwnI.mono hown9 (Nat.zero_le _)); have B9 := Lib.hid hbe9; clear hown9 hbe9)
  have D9 := Lib.hid (bstep D78.out B9.out)
  have T9 := Lib.hid ((B9.out.block _ (lt_of_block T89.out)).trans T89.out)
  have U9 := Lib.hid ((B9.out.block _ (lt_of_block U89.out)).trans U89.out)
  refine (HR3.out ad9 c9 w9 D9.out O9.out).mono ?_
  rintro e w10 ⟨⟨pa, pc, hret, -, -⟩, b10⟩
  have hret : e = .returned (.tuple #[.agg #[.int .i64 3, .int .u64 0, .slice pa 1 pc], .nilIface]) := hret
  subst hret
  have D10 := Lib.hid (bstep D9.out b10)
  have T10 := Lib.hid ((b10.block _ (lt_of_block T9.out)).trans T9.out)
  have U10 := Lib.hid ((b10.block _ (lt_of_block U9.out)).trans U9.out)
  clear b10 HR3
  obtain ⟨x10, hx10⟩ : ∃ x10, (w10.alloc (.cells #[.int .i64 3, .int .u64 0, .slice pa 1 pc] 25)) = x10 := ⟨_, rfl⟩
  obtain ⟨xb, hxb⟩ : ∃ xb, w10.heap.size = xb := ⟨_, rfl⟩
  have C10 : Hid (Below w10.heap.size w10 x10) := Lib.hid (by rw [← hx10]; exact ballo (Below.refl _ _) _)
  have X10 : Hid (x10.heap[xb]? = some (.cells #[.int .i64 3, .int .u64 0, .slice pa 1 pc] 25)) := Lib.hid (by rw [← hx10, ← hxb]; exact heap_alloc_new _ _)
  have D11 := Lib.hid (bstep D10.out C10.out)
  have T11 := Lib.hid ((C10.out.block _ (lt_of_block T10.out)).trans T10.out)
  have U11 := Lib.hid ((C10.out.block _ (lt_of_block U10.out)).trans U10.out)
  have HE1 := Lib.hid (HIS.out s1 0 4 x10 D11.out T11.out)
  go_wp2_with fail
  clear hx10 hxb
  refine HE1.out.mono ?_
  rintro e w12 ⟨rfl, b12⟩
  have D12 := Lib.hid (bstep D11.out b12)
  have X12 := Lib.hid ((b12.block _ (lt_of_block X10.out)).trans X10.out)
  have U12 := Lib.hid ((b12.block _ (lt_of_block U11.out)).trans U11.out)
  have HE2 := Lib.hid (HIS.out s2 0 3 w12 D12.out U12.out)
  clear b12 HE1
  go_wp2_with fail
  refine HE2.out.mono ?_
  rintro e w13 ⟨rfl, b13⟩
  have D13 := Lib.hid (bstep D12.out b13)
  have X13 := Lib.hid ((b13.block _ (lt_of_block X12.out)).trans X12.out)
  have q0 : w13.cell? ⟨xb, 0, none⟩ = some (.int .i64 3) := by rw [cell_of_row _ _ 0 _ _ _ X13.out]; rfl
  have q2 : w13.cell? ⟨xb, 2, none⟩ = some (.slice pa 1 pc) := by rw [cell_of_row _ _ 2 _ _ _ X13.out]; rfl
  clear b13 HE2
  go_wp2_with fail
  go_ret
  exact ⟨by first | rfl | simp, D13.out⟩
end Go.Proofs.YtmjfkcclhbpclaaDoor
