/- What the rows' list gives a walk of layer 4: the cell of errors.errorType, the table of fixed numbers; a world that meets the list. -/
import Derived.Test.YtmjfkcclhbpclaaDoorRows
import Derived.Test.YtmjfkcclhbpclaaDoorIsSpot
import Derived.Test.YtmjfkcclhbpclaaDoorHeadConst
import Derived.LaidLaws
import Derived.LaidHandle
import Derived.LaidSub
import Derived.OpenShut
import Derived.Stop.Joined
import Derived.Test.YtmjfkcclhbpclaaDoorHeadRight
import Derived.BigQuiet
import Derived.WalkSmall
import Derived.Test.YtmjfkcclhbpclaaDoorKit
import Derived.Test.YtmjfkcclhbpclaaDoorHeadRShort
import Derived.Test.YtmjfkcclhbpclaaDoorLittle
namespace Go.Proofs.YtmjfkcclhbpclaaDoor
open Go.RowKit
set_option linter.unusedVariables false
set_option linter.unusedSimpArgs false
set_option maxRecDepth 100000

theorem LaidH.et : Tryd.prog.globalNamed "errors.errorType" = some 1 := by kernel_rfl
theorem LaidH.ft : Tryd.prog.globalNamed "shackle/head.fixed" = some 0 := by kernel_rfl
theorem LaidH.rt : (Tryd.prog.cutTypes.find? (·.1 == "internal/reflectlite.rtype")).map (·.2) = some 142 := by kernel_rfl
theorem LaidH.oneRow : ((List.range Tryd.prog.types.size).filter fun t => Tryd.prog.rowNamed t [101, 114, 114, 111, 114]) = [29] := by kernel_rfl

theorem errType_of_laid {W : World} {l : List (String × DataW Unit)} (hl : l.filter (fun x => x.2.handleName?.isSome) = [("errors.errorType", Rows.laid_errors_errorType)]) (h : laidMetH Tryd.prog l W) : ErrType W := by
  have h' : handlesMet Tryd.prog [("errors.errorType", Rows.laid_errors_errorType)] W := by
    have := (laidMetH_iff.1 h).2
    rw [hl] at this
    exact this
  obtain ⟨name, u, ty, e1, e2, e3, e4, e5⟩ := h' _ (List.mem_singleton.2 rfl)
  have en : name = [101, 114, 114, 111, 114] := (Option.some.inj e1).symm
  subst en
  obtain rfl := Option.some.inj (LaidH.rt.symm.trans e2)
  have hm : ty ∈ (List.range Tryd.prog.types.size).filter fun t => Tryd.prog.rowNamed t [101, 114, 114, 111, 114] := List.mem_filter.2 ⟨List.mem_range.2 e3, e4⟩
  rw [LaidH.oneRow] at hm
  obtain rfl := List.mem_singleton.1 hm
  have hh : typeHandle Tryd.prog 29 = .pointer (some ⟨3, 29, none⟩) := by kernel_rfl
  rw [hh] at e5
  unfold ErrType
  simpa using World.var?_cell LaidH.et e5 0
def fixRow (q : Nat × Nat × Nat × Nat) : List Value := [.int .i64 (q.1 : Int), .int .i64 (q.2.1 : Int), .int .u64 (q.2.2.1 : Int), .int .u64 (q.2.2.2 : Int)]
def fixDat (q : Nat × Nat × Nat × Nat) : DataW Unit := .agg [.lit (.int .i64 (q.1 : Int)), .lit (.int .i64 (q.2.1 : Int)), .lit (.int .u64 (q.2.2.1 : Int)), .lit (.int .u64 (q.2.2.2 : Int))]
theorem fix_rows : fixC = (fixedF.map fixRow).flatten := by kernel_rfl
theorem fix_dat : (Rows.laid_shackle_head_fixed : DataW Unit) = .agg (fixedF.map fixDat) := by kernel_rfl
theorem fix_of_trod {w : World} {base n : Nat} {spare : Nat → Bool} {held : Bool} {cs : List Value} {q : Nat × Nat × Nat × Nat} {p : List MemPlace} {enc : TypeId × Value → Unit} (h : DataW.trod enc Tryd.prog w base spare held n 60 cs = some (fixDat q, p)) : cs = fixRow q := by
  obtain ⟨xs, m, -, hx, hlen, hxl, hf⟩ := DataW.trod_struct Tryd.underlying60 h
  have hc : Tryd.prog.cellsOf 60 = 4 := by kernel_rfl
  rw [hc] at hlen
  match cs, hlen with
  | [c0, c1, c2, c3], _ =>
    have k64 : Tryd.prog.cellsOf 22 = 1 := by kernel_rfl
    have ki : Tryd.prog.cellsOf 3 = 1 := by kernel_rfl
    have g0 : DataW.trod enc Tryd.prog w base spare held m 3 (([c0, c1, c2, c3].drop 0).take (Tryd.prog.cellsOf 3)) = xs[0]? := hf 0 _ rfl
    have g1 : DataW.trod enc Tryd.prog w base spare held m 3 (([c0, c1, c2, c3].drop 1).take (Tryd.prog.cellsOf 3)) = xs[1]? := hf 1 _ rfl
    have g2 : DataW.trod enc Tryd.prog w base spare held m 22 (([c0, c1, c2, c3].drop 2).take (Tryd.prog.cellsOf 22)) = xs[2]? := hf 2 _ rfl
    have g3 : DataW.trod enc Tryd.prog w base spare held m 22 (([c0, c1, c2, c3].drop 3).take (Tryd.prog.cellsOf 22)) = xs[3]? := hf 3 _ rfl
    have hxl4 : xs.length = 4 := hxl.trans rfl
    simp only [k64, ki, List.drop_succ_cons, List.drop_zero, List.take_succ_cons, List.take_zero] at g0 g1 g2 g3
    match xs, hxl4 with
    | [y0, y1, y2, y3], _ =>
      simp only [List.getElem?_cons_zero, List.getElem?_cons_succ] at g0 g1 g2 g3
      obtain ⟨z0, e0, rfl, -⟩ := DataW.trod_int Tryd.underlying3 g0
      obtain ⟨z1, e1, rfl, -⟩ := DataW.trod_int Tryd.underlying3 g1
      obtain ⟨z2, e2, rfl, -⟩ := DataW.trod_int Tryd.underlying22 g2
      obtain ⟨z3, e3, rfl, -⟩ := DataW.trod_int Tryd.underlying22 g3
      have hd := congrArg Prod.fst hx
      simp only [fixDat, List.map_cons, List.map_nil, DataW.agg.injEq, List.cons.injEq, DataW.lit.injEq, Lit.int.injEq, true_and, and_true] at hd
      obtain ⟨d0, d1, d2, d3⟩ := hd
      simp only [List.cons.injEq, and_true] at e0 e1 e2 e3
      rw [e0, e1, e2, e3, ← d0, ← d1, ← d2, ← d3]
      rfl
theorem rows_flat : ∀ (rows : List (List Value)) (l : List Value), (∀ r ∈ rows, r.length = 4) → l.length = 4 * rows.length → (∀ r, (h : r < rows.length) → (l.drop (r * 4)).take 4 = rows[r]) → l = rows.flatten
  | [], l, _, hl, _ => List.length_eq_zero_iff.1 (by simpa using hl)
  | r :: rows, l, h4, hl, h => by
    have h0 := h 0 (by simp)
    rw [Nat.zero_mul, List.drop_zero] at h0
    have h0 : l.take 4 = r := h0
    have ih := rows_flat rows (l.drop 4) (fun r hr => h4 r (List.mem_cons_of_mem _ hr)) (by rw [List.length_drop, hl, List.length_cons]; omega) (fun k hk => by
      have := h (k + 1) (by simpa using hk)
      rw [List.drop_drop, show 4 + k * 4 = (k + 1) * 4 by omega]
      exact this)
    rw [List.flatten_cons, ← ih, ← h0, List.take_append_drop]
theorem fixAt_of_laid {W : World} {l : List (String × DataW Unit)} (hl : l.filter (fun x => x.2.handleName?.isNone) = [("shackle/head.fixed", Rows.laid_shackle_head_fixed)]) (h : laidMetH Tryd.prog l W) : FixAt W := by
  have h' := (laidMetH_iff.1 h).1
  rw [hl] at h'
  obtain ⟨ps, ⟨g, t, cs, fuel, p, q, hg, ht, hv, hd, _, _⟩, _, _⟩ := h'
  obtain rfl := Option.some.inj (LaidH.ft.symm.trans hg)
  obtain rfl := Option.some.inj ((show (Tryd.prog.globals[0]?).map (·.type) = some 61 by kernel_rfl).symm.trans ht)
  obtain ⟨xs, m, _, ex, hcl, hxl, hel⟩ := DataW.trod_array Tryd.underlying61 hd
  have hc4 : Tryd.prog.cellsOf 60 = 4 := by kernel_rfl
  have hc52 : Tryd.prog.cellsOf 61 = 52 := by kernel_rfl
  rw [hc52] at hcl
  have hdat : xs.map (·.1) = fixedF.map fixDat := by
    have := congrArg Prod.fst ex
    rw [fix_dat] at this
    exact (DataW.agg.inj this).symm
  have hfl : cs.toList = fixC := by
    rw [fix_rows]
    refine rows_flat _ _ (fun r hr => ?_) (by rw [hcl, List.length_map]; rfl) (fun r hr => ?_)
    · obtain ⟨q, -, rfl⟩ := List.mem_map.1 hr
      rfl
    · have hr13 : r < fixedF.length := by simpa using hr
      have hrx : r < xs.length := by rw [hxl]; exact hr13
      have hE := hel r hr13
      rw [hc4, List.getElem?_eq_getElem hrx] at hE
      have hd1 : (xs[r]).1 = fixDat (fixedF[r]) := by
        have := congrArg (·[r]?) hdat
        simpa [hrx, hr13] using this
      have hE2 : DataW.trod (fun _ => ()) Tryd.prog W 0 (fun _ => true) false m 60 ((cs.toList.drop (r * 4)).take 4) = some (fixDat fixedF[r], (xs[r]).2) := by
        rw [← hd1]
        exact hE
      rw [fix_of_trod hE2, List.getElem_map]
  intro j v hj
  have := World.var?_cell LaidH.ft hv (0 + j)
  rw [this]
  rw [← hfl] at hj
  simpa using hj
def litCell : DataW Unit → Value
  | .lit (.int k n) => .int k n
  | _ => undef
def aggOf : DataW Unit → List (DataW Unit)
  | .agg l => l
  | _ => []
/-- The settled world, the handle and the table laid. -/
noncomputable def laidWorld (os : Os) : World :=
  let w0 := World.holding Tryd.prog os ⟨#[], #[], []⟩
  { w0 with heap := (w0.heap.modify 1 fun
      | .cells _ t frozen => .cells #[.iface 142 (.agg #[.pointer (some ⟨3, 29, none⟩)])] t frozen
      | o => o).modify 0 fun
      | .cells _ t frozen => .cells fixC.toArray t frozen
      | o => o }
end Go.Proofs.YtmjfkcclhbpclaaDoor
/- Layer 4: the rows of the document's examples, at the head of all statements. -/
namespace Go.Proofs.YtmjfkcclhbpclaaDoor
open Go.RowKit
set_option linter.unusedVariables false
set_option linter.unusedSimpArgs false
set_option maxRecDepth 100000

theorem own_u8c {w : World} {B g : Nat} {xs : List Nat} (h : w.heap[g]? = some (.cells (u8c xs) 5)) (hB : B ≤ g) (hm : xs.length ≤ 1048576) : OwnI w B 5 .u8 (.slice (some ⟨g, 0, none⟩) xs.length xs.length) (toI xs) := by
  have e : (toI xs).map (Value.int .u8) = (u8c xs).toList := by unfold toI u8c; rw [List.map_map]; rfl
  have el : (toI xs).length = xs.length := toI_length xs
  unfold OwnI
  rw [el, e]
  refine ⟨?_, .inr ⟨g, xs.length, u8c xs, rfl, hB, h, Nat.le_refl _, by unfold maxLen; omega, ?_, ?_⟩⟩
  · unfold u8c; simp
  · unfold u8c; simp
  · rw [List.take_of_length_le (by unfold u8c; simp)]
def qPT : PT := ⟨1, 0, 0, 0, 0, 1, 4096⟩
theorem read_nil : readF [] = .error (.spot 0 4) := by kernel_rfl
theorem read_zero : readF (List.replicate 64 0) = .error (.spot 0 3) := by kernel_rfl
theorem int_nil : interpF [] [] = .error (.code 6) := by kernel_rfl
theorem read_one : readF (writeF 3 0 [qPT] ++ [7]) = .ok ⟨3, 0, [qPT]⟩ := by kernel_rfl
theorem write_lt : ∀ x ∈ writeF 3 0 [qPT] ++ [7], x < 256 := by decide +kernel
theorem erow_nil (w : World) : BRow w none [] := ⟨fun i hi => by simp [toI] at hi, fun b hb => by simp at hb⟩
theorem prow_one {w : World} {b : Nat} (h : w.heap[b]? = some (.cells #[.int .u32 1, .int .u32 0, .int .u64 0, .int .u64 0, .int .u64 0, .int .u64 1, .int .u64 4096] 37)) : PRow w (some ⟨b, 0, none⟩) [qPT] := fun i hi => by
  obtain rfl : i = 0 := by simp at hi; omega
  refine ⟨show PT.wf qPT from ⟨by decide, by decide, by decide, by decide, by decide, by decide, by decide⟩, b, 0, rfl, lt_of_block h, fun j hj => ?_⟩
  rw [show 0 + 0 * 7 + j = j by omega, cell_of_row _ _ j _ _ _ h]
  rcases (show j = 0 ∨ j = 1 ∨ j = 2 ∨ j = 3 ∨ j = 4 ∨ j = 5 ∨ j = 6 by omega) with rfl | rfl | rfl | rfl | rfl | rfl | rfl <;> rfl
set_option maxHeartbeats 16000000 in
theorem shown_any (w : World) (hg : ErrType w) (hf : FixAt w) :
    Calls Tryd.prog 7 #[] w fun e w' => e = .returned (.bool true) ∧ Below w.heap.size w w' := by
  have HR1 := Lib.hid (hread_any none 0 0 [] w (erow_nil w) rfl (by decide) (fun _ => ⟨rfl, rfl⟩) (by decide) hf)
  have HR2 : Hid (∀ g wx, Below w.heap.size w wx → wx.heap[g]? = some (.cells (u8c (List.replicate 64 0)) 5) → Calls Tryd.prog 9 #[.slice (some ⟨g, 0, none⟩) 64 64] wx (ReadPost wx (List.replicate 64 0))) := Lib.hid (fun g wx hb h => by
    have ho := own_u8c (B := 0) h (Nat.zero_le _) (by rw [List.length_replicate]; decide)
    obtain ⟨-, hrow, -⟩ := OwnI.at ho
    exact hread_any (some ⟨g, 0, none⟩) 64 64 _ wx ⟨hrow, fun x hx => by rw [(List.mem_replicate.1 hx).2]; decide⟩ List.length_replicate (by decide) (fun e => by cases e) (by decide) (hf.below hb))
  have HW1 : Hid (∀ wx, Calls Tryd.prog 8 #[.agg #[.int .i64 4, .int .u64 0, .slice none 0 0]] wx fun e w' => e = .returned (.tuple #[.slice none 0 0, .iface 38 (.int .i64 1)]) ∧ Below wx.heap.size wx w') := Lib.hid (fun wx => hwrite_bad 4 0 none 0 0 wx (by decide) (.inr (.inl rfl)))
  have HI1 : Hid (∀ wx, Calls Tryd.prog 11 #[.slice none 0 0, .agg #[.int .i64 0, .int .u64 0, .slice none 0 0]] wx (IntPost wx [] [])) := Lib.hid (fun wx => interp_any 0 0 none 0 0 [] none 0 0 [] wx ⟨erow_nil wx, rfl, by decide, fun _ => ⟨rfl, rfl⟩, by decide⟩ (fun i hi => by simp at hi) rfl (by decide))
  have HW2 : Hid (∀ wx, Below w.heap.size w wx → Calls Tryd.prog 8 #[.agg #[.int .i64 3, .int .u64 0, .slice (some ⟨wx.heap.size, 0, none⟩) 1 1]] (wx.alloc (.cells #[.int .u32 1, .int .u32 0, .int .u64 0, .int .u64 0, .int .u64 0, .int .u64 1, .int .u64 4096] 37)) (WritePost (wx.alloc (.cells #[.int .u32 1, .int .u32 0, .int .u64 0, .int .u64 0, .int .u64 0, .int .u64 1, .int .u64 4096] 37)) (writeF 3 0 [qPT]))) := Lib.hid (fun wx hb => hwrite_ok 3 0 (some ⟨wx.heap.size, 0, none⟩) 1 1 [qPT] _ (.inr ⟨by decide, by decide⟩) (by decide) (by decide) (prow_one (heap_alloc_new _ _)) rfl (by decide) (by decide) (hf.below (ballo hb _)))
  have HR3 : Hid (∀ ad c wx, Below w.heap.size w wx → OwnI wx 0 5 .u8 (.slice ad 121 c) (toI (writeF 3 0 [qPT]) ++ [7]) → Calls Tryd.prog 9 #[.slice ad 121 c] wx (ReadPost wx (writeF 3 0 [qPT] ++ [7]))) := Lib.hid (fun ad c wx hb ho => by
    have e : toI (writeF 3 0 [qPT]) ++ [7] = toI (writeF 3 0 [qPT] ++ [7]) := by unfold toI; rw [List.map_append]; rfl
    rw [e] at ho
    obtain ⟨hl, hrow, hn⟩ := OwnI.at ho
    have hfit := OwnI.fit ho
    exact hread_any ad 121 c _ wx ⟨hrow, write_lt⟩ (by rw [List.length_append, writeF_len]; rfl) (by decide) (fun e => by have := hn e; omega) hfit.1 (hf.below hb))
  have HIS : Hid (∀ sb (a n : Nat) wx, Below w.heap.size w wx → wx.heap[sb]? = some (.cells #[.int .u64 (a : Int), .iface 38 (.int .i64 (n : Int))] 95) → Calls Tryd.prog 18 #[.iface 90 (.pointer (some ⟨sb, 0, none⟩)), .int .u64 (a : Int), .int .i64 (n : Int)] wx fun e w' => e = .returned (.bool true) ∧ Below wx.heap.size wx w') := Lib.hid (fun sb a n wx hb h => is_spot sb (a : Int) (n : Int) wx (hg.below hb) (by rw [cell_of_row _ _ 0 _ _ _ h]; rfl) (by rw [cell_of_row _ _ 1 _ _ _ h]; rfl))
  have HSL : Hid ((toI (writeF 3 0 [qPT])).length = 120) := Lib.hid (by rw [toI_length, writeF_len]; rfl)
  have HSW : Hid ((writeF 3 0 [qPT]).length = 120) := Lib.hid (by rw [writeF_len]; rfl)
  have HOW : Hid (∀ B g wx, wx.heap[g]? = some (.cells (u8c (writeF 3 0 [qPT])) 5) → B ≤ g → OwnI wx B 5 .u8 (.slice (some ⟨g, 0, none⟩) 120 120) (toI (writeF 3 0 [qPT]))) := Lib.hid (fun B g wx h hB => by
    have := own_u8c h hB (by rw [writeF_len]; decide)
    rwa [writeF_len] at this)
  have hR1 := read_nil
  have hR2 := read_zero
  have hR3 := read_one
  have hI1 := int_nil
  unfold ReadPost at HR1 HR2 HR3
  unfold IntPost at HI1
  unfold WritePost at HW2
  rw [hR1] at HR1
  rw [hR2] at HR2
  rw [hR3] at HR3
  rw [hI1] at HI1
  have he := run_eql_code
  clear hg hf hR1 hR2 hR3 hI1
  go_enter Tryd.func7, Tryd.ntmps7
  go_wp2_with fail
  refine HR1.out.mono ?_
  rintro e w1 ⟨⟨v1, rfl, hv1⟩, b1⟩
  obtain ⟨s1, rfl, hs1⟩ := hv1
  have B1 := Lib.hid b1
  have S1 := Lib.hid hs1
  clear b1 hs1 HR1
  have C1 : Hid (Below w1.heap.size w1 (w1.alloc (.cells #[.int .i64 0, .int .u64 0, .slice none 0 0] 25))) := Lib.hid (ballo (Below.refl _ _) _)
  have D1 := Lib.hid (bstep B1.out C1.out)
  have T1 := Lib.hid ((C1.out.block _ (lt_of_block S1.out)).trans S1.out)
  go_wp2_with (at_make; (refine wpList_make_nums rfl (.const (.int .i64 64)) (.const (.int .i64 64)) slice8w rfl (w1.alloc (.cells #[.int .i64 0, .int .u64 0, .slice none 0 0] 25)).heap.size (w1.alloc (.cells #[.int .i64 0, .int .u64 0, .slice none 0 0] 25)) 64 .i64 .i64 64 64 rfl rfl rfl rfl (by omega) (by unfold maxLen; omega) (Below.refl _ _) (Nat.le_refl _) ?_); intro g w4 ho4 hg4 hb4 hb4'; have O4 := Lib.hid (own_zeros ho4).1; have B4 := Lib.hid hb4; clear ho4 hg4 hb4 hb4')
  have D4 := Lib.hid (bstep D1.out B4.out)
  have T4 := Lib.hid ((B4.out.block _ (lt_of_block T1.out)).trans T1.out)
  refine (HR2.out g w4 D4.out O4.out).mono ?_
  rintro e w5 ⟨⟨v2, rfl, hv2⟩, b5⟩
  obtain ⟨s2, rfl, hs2⟩ := hv2
  have B5 := Lib.hid (bstep D4.out b5)
  have T5 := Lib.hid ((b5.block _ (lt_of_block T4.out)).trans T4.out)
  have U5 := Lib.hid hs2
  clear b5 hs2 HR2 C1
  have C5 : Hid (Below w5.heap.size w5 (w5.alloc (.cells #[.int .i64 0, .int .u64 0, .slice none 0 0] 25))) := Lib.hid (ballo (Below.refl _ _) _)
  have D5 := Lib.hid (bstep B5.out C5.out)
  have T6 := Lib.hid ((C5.out.block _ (lt_of_block T5.out)).trans T5.out)
  have U6 := Lib.hid ((C5.out.block _ (lt_of_block U5.out)).trans U5.out)
  go_wp2_with fail
  generalize w5.alloc (.cells #[.int .i64 0, .int .u64 0, .slice none 0 0] 25) = x5 at *
  refine (HW1.out x5).mono ?_
  rintro e w6 ⟨rfl, b6⟩
  have D6 := Lib.hid (bstep D5.out b6)
  have T7 := Lib.hid ((b6.block _ (lt_of_block T6.out)).trans T6.out)
  have U7 := Lib.hid ((b6.block _ (lt_of_block U6.out)).trans U6.out)
  clear b6 HW1
  go_wp2_with fail
  refine (HI1.out w6).mono ?_
  rintro e w7 ⟨⟨v3, rfl, hv3⟩, b7⟩
  obtain rfl : v3 = .iface 38 (.int .i64 6) := hv3
  have D7 := Lib.hid (bstep D6.out b7)
  have T8 := Lib.hid ((b7.block _ (lt_of_block T7.out)).trans T7.out)
  have U8 := Lib.hid ((b7.block _ (lt_of_block U7.out)).trans U7.out)
  clear b7 HI1
  have HW3 := Lib.hid (HW2.out w7 D7.out)
  have C7 : Hid (Below w7.heap.size w7 (w7.alloc (.cells #[.int .u32 1, .int .u32 0, .int .u64 0, .int .u64 0, .int .u64 0, .int .u64 1, .int .u64 4096] 37))) := Lib.hid (ballo (Below.refl _ _) _)
  go_wp2_with fail
  refine HW3.out.mono ?_
  rintro e w8 ⟨g8, hret, hg8, hg8l, b8⟩
  rw [HSW.out] at hret
  subst hret
  have D78 := Lib.hid (bstep D7.out C7.out)
  have T89 := Lib.hid ((C7.out.block _ (lt_of_block T8.out)).trans T8.out)
  have U89 := Lib.hid ((C7.out.block _ (lt_of_block U8.out)).trans U8.out)
  generalize (w7.alloc (.cells #[.int .u32 1, .int .u32 0, .int .u64 0, .int .u64 0, .int .u64 0, .int .u64 1, .int .u64 4096] 37)) = x7 at *
  have B8 := Lib.hid b8
  have Z8 : Hid (x7.heap.size ≤ w8.heap.size) := Lib.hid b8.size
  have O8 := Lib.hid (HOW.out x7.heap.size g8 w8 hg8 hg8l)
  clear hg8 b8 HW2 HW3 hg8l
  go_wp2_with (at_builtin; go_loud (refine wpList_push rfl (.tmp 42) (.tmp 43) slice8w rfl x7.heap.size x7 (.slice (some ⟨g8, 0, none⟩) 120 120) (toI (writeF 3 0 [qPT])) 120 7 rfl (by rfl) HSL.out O8.out (by unfold maxLen; omega) (by omega) B8.out Z8.out ?_); intro ad9 c9 w9 hown9 hbe9; have O9 := Lib.hid (OwnI.mono hown9 (Nat.zero_le _)); have B9 := Lib.hid hbe9; clear hown9 hbe9)
  have D9 := Lib.hid (bstep D78.out B9.out)
  have T9 := Lib.hid ((B9.out.block _ (lt_of_block T89.out)).trans T89.out)
  have U9 := Lib.hid ((B9.out.block _ (lt_of_block U89.out)).trans U89.out)
  refine (HR3.out ad9 c9 w9 D9.out O9.out).mono ?_
  rintro e w10 ⟨⟨pa, pc, hret, -, -⟩, b10⟩
  have hret : e = .returned (.tuple #[.agg #[.int .i64 3, .int .u64 0, .slice pa 1 pc], .nilIface]) := hret
  subst hret
  have D10 := Lib.hid (bstep D9.out b10)
  have T10 := Lib.hid ((b10.block _ (lt_of_block T9.out)).trans T9.out)
  have U10 := Lib.hid ((b10.block _ (lt_of_block U9.out)).trans U9.out)
  clear b10 HR3
  obtain ⟨x10, hx10⟩ : ∃ x10, (w10.alloc (.cells #[.int .i64 3, .int .u64 0, .slice pa 1 pc] 25)) = x10 := ⟨_, rfl⟩
  obtain ⟨xb, hxb⟩ : ∃ xb, w10.heap.size = xb := ⟨_, rfl⟩
  have C10 : Hid (Below w10.heap.size w10 x10) := Lib.hid (by rw [← hx10]; exact ballo (Below.refl _ _) _)
  have X10 : Hid (x10.heap[xb]? = some (.cells #[.int .i64 3, .int .u64 0, .slice pa 1 pc] 25)) := Lib.hid (by rw [← hx10, ← hxb]; exact heap_alloc_new _ _)
  have D11 := Lib.hid (bstep D10.out C10.out)
  have T11 := Lib.hid ((C10.out.block _ (lt_of_block T10.out)).trans T10.out)
  have U11 := Lib.hid ((C10.out.block _ (lt_of_block U10.out)).trans U10.out)
  have HE1 := Lib.hid (HIS.out s1 0 4 x10 D11.out T11.out)
  go_wp2_with fail
  clear hx10 hxb
  refine HE1.out.mono ?_
  rintro e w12 ⟨rfl, b12⟩
  have D12 := Lib.hid (bstep D11.out b12)
  have X12 := Lib.hid ((b12.block _ (lt_of_block X10.out)).trans X10.out)
  have U12 := Lib.hid ((b12.block _ (lt_of_block U11.out)).trans U11.out)
  have HE2 := Lib.hid (HIS.out s2 0 3 w12 D12.out U12.out)
  clear b12 HE1
  go_wp2_with fail
  refine HE2.out.mono ?_
  rintro e w13 ⟨rfl, b13⟩
  have D13 := Lib.hid (bstep D12.out b13)
  have X13 := Lib.hid ((b13.block _ (lt_of_block X12.out)).trans X12.out)
  have q0 : w13.cell? ⟨xb, 0, none⟩ = some (.int .i64 3) := by rw [cell_of_row _ _ 0 _ _ _ X13.out]; rfl
  have q2 : w13.cell? ⟨xb, 2, none⟩ = some (.slice pa 1 pc) := by rw [cell_of_row _ _ 2 _ _ _ X13.out]; rfl
  clear b13 HE2
  go_wp2_with fail
  go_ret
  exact ⟨by first | rfl | simp, D13.out⟩
end Go.Proofs.YtmjfkcclhbpclaaDoor
/- Layer 4: two heads that are alike are found alike (shackleref04.Same). -/
namespace Go.Proofs.YtmjfkcclhbpclaaDoor
open Go.RowKit
set_option linter.unusedVariables false
set_option linter.unusedSimpArgs false
set_option maxRecDepth 100000

set_option maxHeartbeats 8000000 in
theorem prog_neq (a0 a1 a2 a3 a4 a5 a6 : Int) (w : World) : (binOp .neq 37 (.agg #[.int .u32 a0, .int .u32 a1, .int .u64 a2, .int .u64 a3, .int .u64 a4, .int .u64 a5, .int .u64 a6]) (.agg #[.int .u32 a0, .int .u32 a1, .int .u64 a2, .int .u64 a3, .int .u64 a4, .int .u64 a5, .int .u64 a6])).run Tryd.prog w = .ok (.bool false) w := by
  go_simp
set_option maxHeartbeats 16000000 in
theorem rsame_true (K : Int) (e : Nat) (pa pb : Option Addr) (n pc qc : Nat) (ps : List PT) (w : World) (ha : PRow w pa ps) (hb : PRow w pb ps) (hl : ps.length = n) (hn : n ≤ 140737488351232) :
    Calls Tryd.prog 10 #[.agg #[.int .i64 K, .int .u64 (e : Int), .slice pa n pc], .agg #[.int .i64 K, .int .u64 (e : Int), .slice pb n qc]] w fun e w' => e = .returned (.bool true) ∧ Below w.heap.size w w' := by
  have hnl : (n : Int) ≤ 140737488351232 := by omega
  obtain ⟨w1, hw1⟩ : ∃ w1, w.alloc (.cells #[.int .i64 K, .int .u64 (e : Int), .slice pa n pc] 25) = w1 := ⟨_, rfl⟩
  obtain ⟨b1, hb1⟩ : ∃ b1, w.heap.size = b1 := ⟨_, rfl⟩
  obtain ⟨w2, hw2⟩ : ∃ w2, w1.alloc (.cells #[.int .i64 K, .int .u64 (e : Int), .slice pb n qc] 25) = w2 := ⟨_, rfl⟩
  obtain ⟨b2, hb2⟩ : ∃ b2, w1.heap.size = b2 := ⟨_, rfl⟩
  have B1 : Hid (Below w.heap.size w w1) := Lib.hid (by rw [← hw1]; exact ballo (Below.refl _ _) _)
  have B12 : Hid (Below w1.heap.size w1 w2) := Lib.hid (by rw [← hw2]; exact ballo (Below.refl _ _) _)
  have B2 := Lib.hid (bstep B1.out B12.out)
  have X1 : Hid (w1.heap[b1]? = some (.cells #[.int .i64 K, .int .u64 (e : Int), .slice pa n pc] 25)) := Lib.hid (by rw [← hw1, ← hb1]; exact heap_alloc_new _ _)
  have X2 := Lib.hid ((B12.out.block _ (lt_of_block X1.out)).trans X1.out)
  have Y2 : Hid (w2.heap[b2]? = some (.cells #[.int .i64 K, .int .u64 (e : Int), .slice pb n qc] 25)) := Lib.hid (by rw [← hw2, ← hb2]; exact heap_alloc_new _ _)
  have HA := Lib.hid (ha.below B2.out)
  have HB := Lib.hid (hb.below B2.out)
  have HL := Lib.hid hl
  have k0 : w2.cell? ⟨b1, 0, none⟩ = some (.int .i64 K) := by rw [cell_of_row _ _ 0 _ _ _ X2.out]; rfl
  have k1 : w2.cell? ⟨b1, 1, none⟩ = some (.int .u64 (e : Int)) := by rw [cell_of_row _ _ 1 _ _ _ X2.out]; rfl
  have k2 : w2.cell? ⟨b1, 2, none⟩ = some (.slice pa n pc) := by rw [cell_of_row _ _ 2 _ _ _ X2.out]; rfl
  have l0 : w2.cell? ⟨b2, 0, none⟩ = some (.int .i64 K) := by rw [cell_of_row _ _ 0 _ _ _ Y2.out]; rfl
  have l1 : w2.cell? ⟨b2, 1, none⟩ = some (.int .u64 (e : Int)) := by rw [cell_of_row _ _ 1 _ _ _ Y2.out]; rfl
  have l2 : w2.cell? ⟨b2, 2, none⟩ = some (.slice pb n qc) := by rw [cell_of_row _ _ 2 _ _ _ Y2.out]; rfl
  have tK : (K != K) = false := by simp
  have tE : ((e : Int) != (e : Int)) = false := by simp
  have tN : ((n : Int) != (n : Int)) = false := by simp
  clear ha hb hl hn
  go_enter Tryd.func10, Tryd.ntmps10
  go_wp2_with fail
  clear hw1 hw2 hb1 hb2 k0 k1 k2 l0 l1 l2 tK tE tN
  go_loopg [5] n (fun g iv wr => ∃ k : Nat, k + g = n ∧ iv = .int .i64 (k : Int) ∧ Hid (Below w2.heap.size w2 wr))
  case atStart => exact ⟨0, by omega, rfl, Lib.hid (Below.refl _ _)⟩
  case round =>
    obtain ⟨k, hk, rfl, HBR⟩ := hrel
    have XR := Lib.hid ((HBR.out.block _ (lt_of_block X2.out)).trans X2.out)
    have YR := Lib.hid ((HBR.out.block _ (lt_of_block Y2.out)).trans Y2.out)
    have k2 : wr.cell? ⟨b1, 2, none⟩ = some (.slice pa n pc) := by rw [cell_of_row _ _ 2 _ _ _ XR.out]; rfl
    have l2 : wr.cell? ⟨b2, 2, none⟩ = some (.slice pb n qc) := by rw [cell_of_row _ _ 2 _ _ _ YR.out]; rfl
    cases gk with
    | zero =>
      have hkn : k = n := by omega
      subst hkn
      clear hk
      go_wp2_with fail
      go_ret
      exact ⟨rfl, bstep B2.out HBR.out⟩
    | succ g =>
      have hkl : k < ps.length := by have := HL.out; omega
      obtain ⟨-, ba, oa, hpa, -, hca⟩ := (HA.out.below HBR.out) k hkl
      obtain ⟨-, bb, ob, hpb, -, hcb⟩ := (HB.out.below HBR.out) k hkl
      obtain ⟨q, hq⟩ : ∃ q, ps[k] = q := ⟨_, rfl⟩
      rw [hq] at hca hcb
      have c0 := hca 0 (by omega)
      have c1 := hca 1 (by omega)
      have c2 := hca 2 (by omega)
      have c3 := hca 3 (by omega)
      have c4 := hca 4 (by omega)
      have c5 := hca 5 (by omega)
      have c6 := hca 6 (by omega)
      have d0 := hcb 0 (by omega)
      have d1 := hcb 1 (by omega)
      have d2 := hcb 2 (by omega)
      have d3 := hcb 3 (by omega)
      have d4 := hcb 4 (by omega)
      have d5 := hcb 5 (by omega)
      have d6 := hcb 6 (by omega)
      simp only [PT.cells, List.getElem?_cons_zero, List.getElem?_cons_succ, Nat.add_zero] at c0 c1 c2 c3 c4 c5 c6 d0 d1 d2 d3 d4 d5 d6
      have HK := Lib.hid hk
      have i0 : (0 : Int) ≤ (k : Int) := by omega
      have i1 : (k : Int) < (n : Int) := by omega
      clear hca hcb hq hkl hk
      obtain ⟨a0, a1, a2, a3, a4, a5, a6⟩ := q
      simp only [] at c0 c1 c2 c3 c4 c5 c6 d0 d1 d2 d3 d4 d5 d6
      have hne := prog_neq (a0 : Int) (a1 : Int) (a2 : Int) (a3 : Int) (a4 : Int) (a5 : Int) (a6 : Int)
      subst hpa
      subst hpb
      go_wp2_with fail
      go_quiet (fail)
      have BD := Lib.hid (below_drewN HBR.out nq)
      generalize wr.drewN nq = wn at *
      clear c0 c1 c2 c3 c4 c5 c6 d0 d1 d2 d3 d4 d5 d6 hne k2 l2
      go_wp2_with fail
      go_roundg g
      case measure => have := HK.out; omega
      case rel => exact ⟨k + 1, by have := HK.out; omega, by go_num, BD⟩
end Go.Proofs.YtmjfkcclhbpclaaDoor
/- Are two slices of numbers alike? The contract of shackle/shackleref01.Same. -/
namespace Go.Proofs.YtmjfkcclhbpclaaDoor
open Go.RowKit
set_option linter.unusedVariables false
set_option linter.unusedSimpArgs false

theorem same_any (a b : Option Addr) (c d : Nat) (xs ys : List Int) (w : World) (ha : Row .u8 w a xs) (hb : Row .u8 w b ys) (hx : xs.length ≤ maxLen) (hy : ys.length ≤ maxLen) :
    Calls Tryd.prog 16 #[.slice a xs.length c, .slice b ys.length d] w fun e w' => e = .returned (.bool (xs == ys)) ∧ Below w.heap.size w w' := by
  unfold maxLen at hx hy
  have HA := Lib.hid ha; clear ha
  have HB := Lib.hid hb; clear hb
  by_cases hl : xs.length = ys.length
  · have HL := Lib.hid hl
    have h0 : ((xs.length : Int) != (ys.length : Int)) = false := by simp [hl]
    clear hl
    go_enter Tryd.func16, Tryd.ntmps16
    go_wp2
    go_loopw [5] (fun i wr => ∃ k : Nat, k ≤ xs.length ∧ i = .int .i64 k ∧ Hid (xs.take k = ys.take k) ∧ Hid (Below w.heap.size w wr)) (fun i _ => xs.length - (intOf i).toNat)
    case atStart => exact ⟨0, Nat.zero_le _, rfl, Lib.hid rfl, Lib.hid (Below.refl _ _)⟩
    case round =>
      obtain ⟨k, hk, rfl, heq, hdr⟩ := hrel
      by_cases hlt : k < xs.length
      · obtain ⟨b1, o1, rfl, hc1⟩ := HA.out k hlt
        obtain ⟨b2, o2, rfl, hc2⟩ := HB.out k (by have := HL.out; omega)
        have hly : k < ys.length := by have := HL.out; omega
        have hb1 : b1 < w.heap.size := by simpa using World.block_lt_of_cell? w _ hc1
        have hb2 : b2 < w.heap.size := by simpa using World.block_lt_of_cell? w _ hc2
        have g1 : wr.cell? ⟨b1, o1 + k, none⟩ = some (.int .u8 (xs.getD k 0)) := by rw [hdr.out.cell (p := ⟨b1, o1 + k, none⟩) hb1]; exact hc1
        have g2 : wr.cell? ⟨b2, o2 + k, none⟩ = some (.int .u8 (ys.getD k 0)) := by rw [hdr.out.cell (p := ⟨b2, o2 + k, none⟩) hb2]; exact hc2
        clear hc1 hc2
        by_cases hq : xs[k] = ys[k]
        · have hq2 : (xs[k] != ys[k]) = false := by simp [hq]
          have HQ := Lib.hid hq; clear hq
          go_wp2
          go_quiet (fail)
          go_wp2
          go_roundw
          case rel =>
            refine ⟨k + 1, by omega, by go_num, Lib.hid ?_, Lib.hid (below_drewN hdr.out _)⟩
            rw [List.take_succ_eq_append_getElem hlt, List.take_succ_eq_append_getElem hly, heq.out, HQ.out]
          case measure => simp [intOf]; omega
        · have hq2 : (xs[k] != ys[k]) = true := by simp [hq]
          have HQ := Lib.hid hq; clear hq
          go_wp2
          go_quiet (fail)
          go_wp2
          go_ret
          have h1 : (xs == ys) = false := by
            rw [beq_eq_false_iff_ne]
            intro e
            subst e
            exact HQ.out rfl
          rw [h1]
          exact ⟨rfl, below_drewN hdr.out _⟩
      · have hk' : k = xs.length := by omega
        have HK := Lib.hid hk'; clear hk'
        go_wp2
        go_ret
        have h1 : (xs == ys) = true := by
          rw [beq_iff_eq]
          have := heq.out
          rw [HK.out, List.take_length, HL.out, List.take_length] at this
          exact this
        rw [h1]
        exact ⟨rfl, hdr.out⟩
  · have h0 : ((xs.length : Int) != (ys.length : Int)) = true := by simp; omega
    have HL := Lib.hid hl
    clear hl
    go_enter Tryd.func16, Tryd.ntmps16
    go_wp2
    go_ret
    have h1 : (xs == ys) = false := by
      rw [beq_eq_false_iff_ne]
      intro e
      exact HL.out (by rw [e])
    rw [h1]
    exact ⟨rfl, Below.refl _ _⟩

/-- of two slices that are alike -/
theorem same_eq (a b : Option Addr) (c d n m : Nat) (xs : List Int) (w : World) (hn : xs.length = n) (hm : xs.length = m) (ha : Row .u8 w a xs) (hb : Row .u8 w b xs) (hx : xs.length ≤ maxLen) :
    Calls Tryd.prog 16 #[.slice a n c, .slice b m d] w fun e w' => e = .returned (.bool true) ∧ Below w.heap.size w w' := by
  subst hn hm
  have := same_any a b c d xs xs w ha hb hx hx
  rw [show (xs == xs) = true from by simp] at this
  exact this
end Go.Proofs.YtmjfkcclhbpclaaDoor
/- Layer 4: the law HeadReads. -/
namespace Go.Proofs.YtmjfkcclhbpclaaDoor
open Go.RowKit
set_option linter.unusedVariables false
set_option linter.unusedSimpArgs false
set_option maxRecDepth 100000

theorem rread_any (a : Option Addr) (m cap : Nat) (bs : List Nat) (w : World) (h : BAny w a m cap bs) :
    Calls Tryd.prog 17 #[.slice a m cap] w (RReadPost bs w) := by
  by_cases hl : 1048576 < m
  · exact rread_long a m cap bs w h hl
  · exact rread_short a m cap bs w h (by omega)
theorem read_code {bs : List Nat} {x : HErr} (h : readF bs = .error x) : ∀ c, x = .code c → 0 < c ∧ c ≤ 30 := by
  rintro c rfl
  unfold readF at h
  repeat' split at h
  all_goals (simp only [Except.error.injEq, HErr.code.injEq, reduceCtorEq] at h)
  all_goals omega
theorem read_len {bs : List Nat} {r : HT} (hr : readF bs = .ok r) : r.ps.length ≤ 16 := by
  unfold readF at hr
  split at hr
  · cases hr
  · split at hr
    · cases hr
    · cases hc : constF bs fixedF with
      | some x => rw [hc] at hr; cases hr
      | none =>
        rw [hc] at hr
        simp only [] at hr
        cases hw : whereF bs with
        | some x => rw [hw] at hr; cases hr
        | none =>
          rw [hw] at hr
          simp only [] at hr
          cases hp : progsF bs (numF bs 32 8) (numF bs 56 2) 0 [] with
          | error x => rw [hp] at hr; cases hr
          | ok ps =>
            rw [hp] at hr
            simp only [] at hr
            cases hl : lastF ps with
            | none => rw [hl] at hr; cases hr
            | some q =>
              rw [hl] at hr
              simp only [Except.ok.injEq] at hr
              subst hr
              have h1 := progsF_len _ _ _ _ _ _ hp
              rw [List.length_nil, Nat.zero_add] at h1
              show ps.length ≤ 16
              unfold whereF unF at hw
              by_cases a1 : 0 < numF bs 56 2
              · by_cases a2 : numF bs 56 2 ≤ 16
                · omega
                · rw [if_pos (decide_eq_true a1), if_neg (by simpa using a2)] at hw
                  cases hw
              · rw [if_neg (by simpa using a1)] at hw
                cases hw
theorem row_of_ownR {w : World} {B n cap : Nat} {ad : Option Addr} {xs : List Nat} (h : OwnI w B 5 .u8 (.slice ad n cap) (toI xs)) (hx : ∀ x ∈ xs, x < 256) : BRow w ad xs ∧ xs.length = n ∧ (ad = none → n = 0 ∧ cap = 0) ∧ n ≤ cap := by
  obtain ⟨hl, hrow, hn⟩ := OwnI.at h
  rw [toI_length] at hl hn
  exact ⟨⟨hrow, hx⟩, hl.symm, fun e => by have := hn e; omega, (OwnI.fit h).1⟩
theorem own_prow3 {w : World} {B n pc : Nat} {pa : Option Addr} {ps : List PT} (h : OwnS w B 37 7 (.slice pa n pc) (ps.map PT.cells)) (hw : ∀ p ∈ ps, p.wf) : PRow w pa ps := own_prow2 h hw
theorem prow_nil (w : World) : PRow w none [] := fun i hi => by simp at hi
set_option maxHeartbeats 64000000 in
theorem reads_at (a : Option Addr) (m cap : Nat) (bs : List Nat) (w : World) (h : BAny w a m cap bs) (hg : ErrType w) (hf : FixAt w) :
    Calls Tryd.prog 6 #[.slice a m cap] w fun e w' => e = .returned (.bool true) ∧ Below w.heap.size w w' := by
  have HSH := Lib.hid (shown_any w hg hf)
  have HBY := Lib.hid h
  have HRR : Hid (∀ wx, Below w.heap.size w wx → Calls Tryd.prog 17 #[.slice a m cap] wx (RReadPost bs wx)) := Lib.hid (fun wx hb => rread_any a m cap bs wx (h.below hb))
  have HS1 : Hid (∀ (ad : Option Addr) (c : Nat) (wx : World), Below w.heap.size w wx → OwnI wx w.heap.size 5 .u8 (.slice ad m c) (toI bs) → Calls Tryd.prog 16 #[.slice ad m c, .slice a m cap] wx fun e w' => e = .returned (.bool true) ∧ Below wx.heap.size wx w') := Lib.hid (fun ad c wx hb ho => by
    have hl := h.len
    have := same_any ad a c cap (toI bs) (toI bs) wx (OwnI.at ho).2.1 (h.row.1.below hb) (by rw [toI_length]; have := h.most; unfold maxLen; omega) (by rw [toI_length]; have := h.most; unfold maxLen; omega)
    rw [toI_length, hl] at this
    simpa using this)
  have HGT : Hid (∀ wx, Below w.heap.size w wx → ErrType wx) := Lib.hid (fun wx hb => hg.below hb)
  have HFX := Lib.hid hf
  have HCO : Hid (∀ x, readF bs = .error x → ∀ c, x = .code c → 0 < c ∧ c ≤ 30) := Lib.hid (fun x hx => read_code hx)
  have HNB : Hid (∀ r, readF bs = .ok r → r.ps.length ≤ 16) := Lib.hid (fun r hr => read_len hr)
  have hbl : (m : Int) ≤ 140737488351232 := by have := h.most; omega
  clear h hg hf
  go_enter Tryd.func6, Tryd.ntmps6
  go_wp2_with fail
  refine HSH.out.mono ?_
  rintro e2 w2 ⟨rfl, b2⟩
  have B2 := Lib.hid b2
  have Z2 : Hid (w.heap.size ≤ w2.heap.size) := Lib.hid b2.size
  have HB2 := Lib.hid (HBY.out.below b2)
  have HL2 : Hid ((toI bs).length = m) := Lib.hid (by rw [toI_length]; exact HBY.out.len)
  have HNR : Hid (a = none → (toI bs).length = 0 ∧ cap = 0) := Lib.hid (fun e => by rw [HL2.out]; exact HBY.out.none e)
  have HMX : Hid (0 + m ≤ maxLen ∧ (0 + m) * 1 ≤ 140737488355328) := Lib.hid (by have := HBY.out.most; unfold maxLen; omega)
  clear b2 HSH
  go_wp2_with (at_builtin; go_loud (
   refine wpList_pushes rfl (.tmp 12) (.tmp 13) slice8w rfl w.heap.size w (.slice none 0 0) [] 0 a cap m (toI bs) rfl (by rfl) rfl HL2.out HB2.out.row.1 HNR.out (OwnI.nil _ _ _ _) HMX.out.1 HMX.out.2 B2.out Z2.out ?_); intro ad3 c3 w3 hown3 hb3; rw [List.nil_append, Nat.zero_add] at hown3; have O3 := Lib.hid hown3; have B3 := Lib.hid hb3; clear hown3 hb3)
  have HRD : Hid (Calls Tryd.prog 9 #[.slice ad3 m c3] w3 (ReadPost w3 bs)) := Lib.hid (by
    obtain ⟨r1, r2, r3, r4⟩ := row_of_ownR O3.out HBY.out.row.2
    exact hread_any ad3 m c3 bs w3 r1 r2 HBY.out.most r3 r4 (HFX.out.below B3.out))
  unfold ReadPost at HRD
  unfold RReadPost at HRR
  rw [rread_eq HBY.out.row.2] at HRR
  generalize readF bs = R at *
  try simp only [Nat.zero_add]
  refine HRD.out.mono ?_
  rintro e w4 ⟨hans, b4⟩
  have B4 := Lib.hid (bstep B3.out b4)
  have O4 := Lib.hid (O3.out.below b4)
  clear b4 HRD
  cases R with
  | ok r =>
    obtain ⟨K, E, ps⟩ := r
    obtain ⟨pa1, pc1, rfl, hown, hwf⟩ := hans
    obtain ⟨n, hn⟩ : ∃ n, ps.length = n := ⟨_, rfl⟩
    have hown : OwnS w4 w3.heap.size 37 7 (.slice pa1 ps.length pc1) (ps.map PT.cells) := hown
    rw [hn] at hown
    simp only [hn]
    have P4 := Lib.hid hown
    have HNL : Hid (ps.length = n ∧ n ≤ 140737488351232) := Lib.hid (by
      have := HNB.out _ rfl
      have : ps.length ≤ 16 := this
      exact ⟨hn, by omega⟩)
    have HWF := Lib.hid hwf
    clear hown hwf hn
    have C4 : Hid (Below w4.heap.size w4 (w4.alloc (.cells #[.int .i64 (K : Int), .int .u64 (E : Int), .slice pa1 n pc1] 25))) := Lib.hid (ballo (Below.refl _ _) _)
    have Y5 : Hid ((w4.alloc (.cells #[.int .i64 (K : Int), .int .u64 (E : Int), .slice pa1 n pc1] 25)).heap[w4.heap.size]? = some (.cells #[.int .i64 (K : Int), .int .u64 (E : Int), .slice pa1 n pc1] 25)) := Lib.hid (heap_alloc_new _ _)
    have B5 := Lib.hid (bstep B4.out C4.out)
    have O5 := Lib.hid (O4.out.below C4.out)
    have P5 := Lib.hid (P4.out.below C4.out)
    go_wp2_with fail
    generalize (w4.alloc (.cells #[.int .i64 (K : Int), .int .u64 (E : Int), .slice pa1 n pc1] 25)) = w5 at *
    generalize w4.heap.size = hb5 at *
    refine (HRR.out w5 B5.out).mono ?_
    rintro e w6 ⟨hret, b6⟩
    obtain ⟨pa2, pc2, rfl, hown, -⟩ := hret
    have hown : OwnS w6 w5.heap.size 37 7 (.slice pa2 ps.length pc2) (ps.map PT.cells) := hown
    rw [HNL.out.1] at hown
    simp only [HNL.out.1]
    have Q6 := Lib.hid hown
    clear hown
    rw [show badV none = Value.agg #[.int .i64 0, .bool false, .int .u64 0] from rfl]
    have Y6 := Lib.hid ((b6.block _ (lt_of_block Y5.out)).trans Y5.out)
    have B6 := Lib.hid (bstep B5.out b6)
    have O6 := Lib.hid (O5.out.below b6)
    have P6 := Lib.hid (P5.out.below b6)
    clear b6
    have C6 : Hid (Below w6.heap.size w6 ((w6.alloc (.cells #[.int .i64 (K : Int), .int .u64 (E : Int), .slice pa2 n pc2] 25)).alloc (.cells #[.int .i64 0, .bool false, .int .u64 0] 43))) := Lib.hid (ballo (ballo (Below.refl _ _) _) _)
    have Y7 := Lib.hid ((C6.out.block _ (lt_of_block Y6.out)).trans Y6.out)
    have Z7 : Hid (((w6.alloc (.cells #[.int .i64 (K : Int), .int .u64 (E : Int), .slice pa2 n pc2] 25)).alloc (.cells #[.int .i64 0, .bool false, .int .u64 0] 43)).heap[w6.heap.size]? = some (.cells #[.int .i64 (K : Int), .int .u64 (E : Int), .slice pa2 n pc2] 25)) := Lib.hid (by rw [heap_alloc_old _ _ (by simp)]; exact heap_alloc_new _ _)
    have X7 : Hid (((w6.alloc (.cells #[.int .i64 (K : Int), .int .u64 (E : Int), .slice pa2 n pc2] 25)).alloc (.cells #[.int .i64 0, .bool false, .int .u64 0] 43)).heap[w6.heap.size + 1]? = some (.cells #[.int .i64 0, .bool false, .int .u64 0] 43)) := Lib.hid (by have := heap_alloc_new (w6.alloc (.cells #[.int .i64 (K : Int), .int .u64 (E : Int), .slice pa2 n pc2] 25)) (.cells #[.int .i64 0, .bool false, .int .u64 0] 43); rwa [World.size_alloc] at this)
    have B7 := Lib.hid (bstep B6.out C6.out)
    have O7 := Lib.hid (O6.out.below C6.out)
    have P7 := Lib.hid (P6.out.below C6.out)
    have Q7 := Lib.hid (Q6.out.below C6.out)
    have k0 : ((w6.alloc (.cells #[.int .i64 (K : Int), .int .u64 (E : Int), .slice pa2 n pc2] 25)).alloc (.cells #[.int .i64 0, .bool false, .int .u64 0] 43)).cell? ⟨hb5, 0, none⟩ = some (.int .i64 (K : Int)) := by rw [cell_of_row _ _ 0 _ _ _ Y7.out]; rfl
    have k1 : ((w6.alloc (.cells #[.int .i64 (K : Int), .int .u64 (E : Int), .slice pa2 n pc2] 25)).alloc (.cells #[.int .i64 0, .bool false, .int .u64 0] 43)).cell? ⟨hb5, 1, none⟩ = some (.int .u64 (E : Int)) := by rw [cell_of_row _ _ 1 _ _ _ Y7.out]; rfl
    have k2 : ((w6.alloc (.cells #[.int .i64 (K : Int), .int .u64 (E : Int), .slice pa2 n pc2] 25)).alloc (.cells #[.int .i64 0, .bool false, .int .u64 0] 43)).cell? ⟨hb5, 2, none⟩ = some (.slice pa1 n pc1) := by rw [cell_of_row _ _ 2 _ _ _ Y7.out]; rfl
    have j0 : ((w6.alloc (.cells #[.int .i64 (K : Int), .int .u64 (E : Int), .slice pa2 n pc2] 25)).alloc (.cells #[.int .i64 0, .bool false, .int .u64 0] 43)).cell? ⟨w6.heap.size, 0, none⟩ = some (.int .i64 (K : Int)) := by rw [cell_of_row _ _ 0 _ _ _ Z7.out]; rfl
    have j1 : ((w6.alloc (.cells #[.int .i64 (K : Int), .int .u64 (E : Int), .slice pa2 n pc2] 25)).alloc (.cells #[.int .i64 0, .bool false, .int .u64 0] 43)).cell? ⟨w6.heap.size, 1, none⟩ = some (.int .u64 (E : Int)) := by rw [cell_of_row _ _ 1 _ _ _ Z7.out]; rfl
    have j2 : ((w6.alloc (.cells #[.int .i64 (K : Int), .int .u64 (E : Int), .slice pa2 n pc2] 25)).alloc (.cells #[.int .i64 0, .bool false, .int .u64 0] 43)).cell? ⟨w6.heap.size, 2, none⟩ = some (.slice pa2 n pc2) := by rw [cell_of_row _ _ 2 _ _ _ Z7.out]; rfl
    have HSM := Lib.hid (rsame_true (K : Int) E pa1 pa2 n pc1 pc2 ps ((w6.alloc (.cells #[.int .i64 (K : Int), .int .u64 (E : Int), .slice pa2 n pc2] 25)).alloc (.cells #[.int .i64 0, .bool false, .int .u64 0] 43)) (own_prow3 P7.out HWF.out) (own_prow3 Q7.out HWF.out) HNL.out.1 HNL.out.2)
    go_wp2_with fail
    generalize ((w6.alloc (.cells #[.int .i64 (K : Int), .int .u64 (E : Int), .slice pa2 n pc2] 25)).alloc (.cells #[.int .i64 0, .bool false, .int .u64 0] 43)) = w7 at *
    generalize w6.heap.size + 1 = xb7 at *
    generalize w6.heap.size = zb7 at *
    refine HSM.out.mono ?_
    rintro e w8 ⟨rfl, b8⟩
    have B8 := Lib.hid (bstep B7.out b8)
    have X8 := Lib.hid ((b8.block _ (lt_of_block X7.out)).trans X7.out)
    have O8 := Lib.hid (O7.out.below b8)
    clear b8 k0 k1 k2 j0 j1 j2 HSM
    go_wp2_with fail
    refine (HS1.out ad3 c3 w8 B8.out O8.out).mono ?_
    rintro e w9 ⟨rfl, b9⟩
    have B9 := Lib.hid (bstep B8.out b9)
    have X9 := Lib.hid ((b9.block _ (lt_of_block X8.out)).trans X8.out)
    clear b9
    have s0 : w9.cell? ⟨xb7, 0, none⟩ = some (.int .i64 0) := by rw [cell_of_row _ _ 0 _ _ _ X9.out]; rfl
    have s1 : w9.cell? ⟨xb7, 1, none⟩ = some (.bool false) := by rw [cell_of_row _ _ 1 _ _ _ X9.out]; rfl
    have s2 : w9.cell? ⟨xb7, 2, none⟩ = some (.int .u64 0) := by rw [cell_of_row _ _ 2 _ _ _ X9.out]; rfl
    have HRT := Lib.hid (hright_ok w9)
    unfold badV at HRT
    go_wp2_with fail
    refine HRT.out.mono ?_
    rintro e wA ⟨rfl, bA⟩
    have BZ := Lib.hid (bstep B9.out bA)
    clear bA
    go_wp2_with fail
    go_ret
    exact ⟨by first | rfl | simp, BZ.out⟩
  | error x =>
    obtain ⟨v, rfl, hv⟩ := hans
    have HC := HCO.out x rfl
    cases x with
    | spot sa sc =>
      have V4 : Hid (ErrH w4 v (.spot sa sc)) := Lib.hid hv
      obtain ⟨sb, rfl, -⟩ := (show ErrAt w4 v (some (sa, sc)) from hv)
      clear hv
      have C4 : Hid (Below w4.heap.size w4 (w4.alloc (.cells #[.int .i64 0, .int .u64 0, .slice none 0 0] 25))) := Lib.hid (ballo (Below.refl _ _) _)
      have Y5 : Hid ((w4.alloc (.cells #[.int .i64 0, .int .u64 0, .slice none 0 0] 25)).heap[w4.heap.size]? = some (.cells #[.int .i64 0, .int .u64 0, .slice none 0 0] 25)) := Lib.hid (heap_alloc_new _ _)
      have B5 := Lib.hid (bstep B4.out C4.out)
      have O5 := Lib.hid (O4.out.below C4.out)
      have V5 := Lib.hid (V4.out.below C4.out)
      go_wp2_with fail
      generalize (w4.alloc (.cells #[.int .i64 0, .int .u64 0, .slice none 0 0] 25)) = w5 at *
      generalize w4.heap.size = hb5 at *
      refine (HRR.out w5 B5.out).mono ?_
      rintro e w6 ⟨hret, b6⟩
      obtain rfl : e = .returned (.tuple #[.agg #[.int .i64 0, .int .u64 0, .slice none 0 0], .agg #[.int .i64 (sc : Int), .bool true, .int .u64 (sa : Int)]]) := hret
      have Y6 := Lib.hid ((b6.block _ (lt_of_block Y5.out)).trans Y5.out)
      have B6 := Lib.hid (bstep B5.out b6)
      have O6 := Lib.hid (O5.out.below b6)
      have V6 := Lib.hid (V5.out.below b6)
      clear b6
      have C6 : Hid (Below w6.heap.size w6 ((w6.alloc (.cells #[.int .i64 0, .int .u64 0, .slice none 0 0] 25)).alloc (.cells #[.int .i64 (sc : Int), .bool true, .int .u64 (sa : Int)] 43))) := Lib.hid (ballo (ballo (Below.refl _ _) _) _)
      have Y7 := Lib.hid ((C6.out.block _ (lt_of_block Y6.out)).trans Y6.out)
      have Z7 : Hid (((w6.alloc (.cells #[.int .i64 0, .int .u64 0, .slice none 0 0] 25)).alloc (.cells #[.int .i64 (sc : Int), .bool true, .int .u64 (sa : Int)] 43)).heap[w6.heap.size]? = some (.cells #[.int .i64 0, .int .u64 0, .slice none 0 0] 25)) := Lib.hid (by rw [heap_alloc_old _ _ (by simp)]; exact heap_alloc_new _ _)
      have X7 : Hid (((w6.alloc (.cells #[.int .i64 0, .int .u64 0, .slice none 0 0] 25)).alloc (.cells #[.int .i64 (sc : Int), .bool true, .int .u64 (sa : Int)] 43)).heap[w6.heap.size + 1]? = some (.cells #[.int .i64 (sc : Int), .bool true, .int .u64 (sa : Int)] 43)) := Lib.hid (by have := heap_alloc_new (w6.alloc (.cells #[.int .i64 0, .int .u64 0, .slice none 0 0] 25)) (.cells #[.int .i64 (sc : Int), .bool true, .int .u64 (sa : Int)] 43); rwa [World.size_alloc] at this)
      have B7 := Lib.hid (bstep B6.out C6.out)
      have O7 := Lib.hid (O6.out.below C6.out)
      have V7 := Lib.hid (V6.out.below C6.out)
      have k0 : ((w6.alloc (.cells #[.int .i64 0, .int .u64 0, .slice none 0 0] 25)).alloc (.cells #[.int .i64 (sc : Int), .bool true, .int .u64 (sa : Int)] 43)).cell? ⟨hb5, 0, none⟩ = some (.int .i64 0) := by rw [cell_of_row _ _ 0 _ _ _ Y7.out]; rfl
      have k1 : ((w6.alloc (.cells #[.int .i64 0, .int .u64 0, .slice none 0 0] 25)).alloc (.cells #[.int .i64 (sc : Int), .bool true, .int .u64 (sa : Int)] 43)).cell? ⟨hb5, 1, none⟩ = some (.int .u64 0) := by rw [cell_of_row _ _ 1 _ _ _ Y7.out]; rfl
      have k2 : ((w6.alloc (.cells #[.int .i64 0, .int .u64 0, .slice none 0 0] 25)).alloc (.cells #[.int .i64 (sc : Int), .bool true, .int .u64 (sa : Int)] 43)).cell? ⟨hb5, 2, none⟩ = some (.slice none 0 0) := by rw [cell_of_row _ _ 2 _ _ _ Y7.out]; rfl
      have j0 : ((w6.alloc (.cells #[.int .i64 0, .int .u64 0, .slice none 0 0] 25)).alloc (.cells #[.int .i64 (sc : Int), .bool true, .int .u64 (sa : Int)] 43)).cell? ⟨w6.heap.size, 0, none⟩ = some (.int .i64 0) := by rw [cell_of_row _ _ 0 _ _ _ Z7.out]; rfl
      have j1 : ((w6.alloc (.cells #[.int .i64 0, .int .u64 0, .slice none 0 0] 25)).alloc (.cells #[.int .i64 (sc : Int), .bool true, .int .u64 (sa : Int)] 43)).cell? ⟨w6.heap.size, 1, none⟩ = some (.int .u64 0) := by rw [cell_of_row _ _ 1 _ _ _ Z7.out]; rfl
      have j2 : ((w6.alloc (.cells #[.int .i64 0, .int .u64 0, .slice none 0 0] 25)).alloc (.cells #[.int .i64 (sc : Int), .bool true, .int .u64 (sa : Int)] 43)).cell? ⟨w6.heap.size, 2, none⟩ = some (.slice none 0 0) := by rw [cell_of_row _ _ 2 _ _ _ Z7.out]; rfl
      have HSM := Lib.hid (rsame_true 0 0 none none 0 0 0 [] ((w6.alloc (.cells #[.int .i64 0, .int .u64 0, .slice none 0 0] 25)).alloc (.cells #[.int .i64 (sc : Int), .bool true, .int .u64 (sa : Int)] 43)) (prow_nil _) (prow_nil _) rfl (by decide))
      go_wp2_with fail
      generalize ((w6.alloc (.cells #[.int .i64 0, .int .u64 0, .slice none 0 0] 25)).alloc (.cells #[.int .i64 (sc : Int), .bool true, .int .u64 (sa : Int)] 43)) = w7 at *
      generalize w6.heap.size + 1 = xb7 at *
      generalize w6.heap.size = zb7 at *
      refine HSM.out.mono ?_
      rintro e w8 ⟨rfl, b8⟩
      have B8 := Lib.hid (bstep B7.out b8)
      have X8 := Lib.hid ((b8.block _ (lt_of_block X7.out)).trans X7.out)
      have O8 := Lib.hid (O7.out.below b8)
      have V8 := Lib.hid (V7.out.below b8)
      clear b8 k0 k1 k2 j0 j1 j2 HSM
      go_wp2_with fail
      refine (HS1.out ad3 c3 w8 B8.out O8.out).mono ?_
      rintro e w9 ⟨rfl, b9⟩
      have B9 := Lib.hid (bstep B8.out b9)
      have X9 := Lib.hid ((b9.block _ (lt_of_block X8.out)).trans X8.out)
      have V9 := Lib.hid (V8.out.below b9)
      clear b9
      have s0 : w9.cell? ⟨xb7, 0, none⟩ = some (.int .i64 (sc : Int)) := by rw [cell_of_row _ _ 0 _ _ _ X9.out]; rfl
      have s1 : w9.cell? ⟨xb7, 1, none⟩ = some (.bool true) := by rw [cell_of_row _ _ 1 _ _ _ X9.out]; rfl
      have s2 : w9.cell? ⟨xb7, 2, none⟩ = some (.int .u64 (sa : Int)) := by rw [cell_of_row _ _ 2 _ _ _ X9.out]; rfl
      have HRT := Lib.hid (hright_bad (.spot sa sc) _ w9 V9.out (HGT.out _ B9.out) HC)
      unfold badV at HRT
      simp only [] at HRT
      go_wp2_with fail
      refine HRT.out.mono ?_
      rintro e wA ⟨rfl, bA⟩
      have BZ := Lib.hid (bstep B9.out bA)
      clear bA
      go_wp2_with fail
      go_ret
      exact ⟨by first | rfl | simp, BZ.out⟩
    | code c =>
      have V4 : Hid (ErrH w4 v (.code c)) := Lib.hid hv
      obtain rfl : v = .iface 38 (.int .i64 (c : Int)) := hv
      have C4 : Hid (Below w4.heap.size w4 (w4.alloc (.cells #[.int .i64 0, .int .u64 0, .slice none 0 0] 25))) := Lib.hid (ballo (Below.refl _ _) _)
      have Y5 : Hid ((w4.alloc (.cells #[.int .i64 0, .int .u64 0, .slice none 0 0] 25)).heap[w4.heap.size]? = some (.cells #[.int .i64 0, .int .u64 0, .slice none 0 0] 25)) := Lib.hid (heap_alloc_new _ _)
      have B5 := Lib.hid (bstep B4.out C4.out)
      have O5 := Lib.hid (O4.out.below C4.out)
      have V5 := Lib.hid (V4.out.below C4.out)
      go_wp2_with fail
      generalize (w4.alloc (.cells #[.int .i64 0, .int .u64 0, .slice none 0 0] 25)) = w5 at *
      generalize w4.heap.size = hb5 at *
      refine (HRR.out w5 B5.out).mono ?_
      rintro e w6 ⟨hret, b6⟩
      obtain rfl : e = .returned (.tuple #[.agg #[.int .i64 0, .int .u64 0, .slice none 0 0], .agg #[.int .i64 (c : Int), .bool false, .int .u64 0]]) := hret
      have Y6 := Lib.hid ((b6.block _ (lt_of_block Y5.out)).trans Y5.out)
      have B6 := Lib.hid (bstep B5.out b6)
      have O6 := Lib.hid (O5.out.below b6)
      have V6 := Lib.hid (V5.out.below b6)
      clear b6
      have C6 : Hid (Below w6.heap.size w6 ((w6.alloc (.cells #[.int .i64 0, .int .u64 0, .slice none 0 0] 25)).alloc (.cells #[.int .i64 (c : Int), .bool false, .int .u64 0] 43))) := Lib.hid (ballo (ballo (Below.refl _ _) _) _)
      have Y7 := Lib.hid ((C6.out.block _ (lt_of_block Y6.out)).trans Y6.out)
      have Z7 : Hid (((w6.alloc (.cells #[.int .i64 0, .int .u64 0, .slice none 0 0] 25)).alloc (.cells #[.int .i64 (c : Int), .bool false, .int .u64 0] 43)).heap[w6.heap.size]? = some (.cells #[.int .i64 0, .int .u64 0, .slice none 0 0] 25)) := Lib.hid (by rw [heap_alloc_old _ _ (by simp)]; exact heap_alloc_new _ _)
      have X7 : Hid (((w6.alloc (.cells #[.int .i64 0, .int .u64 0, .slice none 0 0] 25)).alloc (.cells #[.int .i64 (c : Int), .bool false, .int .u64 0] 43)).heap[w6.heap.size + 1]? = some (.cells #[.int .i64 (c : Int), .bool false, .int .u64 0] 43)) := Lib.hid (by have := heap_alloc_new (w6.alloc (.cells #[.int .i64 0, .int .u64 0, .slice none 0 0] 25)) (.cells #[.int .i64 (c : Int), .bool false, .int .u64 0] 43); rwa [World.size_alloc] at this)
      have B7 := Lib.hid (bstep B6.out C6.out)
      have O7 := Lib.hid (O6.out.below C6.out)
      have V7 := Lib.hid (V6.out.below C6.out)
      have k0 : ((w6.alloc (.cells #[.int .i64 0, .int .u64 0, .slice none 0 0] 25)).alloc (.cells #[.int .i64 (c : Int), .bool false, .int .u64 0] 43)).cell? ⟨hb5, 0, none⟩ = some (.int .i64 0) := by rw [cell_of_row _ _ 0 _ _ _ Y7.out]; rfl
      have k1 : ((w6.alloc (.cells #[.int .i64 0, .int .u64 0, .slice none 0 0] 25)).alloc (.cells #[.int .i64 (c : Int), .bool false, .int .u64 0] 43)).cell? ⟨hb5, 1, none⟩ = some (.int .u64 0) := by rw [cell_of_row _ _ 1 _ _ _ Y7.out]; rfl
      have k2 : ((w6.alloc (.cells #[.int .i64 0, .int .u64 0, .slice none 0 0] 25)).alloc (.cells #[.int .i64 (c : Int), .bool false, .int .u64 0] 43)).cell? ⟨hb5, 2, none⟩ = some (.slice none 0 0) := by rw [cell_of_row _ _ 2 _ _ _ Y7.out]; rfl
      have j0 : ((w6.alloc (.cells #[.int .i64 0, .int .u64 0, .slice none 0 0] 25)).alloc (.cells #[.int .i64 (c : Int), .bool false, .int .u64 0] 43)).cell? ⟨w6.heap.size, 0, none⟩ = some (.int .i64 0) := by rw [cell_of_row _ _ 0 _ _ _ Z7.out]; rfl
      have j1 : ((w6.alloc (.cells #[.int .i64 0, .int .u64 0, .slice none 0 0] 25)).alloc (.cells #[.int .i64 (c : Int), .bool false, .int .u64 0] 43)).cell? ⟨w6.heap.size, 1, none⟩ = some (.int .u64 0) := by rw [cell_of_row _ _ 1 _ _ _ Z7.out]; rfl
      have j2 : ((w6.alloc (.cells #[.int .i64 0, .int .u64 0, .slice none 0 0] 25)).alloc (.cells #[.int .i64 (c : Int), .bool false, .int .u64 0] 43)).cell? ⟨w6.heap.size, 2, none⟩ = some (.slice none 0 0) := by rw [cell_of_row _ _ 2 _ _ _ Z7.out]; rfl
      have HSM := Lib.hid (rsame_true 0 0 none none 0 0 0 [] ((w6.alloc (.cells #[.int .i64 0, .int .u64 0, .slice none 0 0] 25)).alloc (.cells #[.int .i64 (c : Int), .bool false, .int .u64 0] 43)) (prow_nil _) (prow_nil _) rfl (by decide))
      go_wp2_with fail
      generalize ((w6.alloc (.cells #[.int .i64 0, .int .u64 0, .slice none 0 0] 25)).alloc (.cells #[.int .i64 (c : Int), .bool false, .int .u64 0] 43)) = w7 at *
      generalize w6.heap.size + 1 = xb7 at *
      generalize w6.heap.size = zb7 at *
      refine HSM.out.mono ?_
      rintro e w8 ⟨rfl, b8⟩
      have B8 := Lib.hid (bstep B7.out b8)
      have X8 := Lib.hid ((b8.block _ (lt_of_block X7.out)).trans X7.out)
      have O8 := Lib.hid (O7.out.below b8)
      have V8 := Lib.hid (V7.out.below b8)
      clear b8 k0 k1 k2 j0 j1 j2 HSM
      go_wp2_with fail
      refine (HS1.out ad3 c3 w8 B8.out O8.out).mono ?_
      rintro e w9 ⟨rfl, b9⟩
      have B9 := Lib.hid (bstep B8.out b9)
      have X9 := Lib.hid ((b9.block _ (lt_of_block X8.out)).trans X8.out)
      have V9 := Lib.hid (V8.out.below b9)
      clear b9
      have s0 : w9.cell? ⟨xb7, 0, none⟩ = some (.int .i64 (c : Int)) := by rw [cell_of_row _ _ 0 _ _ _ X9.out]; rfl
      have s1 : w9.cell? ⟨xb7, 1, none⟩ = some (.bool false) := by rw [cell_of_row _ _ 1 _ _ _ X9.out]; rfl
      have s2 : w9.cell? ⟨xb7, 2, none⟩ = some (.int .u64 0) := by rw [cell_of_row _ _ 2 _ _ _ X9.out]; rfl
      have HRT := Lib.hid (hright_bad (.code c) _ w9 V9.out (HGT.out _ B9.out) HC)
      unfold badV at HRT
      simp only [] at HRT
      go_wp2_with fail
      refine HRT.out.mono ?_
      rintro e wA ⟨rfl, bA⟩
      have BZ := Lib.hid (bstep B9.out bA)
      clear bA
      go_wp2_with fail
      go_ret
      exact ⟨by first | rfl | simp, BZ.out⟩
end Go.Proofs.YtmjfkcclhbpclaaDoor
/- Bytes that came in, as a row. -/
namespace Go.Proofs.YtmjfkcclhbpclaaDoor
open Go.RowKit Go.Maps
set_option linter.unusedVariables false
set_option linter.unusedSimpArgs false

theorem bytes_row {W : World} {a : Option Addr} {len cap : Nat} {z : List Int} (w0 : IsRow .u8 W a len cap z) : ∃ bs : List Nat, bs.length = len ∧ BRow W a bs ∧ len ≤ cap ∧ (a = none → len = 0 ∧ cap = 0) := by
  obtain ⟨xs, h1, h2, h3, h4, -, h6⟩ := w0.row
  refine ⟨xs.map Int.toNat, by simp [h1], ⟨?_, ?_⟩, h4, h6⟩
  · have : toI (xs.map Int.toNat) = xs := by
      unfold toI
      rw [List.map_map]
      conv => rhs; rw [← List.map_id xs]
      apply List.map_congr_left
      intro x hx
      have := wf_u8_bounds (h3 x hx)
      simp
      omega
    rw [this]
    exact h2
  · intro b hb
    obtain ⟨x, hx, rfl⟩ := List.mem_map.1 hb
    have := wf_u8_bounds (h3 x hx)
    omega
end Go.Proofs.YtmjfkcclhbpclaaDoor
/- Layer 4: the law HeadReads, as the frame asks for it. -/
namespace Go.Proofs.YtmjfkcclhbpclaaDoor
open Go.RowKit Go.Maps
set_option linter.unusedVariables false
set_option linter.unusedSimpArgs false

theorem walk_HeadReads (a : Option Addr) (len cap : Nat) (z : List Int) (W : World) (hg : ErrType W) (hf : FixAt W) (w0 : IsRow .u8 W a len cap z) (s0 : cap * 1 ≤ 140737488351232) :
    Calls Tryd.prog 6 #[.slice a len cap] W fun e w' => e = .returned (.bool true) ∧ Below W.heap.size W w' := by
  obtain ⟨bs, hlen, hb, hc, hn⟩ := bytes_row w0
  exact reads_at a len cap bs W ⟨hb, hlen, by omega, hn, hc⟩ hg hf
end Go.Proofs.YtmjfkcclhbpclaaDoor
