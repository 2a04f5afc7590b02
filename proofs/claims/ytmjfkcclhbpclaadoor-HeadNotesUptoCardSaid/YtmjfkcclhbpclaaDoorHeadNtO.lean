/- What the rows' list gives a walk of layer 4: the cell of errors.errorType, the table of fixed numbers; a world that meets the list. -/
import Derived.Test.YtmjfkcclhbpclaaDoorRows
import Derived.Test.YtmjfkcclhbpclaaDoorIsSpot
import Derived.Test.YtmjfkcclhbpclaaDoorHeadConst
import Derived.LaidLaws
import Derived.LaidHandle
import Derived.LaidSub
import Derived.OpenShut
import Derived.Stop.Joined
import Derived.Test.YtmjfkcclhbpclaaDoorHeadRight
import Derived.Test.YtmjfkcclhbpclaaDoorKit
import Derived.BigQuiet
import Derived.WalkSmall
import Derived.Test.YtmjfkcclhbpclaaDoorHeadRNotes
import Derived.Test.YtmjfkcclhbpclaaDoorHeadNotes
import Derived.Deep.RegionWith
import Derived.Test.YtmjfkcclhbpclaaDoorLittle
import Derived.Test.YtmjfkcclhbpclaaDoorOpenHD
import Derived.Deep.Slices
namespace Go.Proofs.YtmjfkcclhbpclaaDoor
open Go.RowKit
set_option linter.unusedVariables false
set_option linter.unusedSimpArgs false
set_option maxRecDepth 100000

theorem LaidH.et : Tryd.prog.globalNamed "errors.errorType" = some 1 := by kernel_rfl
theorem LaidH.ft : Tryd.prog.globalNamed "shackle/head.fixed" = some 0 := by kernel_rfl
theorem LaidH.rt : (Tryd.prog.cutTypes.find? (·.1 == "internal/reflectlite.rtype")).map (·.2) = some 142 := by kernel_rfl
theorem LaidH.oneRow : ((List.range Tryd.prog.types.size).filter fun t => Tryd.prog.rowNamed t [101, 114, 114, 111, 114]) = [29] := by kernel_rfl

theorem errType_of_laid {W : World} {l : List (String × DataW Unit)} (hl : l.filter (fun x => x.2.handleName?.isSome) = [("errors.errorType", Rows.laid_errors_errorType)]) (h : laidMetH Tryd.prog l W) : ErrType W := by
  have h' : handlesMet Tryd.prog [("errors.errorType", Rows.laid_errors_errorType)] W := by
    have := (laidMetH_iff.1 h).2
    rw [hl] at this
    exact this
  obtain ⟨name, u, ty, e1, e2, e3, e4, e5⟩ := h' _ (List.mem_singleton.2 rfl)
  have en : name = [101, 114, 114, 111, 114] := (Option.some.inj e1).symm
  subst en
  obtain rfl := Option.some.inj (LaidH.rt.symm.trans e2)
  have hm : ty ∈ (List.range Tryd.prog.types.size).filter fun t => Tryd.prog.rowNamed t [101, 114, 114, 111, 114] := List.mem_filter.2 ⟨List.mem_range.2 e3, e4⟩
  rw [LaidH.oneRow] at hm
  obtain rfl := List.mem_singleton.1 hm
  have hh : typeHandle Tryd.prog 29 = .pointer (some ⟨3, 29, none⟩) := by kernel_rfl
  rw [hh] at e5
  unfold ErrType
  simpa using World.var?_cell LaidH.et e5 0
def fixRow (q : Nat × Nat × Nat × Nat) : List Value := [.int .i64 (q.1 : Int), .int .i64 (q.2.1 : Int), .int .u64 (q.2.2.1 : Int), .int .u64 (q.2.2.2 : Int)]
def fixDat (q : Nat × Nat × Nat × Nat) : DataW Unit := .agg [.lit (.int .i64 (q.1 : Int)), .lit (.int .i64 (q.2.1 : Int)), .lit (.int .u64 (q.2.2.1 : Int)), .lit (.int .u64 (q.2.2.2 : Int))]
theorem fix_rows : fixC = (fixedF.map fixRow).flatten := by kernel_rfl
theorem fix_dat : (Rows.laid_shackle_head_fixed : DataW Unit) = .agg (fixedF.map fixDat) := by kernel_rfl
theorem fix_of_trod {w : World} {base n : Nat} {spare : Nat → Bool} {held : Bool} {cs : List Value} {q : Nat × Nat × Nat × Nat} {p : List MemPlace} {enc : TypeId × Value → Unit} (h : DataW.trod enc Tryd.prog w base spare held n 60 cs = some (fixDat q, p)) : cs = fixRow q := by
  obtain ⟨xs, m, -, hx, hlen, hxl, hf⟩ := DataW.trod_struct Tryd.underlying60 h
  have hc : Tryd.prog.cellsOf 60 = 4 := by kernel_rfl
  rw [hc] at hlen
  match cs, hlen with
  | [c0, c1, c2, c3], _ =>
    have k64 : Tryd.prog.cellsOf 22 = 1 := by kernel_rfl
    have ki : Tryd.prog.cellsOf 3 = 1 := by kernel_rfl
    have g0 : DataW.trod enc Tryd.prog w base spare held m 3 (([c0, c1, c2, c3].drop 0).take (Tryd.prog.cellsOf 3)) = xs[0]? := hf 0 _ rfl
    have g1 : DataW.trod enc Tryd.prog w base spare held m 3 (([c0, c1, c2, c3].drop 1).take (Tryd.prog.cellsOf 3)) = xs[1]? := hf 1 _ rfl
    have g2 : DataW.trod enc Tryd.prog w base spare held m 22 (([c0, c1, c2, c3].drop 2).take (Tryd.prog.cellsOf 22)) = xs[2]? := hf 2 _ rfl
    have g3 : DataW.trod enc Tryd.prog w base spare held m 22 (([c0, c1, c2, c3].drop 3).take (Tryd.prog.cellsOf 22)) = xs[3]? := hf 3 _ rfl
    have hxl4 : xs.length = 4 := hxl.trans rfl
    simp only [k64, ki, List.drop_succ_cons, List.drop_zero, List.take_succ_cons, List.take_zero] at g0 g1 g2 g3
    match xs, hxl4 with
    | [y0, y1, y2, y3], _ =>
      simp only [List.getElem?_cons_zero, List.getElem?_cons_succ] at g0 g1 g2 g3
      obtain ⟨z0, e0, rfl, -⟩ := DataW.trod_int Tryd.underlying3 g0
      obtain ⟨z1, e1, rfl, -⟩ := DataW.trod_int Tryd.underlying3 g1
      obtain ⟨z2, e2, rfl, -⟩ := DataW.trod_int Tryd.underlying22 g2
      obtain ⟨z3, e3, rfl, -⟩ := DataW.trod_int Tryd.underlying22 g3
      have hd := congrArg Prod.fst hx
      simp only [fixDat, List.map_cons, List.map_nil, DataW.agg.injEq, List.cons.injEq, DataW.lit.injEq, Lit.int.injEq, true_and, and_true] at hd
      obtain ⟨d0, d1, d2, d3⟩ := hd
      simp only [List.cons.injEq, and_true] at e0 e1 e2 e3
      rw [e0, e1, e2, e3, ← d0, ← d1, ← d2, ← d3]
      rfl
theorem rows_flat : ∀ (rows : List (List Value)) (l : List Value), (∀ r ∈ rows, r.length = 4) → l.length = 4 * rows.length → (∀ r, (h : r < rows.length) → (l.drop (r * 4)).take 4 = rows[r]) → l = rows.flatten
  | [], l, _, hl, _ => List.length_eq_zero_iff.1 (by simpa using hl)
  | r :: rows, l, h4, hl, h => by
    have h0 := h 0 (by simp)
    rw [Nat.zero_mul, List.drop_zero] at h0
    have h0 : l.take 4 = r := h0
    have ih := rows_flat rows (l.drop 4) (fun r hr => h4 r (List.mem_cons_of_mem _ hr)) (by rw [List.length_drop, hl, List.length_cons]; omega) (fun k hk => by
      have := h (k + 1) (by simpa using hk)
      rw [List.drop_drop, show 4 + k * 4 = (k + 1) * 4 by omega]
      exact this)
    rw [List.flatten_cons, ← ih, ← h0, List.take_append_drop]
theorem fixAt_of_laid {W : World} {l : List (String × DataW Unit)} (hl : l.filter (fun x => x.2.handleName?.isNone) = [("shackle/head.fixed", Rows.laid_shackle_head_fixed)]) (h : laidMetH Tryd.prog l W) : FixAt W := by
  have h' := (laidMetH_iff.1 h).1
  rw [hl] at h'
  obtain ⟨ps, ⟨g, t, cs, fuel, p, q, hg, ht, hv, hd, _, _⟩, _, _⟩ := h'
  obtain rfl := Option.some.inj (LaidH.ft.symm.trans hg)
  obtain rfl := Option.some.inj ((show (Tryd.prog.globals[0]?).map (·.type) = some 61 by kernel_rfl).symm.trans ht)
  obtain ⟨xs, m, _, ex, hcl, hxl, hel⟩ := DataW.trod_array Tryd.underlying61 hd
  have hc4 : Tryd.prog.cellsOf 60 = 4 := by kernel_rfl
  have hc52 : Tryd.prog.cellsOf 61 = 52 := by kernel_rfl
  rw [hc52] at hcl
  have hdat : xs.map (·.1) = fixedF.map fixDat := by
    have := congrArg Prod.fst ex
    rw [fix_dat] at this
    exact (DataW.agg.inj this).symm
  have hfl : cs.toList = fixC := by
    rw [fix_rows]
    refine rows_flat _ _ (fun r hr => ?_) (by rw [hcl, List.length_map]; rfl) (fun r hr => ?_)
    · obtain ⟨q, -, rfl⟩ := List.mem_map.1 hr
      rfl
    · have hr13 : r < fixedF.length := by simpa using hr
      have hrx : r < xs.length := by rw [hxl]; exact hr13
      have hE := hel r hr13
      rw [hc4, List.getElem?_eq_getElem hrx] at hE
      have hd1 : (xs[r]).1 = fixDat (fixedF[r]) := by
        have := congrArg (·[r]?) hdat
        simpa [hrx, hr13] using this
      have hE2 : DataW.trod (fun _ => ()) Tryd.prog W 0 (fun _ => true) false m 60 ((cs.toList.drop (r * 4)).take 4) = some (fixDat fixedF[r], (xs[r]).2) := by
        rw [← hd1]
        exact hE
      rw [fix_of_trod hE2, List.getElem_map]
  intro j v hj
  have := World.var?_cell LaidH.ft hv (0 + j)
  rw [this]
  rw [← hfl] at hj
  simpa using hj
def litCell : DataW Unit → Value
  | .lit (.int k n) => .int k n
  | _ => undef
def aggOf : DataW Unit → List (DataW Unit)
  | .agg l => l
  | _ => []
/-- The settled world, the handle and the table laid. -/
noncomputable def laidWorld (os : Os) : World :=
  let w0 := World.holding Tryd.prog os ⟨#[], #[], []⟩
  { w0 with heap := (w0.heap.modify 1 fun
      | .cells _ t frozen => .cells #[.iface 142 (.agg #[.pointer (some ⟨3, 29, none⟩)])] t frozen
      | o => o).modify 0 fun
      | .cells _ t frozen => .cells fixC.toArray t frozen
      | o => o }
end Go.Proofs.YtmjfkcclhbpclaaDoor
/- Layer 4: the rows of the document's examples, at the head of all statements. -/
namespace Go.Proofs.YtmjfkcclhbpclaaDoor
open Go.RowKit
set_option linter.unusedVariables false
set_option linter.unusedSimpArgs false
set_option maxRecDepth 100000

theorem own_u8c {w : World} {B g : Nat} {xs : List Nat} (h : w.heap[g]? = some (.cells (u8c xs) 5)) (hB : B ≤ g) (hm : xs.length ≤ 1048576) : OwnI w B 5 .u8 (.slice (some ⟨g, 0, none⟩) xs.length xs.length) (toI xs) := by
  have e : (toI xs).map (Value.int .u8) = (u8c xs).toList := by unfold toI u8c; rw [List.map_map]; rfl
  have el : (toI xs).length = xs.length := toI_length xs
  unfold OwnI
  rw [el, e]
  refine ⟨?_, .inr ⟨g, xs.length, u8c xs, rfl, hB, h, Nat.le_refl _, by unfold maxLen; omega, ?_, ?_⟩⟩
  · unfold u8c; simp
  · unfold u8c; simp
  · rw [List.take_of_length_le (by unfold u8c; simp)]
def qPT : PT := ⟨1, 0, 0, 0, 0, 1, 4096⟩
theorem read_nil : readF [] = .error (.spot 0 4) := by kernel_rfl
theorem read_zero : readF (List.replicate 64 0) = .error (.spot 0 3) := by kernel_rfl
theorem int_nil : interpF [] [] = .error (.code 6) := by kernel_rfl
theorem read_one : readF (writeF 3 0 [qPT] ++ [7]) = .ok ⟨3, 0, [qPT]⟩ := by kernel_rfl
theorem write_lt : ∀ x ∈ writeF 3 0 [qPT] ++ [7], x < 256 := by decide +kernel
theorem erow_nil (w : World) : BRow w none [] := ⟨fun i hi => by simp [toI] at hi, fun b hb => by simp at hb⟩
theorem prow_one {w : World} {b : Nat} (h : w.heap[b]? = some (.cells #[.int .u32 1, .int .u32 0, .int .u64 0, .int .u64 0, .int .u64 0, .int .u64 1, .int .u64 4096] 37)) : PRow w (some ⟨b, 0, none⟩) [qPT] := fun i hi => by
  obtain rfl : i = 0 := by simp at hi; omega
  refine ⟨show PT.wf qPT from ⟨by decide, by decide, by decide, by decide, by decide, by decide, by decide⟩, b, 0, rfl, lt_of_block h, fun j hj => ?_⟩
  rw [show 0 + 0 * 7 + j = j by omega, cell_of_row _ _ j _ _ _ h]
  rcases (show j = 0 ∨ j = 1 ∨ j = 2 ∨ j = 3 ∨ j = 4 ∨ j = 5 ∨ j = 6 by omega) with rfl | rfl | rfl | rfl | rfl | rfl | rfl <;> rfl
set_option maxHeartbeats 16000000 in
theorem shown_any (w : World) (hg : ErrType w) (hf : FixAt w) :
    Calls Tryd.prog 7 #[] w fun e w' => e = .returned (.bool true) ∧ Below w.heap.size w w' := by
  have HR1 := Lib.hid (hread_any none 0 0 [] w (erow_nil w) rfl (by decide) (fun _ => ⟨rfl, rfl⟩) (by decide) hf)
  have HR2 : Hid (∀ g wx, Below w.heap.size w wx → wx.heap[g]? = some (.cells (u8c (List.replicate 64 0)) 5) → Calls Tryd.prog 9 #[.slice (some ⟨g, 0, none⟩) 64 64] wx (ReadPost wx (List.replicate 64 0))) := Lib.hid (fun g wx hb h => by
    have ho := own_u8c (B := 0) h (Nat.zero_le _) (by rw [List.length_replicate]; decide)
    obtain ⟨-, hrow, -⟩ := OwnI.at ho
    exact hread_any (some ⟨g, 0, none⟩) 64 64 _ wx ⟨hrow, fun x hx => by rw [(List.mem_replicate.1 hx).2]; decide⟩ List.length_replicate (by decide) (fun e => by cases e) (by decide) (hf.below hb))
  have HW1 : Hid (∀ wx, Calls Tryd.prog 8 #[.agg #[.int .i64 4, .int .u64 0, .slice none 0 0]] wx fun e w' => e = .returned (.tuple #[.slice none 0 0, .iface 38 (.int .i64 1)]) ∧ Below wx.heap.size wx w') := Lib.hid (fun wx => hwrite_bad 4 0 none 0 0 wx (by decide) (.inr (.inl rfl)))
  have HI1 : Hid (∀ wx, Calls Tryd.prog 11 #[.slice none 0 0, .agg #[.int .i64 0, .int .u64 0, .slice none 0 0]] wx (IntPost wx [] [])) := Lib.hid (fun wx => interp_any 0 0 none 0 0 [] none 0 0 [] wx ⟨erow_nil wx, rfl, by decide, fun _ => ⟨rfl, rfl⟩, by decide⟩ (fun i hi => by simp at hi) rfl (by decide))
  have HW2 : Hid (∀ wx, Below w.heap.size w wx → Calls Tryd.prog 8 #[.agg #[.int .i64 3, .int .u64 0, .slice (some ⟨wx.heap.size, 0, none⟩) 1 1]] (wx.alloc (.cells #[.int .u32 1, .int .u32 0, .int .u64 0, .int .u64 0, .int .u64 0, .int .u64 1, .int .u64 4096] 37)) (WritePost (wx.alloc (.cells #[.int .u32 1, .int .u32 0, .int .u64 0, .int .u64 0, .int .u64 0, .int .u64 1, .int .u64 4096] 37)) (writeF 3 0 [qPT]))) := Lib.hid (fun wx hb => hwrite_ok 3 0 (some ⟨wx.heap.size, 0, none⟩) 1 1 [qPT] _ (.inr ⟨by decide, by decide⟩) (by decide) (by decide) (prow_one (heap_alloc_new _ _)) rfl (by decide) (by decide) (hf.below (ballo hb _)))
  have HR3 : Hid (∀ ad c wx, Below w.heap.size w wx → OwnI wx 0 5 .u8 (.slice ad 121 c) (toI (writeF 3 0 [qPT]) ++ [7]) → Calls Tryd.prog 9 #[.slice ad 121 c] wx (ReadPost wx (writeF 3 0 [qPT] ++ [7]))) := Lib.hid (fun ad c wx hb ho => by
    have e : toI (writeF 3 0 [qPT]) ++ [7] = toI (writeF 3 0 [qPT] ++ [7]) := by unfold toI; rw [List.map_append]; rfl
    rw [e] at ho
    obtain ⟨hl, hrow, hn⟩ := OwnI.at ho
    have hfit := OwnI.fit ho
    exact hread_any ad 121 c _ wx ⟨hrow, write_lt⟩ (by rw [List.length_append, writeF_len]; rfl) (by decide) (fun e => by have := hn e; omega) hfit.1 (hf.below hb))
  have HIS : Hid (∀ sb (a n : Nat) wx, Below w.heap.size w wx → wx.heap[sb]? = some (.cells #[.int .u64 (a : Int), .iface 38 (.int .i64 (n : Int))] 95) → Calls Tryd.prog 18 #[.iface 90 (.pointer (some ⟨sb, 0, none⟩)), .int .u64 (a : Int), .int .i64 (n : Int)] wx fun e w' => e = .returned (.bool true) ∧ Below wx.heap.size wx w') := Lib.hid (fun sb a n wx hb h => is_spot sb (a : Int) (n : Int) wx (hg.below hb) (by rw [cell_of_row _ _ 0 _ _ _ h]; rfl) (by rw [cell_of_row _ _ 1 _ _ _ h]; rfl))
  have HSL : Hid ((toI (writeF 3 0 [qPT])).length = 120) := Lib.hid (by rw [toI_length, writeF_len]; rfl)
  have HSW : Hid ((writeF 3 0 [qPT]).length = 120) := Lib.hid (by rw [writeF_len]; rfl)
  have HOW : Hid (∀ B g wx, wx.heap[g]? = some (.cells (u8c (writeF 3 0 [qPT])) 5) → B ≤ g → OwnI wx B 5 .u8 (.slice (some ⟨g, 0, none⟩) 120 120) (toI (writeF 3 0 [qPT]))) := Lib.hid (fun B g wx h hB => by
    have := own_u8c h hB (by rw [writeF_len]; decide)
    rwa [writeF_len] at this)
  have hR1 := read_nil
  have hR2 := read_zero
  have hR3 := read_one
  have hI1 := int_nil
  unfold ReadPost at HR1 HR2 HR3
  unfold IntPost at HI1
  unfold WritePost at HW2
  rw [hR1] at HR1
  rw [hR2] at HR2
  rw [hR3] at HR3
  rw [hI1] at HI1
  have he := run_eql_code
  clear hg hf hR1 hR2 hR3 hI1
  go_enter Tryd.func7, Tryd.ntmps7
  go_wp2_with fail
  refine HR1.out.mono ?_
  rintro e w1 ⟨⟨v1, rfl, hv1⟩, b1⟩
  obtain ⟨s1, rfl, hs1⟩ := hv1
  have B1 := Lib.hid b1
  have S1 := Lib.hid hs1
  clear b1 hs1 HR1
  have C1 : Hid (Below w1.heap.size w1 (w1.alloc (.cells #[.int .i64 0, .int .u64 0, .slice none 0 0] 25))) := Lib.hid (ballo (Below.refl _ _) _)
  have D1 := Lib.hid (bstep B1.out C1.out)
  have T1 := Lib.hid ((C1.out.block _ (lt_of_block S1.out)).trans S1.out)
  go_wp2_with (at_make; (refine wpList_make_nums rfl (.const (.int .i64 64)) (.const (.int .i64 64)) slice8w rfl (w1.alloc (.cells #[.int .i64 0, .int .u64 0, .slice none 0 0] 25)).heap.size (w1.alloc (.cells #[.int .i64 0, .int .u64 0, .slice none 0 0] 25)) 64 .i64 .i64 64 64 rfl rfl rfl rfl (by omega) (by unfold maxLen; omega) (Below.refl _ _) (Nat.le_refl _) ?_); intro g w4 ho4 hg4 hb4 hb4'; have O4 := Lib.hid (own_zeros ho4).1; have B4 := Lib.hid hb4; clear ho4 hg4 hb4 hb4')
  have D4 := Lib.hid (bstep D1.out B4.out)
  have T4 := Lib.hid ((B4.out.block _ (lt_of_block T1.out)).trans T1.out)
  refine (HR2.out g w4 D4.out O4.out).mono ?_
  rintro e w5 ⟨⟨v2, rfl, hv2⟩, b5⟩
  obtain ⟨s2, rfl, hs2⟩ := hv2
  have B5 := Lib.hid (bstep D4.out b5)
  have T5 := Lib.hid ((b5.block _ (lt_of_block T4.out)).trans T4.out)
  have U5 := Lib.hid hs2
  clear b5 hs2 HR2 C1
  have C5 : Hid (Below w5.heap.size w5 (w5.alloc (.cells #[.int .i64 0, .int .u64 0, .slice none 0 0] 25))) := Lib.hid (ballo (Below.refl _ _) _)
  have D5 := Lib.hid (bstep B5.out C5.out)
  have T6 := Lib.hid ((C5.out.block _ (lt_of_block T5.out)).trans T5.out)
  have U6 := Lib.hid ((C5.out.block _ (lt_of_block U5.out)).trans U5.out)
  go_wp2_with fail
  generalize w5.alloc (.cells #[.int .i64 0, .int .u64 0, .slice none 0 0] 25) = x5 at *
  refine (HW1.out x5).mono ?_
  rintro e w6 ⟨rfl, b6⟩
  have D6 := Lib.hid (bstep D5.out b6)
  have T7 := Lib.hid ((b6.block _ (lt_of_block T6.out)).trans T6.out)
  have U7 := Lib.hid ((b6.block _ (lt_of_block U6.out)).trans U6.out)
  clear b6 HW1
  go_wp2_with fail
  refine (HI1.out w6).mono ?_
  rintro e w7 ⟨⟨v3, rfl, hv3⟩, b7⟩
  obtain rfl : v3 = .iface 38 (.int .i64 6) := hv3
  have D7 := Lib.hid (bstep D6.out b7)
  have T8 := Lib.hid ((b7.block _ (lt_of_block T7.out)).trans T7.out)
  have U8 := Lib.hid ((b7.block _ (lt_of_block U7.out)).trans U7.out)
  clear b7 HI1
  have HW3 := Lib.hid (HW2.out w7 D7.out)
  have C7 : Hid (Below w7.heap.size w7 (w7.alloc (.cells #[.int .u32 1, .int .u32 0, .int .u64 0, .int .u64 0, .int .u64 0, .int .u64 1, .int .u64 4096] 37))) := Lib.hid (ballo (Below.refl _ _) _)
  go_wp2_with fail
  refine HW3.out.mono ?_
  rintro e w8 ⟨g8, hret, hg8, hg8l, b8⟩
  rw [HSW.out] at hret
  subst hret
  have D78 := Lib.hid (bstep D7.out C7.out)
  have T89 := Lib.hid ((C7.out.block _ (lt_of_block T8.out)).trans T8.out)
  have U89 := Lib.hid ((C7.out.block _ (lt_of_block U8.out)).trans U8.out)
  generalize (w7.alloc (.cells #[.int .u32 1, .int .u32 0, .int .u64 0, .int .u64 0, .int .u64 0, .int .u64 1, .int .u64 4096] 37)) = x7 at *
  have B8 := Lib.hid b8
  have Z8 : Hid (x7.heap.size ≤ w8.heap.size) := Lib.hid b8.size
  have O8 := Lib.hid (HOW.out x7.heap.size g8 w8 hg8 hg8l)
  clear hg8 b8 HW2 HW3 hg8l
  go_wp2_with (at_builtin; go_loud (refine wpList_push rfl (.tmp 42) (.tmp 43) slice8w rfl x7.heap.size x7 (.slice (some ⟨g8, 0, none⟩) 120 120) (toI (writeF 3 0 [qPT])) 120 7 rfl (by rfl) HSL.out O8.out (by unfold maxLen; omega) (by omega) B8.out Z8.out ?_); intro ad9 c9 w9 hown9 hbe9; have O9 := Lib.hid (OwnI.mono hown9 (Nat.zero_le _)); have B9 := Lib.hid hbe9; clear hown9 hbe9)
  have D9 := Lib.hid (bstep D78.out B9.out)
  have T9 := Lib.hid ((B9.out.block _ (lt_of_block T89.out)).trans T89.out)
  have U9 := Lib.hid ((B9.out.block _ (lt_of_block U89.out)).trans U89.out)
  refine (HR3.out ad9 c9 w9 D9.out O9.out).mono ?_
  rintro e w10 ⟨⟨pa, pc, hret, -, -⟩, b10⟩
  have hret : e = .returned (.tuple #[.agg #[.int .i64 3, .int .u64 0, .slice pa 1 pc], .nilIface]) := hret
  subst hret
  have D10 := Lib.hid (bstep D9.out b10)
  have T10 := Lib.hid ((b10.block _ (lt_of_block T9.out)).trans T9.out)
  have U10 := Lib.hid ((b10.block _ (lt_of_block U9.out)).trans U9.out)
  clear b10 HR3
  obtain ⟨x10, hx10⟩ : ∃ x10, (w10.alloc (.cells #[.int .i64 3, .int .u64 0, .slice pa 1 pc] 25)) = x10 := ⟨_, rfl⟩
  obtain ⟨xb, hxb⟩ : ∃ xb, w10.heap.size = xb := ⟨_, rfl⟩
  have C10 : Hid (Below w10.heap.size w10 x10) := Lib.hid (by rw [← hx10]; exact ballo (Below.refl _ _) _)
  have X10 : Hid (x10.heap[xb]? = some (.cells #[.int .i64 3, .int .u64 0, .slice pa 1 pc] 25)) := Lib.hid (by rw [← hx10, ← hxb]; exact heap_alloc_new _ _)
  have D11 := Lib.hid (bstep D10.out C10.out)
  have T11 := Lib.hid ((C10.out.block _ (lt_of_block T10.out)).trans T10.out)
  have U11 := Lib.hid ((C10.out.block _ (lt_of_block U10.out)).trans U10.out)
  have HE1 := Lib.hid (HIS.out s1 0 4 x10 D11.out T11.out)
  go_wp2_with fail
  clear hx10 hxb
  refine HE1.out.mono ?_
  rintro e w12 ⟨rfl, b12⟩
  have D12 := Lib.hid (bstep D11.out b12)
  have X12 := Lib.hid ((b12.block _ (lt_of_block X10.out)).trans X10.out)
  have U12 := Lib.hid ((b12.block _ (lt_of_block U11.out)).trans U11.out)
  have HE2 := Lib.hid (HIS.out s2 0 3 w12 D12.out U12.out)
  clear b12 HE1
  go_wp2_with fail
  refine HE2.out.mono ?_
  rintro e w13 ⟨rfl, b13⟩
  have D13 := Lib.hid (bstep D12.out b13)
  have X13 := Lib.hid ((b13.block _ (lt_of_block X12.out)).trans X12.out)
  have q0 : w13.cell? ⟨xb, 0, none⟩ = some (.int .i64 3) := by rw [cell_of_row _ _ 0 _ _ _ X13.out]; rfl
  have q2 : w13.cell? ⟨xb, 2, none⟩ = some (.slice pa 1 pc) := by rw [cell_of_row _ _ 2 _ _ _ X13.out]; rfl
  clear b13 HE2
  go_wp2_with fail
  go_ret
  exact ⟨by first | rfl | simp, D13.out⟩
end Go.Proofs.YtmjfkcclhbpclaaDoor
/- Are two slices of numbers alike? The contract of shackle/shackleref01.Same. -/
namespace Go.Proofs.YtmjfkcclhbpclaaDoor
open Go.RowKit
set_option linter.unusedVariables false
set_option linter.unusedSimpArgs false

theorem same_any (a b : Option Addr) (c d : Nat) (xs ys : List Int) (w : World) (ha : Row .u8 w a xs) (hb : Row .u8 w b ys) (hx : xs.length ≤ maxLen) (hy : ys.length ≤ maxLen) :
    Calls Tryd.prog 16 #[.slice a xs.length c, .slice b ys.length d] w fun e w' => e = .returned (.bool (xs == ys)) ∧ Below w.heap.size w w' := by
  unfold maxLen at hx hy
  have HA := Lib.hid ha; clear ha
  have HB := Lib.hid hb; clear hb
  by_cases hl : xs.length = ys.length
  · have HL := Lib.hid hl
    have h0 : ((xs.length : Int) != (ys.length : Int)) = false := by simp [hl]
    clear hl
    go_enter Tryd.func16, Tryd.ntmps16
    go_wp2
    go_loopw [5] (fun i wr => ∃ k : Nat, k ≤ xs.length ∧ i = .int .i64 k ∧ Hid (xs.take k = ys.take k) ∧ Hid (Below w.heap.size w wr)) (fun i _ => xs.length - (intOf i).toNat)
    case atStart => exact ⟨0, Nat.zero_le _, rfl, Lib.hid rfl, Lib.hid (Below.refl _ _)⟩
    case round =>
      obtain ⟨k, hk, rfl, heq, hdr⟩ := hrel
      by_cases hlt : k < xs.length
      · obtain ⟨b1, o1, rfl, hc1⟩ := HA.out k hlt
        obtain ⟨b2, o2, rfl, hc2⟩ := HB.out k (by have := HL.out; omega)
        have hly : k < ys.length := by have := HL.out; omega
        have hb1 : b1 < w.heap.size := by simpa using World.block_lt_of_cell? w _ hc1
        have hb2 : b2 < w.heap.size := by simpa using World.block_lt_of_cell? w _ hc2
        have g1 : wr.cell? ⟨b1, o1 + k, none⟩ = some (.int .u8 (xs.getD k 0)) := by rw [hdr.out.cell (p := ⟨b1, o1 + k, none⟩) hb1]; exact hc1
        have g2 : wr.cell? ⟨b2, o2 + k, none⟩ = some (.int .u8 (ys.getD k 0)) := by rw [hdr.out.cell (p := ⟨b2, o2 + k, none⟩) hb2]; exact hc2
        clear hc1 hc2
        by_cases hq : xs[k] = ys[k]
        · have hq2 : (xs[k] != ys[k]) = false := by simp [hq]
          have HQ := Lib.hid hq; clear hq
          go_wp2
          go_quiet (fail)
          go_wp2
          go_roundw
          case rel =>
            refine ⟨k + 1, by omega, by go_num, Lib.hid ?_, Lib.hid (below_drewN hdr.out _)⟩
            rw [List.take_succ_eq_append_getElem hlt, List.take_succ_eq_append_getElem hly, heq.out, HQ.out]
          case measure => simp [intOf]; omega
        · have hq2 : (xs[k] != ys[k]) = true := by simp [hq]
          have HQ := Lib.hid hq; clear hq
          go_wp2
          go_quiet (fail)
          go_wp2
          go_ret
          have h1 : (xs == ys) = false := by
            rw [beq_eq_false_iff_ne]
            intro e
            subst e
            exact HQ.out rfl
          rw [h1]
          exact ⟨rfl, below_drewN hdr.out _⟩
      · have hk' : k = xs.length := by omega
        have HK := Lib.hid hk'; clear hk'
        go_wp2
        go_ret
        have h1 : (xs == ys) = true := by
          rw [beq_iff_eq]
          have := heq.out
          rw [HK.out, List.take_length, HL.out, List.take_length] at this
          exact this
        rw [h1]
        exact ⟨rfl, hdr.out⟩
  · have h0 : ((xs.length : Int) != (ys.length : Int)) = true := by simp; omega
    have HL := Lib.hid hl
    clear hl
    go_enter Tryd.func16, Tryd.ntmps16
    go_wp2
    go_ret
    have h1 : (xs == ys) = false := by
      rw [beq_eq_false_iff_ne]
      intro e
      exact HL.out (by rw [e])
    rw [h1]
    exact ⟨rfl, Below.refl _ _⟩

/-- of two slices that are alike -/
theorem same_eq (a b : Option Addr) (c d n m : Nat) (xs : List Int) (w : World) (hn : xs.length = n) (hm : xs.length = m) (ha : Row .u8 w a xs) (hb : Row .u8 w b xs) (hx : xs.length ≤ maxLen) :
    Calls Tryd.prog 16 #[.slice a n c, .slice b m d] w fun e w' => e = .returned (.bool true) ∧ Below w.heap.size w w' := by
  subst hn hm
  have := same_any a b c d xs xs w ha hb hx hx
  rw [show (xs == xs) = true from by simp] at this
  exact this
end Go.Proofs.YtmjfkcclhbpclaaDoor
/- Layer 4: the law HeadNotes. -/
namespace Go.Proofs.YtmjfkcclhbpclaaDoor
open Go.RowKit
set_option linter.unusedVariables false
set_option linter.unusedSimpArgs false
set_option maxRecDepth 100000

theorem own_max {w : World} {B sz n : Nat} {e : TypeId} {v : Value} {xs : List Value} (h : w.ownsRow B e sz v n xs) : n ≤ maxLen := by
  rcases h.2 with ⟨-, h0⟩ | ⟨g, cap, cur, -, -, -, h1, h2, -⟩
  · first | omega | (subst h0; exact Nat.zero_le _)
  · exact Nat.le_trans h1 h2
theorem note_at {w0 wr : World} {D : List ND} {la : Option Addr} {n lc k : Nat} (s : NSt w0 D la n lc wr) (hk : k < n) : ∃ d b o, D[k]? = some d ∧ la = some ⟨b, o, none⟩ ∧ wr.cell? ⟨b, o + k * 3, none⟩ = some (.string d.nt.nm) ∧ wr.cell? ⟨b, o + k * 3 + 1, none⟩ = some (.int .u32 (d.nt.ty : Int)) ∧ wr.cell? ⟨b, o + k * 3 + 2, none⟩ = some (.slice d.ad d.nt.data.length d.cap) ∧ Row .u8 wr d.ad (toI d.nt.data) ∧ d.nt.data.length ≤ maxLen := by
  obtain ⟨h1, h2, -, -⟩ := OwnS.at s.own
  have hkl : k < D.length := by rw [s.len]; exact hk
  obtain ⟨b, o, e, -, hc⟩ := h2 k (by simpa using hkl)
  have hd : (D.map ND.cells)[k]'(by simpa using hkl) = D[k].cells := by simp
  refine ⟨D[k], b, o, List.getElem?_eq_getElem hkl, e, ?_, ?_, ?_, (OwnI.at (s.data _ (List.getElem_mem hkl))).2.1, ?_⟩
  · have := hc 0 (by omega); rw [hd] at this; simpa [ND.cells] using this
  · have := hc 1 (by omega); rw [hd] at this; simpa [ND.cells] using this
  · have := hc 2 (by omega); rw [hd] at this; simpa [ND.cells] using this
  · have := own_max (s.data _ (List.getElem_mem hkl))
    rwa [toI_length] at this
theorem notesG_code (bs : List Nat) (e : Nat) : ∀ (g p : Nat) (l : List NT) (x c : Nat), notesG bs e g p l = .error (x, c) → c = 4 ∨ c = 29
  | 0, p, l, x, c, h => by cases h
  | g + 1, p, l, x, c, h => by
    rw [notesG] at h
    split at h
    · cases h
    · cases hn : noteF bs p e with
      | error c' =>
        rw [hn] at h
        simp only [Except.error.injEq, Prod.mk.injEq] at h
        have := noteF_code hn
        omega
      | ok ts =>
        rw [hn] at h
        exact notesG_code bs e g _ _ x c h
set_option maxHeartbeats 64000000 in
theorem notes_at (K : Int) (E : Nat) (pa : Option Addr) (pn pc : Nat) (ps : List PT) (a : Option Addr) (m cap : Nat) (bs : List Nat) (w : World) (h : BAny w a m cap bs) (hp : PRow w pa ps) (hl : ps.length = pn) (hpn : pn ≤ 1048576) (hm : m ≤ 1048576) (hg : ErrType w) (hf : FixAt w) :
    Calls Tryd.prog 5 #[.slice a m cap, .agg #[.int .i64 K, .int .u64 (E : Int), .slice pa pn pc]] w fun e w' => e = .returned (.bool true) ∧ Below w.heap.size w w' := by
  obtain ⟨w1, hw1⟩ : ∃ w1, w.alloc (.cells #[.int .i64 K, .int .u64 (E : Int), .slice pa pn pc] 25) = w1 := ⟨_, rfl⟩
  obtain ⟨hbk, hhbk⟩ : ∃ hbk, w.heap.size = hbk := ⟨_, rfl⟩
  have B1 : Hid (Below w.heap.size w w1) := Lib.hid (by rw [← hw1]; exact ballo (Below.refl _ _) _)
  have H1 : Hid (w1.heap[hbk]? = some (.cells #[.int .i64 K, .int .u64 (E : Int), .slice pa pn pc] 25)) := Lib.hid (by rw [← hw1, ← hhbk]; exact heap_alloc_new _ _)
  have HSH := Lib.hid (shown_any w1 (hg.below B1.out) (hf.below B1.out))
  have HNO : Hid (∀ wx, Below w.heap.size w wx → Calls Tryd.prog 14 #[.slice a m cap, .agg #[.int .i64 K, .int .u64 (E : Int), .slice pa pn pc]] wx (NotesPost bs ps wx)) := Lib.hid (fun wx hb => notes_any K E pa pn pc ps a m cap bs wx (h.below hb) (hp.below hb) hl hpn hm)
  have HRN : Hid (∀ wx, Below w.heap.size w wx → Calls Tryd.prog 15 #[.slice a m cap, .agg #[.int .i64 K, .int .u64 (E : Int), .slice pa pn pc]] wx (RNotesPost bs ps wx)) := Lib.hid (fun wx hb => rnotes_any K E pa pn pc ps a m cap bs wx (h.below hb) (hp.below hb) hl hpn hm)
  have HGT : Hid (∀ wx, Below w.heap.size w wx → ErrType wx) := Lib.hid (fun wx hb => hg.below hb)
  unfold NotesPost at HNO
  unfold RNotesPost at HRN
  generalize notesF bs ps [] = R at *
  clear h hp hl hpn hm hg hf
  go_enter Tryd.func5, Tryd.ntmps5
  go_wp2_with fail
  refine HSH.out.mono ?_
  rintro e2 w2 ⟨rfl, b2⟩
  have B2 := Lib.hid (bstep B1.out b2)
  have H2 := Lib.hid ((b2.block _ (lt_of_block H1.out)).trans H1.out)
  clear b2 hw1 hhbk HSH
  have q0 : w2.cell? ⟨hbk, 0, none⟩ = some (.int .i64 K) := by rw [cell_of_row _ _ 0 _ _ _ H2.out]; rfl
  have q1 : w2.cell? ⟨hbk, 1, none⟩ = some (.int .u64 (E : Int)) := by rw [cell_of_row _ _ 1 _ _ _ H2.out]; rfl
  have q2 : w2.cell? ⟨hbk, 2, none⟩ = some (.slice pa pn pc) := by rw [cell_of_row _ _ 2 _ _ _ H2.out]; rfl
  go_wp2_with fail
  refine (HNO.out w2 B2.out).mono ?_
  rintro e3 w3 ⟨hans, b3⟩
  have B3 := Lib.hid (bstep B2.out b3)
  have H3 := Lib.hid ((b3.block _ (lt_of_block H2.out)).trans H2.out)
  clear b3 q0 q1 q2
  have q0 : w3.cell? ⟨hbk, 0, none⟩ = some (.int .i64 K) := by rw [cell_of_row _ _ 0 _ _ _ H3.out]; rfl
  have q1 : w3.cell? ⟨hbk, 1, none⟩ = some (.int .u64 (E : Int)) := by rw [cell_of_row _ _ 1 _ _ _ H3.out]; rfl
  have q2 : w3.cell? ⟨hbk, 2, none⟩ = some (.slice pa pn pc) := by rw [cell_of_row _ _ 2 _ _ _ H3.out]; rfl
  cases R with
  | error x =>
    obtain ⟨px, cx⟩ := x
    obtain ⟨v, rfl, hv⟩ := hans
    have V3 : Hid (ErrAt w3 v (some (px, cx))) := Lib.hid hv
    obtain ⟨sb, rfl, -⟩ := hv
    go_wp2_with fail
    refine (HRN.out w3 B3.out).mono ?_
    rintro e4 w4 ⟨hret, b4⟩
    obtain rfl : e4 = .returned (.tuple #[.slice none 0 0, .agg #[.int .i64 (cx : Int), .bool true, .int .u64 (px : Int)]]) := hret
    obtain ⟨w5, hw5⟩ : ∃ w5, w4.alloc (.cells #[.int .i64 (cx : Int), .bool true, .int .u64 (px : Int)] 43) = w5 := ⟨_, rfl⟩
    obtain ⟨xb, hxb⟩ : ∃ xb, w4.heap.size = xb := ⟨_, rfl⟩
    have B45 : Hid (Below w4.heap.size w4 w5) := Lib.hid (by rw [← hw5]; exact ballo (Below.refl _ _) _)
    have X5 : Hid (w5.heap[xb]? = some (.cells #[.int .i64 (cx : Int), .bool true, .int .u64 (px : Int)] 43)) := Lib.hid (by rw [← hw5, ← hxb]; exact heap_alloc_new _ _)
    have V5 := Lib.hid ((V3.out.below b4).below B45.out)
    have B5 := Lib.hid (bstep (bstep B3.out b4) B45.out)
    clear b4 q0 q1 q2 HNO HRN
    go_wp2_with fail
    clear hw5 hxb
    go_loopg [10] 0 (fun g iv wr => iv = .int .i64 0 ∧ w5 = wr)
    case atStart => exact ⟨rfl, rfl⟩
    case round =>
      obtain ⟨rfl, rfl⟩ := hrel
      have s0 : w5.cell? ⟨xb, 0, none⟩ = some (.int .i64 (cx : Int)) := by rw [cell_of_row _ _ 0 _ _ _ X5.out]; rfl
      have s1 : w5.cell? ⟨xb, 1, none⟩ = some (.bool true) := by rw [cell_of_row _ _ 1 _ _ _ X5.out]; rfl
      have s2 : w5.cell? ⟨xb, 2, none⟩ = some (.int .u64 (px : Int)) := by rw [cell_of_row _ _ 2 _ _ _ X5.out]; rfl
      have HRT := Lib.hid (hright_spot px cx _ w5 V5.out (HGT.out _ B5.out))
      go_wp2_with fail
      refine HRT.out.mono ?_
      rintro e6 w6 ⟨rfl, b6⟩
      have B6 := Lib.hid (bstep B5.out b6)
      clear b6
      go_wp2_with fail
      go_ret
      exact ⟨by first | rfl | simp, B6.out⟩
  | ok l =>
    obtain ⟨la, lc, D1, rfl, hD1, hs1⟩ := hans
    obtain ⟨n, hn⟩ : ∃ n, l.length = n := ⟨_, rfl⟩
    have hs1 : NSt w2 D1 la l.length lc w3 := hs1
    rw [hn] at hs1
    simp only [hn]
    have S3 := Lib.hid hs1
    clear hs1
    go_wp2_with fail
    refine (HRN.out w3 B3.out).mono ?_
    rintro e4 w4 ⟨hret, b4⟩
    obtain ⟨lb, ld, D2, rfl, hD2, hs2⟩ := hret
    have hs2 : NSt w3 D2 lb l.length ld w4 := hs2
    rw [hn] at hs2
    simp only [hn]
    have C4 : Hid (Below w4.heap.size w4 (w4.alloc (.cells #[.int .i64 0, .bool false, .int .u64 0] 43))) := Lib.hid (ballo (Below.refl _ _) _)
    have X5 : Hid ((w4.alloc (.cells #[.int .i64 0, .bool false, .int .u64 0] 43)).heap[w4.heap.size]? = some (.cells #[.int .i64 0, .bool false, .int .u64 0] 43)) := Lib.hid (heap_alloc_new _ _)
    have S15 := Lib.hid ((S3.out.below b4).below C4.out)
    have S25 := Lib.hid (hs2.below C4.out)
    have B5 := Lib.hid (bstep (bstep B3.out b4) C4.out)
    have HDE : Hid (D1.map ND.nt = D2.map ND.nt) := Lib.hid (hD1.trans hD2.symm)
    have HNM : Hid (n ≤ maxLen) := Lib.hid (by
      have := own_max S3.out.own.1
      rw [List.length_map, S3.out.len] at this
      exact this)
    clear b4 q0 q1 q2 HNO HRN hs2 hD1 hD2 S3 hn
    go_wp2_with fail
    generalize (w4.alloc (.cells #[.int .i64 0, .bool false, .int .u64 0] 43)) = w5 at *
    generalize w4.heap.size = xb at *
    have hnl : (n : Int) ≤ 9223372036854775807 := by have := HNM.out; unfold maxLen at this; omega
    go_loopg [10] n (fun g iv wr => ∃ k : Nat, k + g = n ∧ iv = .int .i64 (k : Int) ∧ Hid (Below w5.heap.size w5 wr))
    case atStart => exact ⟨0, by omega, rfl, Lib.hid (Below.refl _ _)⟩
    case round =>
      obtain ⟨k, hk, rfl, HBR⟩ := hrel
      cases gk with
      | zero =>
        have hkn : k = n := by omega
        subst hkn
        have XR := Lib.hid ((HBR.out.block _ (lt_of_block X5.out)).trans X5.out)
        have s0 : wr.cell? ⟨xb, 0, none⟩ = some (.int .i64 0) := by rw [cell_of_row _ _ 0 _ _ _ XR.out]; rfl
        have s1 : wr.cell? ⟨xb, 1, none⟩ = some (.bool false) := by rw [cell_of_row _ _ 1 _ _ _ XR.out]; rfl
        have s2 : wr.cell? ⟨xb, 2, none⟩ = some (.int .u64 0) := by rw [cell_of_row _ _ 2 _ _ _ XR.out]; rfl
        have HRT := Lib.hid (hright_ok wr)
        unfold badV at HRT
        have BR := Lib.hid (bstep B5.out HBR.out)
        clear hk
        go_wp2_with fail
        refine HRT.out.mono ?_
        rintro e6 w6 ⟨rfl, b6⟩
        have B6 := Lib.hid (bstep BR.out b6)
        clear b6
        go_wp2_with fail
        go_ret
        exact ⟨by first | rfl | simp, B6.out⟩
      | succ g =>
        have hkl : k < n := by omega
        obtain ⟨d1, b1, o1, e1, hla, c0, c1, c2, r1, m1⟩ := note_at (S15.out.below HBR.out) hkl
        obtain ⟨d2, b2, o2, e2, hlb, f0, f1, f2, r2, -⟩ := note_at (S25.out.below HBR.out) hkl
        have HKN : Hid (k < n) := Lib.hid hkl
        have HDK : Hid (∀ q1 q2, D1[k]? = some q1 → D2[k]? = some q2 → q1.nt = q2.nt) := Lib.hid (fun q1 q2 e1 e2 => by
          have h1 : (D1.map ND.nt)[k]? = some q1.nt := by rw [List.getElem?_map, e1]; rfl
          have h2 : (D2.map ND.nt)[k]? = some q2.nt := by rw [List.getElem?_map, e2]; rfl
          rw [HDE.out, h2] at h1
          exact (Option.some.inj h1).symm)
        have hde : d1.nt = d2.nt := by
          have h1 : (D1.map ND.nt)[k]? = some d1.nt := by rw [List.getElem?_map, e1]; rfl
          have h2 : (D2.map ND.nt)[k]? = some d2.nt := by rw [List.getElem?_map, e2]; rfl
          rw [HDE.out, h2] at h1
          exact (Option.some.inj h1).symm
        obtain ⟨nm, ty, da, hd2⟩ : ∃ nm ty da, d2.nt = ⟨nm, ty, da⟩ := ⟨_, _, _, rfl⟩
        rw [hde] at c0 c1 c2 r1 m1
        simp only [hd2] at c0 c1 c2 r1 m1 f0 f1 f2 r2
        obtain ⟨dn, hdn⟩ : ∃ dn, da.length = dn := ⟨_, rfl⟩
        rw [hdn] at c2 f2
        generalize d1.ad = ad1 at *
        generalize d1.cap = cp1 at *
        generalize d2.ad = ad2 at *
        generalize d2.cap = cp2 at *
        have HK := Lib.hid hk
        have HSM : Hid (∀ wz, Below wr.heap.size wr wz → Calls Tryd.prog 16 #[.slice ad1 dn cp1, .slice ad2 dn cp2] wz fun e w' => e = .returned (.bool true) ∧ Below wz.heap.size wz w') := Lib.hid (fun wz hb => by
          have := same_any ad1 ad2 cp1 cp2 (toI da) (toI da) wz (r1.below hb) (r2.below hb) (by rw [toI_length]; exact m1) (by rw [toI_length]; exact m1)
          rw [toI_length, hdn] at this
          simpa using this)
        have i0 : (0 : Int) ≤ (k : Int) := by omega
        have i1 : (k : Int) < (n : Int) := by omega
        clear e1 e2 hde hd2 r1 r2 m1 hkl hk
        subst hla
        subst hlb
        go_wp2_with fail
        clear c0 c1 f0 f1
        go_region_with (go_at_call 16; refine (HSM.out _ (by first | exact Below.refl _ _ | exact (Below.refl _ _).drew)).mono ?_; rintro e9 w9 ⟨rfl, b9⟩)
        all_goals (
          have B9 : Hid (Below wr.heap.size wr w9) := Lib.hid (bstep (Below.refl _ _).drew b9)
          have BN := Lib.hid (bstep HBR.out B9.out)
          obtain ⟨d1', b1', o1', e1, hla, c0, c1, -, -, -⟩ := note_at (S15.out.below BN.out) HKN.out
          obtain ⟨d2', b2', o2', e2, hlb, f0, f1, -, -, -⟩ := note_at (S25.out.below BN.out) HKN.out
          simp only [Option.some.injEq, Addr.mk.injEq, and_true] at hla hlb
          obtain ⟨rfl, rfl⟩ := hla
          obtain ⟨rfl, rfl⟩ := hlb
          have hde := HDK.out _ _ e1 e2
          rw [hde] at c0 c1
          generalize d2'.nt.nm = nm2 at *
          generalize d2'.nt.ty = ty2 at *
          clear b9 e1 e2 hde HSM
          go_wp2_with fail
          go_quiet (fail)
          have BQ := Lib.hid (below_drewN BN.out nq)
          clear c0 c1 f0 f1 c2 f2
          go_wp2_with fail
          go_roundg g
          case measure => have := HK.out; omega
          case rel => exact ⟨k + 1, by have := HK.out; omega, (by first | (refine congrArg (Value.int .i64) ?_; omega) | (refine congrArg (Value.int .i64) ?_; rw [IntKind.wrap_i64]; have := HK.out; omega)), BQ⟩)
end Go.Proofs.YtmjfkcclhbpclaaDoor
/- Bytes that came in, as a row. -/
namespace Go.Proofs.YtmjfkcclhbpclaaDoor
open Go.RowKit Go.Maps
set_option linter.unusedVariables false
set_option linter.unusedSimpArgs false

theorem bytes_row {W : World} {a : Option Addr} {len cap : Nat} {z : List Int} (w0 : IsRow .u8 W a len cap z) : ∃ bs : List Nat, bs.length = len ∧ BRow W a bs ∧ len ≤ cap ∧ (a = none → len = 0 ∧ cap = 0) := by
  obtain ⟨xs, h1, h2, h3, h4, -, h6⟩ := w0.row
  refine ⟨xs.map Int.toNat, by simp [h1], ⟨?_, ?_⟩, h4, h6⟩
  · have : toI (xs.map Int.toNat) = xs := by
      unfold toI
      rw [List.map_map]
      conv => rhs; rw [← List.map_id xs]
      apply List.map_congr_left
      intro x hx
      have := wf_u8_bounds (h3 x hx)
      simp
      omega
    rw [this]
    exact h2
  · intro b hb
    obtain ⟨x, hx, rfl⟩ := List.mem_map.1 hb
    have := wf_u8_bounds (h3 x hx)
    omega
end Go.Proofs.YtmjfkcclhbpclaaDoor
/- Layer 4: a head as it comes in, and its bulk. -/
namespace Go.Proofs.YtmjfkcclhbpclaaDoor
open Go.RowKit Go.WideShapes Go.Deep Go.ChangeShapes
set_option linter.unusedVariables false
set_option linter.unusedSimpArgs false
set_option maxRecDepth 100000

theorem bulk_pos {H : Type} (d : DataW H) : 1 ≤ Rows.uptoBulk d := by
  unfold Rows.uptoBulk
  split <;> omega
theorem bulk_each {H : Type} (D : Nat → DataW H) (K : Nat) : ∀ (l : List Nat), (∀ i ∈ l, K ≤ Rows.uptoBulk (D i)) → l.length * K ≤ Rows.uptoBulkAll (l.map D)
  | [], _ => by simp
  | i :: l, h => by
    have h1 := bulk_each D K l (fun j hj => h j (by simp [hj]))
    have h2 := h i (by simp)
    simp only [List.map_cons, Rows.uptoBulkAll, List.length_cons, Nat.add_mul, Nat.one_mul]
    omega
theorem bulk_u8 {H : Type} (k : IntKind) (zs : List Int) : Rows.uptoBulkAll (lits (H := H) k zs) = zs.length := by
  induction zs with
  | nil => rfl
  | cons z zs ih =>
    simp only [lits, List.map_cons, Rows.uptoBulkAll, Rows.uptoBulk, List.length_cons] at *
    omega
theorem head_bulk {H : Type} {enc : TypeId × Value → H} {w : World} {base : Nat} {held : Bool} {ty en : Int} {a : Option Addr} {n cap : Nat} {d : DataW H} {p : List MemPlace} (h : DataW.Trod enc Tryd.prog w base (fun _ => true) held 25 (headV ty en a n cap) d p) (hb : Rows.uptoBulk d ≤ 1048576) : n ≤ 1048576 := by
  obtain ⟨fuel, hf0⟩ := h
  obtain ⟨xs, m, -, hxe, -, hxl, hf⟩ := DataW.trod_struct Tryd.underlying25 hf0
  have ecs : (headV ty en a n cap).cells.toList = [.int .i64 ty, .int .u64 en, .slice a n cap] := rfl
  rw [ecs] at hf
  have kl : Tryd.prog.cellsOf 23 = 1 := by kernel_rfl
  have g2 : DataW.trod enc Tryd.prog w base (fun _ => true) held m 23 (([.int .i64 ty, .int .u64 en, .slice a n cap] : List Value).drop 2 |>.take (Tryd.prog.cellsOf 23)) = xs[2]? := hf 2 _ rfl
  have hx : xs.length = 3 := by rw [hxl]; rfl
  rw [kl] at g2
  match xs, hx with
  | [x0, x1, x2], _ =>
    simp only [List.drop_succ_cons, List.drop_zero, List.take_succ_cons, List.take_zero, List.getElem?_cons_zero, List.getElem?_cons_succ] at g2
    have hxd : d = _ := congrArg Prod.fst hxe
    rw [hxd] at hb
    simp only [Rows.uptoBulk, Rows.uptoBulkAll, List.map_cons, List.map_nil] at hb
    rcases open_slice Tryd.underlying23 g2 with ⟨hc, -⟩ | ⟨ad, len, cp, mm, nn, D, Pl, hc, -, hl, hm, hmm, hx2, hy⟩
    · simp only [List.cons.injEq, Value.slice.injEq, and_true] at hc
      omega
    · simp only [List.cons.injEq, Value.slice.injEq, and_true] at hc
      obtain ⟨-, rfl, -⟩ := hc
      have h1 := bulk_each D 1 (List.range n) (fun i hi => bulk_pos _)
      rw [List.length_range] at h1
      rw [hx2] at hb
      simp only [Rows.uptoBulk] at hb
      omega
theorem walk_HeadNotes (a : Option Addr) (len cap : Nat) (z : List Int) (ty en : Int) (p : Option Addr) (pc : Nat) (ps : List PT) (W : World) (hg : ErrType W) (hf : FixAt W) (w0 : IsRow .u8 W a len cap z) (s0 : len ≤ 1048576) (we : (Lit.int .u64 en).wf = true) (hp : PRow W p ps) (hpl : ps.length ≤ 1048576) :
    Calls Tryd.prog 5 #[.slice a len cap, headV ty en p ps.length pc] W fun e w' => e = .returned (.bool true) ∧ Below W.heap.size W w' := by
  obtain ⟨bs, hlen, hb, hc, hn⟩ := bytes_row w0
  obtain ⟨m, rfl, -⟩ := wf_u64_nat we
  exact notes_at ty m p ps.length pc ps a len cap bs W ⟨hb, hlen, by omega, hn, hc⟩ hp rfl hpl s0 hg hf
end Go.Proofs.YtmjfkcclhbpclaaDoor
