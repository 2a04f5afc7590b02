/- What the rows' list gives a walk of layer 4: the cell of errors.errorType, the table of fixed numbers; a world that meets the list. -/
import Derived.Test.YtmjfkcclhbpclaaDoorRows
import Derived.Test.YtmjfkcclhbpclaaDoorIsSpot
import Derived.Test.YtmjfkcclhbpclaaDoorHeadConst
import Derived.LaidLaws
import Derived.LaidHandle
import Derived.LaidSub
import Derived.OpenShut
import Derived.Stop.Joined
namespace Go.Proofs.YtmjfkcclhbpclaaDoor
open Go.RowKit
set_option linter.unusedVariables false
set_option linter.unusedSimpArgs false
set_option maxRecDepth 100000

theorem LaidH.et : Tryd.prog.globalNamed "errors.errorType" = some 1 := by kernel_rfl
theorem LaidH.ft : Tryd.prog.globalNamed "shackle/head.fixed" = some 0 := by kernel_rfl
theorem LaidH.rt : (Tryd.prog.cutTypes.find? (·.1 == "internal/reflectlite.rtype")).map (·.2) = some 142 := by kernel_rfl
theorem LaidH.oneRow : ((List.range Tryd.prog.types.size).filter fun t => Tryd.prog.rowNamed t [101, 114, 114, 111, 114]) = [29] := by kernel_rfl

theorem errType_of_laid {W : World} {l : List (String × DataW Unit)} (hl : l.filter (fun x => x.2.handleName?.isSome) = [("errors.errorType", Rows.laid_errors_errorType)]) (h : laidMetH Tryd.prog l W) : ErrType W := by
  have h' : handlesMet Tryd.prog [("errors.errorType", Rows.laid_errors_errorType)] W := by
    have := (laidMetH_iff.1 h).2
    rw [hl] at this
    exact this
  obtain ⟨name, u, ty, e1, e2, e3, e4, e5⟩ := h' _ (List.mem_singleton.2 rfl)
  have en : name = [101, 114, 114, 111, 114] := (Option.some.inj e1).symm
  subst en
  obtain rfl := Option.some.inj (LaidH.rt.symm.trans e2)
  have hm : ty ∈ (List.range Tryd.prog.types.size).filter fun t => Tryd.prog.rowNamed t [101, 114, 114, 111, 114] := List.mem_filter.2 ⟨List.mem_range.2 e3, e4⟩
  rw [LaidH.oneRow] at hm
  obtain rfl := List.mem_singleton.1 hm
  have hh : typeHandle Tryd.prog 29 = .pointer (some ⟨3, 29, none⟩) := by kernel_rfl
  rw [hh] at e5
  unfold ErrType
  simpa using World.var?_cell LaidH.et e5 0
def fixRow (q : Nat × Nat × Nat × Nat) : List Value := [.int .i64 (q.1 : Int), .int .i64 (q.2.1 : Int), .int .u64 (q.2.2.1 : Int), .int .u64 (q.2.2.2 : Int)]
def fixDat (q : Nat × Nat × Nat × Nat) : DataW Unit := .agg [.lit (.int .i64 (q.1 : Int)), .lit (.int .i64 (q.2.1 : Int)), .lit (.int .u64 (q.2.2.1 : Int)), .lit (.int .u64 (q.2.2.2 : Int))]
theorem fix_rows : fixC = (fixedF.map fixRow).flatten := by kernel_rfl
theorem fix_dat : (Rows.laid_shackle_head_fixed : DataW Unit) = .agg (fixedF.map fixDat) := by kernel_rfl
theorem fix_of_trod {w : World} {base n : Nat} {spare : Nat → Bool} {held : Bool} {cs : List Value} {q : Nat × Nat × Nat × Nat} {p : List MemPlace} {enc : TypeId × Value → Unit} (h : DataW.trod enc Tryd.prog w base spare held n 60 cs = some (fixDat q, p)) : cs = fixRow q := by
  obtain ⟨xs, m, -, hx, hlen, hxl, hf⟩ := DataW.trod_struct Tryd.underlying60 h
  have hc : Tryd.prog.cellsOf 60 = 4 := by kernel_rfl
  rw [hc] at hlen
  match cs, hlen with
  | [c0, c1, c2, c3], _ =>
    have k64 : Tryd.prog.cellsOf 22 = 1 := by kernel_rfl
    have ki : Tryd.prog.cellsOf 3 = 1 := by kernel_rfl
    have g0 : DataW.trod enc Tryd.prog w base spare held m 3 (([c0, c1, c2, c3].drop 0).take (Tryd.prog.cellsOf 3)) = xs[0]? := hf 0 _ rfl
    have g1 : DataW.trod enc Tryd.prog w base spare held m 3 (([c0, c1, c2, c3].drop 1).take (Tryd.prog.cellsOf 3)) = xs[1]? := hf 1 _ rfl
    have g2 : DataW.trod enc Tryd.prog w base spare held m 22 (([c0, c1, c2, c3].drop 2).take (Tryd.prog.cellsOf 22)) = xs[2]? := hf 2 _ rfl
    have g3 : DataW.trod enc Tryd.prog w base spare held m 22 (([c0, c1, c2, c3].drop 3).take (Tryd.prog.cellsOf 22)) = xs[3]? := hf 3 _ rfl
    have hxl4 : xs.length = 4 := hxl.trans rfl
    simp only [k64, ki, List.drop_succ_cons, List.drop_zero, List.take_succ_cons, List.take_zero] at g0 g1 g2 g3
    match xs, hxl4 with
    | [y0, y1, y2, y3], _ =>
      simp only [List.getElem?_cons_zero, List.getElem?_cons_succ] at g0 g1 g2 g3
      obtain ⟨z0, e0, rfl, -⟩ := DataW.trod_int Tryd.underlying3 g0
      obtain ⟨z1, e1, rfl, -⟩ := DataW.trod_int Tryd.underlying3 g1
      obtain ⟨z2, e2, rfl, -⟩ := DataW.trod_int Tryd.underlying22 g2
      obtain ⟨z3, e3, rfl, -⟩ := DataW.trod_int Tryd.underlying22 g3
      have hd := congrArg Prod.fst hx
      simp only [fixDat, List.map_cons, List.map_nil, DataW.agg.injEq, List.cons.injEq, DataW.lit.injEq, Lit.int.injEq, true_and, and_true] at hd
      obtain ⟨d0, d1, d2, d3⟩ := hd
      simp only [List.cons.injEq, and_true] at e0 e1 e2 e3
      rw [e0, e1, e2, e3, ← d0, ← d1, ← d2, ← d3]
      rfl
theorem rows_flat : ∀ (rows : List (List Value)) (l : List Value), (∀ r ∈ rows, r.length = 4) → l.length = 4 * rows.length → (∀ r, (h : r < rows.length) → (l.drop (r * 4)).take 4 = rows[r]) → l = rows.flatten
  | [], l, _, hl, _ => List.length_eq_zero_iff.1 (by simpa using hl)
  | r :: rows, l, h4, hl, h => by
    have h0 := h 0 (by simp)
    rw [Nat.zero_mul, List.drop_zero] at h0
    have h0 : l.take 4 = r := h0
    have ih := rows_flat rows (l.drop 4) (fun r hr => h4 r (List.mem_cons_of_mem _ hr)) (by rw [List.length_drop, hl, List.length_cons]; omega) (fun k hk => by
      have := h (k + 1) (by simpa using hk)
      rw [List.drop_drop, show 4 + k * 4 = (k + 1) * 4 by omega]
      exact this)
    rw [List.flatten_cons, ← ih, ← h0, List.take_append_drop]
theorem fixAt_of_laid {W : World} {l : List (String × DataW Unit)} (hl : l.filter (fun x => x.2.handleName?.isNone) = [("shackle/head.fixed", Rows.laid_shackle_head_fixed)]) (h : laidMetH Tryd.prog l W) : FixAt W := by
  have h' := (laidMetH_iff.1 h).1
  rw [hl] at h'
  obtain ⟨ps, ⟨g, t, cs, fuel, p, q, hg, ht, hv, hd, _, _⟩, _, _⟩ := h'
  obtain rfl := Option.some.inj (LaidH.ft.symm.trans hg)
  obtain rfl := Option.some.inj ((show (Tryd.prog.globals[0]?).map (·.type) = some 61 by kernel_rfl).symm.trans ht)
  obtain ⟨xs, m, _, ex, hcl, hxl, hel⟩ := DataW.trod_array Tryd.underlying61 hd
  have hc4 : Tryd.prog.cellsOf 60 = 4 := by kernel_rfl
  have hc52 : Tryd.prog.cellsOf 61 = 52 := by kernel_rfl
  rw [hc52] at hcl
  have hdat : xs.map (·.1) = fixedF.map fixDat := by
    have := congrArg Prod.fst ex
    rw [fix_dat] at this
    exact (DataW.agg.inj this).symm
  have hfl : cs.toList = fixC := by
    rw [fix_rows]
    refine rows_flat _ _ (fun r hr => ?_) (by rw [hcl, List.length_map]; rfl) (fun r hr => ?_)
    · obtain ⟨q, -, rfl⟩ := List.mem_map.1 hr
      rfl
    · have hr13 : r < fixedF.length := by simpa using hr
      have hrx : r < xs.length := by rw [hxl]; exact hr13
      have hE := hel r hr13
      rw [hc4, List.getElem?_eq_getElem hrx] at hE
      have hd1 : (xs[r]).1 = fixDat (fixedF[r]) := by
        have := congrArg (·[r]?) hdat
        simpa [hrx, hr13] using this
      have hE2 : DataW.trod (fun _ => ()) Tryd.prog W 0 (fun _ => true) false m 60 ((cs.toList.drop (r * 4)).take 4) = some (fixDat fixedF[r], (xs[r]).2) := by
        rw [← hd1]
        exact hE
      rw [fix_of_trod hE2, List.getElem_map]
  intro j v hj
  have := World.var?_cell LaidH.ft hv (0 + j)
  rw [this]
  rw [← hfl] at hj
  simpa using hj
def litCell : DataW Unit → Value
  | .lit (.int k n) => .int k n
  | _ => undef
def aggOf : DataW Unit → List (DataW Unit)
  | .agg l => l
  | _ => []
/-- The settled world, the handle and the table laid. -/
noncomputable def laidWorld (os : Os) : World :=
  let w0 := World.holding Tryd.prog os ⟨#[], #[], []⟩
  { w0 with heap := (w0.heap.modify 1 fun
      | .cells _ t frozen => .cells #[.iface 142 (.agg #[.pointer (some ⟨3, 29, none⟩)])] t frozen
      | o => o).modify 0 fun
      | .cells _ t frozen => .cells fixC.toArray t frozen
      | o => o }
end Go.Proofs.YtmjfkcclhbpclaaDoor
