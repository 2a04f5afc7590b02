/- Layer 19, the statement's own walk: what any relocation writes. -/
import Derived.Test.YtodondhlicedoaaRelocMoves
import Derived.Test.YtodondhlicedoaaRelocRef
namespace Go.Proofs.Ytodondhlicedoaa
open Go.RowKit
set_option linter.unusedVariables false
set_option linter.unusedSimpArgs false

set_option maxRecDepth 100000 in
set_option maxHeartbeats 8000000 in
theorem values_at (i : Inp) (v n c : Int) (w : World) (h1 : i.val = (v, n, c)) (hc : 0 ≤ c ∧ c ≤ 30) :
    Calls Try.prog 3 #[i.relV, .int .u64 i.base, i.boundV] w fun e w' => e = .returned (.bool true) ∧ Below w.heap.size w w' := by
  have hcode := Lib.hid (fun (w1 : World) => code_any c w1 hc.1 hc.2)
  clear hc
  obtain ⟨hx0, hb0⟩ := boxed_is i w
  have HX := Lib.hid hx0; have B0 := Lib.hid hb0
  clear hx0 hb0
  have hu := Lib.hid up_true
  have HV1 := Lib.hid h1
  clear h1
  simp only [Inp.relV, Inp.boundV]
  go_enter Try.func3, Try.ntmps3
  go_wp2_with fail
  refine (show Calls _ _ _ (i.boxed w) _ from ?_)
  generalize i.boxed w = w1 at *
  refine (hu.out w1).mono ?_
  rintro e w2 ⟨rfl, hb2⟩
  have HX2 := Lib.hid (HX.out.below hb2)
  have B2 := Lib.hid (B0.out.trans (hb2.mono B0.out.size))
  clear hb2 HX B0
  obtain ⟨-, x0, x1, x2, x3, y0, y1, y2, y3, y4, y5⟩ := HX2.out
  go_wp2_with fail
  clear x0 x1 x2 x3 y0 y1 y2 y3 y4 y5
  refine (show Calls _ _ #[i.relV, .int .u64 i.base, i.boundV] w2 _ from ?_)
  refine (value_any i _).mono ?_
  rintro e w3 ⟨he, hb3⟩
  unfold answer at he
  rw [HV1.out] at he
  subst he
  have HX3 := Lib.hid (HX2.out.below hb3)
  have B3 := Lib.hid (bstep' B2.out hb3)
  clear hb3 HX2 B2
  obtain ⟨-, x0, x1, x2, x3, y0, y1, y2, y3, y4, y5⟩ := HX3.out
  simp only [ ]
  generalize errV c = ev at *
  go_wp2_with fail
  clear x0 x1 x2 x3 y0 y1 y2 y3 y4 y5
  refine (show Calls _ _ #[i.relV, .int .u64 i.base, i.boundV] w3 _ from ?_)
  refine (refValue_any i _).mono ?_
  rintro e w4 ⟨he, hb4⟩
  unfold answer at he
  rw [HV1.out] at he
  subst he
  have B4 := Lib.hid (bstep' B3.out hb4)
  clear hb4 HX3 B3
  have hb1 : (v == v) = true := by simp
  have hb2 : (n == n) = true := by simp
  have hb3 : (c == c) = true := by simp
  go_wp2_with fail
  refine (hcode.out w4).mono ?_
  rintro e w5 ⟨rfl, rfl⟩
  go_wp2_with fail
  go_ret
  exact ⟨rfl, B4.out⟩

theorem walk_RelocValues (off ty sym add base addr size module offset : Int) (static : Bool) (below : Int) (w : World) (w0 : (Lit.int .u64 off).wf = true) (w1 : (Lit.int .i64 ty).wf = true) (w2 : (Lit.int .i64 sym).wf = true) (w3 : (Lit.int .i64 add).wf = true)
    (w4 : (Lit.int .u64 base).wf = true) (w5 : (Lit.int .u64 addr).wf = true) (w6 : (Lit.int .u64 size).wf = true) (w7 : (Lit.int .i64 module).wf = true) (w8 : (Lit.int .u64 offset).wf = true) (w9 : (Lit.int .u64 below).wf = true) :
    Calls Try.prog 3 #[.agg #[.int .u64 off, .int .i64 ty, .int .i64 sym, .int .i64 add], .int .u64 base, .agg #[.int .u64 addr, .int .u64 size, .int .i64 module, .int .u64 offset, .bool static, .int .u64 below]] w fun e w' => e = .returned (.bool true) ∧ Below w.heap.size w w' :=
  values_at ⟨off, ty, sym, add, base, addr, size, module, offset, static, below⟩ _ _ _ w rfl (val_code _)
end Go.Proofs.Ytodondhlicedoaa
