/- RelocMoves of the document, as the statement RelocMoves says it: the frame round the walk. -/
import Derived.Test.YtodondhlicedoaaRows
import Derived.Test.YtodondhlicedoaaRelocMoves
import Derived.Test.YtodondhlicedoaaAgg
import Derived.ProofKit
import Derived.OpenShut
import Derived.ShutString
import Derived.ChangeOld
import Derived.SizedLaws
namespace Go.Proofs.Ytodondhlicedoaa.relocMoves
open Go.ChangeShapes Go.WideShapes Go.ChangeAt Go.RowKit
open Go.ChangeMaps (open_string shut_string)
set_option linter.unusedVariables false

theorem own : ownKnob Try.prog.godebug = none := by kernel_rfl
theorem laidOut : laidOutB Try.prog = true := by kernel_rfl

set_option maxRecDepth 100000 in
theorem lifted (os : Os) (started : os.Started) (H : Type) (enc : TypeId × Value → H) :
    ReturnsInHanded {} Try.checked os 4 .any (Rows.relocMovesSpec.pre6 enc Try.prog Try.f4 Rows.relocMovesRow.domain false) (Rows.relocMovesSpec.post enc Try.prog Try.f4 false true false false) := by
  refine returnsInHanded_of_change_sized (C := Try.checked) own started (by kernel_rfl) Try.func4
    (ChangeSpec.witness6 (enc := enc) (C := Try.checked) false ⟨#[], #[.agg #[.int .u64 0, .int .i64 0, .int .i64 0, .int .i64 0], .int .u64 0, .agg #[.int .u64 0, .int .u64 0, .int .i64 0, .int .u64 0, .bool false, .int .u64 0], .int .u64 0], []⟩ 8 (by kernel_rfl) (by kernel_rfl) (by kernel_rfl) (by kernel_rfl)) ?_
  intro W base args ds gs before hval0 hW hcnd hsz0 _
  have hsz : (DataW.weightsEach Try.prog (Try.f4.params.toList ++ Rows.relocMovesSpec.plain.varTypes Try.prog) (ds ++ gs)).all (· ≤ reachBytes) = true := hsz0
  clear hsz0
  have hval : ∀ (j : Nat) t v, Try.f4.params[j]? = some t → args[j]? = some v → Value.okWide Try.prog W .any base t v := hval0
  have hW' := hW
  obtain ⟨p, q, hA0, hV, rfl, hfz, hnd⟩ := hW
  have hA : DataW.TrodAll enc Try.prog W 0 (fun _ => true) true Try.f4.params.toList args.toList ds p := hA0
  rw [Try.params4] at hA hval hsz
  obtain ⟨v0, vs0, d0, ds0, p0, q0, hargs, rfl, rfl, h0, r0⟩ := trodAll_cons hA
  obtain ⟨v1, vs1, d1, ds1, p1, q1, rfl, rfl, rfl, h1, r1⟩ := trodAll_cons r0
  obtain ⟨v2, vs2, d2, ds2, p2, q2, rfl, rfl, rfl, h2, r2⟩ := trodAll_cons r1
  obtain ⟨v3, vs3, d3, ds3, p3, q3, rfl, rfl, rfl, h3, r3⟩ := trodAll_cons r2
  obtain ⟨rfl, rfl, rfl⟩ := trodAll_nil r3
  obtain rfl : args = #[v0, v1, v2, v3] := by cases args; simp_all
  obtain ⟨rfl, rfl⟩ := trodVars_none hV
  have k0 := h0
  have lt0 : ∀ x ∈ p0, x.block < W.heap.size := by obtain ⟨m, hm⟩ := k0; exact DataW.trod_lt m _ _ _ hm
  obtain ⟨cs0, fu0, rfl, hl0, hf0⟩ := open_fields (N := 4) Try.underlying24 (by kernel_rfl) (by kernel_rfl) (hval 0 24 v0 rfl rfl) h0
  obtain ⟨c0_0, y0_0, e0_0, t0_0⟩ := hf0 0 _ rfl (by omega)
  obtain ⟨a0_0, rfl, w0_0⟩ := field_int Try.underlying22 t0_0
  obtain ⟨c0_1, y0_1, e0_1, t0_1⟩ := hf0 1 _ rfl (by omega)
  obtain ⟨a0_1, rfl, w0_1⟩ := field_int Try.underlying3 t0_1
  obtain ⟨c0_2, y0_2, e0_2, t0_2⟩ := hf0 2 _ rfl (by omega)
  obtain ⟨a0_2, rfl, w0_2⟩ := field_int Try.underlying3 t0_2
  obtain ⟨c0_3, y0_3, e0_3, t0_3⟩ := hf0 3 _ rfl (by omega)
  obtain ⟨a0_3, rfl, w0_3⟩ := field_int Try.underlying2 t0_3
  obtain rfl := list4 hl0 e0_0 e0_1 e0_2 e0_3
  obtain ⟨a1, rfl, rfl, rfl, w1⟩ := open_int Try.underlying22 (hval 1 22 v1 rfl rfl) h1
  have k2 := h2
  have lt2 : ∀ x ∈ p2, x.block < W.heap.size := by obtain ⟨m, hm⟩ := k2; exact DataW.trod_lt m _ _ _ hm
  obtain ⟨cs2, fu2, rfl, hl2, hf2⟩ := open_fields (N := 6) Try.underlying26 (by kernel_rfl) (by kernel_rfl) (hval 2 26 v2 rfl rfl) h2
  obtain ⟨c2_0, y2_0, e2_0, t2_0⟩ := hf2 0 _ rfl (by omega)
  obtain ⟨a2_0, rfl, w2_0⟩ := field_int Try.underlying22 t2_0
  obtain ⟨c2_1, y2_1, e2_1, t2_1⟩ := hf2 1 _ rfl (by omega)
  obtain ⟨a2_1, rfl, w2_1⟩ := field_int Try.underlying22 t2_1
  obtain ⟨c2_2, y2_2, e2_2, t2_2⟩ := hf2 2 _ rfl (by omega)
  obtain ⟨a2_2, rfl, w2_2⟩ := field_int Try.underlying3 t2_2
  obtain ⟨c2_3, y2_3, e2_3, t2_3⟩ := hf2 3 _ rfl (by omega)
  obtain ⟨a2_3, rfl, w2_3⟩ := field_int Try.underlying22 t2_3
  obtain ⟨c2_4, y2_4, e2_4, t2_4⟩ := hf2 4 _ rfl (by omega)
  obtain ⟨a2_4, rfl⟩ := field_bool Try.underlying4 t2_4
  obtain ⟨c2_5, y2_5, e2_5, t2_5⟩ := hf2 5 _ rfl (by omega)
  obtain ⟨a2_5, rfl, w2_5⟩ := field_int Try.underlying22 t2_5
  obtain rfl := list6 hl2 e2_0 e2_1 e2_2 e2_3 e2_4 e2_5
  obtain ⟨a3, rfl, rfl, rfl, w3⟩ := open_int Try.underlying22 (hval 3 22 v3 rfl rfl) h3
  clear hA0 hval0
  refine (walk_RelocMoves a0_0 a0_1 a0_2 a0_3 a1 a2_0 a2_1 a2_2 a2_3 a2_4 a2_5 a3 W w0_0 w0_1 w0_2 w0_3 w1 w2_0 w2_1 w2_2 w2_3 w2_5 w3).mono fun e W' ⟨he, bel⟩ => ?_
  subst he
  exact ⟨_, rfl, _, _, _, [], _, [], hW', trodAll_mk1 (shut_bool Try.underlying4 _), (trodAll_cons_mk (Below.trod laidOut (by kernel_rfl) (of_decide_eq_true (by kernel_rfl)) k0 bel lt0) (trodAll_cons_mk (shut_int Try.underlying22 w1) (trodAll_cons_mk (Below.trod laidOut (by kernel_rfl) (of_decide_eq_true (by kernel_rfl)) k2 bel lt2) (trodAll_cons_mk (shut_int Try.underlying22 w3) trodAll_mk0)))), rfl, bel.frame _, fun h => by cases h⟩

theorem proved : Rows.RelocMovesSaid :=
  OpenClaim.holds_of_wide 4 Try.f4 rfl rfl rfl rfl rfl rfl rfl ⟨rfl, rfl, rfl, rfl, rfl⟩ rfl rfl rfl rfl rfl (by kernel_rfl) Try.func4 (by kernel_rfl)
    (of_decide_eq_true (by kernel_rfl)) (by unfold Func.isWrapper; first | (rw [if_pos (by decide +kernel)]; kernel_rfl) | (rw [if_neg (by decide +kernel)]; exact ⟨rfl, rfl⟩))
    (fun os started H enc _ => lifted os started H enc)
end Go.Proofs.Ytodondhlicedoaa.relocMoves
