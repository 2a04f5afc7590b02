/- Layer 8: a thing of a table: the program's answer. -/
import Derived.Test.YtikpkblemegggaaVersTell
import Derived.Test.YtikpkblemegggaaAdd64
import Derived.Deep.RegionHeld3
namespace Go.Proofs.Ytikpkblemegggaa
open Go.RowKit Go.Maps
set_option linter.unusedVariables false
set_option linter.unusedSimpArgs false

/-- bytes of a table, and where they stand -/
def ItemAns (F : List Nat × Nat × Nat) (w : World) (e : Ending) (w' : World) : Prop :=
  ∃ ad c, e = .returned (.tuple #[.slice ad F.1.length c, .int .u64 (F.2.1 : Int), errV (F.2.2 : Int)]) ∧ OwnI w' w.heap.size 5 .u8 (.slice ad F.1.length c) (toI F.1) ∧ Below w.heap.size w w'

set_option maxRecDepth 100000 in
set_option maxHeartbeats 4000000 in
theorem item_any (r : RD) (w : World) (h : r.ok w) (fr step size : Nat) (h1 : fr < 18446744073709551616) (h2 : step < 18446744073709551616) (h3 : size < 18446744073709551616) :
    Calls Try.prog 45 #[rdV r, .int .u64 (fr : Int), .int .u64 (step : Int), .int .u64 (size : Int)] w (ItemAns (itemF r.bs r.ps fr step size) w) := by
  by_cases hb : 18446744073709551616 ≤ fr + step
  · rw [itemF_beyond hb]
    have HA := add64_over (fr : Int) (step : Int) (by omega) (by omega) (by rw [M64_eq]; omega) (by rw [M64_eq]; omega) (by rw [M64_eq]; omega)
    clear hb
    generalize (fr : Int) + (step : Int) - M64 = q at *
    unfold rdV
    go_enter Try.func45, Try.ntmps45
    go_wp2_with fail
    go_ret3
    exact ⟨none, 0, rfl, OwnI.nil _ _ _ _, Below.refl _ _⟩
  · rw [itemF_in (by omega)]
    have HA := add64_fits (fr : Int) (step : Int) (by omega) (by omega) (by rw [M64_eq]; omega)
    have e1 : (fr : Int) + (step : Int) = ((fr + step : Nat) : Int) := by omega
    rw [e1] at HA
    have h4 : fr + step < 18446744073709551616 := by omega
    clear hb e1
    generalize fr + step = q at *
    have HS := Lib.hid (fun (w1 : World) (hb1 : Below w.heap.size w w1) => slice_any r.a r.cap r.bs r.ty r.en r.p r.pc r.ps q size w1 (h.hb.below hb1) h.fit.hbl h.fit.hbc h.fit.hbn (h.h.below hb1) h.fit.hl h4 h3)
    have HK : Hid (∀ w1, Below w.heap.size w w1 → w1.cell? ⟨r.R, 0, none⟩ = some (.slice r.a r.bs.length r.cap) ∧ w1.cell? ⟨r.R, 1, none⟩ = some (.int .i64 r.ty) ∧ w1.cell? ⟨r.R, 2, none⟩ = some (.int .u64 r.en) ∧ w1.cell? ⟨r.R, 3, none⟩ = some (.slice r.p r.ps.length r.pc)) := Lib.hid (fun w1 h1 => ⟨(h.below h1).c0, (h.below h1).c1, (h.below h1).c2, (h.below h1).c3⟩)
    have HD := Lib.hid ((Below.refl w.heap.size w).drew)
    clear h h1 h2 h3 h4
    generalize sliceF r.bs r.ps q size = F at *
    unfold rdV
    unfold headV at HS
    generalize r.R = R at *
    generalize r.bs.length = bl at *
    generalize r.ps.length = pl at *
    generalize r.a = ra at *
    generalize r.cap = rcap at *
    generalize r.ty = rty at *
    generalize r.en = ren at *
    generalize r.p = rp at *
    generalize r.pc = rpc at *
    go_enter Try.func45, Try.ntmps45
    go_wp2_with fail
    go_region_held3 (fun w' => Below w.heap.size w w' ∧ w'.cell? ⟨R, 0, none⟩ = some (.slice ra bl rcap) ∧ w'.cell? ⟨R, 1, none⟩ = some (.int .i64 rty) ∧ w'.cell? ⟨R, 2, none⟩ = some (.int .u64 ren) ∧ w'.cell? ⟨R, 3, none⟩ = some (.slice rp pl rpc))
      (first | assumption | exact ⟨HD.out, HK.out _ HD.out⟩ | exact ⟨Below.drew (Below.refl _ _), HK.out _ (Below.drew (Below.refl _ _))⟩ | exact ⟨B2.out, HK.out _ B2.out⟩)
      (first
        | (go_simp; go_at_call 15; refine (HS.out _ (by assumption)).mono ?_; rintro e w3 ⟨ad, c, rfl, ho, hb2⟩; have HO := Lib.hid ho; have B2 := Lib.hid (bstep (by assumption) hb2); clear ho hb2))
    all_goals
      go_wp2
      go_ret3
      exact ⟨ad, c, rfl, HO.out, B2.out⟩
end Go.Proofs.Ytikpkblemegggaa
