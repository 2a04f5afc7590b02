/- Layer 8: a thing of a table, a text of it, the note of an index: the program's answers. -/
import Derived.Test.YtikpkblemegggaaVersKit
import Derived.Deep.RegionHeld3
import Derived.Deep.QuietTactic
import Derived.BigQuiet
namespace Go.Proofs.Ytikpkblemegggaa
open Go.RowKit Go.Maps
set_option linter.unusedVariables false
set_option linter.unusedSimpArgs false

theorem errV_five : errV ((5 : Nat) : Int) = .iface 60 (.int .i64 5) := rfl
theorem errV_three : errV ((3 : Nat) : Int) = .iface 60 (.int .i64 3) := rfl

set_option maxRecDepth 100000 in
set_option maxHeartbeats 4000000 in
theorem tell_any (r : RD) (w : World) (told : List Nat) (x : Nat) (h : r.ok w) (hm : MapN w r.B told) (h1 : 1 ≤ x) (h2 : x < 32768) :
    Calls Try.prog 46 #[rdV r, .int .i64 (x : Int)] w fun e w' => e = .returned (errV ((if x ∈ told then 5 else 0 : Nat) : Int)) ∧ Kp r.B w w' ∧ MapN w' r.B (if x ∈ told then told else told ++ [x]) := by
  have c5 := h.c5
  have hkey := keyL_of (x := x) (by omega)
  have hlen := hm.2.len
  have HM := Lib.hid hm
  have HK : Hid (∀ w1, Below w.heap.size w w1 → MapN w1 r.B told) := Lib.hid (fun w1 hb => hm.below hb)
  have HH := Lib.hid (has_setN told x)
  have HC5 : Hid (∀ w1, Below w.heap.size w w1 → w1.cell? ⟨r.R, 5, none⟩ = some (.map (some r.B))) := Lib.hid (fun w1 hb => (h.below hb).c5)
  have B1 : Hid (Below w.heap.size w (w.alloc (.cells #[] 100))) := Lib.hid ((Below.refl _ _).alloc (Nat.le_refl _) _)
  unfold rdV
  generalize r.R = R at *
  generalize r.B = B at *
  have hown := HM.out.1
  have HOWN := Lib.hid hown
  clear h hm hown
  by_cases hx : x ∈ told
  · have hd : decide (x ∈ told) = true := decide_eq_true hx
    rw [if_pos hx, if_pos hx, errV_five]
    rw [hd] at HH
    clear hx hd
    go_enter Try.func46, Try.ntmps46
    go_wp2_with (at_lookup; refine wpList_lookup_own_unit _ rfl _ _ 64 rfl 3 100 lawInt Try.underlying64 (zeroUnit _) B told.length (setN told) rfl HOWN.out _ _ rfl hkey ?_; rw [HH.out])
    go_ret
    exact ⟨rfl, Kp.below B1.out, HK.out _ B1.out⟩
  · have hd : decide (x ∈ told) = false := decide_eq_false hx
    have HX : Hid (ToldOk (told ++ [x])) := Lib.hid (HM.out.2.snoc hx h1 h2)
    rw [if_neg hx, if_neg hx]
    rw [hd] at HH
    clear hx hd
    have hown1 := (HK.out _ B1.out).1
    have HOWN1 := Lib.hid hown1
    have c5b := HC5.out _ B1.out
    clear hown1
    go_enter Try.func46, Try.ntmps46
    go_wp2_with (first | (at_lookup; refine wpList_lookup_own_unit _ rfl _ _ 64 rfl 3 100 lawInt Try.underlying64 (zeroUnit _) B told.length (setN told) rfl HOWN.out _ _ rfl hkey ?_; rw [HH.out]) | (at_mapUpdate; refine wpList_mapUpdate_own _ rfl _ _ _ 64 rfl 3 100 lawInt Try.underlying64 _ B told.length _ rfl HOWN1.out (by unfold maxLen; omega) _ _ _ rfl rfl hkey _ [] (unitElem_mk (H := Unit)) ?_; intro w2 hown2 hgr2; have O2 := Lib.hid hown2; have G2 := Lib.hid hgr2; clear hown2 hgr2))
    go_ret
    refine ⟨rfl, (Kp.below B1.out).trans G2.out, ?_, HX.out⟩
    have o2 := O2.out
    rw [← setN_snoc] at o2
    simpa using o2

set_option maxRecDepth 100000 in
set_option maxHeartbeats 4000000 in
theorem vtext_any (r : RD) (w : World) (h : r.ok w) (a : Option Addr) (cap : Nat) (b : List Nat) (hb : BRow w a b) (hl : b.length ≤ 4) :
    Calls Try.prog 48 #[rdV r, .slice a b.length cap] w fun e w' => e = .returned (.tuple #[.string (textF r.ss (numOf b)).1, errV ((textF r.ss (numOf b)).2 : Int)]) ∧ ∃ m, w' = w.drewN m := by
  have hlt : numOf b < 18446744073709551616 := by
    have h1 := numOf_lt b hb.2
    have h2 : (256 : Nat) ^ b.length ≤ 256 ^ 4 := Nat.pow_le_pow_right (by decide) hl
    omega
  have HN := Lib.hid (fun (w1 : World) (hb1 : Below w.heap.size w w1) => number_any a cap b w1 (hb.below hb1) (by omega))
  have HT := Lib.hid (fun (w1 : World) (hb1 : Below w.heap.size w w1) => symText_any r.sa r.sc r.ss (numOf b) w1 (h.hs.below hb1) (by have := h.fit.ssl; omega) h.fit.ssc hlt)
  have c4 := h.c4
  clear hb hlt h
  generalize textF r.ss (numOf b) = F at *
  generalize numOf b = n at *
  generalize b.length = bl at *
  generalize r.ss.length = sl at *
  unfold rdV
  generalize r.R = R at *
  go_enter Try.func48, Try.ntmps48
  go_wp2_with fail
  go_quiet (first | (go_at_call 36; exact Calls.quiet_of_same ((HN.out _ (below_drewN (Below.refl _ _) _)).mono (by rintro e w' ⟨rfl, rfl⟩; exact ⟨rfl, rfl⟩))) | (go_at_call 52; exact Calls.quiet_of_same ((HT.out _ (below_drewN (Below.refl _ _) _)).mono (by rintro e w' ⟨rfl, rfl⟩; exact ⟨rfl, rfl⟩))))
  go_wp2
  go_ret2
  exact ⟨rfl, _, rfl⟩
end Go.Proofs.Ytikpkblemegggaa
