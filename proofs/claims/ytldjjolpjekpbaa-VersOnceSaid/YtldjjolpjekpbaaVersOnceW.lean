/- Layer 8: the statement that no index is told twice: its walk. -/
import Derived.Test.YtldjjolpjekpbaaVersOnceL
import Derived.Test.YtldjjolpjekpbaaVersUp
namespace Go.Proofs.Ytldjjolpjekpbaa
open Go.RowKit Go.Maps
set_option linter.unusedVariables false
set_option linter.unusedSimpArgs false

set_option maxRecDepth 100000 in
set_option maxHeartbeats 16000000 in
theorem once_no (a : Option Addr) (cap : Nat) (bs : List Nat) (ty en : Int) (p : Option Addr) (pc : Nat) (ps : List PT) (d : DT) (n : Int) (w : World) (hb : BRow w a bs) (hbl : bs.length ≤ 140737488351232) (hbc : bs.length ≤ cap) (hbn : a = none → bs.length = 0 ∧ cap = 0)
    (h : PRow w p ps) (hl : ps.length ≤ 140737488351232) (hd : d.wf) (hn1 : -9223372036854775808 ≤ n) (hn2 : n < 9223372036854775808) (c : Nat) (hX : versF bs ps d n = (.zero, c)) :
    Calls Try.prog 3 #[.slice a bs.length cap, headV ty en p ps.length pc, .agg d.cells, .int .i64 n] w fun e w' => e = .returned (.bool true) ∧ Below w.heap.size w w' := by
  have HRD := Lib.hid (fun (w1 : World) (hb1 : Below w.heap.size w w1) => vread_any a cap bs ty en p pc ps d n w1 (hb.below hb1) hbl hbc hbn (h.below hb1) hl hd hn1 hn2)
  rw [hX] at HRD
  have HUP := Lib.hid (fun w1 => vup_true w1)
  clear h hb hbl hbc hbn hl hX hd
  have HI : Hid ((Try.prog.info? 29).map (·.size) = some d.cells.size) := Lib.hid (show _ = some 37 by kernel_rfl)
  generalize d.cells = D at *
  have B1 : Hid (Below w.heap.size w ((w.alloc (.cells #[.int .i64 ty, .int .u64 en, .slice p ps.length pc] 26)).alloc (.cells D 29))) := Lib.hid (((Below.refl _ _).alloc (Nat.le_refl _) _).alloc (by simp) _)
  have HG : Hid (((w.alloc (.cells #[.int .i64 ty, .int .u64 en, .slice p ps.length pc] 26)).alloc (.cells D 29)).heap[w.heap.size + 1]? = some (.cells D 29)) := Lib.hid (by
    have := heap_alloc_new (w.alloc (.cells #[.int .i64 ty, .int .u64 en, .slice p ps.length pc] 26)) (.cells D 29)
    simpa using this)
  have HH : Hid (((w.alloc (.cells #[.int .i64 ty, .int .u64 en, .slice p ps.length pc] 26)).alloc (.cells D 29)).heap[w.heap.size]? = some (.cells #[.int .i64 ty, .int .u64 en, .slice p ps.length pc] 26)) := Lib.hid ((heap_alloc_old _ _ (by simp)).trans (heap_alloc_new _ _))
  unfold headV at *
  go_enter Try.func3, Try.ntmps3
  go_wp2_with fail
  refine (HUP.out _).mono ?_
  rintro e w1 ⟨rfl, hb1⟩
  have BU := Lib.hid (bstep B1.out hb1)
  have HG1 := Lib.hid ((hb1.block _ (lt_of_block HG.out)).trans HG.out)
  have HH1 := (hb1.block _ (lt_of_block HH.out)).trans HH.out
  have k0 : w1.cell? ⟨w.heap.size, 0, none⟩ = some (.int .i64 ty) := by rw [cell_of_row _ _ _ _ _ _ HH1]; rfl
  have k1 : w1.cell? ⟨w.heap.size, 1, none⟩ = some (.int .u64 en) := by rw [cell_of_row _ _ _ _ _ _ HH1]; rfl
  have k2 : w1.cell? ⟨w.heap.size, 2, none⟩ = some (.slice p ps.length pc) := by rw [cell_of_row _ _ _ _ _ _ HH1]; rfl
  clear hb1 HH1 HH HG HUP
  go_wp2_with (refine wpList_load_row rfl 29 _ rfl (w.heap.size + 1) rfl 29 D (0, 0) _ HG1.out Try.underlying29 rfl HI.out ?_)
  refine (HRD.out _ BU.out).mono ?_
  rintro e w2 ⟨oa, oc, da, dc, drows, na, nc, nrows, he, -, -, -, -, -, hb2⟩
  have B2 := Lib.hid (bstep BU.out hb2)
  clear hb2 HRD k0 k1 k2 HG1
  by_cases hc : c = 0
  · subst hc
    replace he : e = .returned (.tuple #[.agg #[.bool false, .slice oa 0 oc, .slice da 0 dc, .slice na 0 nc], .nilIface]) := he
    subst he
    go_wp2_with fail
    go_ret
    exact ⟨rfl, B2.out.alloc B2.out.size _⟩
  · replace he : e = .returned (.tuple #[.agg #[.bool false, .slice oa 0 oc, .slice da 0 dc, .slice na 0 nc], errV (c : Int)]) := he
    rw [errVp (by omega)] at he
    subst he
    go_wp2_with fail
    go_ret
    exact ⟨rfl, B2.out.alloc B2.out.size _⟩
end Go.Proofs.Ytldjjolpjekpbaa
