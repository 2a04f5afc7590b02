/- Layer 4: Read: a file of whatever length. -/
import Derived.Test.YtmjfkcclhbpclaaDoorHeadRead
namespace Go.Proofs.YtmjfkcclhbpclaaDoor
open Go.RowKit
set_option linter.unusedVariables false
set_option linter.unusedSimpArgs false

def set3 (w : World) (b : Nat) (v0 v1 v2 : Value) : World := ((w.setCell ⟨b, 0, none⟩ v0).setCell ⟨b, 1, none⟩ v1).setCell ⟨b, 2, none⟩ v2
theorem set3_other {w : World} {b c : Nat} (h : c ≠ b) (v0 v1 v2 : Value) : (set3 w b v0 v1 v2).heap[c]? = w.heap[c]? := by
  unfold set3
  rw [heap_setCell_other _ _ _ _ h, heap_setCell_other _ _ _ _ h, heap_setCell_other _ _ _ _ h]
theorem set3_cells {w : World} {b : Nat} {T : TypeId} {u0 u1 u2 : Value} (R : w.heap[b]? = some (.cells #[u0, u1, u2] T)) (v0 v1 v2 : Value) : ∃ wf, ((w.setCell ⟨b, 0, none⟩ v0).setCell ⟨b, 1, none⟩ v1).setCell ⟨b, 2, none⟩ v2 = wf ∧ wf.cell? ⟨b, 0, none⟩ = some v0 ∧ wf.cell? ⟨b, 1, none⟩ = some v1 ∧ wf.cell? ⟨b, 2, none⟩ = some v2 ∧ set3 w b v0 v1 v2 = wf := by
  have e1 := heap_setCell_same w b 0 _ _ v0 R
  have e2 := heap_setCell_same _ b 1 _ _ v1 e1
  have e3 := heap_setCell_same _ b 2 _ _ v2 e2
  refine ⟨_, rfl, ?_, ?_, ?_, rfl⟩
  · rw [cell_of_row _ _ 0 _ _ _ e3]; rfl
  · rw [cell_of_row _ _ 1 _ _ _ e3]; rfl
  · rw [cell_of_row _ _ 2 _ _ _ e3]; rfl
theorem ErrH.set3 {w : World} {v : Value} {x : HErr} {b : Nat} {cs : Array Value} (h : ErrH w v x) (R : w.heap[b]? = some (.cells cs 25)) (v0 v1 v2 : Value) : ErrH (set3 w b v0 v1 v2) v x := by
  cases x with
  | code c => exact h
  | spot a c =>
    obtain ⟨sb, e, hs⟩ := h
    refine ⟨sb, e, (set3_other (fun e2 => ?_) v0 v1 v2).trans hs⟩
    rw [e2, R] at hs
    simp only [Option.some.injEq, Obj.cells.injEq] at hs
    exact absurd hs.2.1 (by decide)
theorem OwnS.set3 {w : World} {B : Nat} {v : Value} {rows : List (List Value)} {b : Nat} {cs : Array Value} (h : OwnS w B 37 7 v rows) (R : w.heap[b]? = some (.cells cs 25)) (v0 v1 v2 : Value) : OwnS (set3 w b v0 v1 v2) B 37 7 v rows := by
  have hne := own_ne h.1 R (by decide)
  exact ((h.setO (a := ⟨b, 0, none⟩) hne v0).setO (a := ⟨b, 1, none⟩) hne v1).setO (a := ⟨b, 2, none⟩) hne v2
theorem below_set3 {w w' : World} {n b : Nat} (h : Below n w w') (hb : n ≤ b) (v0 v1 v2 : Value) : Below n w (set3 w' b v0 v1 v2) :=
  ((h.setCell (p := ⟨b, 0, none⟩) hb v0).setCell (p := ⟨b, 1, none⟩) hb v1).setCell (p := ⟨b, 2, none⟩) hb v2
set_option maxRecDepth 100000 in
set_option maxHeartbeats 16000000 in
theorem hread_any (a : Option Addr) (m cap : Nat) (bs : List Nat) (w : World) (h : BRow w a bs) (hm : bs.length = m) (hl : m ≤ 140737488351232) (hn : a = none → m = 0 ∧ cap = 0) (hc : m ≤ cap) (hf : FixAt w) :
    Calls Tryd.prog 9 #[.slice a m cap] w (ReadPost w bs) := by
  have HPE : Hid (∀ x v w', readF bs = .error x → ErrH w' v x → Below w.heap.size w w' → ReadPost w bs (.returned (.tuple #[.agg #[.int .i64 0, .int .u64 0, .slice none 0 0], v])) w') := Lib.hid (fun x v w' e hv hb => ⟨by rw [e]; exact ⟨v, rfl, hv⟩, hb⟩)
  have HPO : Hid (∀ (K E : Nat) ps pa pc w', readF bs = .ok ⟨K, E, ps⟩ → OwnS w' w.heap.size 37 7 (.slice pa ps.length pc) (ps.map PT.cells) → (∀ p ∈ ps, p.wf) → Below w.heap.size w w' → ReadPost w bs (.returned (.tuple #[.agg #[.int .i64 (K : Int), .int .u64 (E : Int), .slice pa ps.length pc], .nilIface])) w') := Lib.hid (fun K E ps pa pc w' e ho hp hb => ⟨by rw [e]; exact ⟨pa, pc, rfl, ho, hp⟩, hb⟩)
  generalize ReadPost w bs = P at *
  obtain ⟨w1, hw1⟩ : ∃ w1, w.alloc (.cells #[.int .i64 0, .int .u64 0, .slice none 0 0] 25) = w1 := ⟨_, rfl⟩
  obtain ⟨hb0, hhb0⟩ : ∃ hb0, w.heap.size = hb0 := ⟨_, rfl⟩
  have B1 : Hid (Below w.heap.size w w1) := Lib.hid (by rw [← hw1]; exact ballo (Below.refl _ _) _)
  have R1 : Hid (w1.heap[hb0]? = some (.cells #[.int .i64 0, .int .u64 0, .slice none 0 0] 25)) := Lib.hid (by rw [← hw1, ← hhb0]; exact heap_alloc_new _ _)
  have g0 : w1.cell? ⟨hb0, 0, none⟩ = some (.int .i64 0) := by rw [cell_of_row _ _ 0 _ _ _ R1.out]; rfl
  have g1 : w1.cell? ⟨hb0, 1, none⟩ = some (.int .u64 0) := by rw [cell_of_row _ _ 1 _ _ _ R1.out]; rfl
  have g2 : w1.cell? ⟨hb0, 2, none⟩ = some (.slice none 0 0) := by rw [cell_of_row _ _ 2 _ _ _ R1.out]; rfl
  have f0 : w1.frozen? ⟨hb0, 0, none⟩ = false := frozen_of_row _ _ _ _ _ R1.out
  have f1 : w1.frozen? ⟨hb0, 1, none⟩ = false := frozen_of_row _ _ _ _ _ R1.out
  have f2 : w1.frozen? ⟨hb0, 2, none⟩ = false := frozen_of_row _ _ _ _ _ R1.out
  have HHB := Lib.hid hhb0
  have HF := Lib.hid hf
  have HB : Hid (BRow w a bs ∧ bs.length = m ∧ (a = none → m = 0 ∧ cap = 0) ∧ m ≤ cap) := Lib.hid ⟨h, hm, hn, hc⟩
  clear h hn hc hf
  by_cases h1 : 1048576 < m
  · have t1 : decide ((1048576 : Int) < (m : Int)) = true := decide_eq_true (by omega)
    have HE : Hid (readF bs = .error (.code 2)) := Lib.hid (by unfold readF; rw [if_pos (by omega)])
    obtain ⟨wf, hwf, z0, z1, z2, ez⟩ := set3_cells R1.out (.int .i64 0) (.int .u64 0) (.slice none 0 0)
    have EZ := Lib.hid ez
    clear h1 hm ez
    go_enter Tryd.func9, Tryd.ntmps9
    go_wp2_with fail
    refine bodyPost_ret (by simp [results, Tryd.results9, go_sem, z0, z1, z2]; try rfl) rfl ?_
    exact HPE.out _ _ wf HE.out rfl (by rw [← EZ.out]; exact below_set3 B1.out (Nat.le_of_eq HHB.out) _ _ _)
  · have t1 : decide ((1048576 : Int) < (m : Int)) = false := decide_eq_false (by omega)
    by_cases h2 : m < 64
    · have t2 : decide ((m : Int) < 64) = true := decide_eq_true (by omega)
      have HE : Hid (readF bs = .error (.spot m 4)) := Lib.hid (by unfold readF; rw [if_neg (by omega), if_pos (by omega), hm])
      have HSP : Hid (∀ wx, Calls Tryd.prog 21 #[.int .u64 (m : Int), .int .i64 4] wx (TestPost (some (m, 4)) wx)) := Lib.hid (fun wx => hspot_any m 4 wx (by omega))
      have hwm : IntKind.u64.wrap (m : Int) = (m : Int) := by rw [IntKind.wrap_u64]; omega
      clear h1 h2 hm
      go_enter Tryd.func9, Tryd.ntmps9
      go_wp2_with fail
      refine (HSP.out _).mono ?_
      rintro e w5 ⟨⟨v, rfl, hv⟩, b5⟩
      have R5 := Lib.hid ((b5.block _ (lt_of_block R1.out)).trans R1.out)
      have B5 := Lib.hid (bstep B1.out b5)
      have V5 : Hid (ErrH w5 v (.spot m 4)) := Lib.hid hv
      obtain ⟨sb, rfl, -⟩ := hv
      have g0 : w5.cell? ⟨hb0, 0, none⟩ = some (.int .i64 0) := by rw [cell_of_row _ _ 0 _ _ _ R5.out]; rfl
      have g1 : w5.cell? ⟨hb0, 1, none⟩ = some (.int .u64 0) := by rw [cell_of_row _ _ 1 _ _ _ R5.out]; rfl
      have g2 : w5.cell? ⟨hb0, 2, none⟩ = some (.slice none 0 0) := by rw [cell_of_row _ _ 2 _ _ _ R5.out]; rfl
      have f0 : w5.frozen? ⟨hb0, 0, none⟩ = false := frozen_of_row _ _ _ _ _ R5.out
      have f1 : w5.frozen? ⟨hb0, 1, none⟩ = false := frozen_of_row _ _ _ _ _ R5.out
      have f2 : w5.frozen? ⟨hb0, 2, none⟩ = false := frozen_of_row _ _ _ _ _ R5.out
      obtain ⟨wf, hwf, z0, z1, z2, ez⟩ := set3_cells R5.out (.int .i64 0) (.int .u64 0) (.slice none 0 0)
      have EZ := Lib.hid ez
      clear b5 HSP hw1 hwm ez
      go_wp2_with fail
      refine bodyPost_ret (by simp [results, Tryd.results9, go_sem, z0, z1, z2]; try rfl) rfl ?_
      exact HPE.out _ _ wf HE.out (by rw [← EZ.out]; exact V5.out.set3 R5.out _ _ _) (by rw [← EZ.out]; exact below_set3 B5.out (Nat.le_of_eq HHB.out) _ _ _)
    · have t2 : decide ((m : Int) < 64) = false := decide_eq_false (by omega)
      have H64 : Hid (64 ≤ bs.length ∧ m ≤ 1048576) := Lib.hid ⟨by omega, by omega⟩
      have HFA : Hid (Calls Tryd.prog 22 #[.slice (some ⟨w1.heap.size + 1, 0, none⟩) 4 4] ((w1.alloc (.cells #[.int .i64 0, .int .u64 0, .int .u64 0, .int .u64 0, .slice a m cap, .slice none 0 0] 70)).alloc (.cells #[.func (.func 23) #[.pointer (some ⟨w1.heap.size, 0, none⟩)] #[], .func (.func 24) #[.pointer (some ⟨w1.heap.size, 0, none⟩)] #[], .func (.func 25) #[.pointer (some ⟨w1.heap.size, 0, none⟩)] #[], .func (.func 26) #[.pointer (some ⟨w1.heap.size, 0, none⟩)] #[]] 72)) (FirstAns w1 w1.heap.size bs a m cap)) := Lib.hid (by
        have hb2 := ballo (Below.refl w1.heap.size w1) (.cells #[.int .i64 0, .int .u64 0, .int .u64 0, .int .u64 0, .slice a m cap, .slice none 0 0] 70)
        have hb3 := ballo hb2 (.cells (testsV w1.heap.size).toArray 72)
        have ht := heap_alloc_new (w1.alloc (.cells #[.int .i64 0, .int .u64 0, .int .u64 0, .int .u64 0, .slice a m cap, .slice none 0 0] 70)) (.cells (testsV w1.heap.size).toArray 72)
        rw [World.size_alloc] at ht
        obtain ⟨q1, q2, q3, q4⟩ := HB.out
        refine four_any w1 (w1.heap.size + 1) w1.heap.size bs a m cap _ ⟨?_, hb3, Nat.le_refl _, ⟨q1.below B1.out, q2, H64.out.2, q3, q4⟩, ⟨by show w1.heap.size + 1 ≠ w1.heap.size; omega, ht⟩⟩ (HF.out.below B1.out) H64.out.1
        show (World.alloc _ _).heap[w1.heap.size]? = _
        rw [heap_alloc_old _ _ (by simp)]
        exact heap_alloc_new _ _)
      clear h1 h2 hm
      go_enter Tryd.func9, Tryd.ntmps9
      go_wp2_with fail
      refine (HFA.out).mono ?_
      rintro e w5 hpost
      rcases hpost with ⟨v, x, rfl, hrd, hv, hb5⟩ | ⟨ps, pa, pc, x, rfl, hrd, hls, tk, hst⟩
      · have R5 := Lib.hid ((hb5.block _ (lt_of_block R1.out)).trans R1.out)
        have B5 := Lib.hid (bstep B1.out hb5)
        have V5 := Lib.hid hv
        have HRD := Lib.hid hrd
        have g0 : w5.cell? ⟨hb0, 0, none⟩ = some (.int .i64 0) := by rw [cell_of_row _ _ 0 _ _ _ R5.out]; rfl
        have g1 : w5.cell? ⟨hb0, 1, none⟩ = some (.int .u64 0) := by rw [cell_of_row _ _ 1 _ _ _ R5.out]; rfl
        have g2 : w5.cell? ⟨hb0, 2, none⟩ = some (.slice none 0 0) := by rw [cell_of_row _ _ 2 _ _ _ R5.out]; rfl
        have f0 : w5.frozen? ⟨hb0, 0, none⟩ = false := frozen_of_row _ _ _ _ _ R5.out
        have f1 : w5.frozen? ⟨hb0, 1, none⟩ = false := frozen_of_row _ _ _ _ _ R5.out
        have f2 : w5.frozen? ⟨hb0, 2, none⟩ = false := frozen_of_row _ _ _ _ _ R5.out
        obtain ⟨wf, hwf, z0, z1, z2, ez⟩ := set3_cells R5.out (.int .i64 0) (.int .u64 0) (.slice none 0 0)
        have EZ := Lib.hid ez
        have hev := hv.ev
        clear hb5 HFA hw1 hrd ez hv
        rcases hev with ⟨sx, rfl⟩ | ⟨cx, rfl⟩
        · go_wp2_with fail
          refine bodyPost_ret (by simp [results, Tryd.results9, go_sem, z0, z1, z2]; try rfl) rfl ?_
          exact HPE.out _ _ wf HRD.out (by rw [← EZ.out]; exact V5.out.set3 R5.out _ _ _) (by rw [← EZ.out]; exact below_set3 B5.out (Nat.le_of_eq HHB.out) _ _ _)
        · go_wp2_with fail
          refine bodyPost_ret (by simp [results, Tryd.results9, go_sem, z0, z1, z2]; try rfl) rfl ?_
          exact HPE.out _ _ wf HRD.out (by rw [← EZ.out]; exact V5.out.set3 R5.out _ _ _) (by rw [← EZ.out]; exact below_set3 B5.out (Nat.le_of_eq HHB.out) _ _ _)
      · obtain ⟨K, hK⟩ : ∃ K, numF bs 16 2 = K := ⟨_, rfl⟩
        obtain ⟨E, hE⟩ : ∃ E, numF bs 24 8 = E := ⟨_, rfl⟩
        rw [hK, hE] at hrd hst
        have hb5 := hst.blw
        have R5 := Lib.hid ((hb5.block _ (lt_of_block R1.out)).trans R1.out)
        have B5 := Lib.hid (bstep B1.out hb5)
        have HRD := Lib.hid hrd
        have HST := Lib.hid hst
        have g0 : w5.cell? ⟨hb0, 0, none⟩ = some (.int .i64 0) := by rw [cell_of_row _ _ 0 _ _ _ R5.out]; rfl
        have g1 : w5.cell? ⟨hb0, 1, none⟩ = some (.int .u64 0) := by rw [cell_of_row _ _ 1 _ _ _ R5.out]; rfl
        have g2 : w5.cell? ⟨hb0, 2, none⟩ = some (.slice none 0 0) := by rw [cell_of_row _ _ 2 _ _ _ R5.out]; rfl
        have f0 : w5.frozen? ⟨hb0, 0, none⟩ = false := frozen_of_row _ _ _ _ _ R5.out
        have f1 : w5.frozen? ⟨hb0, 1, none⟩ = false := frozen_of_row _ _ _ _ _ R5.out
        have f2 : w5.frozen? ⟨hb0, 2, none⟩ = false := frozen_of_row _ _ _ _ _ R5.out
        have l0 : w5.cell? ⟨w1.heap.size, 0, none⟩ = some (.int .i64 (K : Int)) := by rw [hst.at_.get]; rfl
        have l1 : w5.cell? ⟨w1.heap.size, 1, none⟩ = some (.int .u64 (E : Int)) := by rw [hst.at_.get]; rfl
        have l5 : w5.cell? ⟨w1.heap.size, 5, none⟩ = some (.slice pa ps.length pc) := by rw [hst.at_.get]; rfl
        obtain ⟨wf, hwf, z0, z1, z2, ez⟩ := set3_cells R5.out (.int .i64 (K : Int)) (.int .u64 (E : Int)) (.slice pa ps.length pc)
        have EZ := Lib.hid ez
        have HLE : Hid (w.heap.size ≤ w1.heap.size) := Lib.hid B1.out.size
        clear hb5 HFA hw1 hrd ez hst hK hE hls
        go_wp2_with fail
        refine bodyPost_ret (by simp [results, Tryd.results9, go_sem, z0, z1, z2]; try rfl) rfl ?_
        exact HPO.out K E ps pa pc wf HRD.out (by rw [← EZ.out]; exact (OwnS.mono HST.out.own HLE.out).set3 R5.out _ _ _) HST.out.wf (by rw [← EZ.out]; exact below_set3 B5.out (Nat.le_of_eq HHB.out) _ _ _)
end Go.Proofs.YtmjfkcclhbpclaaDoor
