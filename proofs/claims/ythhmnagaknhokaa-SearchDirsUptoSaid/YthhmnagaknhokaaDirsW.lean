/- Layer 14: the law SearchDirs. -/
import Derived.Test.YthhmnagaknhokaaDirsAll
import Derived.Test.YthhmnagaknhokaaSearchUp
namespace Go.Proofs.Ythhmnagaknhokaa
open Go.RowKit
set_option linter.unusedVariables false
set_option linter.unusedSimpArgs false

set_option maxRecDepth 100000 in
set_option maxHeartbeats 4000000 in
theorem same_texts_wide (a b : Option Addr) (c d m : Nat) (T : List ByteArray) (w : World) (hm : T.length = m) (hml : m ≤ 1099511627776) (ha : TRow w a T) (hb : TRow w b T) :
    Calls Try.prog 9 #[.slice a m c, .slice b m d] w fun e w' => e = .returned (.bool true) ∧ Below w.heap.size w w' := by
  have HA := Lib.hid ha; clear ha
  have HB := Lib.hid hb; clear hb
  have HM := Lib.hid hm; clear hm
  go_enter Try.func9, Try.ntmps9
  go_wp2
  go_loopg [5] m (fun g i wr => ∃ k : Nat, k + g = m ∧ i = .int .i64 k ∧ Hid (Below w.heap.size w wr))
  case atStart => exact ⟨0, by omega, rfl, Lib.hid (Below.refl _ _)⟩
  case round =>
    obtain ⟨k, hk, rfl, hdr⟩ := hrel
    cases gk with
    | zero =>
      have hk' : k = m := by omega
      clear hk
      subst hk'
      go_wp2
      go_ret
      exact ⟨rfl, hdr.out⟩
    | succ g =>
      have hlt : k < m := by omega
      obtain ⟨b1, o1, rfl, -, p0⟩ := (HA.out.below hdr.out) k (by rw [HM.out]; exact hlt)
      obtain ⟨b2, o2, rfl, -, q0⟩ := (HB.out.below hdr.out) k (by rw [HM.out]; exact hlt)
      generalize T.getD k .empty = x at *
      go_wp2
      go_quiet (fail)
      go_wp2
      go_roundg g
      case measure => omega
      case rel => exact ⟨k + 1, by omega, by go_num, Lib.hid (below_drewN hdr.out _)⟩

set_option maxRecDepth 100000 in
set_option maxHeartbeats 4000000 in
theorem searchDirs_at (name env : ByteArray) (ca : Option Addr) (n cc : Nat) (C : List OT) (secure : Bool) (w : World) (hC : CRow w ca C) (hn : C.length = n) (hnl : n ≤ 200000) (hnc : n ≤ cc) (hcn : ca = none → cc = 0) (hs : ∀ o ∈ C, Sizes o) (he : env.size ≤ 1048576) :
    Calls Try.prog 4 #[.agg #[.string name, .slice ca n cc, .string env, .bool secure]] w fun e w' => e = .returned (.bool true) ∧ Below w.heap.size w w' := by
  obtain ⟨R, hRL, hP, hQ⟩ := dirs_both name env ca n cc C secure w hC hn hnl hnc hcn hs he
  have HRL := Lib.hid hRL
  have HP := Lib.hid hP
  have HQ := Lib.hid hQ
  have HUP := Lib.hid (fun (w1 : World) => up_true w1)
  have BX : Hid ((w.alloc (.cells #[.string name, .slice ca n cc, .string env, .bool secure] 28)).heap[w.heap.size]? = some (.cells #[.string name, .slice ca n cc, .string env, .bool secure] 28)) := Lib.hid (heap_alloc_new _ _)
  have B0 : Hid (Below w.heap.size w (w.alloc (.cells #[.string name, .slice ca n cc, .string env, .bool secure] 28))) := Lib.hid ((Below.refl _ _).alloc (Nat.le_refl _) _)
  clear hRL hP hQ hC hn hnl hnc hcn hs he
  go_enter Try.func4, Try.ntmps4
  go_wp2_with fail
  refine (HUP.out _).mono ?_
  rintro e w2 ⟨rfl, hb2⟩
  have B2 := Lib.hid (bstep B0.out hb2)
  have X2 := Lib.hid ((hb2.block _ (lt_of_block BX.out)).trans BX.out)
  have k0 : w2.cell? ⟨w.heap.size, 0, none⟩ = some (.string name) := by rw [cell_of_row _ _ _ _ _ _ X2.out]; rfl
  have k1 : w2.cell? ⟨w.heap.size, 1, none⟩ = some (.slice ca n cc) := by rw [cell_of_row _ _ _ _ _ _ X2.out]; rfl
  have k2 : w2.cell? ⟨w.heap.size, 2, none⟩ = some (.string env) := by rw [cell_of_row _ _ _ _ _ _ X2.out]; rfl
  have k3 : w2.cell? ⟨w.heap.size, 3, none⟩ = some (.bool secure) := by rw [cell_of_row _ _ _ _ _ _ X2.out]; rfl
  clear hb2 B0 BX
  go_wp2_with fail
  refine (HP.out _ B2.out).mono ?_
  rintro e w3 ⟨⟨ad3, c3, rfl, ht3⟩, hb3⟩
  have B3 := Lib.hid (bstep B2.out hb3)
  have X3 := Lib.hid ((hb3.block _ (lt_of_block X2.out)).trans X2.out)
  have T3 := Lib.hid ht3
  clear k0 k1 k2 k3 hb3 ht3
  have k0 : w3.cell? ⟨w.heap.size, 0, none⟩ = some (.string name) := by rw [cell_of_row _ _ _ _ _ _ X3.out]; rfl
  have k1 : w3.cell? ⟨w.heap.size, 1, none⟩ = some (.slice ca n cc) := by rw [cell_of_row _ _ _ _ _ _ X3.out]; rfl
  have k2 : w3.cell? ⟨w.heap.size, 2, none⟩ = some (.string env) := by rw [cell_of_row _ _ _ _ _ _ X3.out]; rfl
  have k3 : w3.cell? ⟨w.heap.size, 3, none⟩ = some (.bool secure) := by rw [cell_of_row _ _ _ _ _ _ X3.out]; rfl
  go_wp2_with fail
  refine (HQ.out _ B3.out).mono ?_
  rintro e w4 ⟨⟨ad4, c4, rfl, ht4⟩, hb4⟩
  have B4 := Lib.hid (bstep B3.out hb4)
  have T4 := Lib.hid ht4
  have T34 := Lib.hid (T3.out.below hb4)
  clear k0 k1 k2 k3 hb4 ht4
  go_wp2_with fail
  refine (same_texts_wide ad3 ad4 c3 c4 R.length R w4 rfl HRL.out T34.out T4.out).mono ?_
  rintro e w5 ⟨rfl, hb5⟩
  have B5 := Lib.hid (bstep B4.out hb5)
  clear hb5
  go_wp2_with fail
  go_ret
  exact ⟨rfl, B5.out⟩
end Go.Proofs.Ythhmnagaknhokaa
