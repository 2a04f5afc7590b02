/- Layer 12: which kinds of operands a row has. -/
import Derived.Test.YtmnjkaimpejohaaGreatDoorDecRow
import Derived.Test.YtmnjkaimpejohaaGreatDoorGrow
import Derived.Deep.LoopGhost
import Derived.Deep.DeepCutAuto
namespace Go.Proofs.YtmnjkaimpejohaaGreatDoor
open Go.RowKit
set_option linter.unusedVariables false
set_option linter.unusedSimpArgs false

theorem slice8d : IntSlice Tryz.prog 39 5 .u8 1 := ⟨Tryz.underlying39, by kernel_rfl⟩
set_option maxRecDepth 100000 in
set_option maxHeartbeats 8000000 in
theorem has_any (r : DRow) (ad : Option Addr) (n c : Nat) (ks : List Nat) (w : World) (hk : OwnI w 0 5 .u8 (.slice ad n c) (toI ks)) (hn : ks.length = n) (hn2 : n ≤ 1048576) :
    Calls Tryz.prog 90 #[r.v, .slice ad n c] w fun e w' => e = .returned (.bool (ks.any fun k => r.hasKind k)) ∧ Below w.heap.size w w' := by
  obtain ⟨op, cond, ⟨a1, a2⟩, ⟨b1, b2⟩, ⟨c1, c2⟩⟩ := r
  unfold DRow.v
  simp only []
  obtain ⟨CS, hCS⟩ : ∃ CS : Array Value, #[.int .u8 (op : Int), .int .u8 (cond : Int), .int .u8 (a1 : Int), .int .u8 (a2 : Int), .int .u8 (b1 : Int), .int .u8 (b2 : Int), .int .u8 (c1 : Int), .int .u8 (c2 : Int)] = CS := ⟨_, rfl⟩
  have XB : Hid ((w.alloc (.cells #[.int .u8 (op : Int), .int .u8 (cond : Int), .int .u8 (a1 : Int), .int .u8 (a2 : Int), .int .u8 (b1 : Int), .int .u8 (b2 : Int), .int .u8 (c1 : Int), .int .u8 (c2 : Int)] 104)).heap[w.heap.size]? = some (.cells #[.int .u8 (op : Int), .int .u8 (cond : Int), .int .u8 (a1 : Int), .int .u8 (a2 : Int), .int .u8 (b1 : Int), .int .u8 (b2 : Int), .int .u8 (c1 : Int), .int .u8 (c2 : Int)] 104)) := Lib.hid (heap_alloc_new _ _)
  have B1 : Hid (Below w.heap.size w (w.alloc (.cells #[.int .u8 (op : Int), .int .u8 (cond : Int), .int .u8 (a1 : Int), .int .u8 (a2 : Int), .int .u8 (b1 : Int), .int .u8 (b2 : Int), .int .u8 (c1 : Int), .int .u8 (c2 : Int)] 104))) := Lib.hid (by go_grown)
  have HK := Lib.hid (hk.below B1.out)
  have HAK : Hid (∀ k, (⟨op, cond, (a1, a2), (b1, b2), (c1, c2)⟩ : DRow).hasKind k = (a1 == k || b1 == k || c1 == k)) := Lib.hid (fun _ => rfl)
  have HN := Lib.hid hn
  obtain ⟨R, hR⟩ : ∃ R, (ks.any fun k => (⟨op, cond, (a1, a2), (b1, b2), (c1, c2)⟩ : DRow).hasKind k) = R := ⟨_, rfl⟩
  rw [hR]
  have HR := Lib.hid hR
  clear hk hR hn hCS
  go_enter Tryz.func90, Tryz.ntmps90
  go_wp2_with fail
  generalize w.alloc (.cells #[.int .u8 (op : Int), .int .u8 (cond : Int), .int .u8 (a1 : Int), .int .u8 (a2 : Int), .int .u8 (b1 : Int), .int .u8 (b2 : Int), .int .u8 (c1 : Int), .int .u8 (c2 : Int)] 104) = w1 at *
  generalize hgb : w.heap.size = gb at *
  have HGB := Lib.hid hgb
  clear hgb
  go_loopg [9] n (fun g i wr => ∃ k : Nat, k + g = n ∧ i = .int .i64 (k : Int) ∧ w1 = wr ∧ Hid (∀ j, j < k → (⟨op, cond, (a1, a2), (b1, b2), (c1, c2)⟩ : DRow).hasKind (ks.getD j 0) = false))
  case atStart => exact ⟨0, by omega, rfl, rfl, Lib.hid (fun j hj => by omega)⟩
  case round =>
    obtain ⟨k, hk, rfl, rfl, hno⟩ := hrel
    cases gk with
    | zero =>
      obtain rfl : k = n := by omega
      have hRF : R = false := by
        rw [← HR.out, List.any_eq_false]
        intro x hx
        obtain ⟨j, hj, rfl⟩ := List.getElem_of_mem hx
        have := hno.out j (by rw [← HN.out]; exact hj)
        simp only [List.getD, List.getElem?_eq_getElem hj, Option.getD_some] at this
        rw [this]
        simp
      subst hRF
      go_wp2_with fail
      go_ret
      exact ⟨rfl, by rw [HGB.out]; exact B1.out⟩
    | succ g =>
      have hlt : k < n := by omega
      obtain ⟨b, o, hab, hc⟩ := HK.out.at.2.1 k (by rw [toI_length, HN.out]; exact hlt)
      subst hab
      have q0 : w1.cell? ⟨b, o + k, none⟩ = some (.int .u8 ((ks.getD k 0 : Nat) : Int)) := by
        rw [hc]
        simp [toI, List.getD, HN.out, hlt]
      have ca : w1.cell? ⟨gb, 2, none⟩ = some (.int .u8 (a1 : Int)) := by rw [cell_of_row _ _ 2 _ _ _ XB.out]; rfl
      have cb : w1.cell? ⟨gb, 4, none⟩ = some (.int .u8 (b1 : Int)) := by rw [cell_of_row _ _ 4 _ _ _ XB.out]; rfl
      have cc : w1.cell? ⟨gb, 6, none⟩ = some (.int .u8 (c1 : Int)) := by rw [cell_of_row _ _ 6 _ _ _ XB.out]; rfl
      have i1 : (0 : Int) ≤ (k : Int) := by omega
      have i2 : (k : Int) < (n : Int) := by omega
      have HHK := Lib.hid hk
      have HQ : Hid (k < ks.length) := Lib.hid (by rw [HN.out]; exact hlt)
      have HYES : Hid (∀ x, ks.getD k 0 = x → (a1 == x || b1 == x || c1 == x) = true → R = true) := Lib.hid (fun x hx h => by
        rw [← HR.out, List.any_eq_true]
        refine ⟨ks[k]'HQ.out, List.getElem_mem _, ?_⟩
        simp only [List.getD, List.getElem?_eq_getElem HQ.out, Option.getD_some] at hx
        rw [hx, HAK.out]
        exact h)
      have HNOS : Hid (∀ x, ks.getD k 0 = x → (a1 == x || b1 == x || c1 == x) = false → ∀ j, j < k + 1 → (⟨op, cond, (a1, a2), (b1, b2), (c1, c2)⟩ : DRow).hasKind (ks.getD j 0) = false) := Lib.hid (fun x hx h j hj => by
        by_cases e : j = k
        · rw [e, hx, HAK.out]; exact h
        · exact hno.out j (by omega))
      obtain ⟨x, hx⟩ : ∃ x, ks.getD k 0 = x := ⟨_, rfl⟩
      rw [hx] at q0
      have HX := Lib.hid hx
      clear hc hk hx hno
      by_cases t1 : a1 = x
      · have d1 : ((a1 : Int) == (x : Int)) = true := by rw [t1]; simp
        go_wp2_with fail
        go_ret
        exact ⟨by rw [HYES.out x HX.out (by rw [t1]; simp)]; rfl, by rw [HGB.out]; exact B1.out⟩
      · have d1 : ((a1 : Int) == (x : Int)) = false := by rw [beq_eq_false_iff_ne]; omega
        by_cases t2 : b1 = x
        · have d2 : ((b1 : Int) == (x : Int)) = true := by rw [t2]; simp
          go_wp2_with fail
          go_ret
          exact ⟨by rw [HYES.out x HX.out (by rw [t2]; simp)]; rfl, by rw [HGB.out]; exact B1.out⟩
        · have d2 : ((b1 : Int) == (x : Int)) = false := by rw [beq_eq_false_iff_ne]; omega
          by_cases t3 : c1 = x
          · have d3 : ((c1 : Int) == (x : Int)) = true := by rw [t3]; simp
            go_wp2_with fail
            go_ret
            exact ⟨by rw [HYES.out x HX.out (by rw [t3]; simp)]; rfl, by rw [HGB.out]; exact B1.out⟩
          · have d3 : ((c1 : Int) == (x : Int)) = false := by rw [beq_eq_false_iff_ne]; omega
            go_wp2_with fail
            go_roundg g
            case measure => omega
            case rel => exact ⟨k + 1, by have := HHK.out; omega, by go_num, rfl, Lib.hid (HNOS.out x HX.out (by simp [t1, t2, t3]))⟩
end Go.Proofs.YtmnjkaimpejohaaGreatDoor
