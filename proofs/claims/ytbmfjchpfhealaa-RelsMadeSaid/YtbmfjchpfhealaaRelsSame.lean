/- Layer 9: two lists of relocations, of the same ones. -/
import Derived.Test.YtbmfjchpfhealaaRel
import Derived.BigQuiet
import Derived.WalkSmall
import Derived.Deep.LoopGhost
namespace Go.Proofs.Ytbmfjchpfhealaa
open Go.RowKit
set_option linter.unusedVariables false
set_option linter.unusedSimpArgs false

theorem cells_at {w : World} {a : Option Addr} {rs : List RT} (h : RowS w 4 a (rs.map RT.cells)) {k : Nat} (hk : k < rs.length) : ∃ b o, a = some ⟨b, o, none⟩ ∧ b < w.heap.size ∧
    w.cell? ⟨b, o + k * 4, none⟩ = some (.int .u64 rs[k].off) ∧ w.cell? ⟨b, o + k * 4 + 1, none⟩ = some (.int .i64 rs[k].ty) ∧ w.cell? ⟨b, o + k * 4 + 2, none⟩ = some (.int .i64 rs[k].sym) ∧ w.cell? ⟨b, o + k * 4 + 3, none⟩ = some (.int .i64 rs[k].add) := by
  obtain ⟨b, o, e, hlt, hc⟩ := h k (by simpa using hk)
  have g : ∀ j, j < 4 → w.cell? ⟨b, o + k * 4 + j, none⟩ = rs[k].cells[j]? := fun j hj => by rw [hc j hj]; simp
  exact ⟨b, o, e, hlt, g 0 (by omega), g 1 (by omega), g 2 (by omega), g 3 (by omega)⟩

set_option maxRecDepth 100000 in
set_option maxHeartbeats 4000000 in
theorem same_eq (a b : Option Addr) (c d m : Nat) (rs : List RT) (w : World) (hm : rs.length = m) (hml : m ≤ 140737488351232) (ha : RowS w 4 a (rs.map RT.cells)) (hb : RowS w 4 b (rs.map RT.cells)) :
    Calls Try.prog 15 #[.slice a m c, .slice b m d] w fun e w' => e = .returned (.bool true) ∧ Below w.heap.size w w' := by
  have HA := Lib.hid ha; clear ha
  have HB := Lib.hid hb; clear hb
  have HM := Lib.hid hm; clear hm
  go_enter Try.func15, Try.ntmps15
  go_wp2
  go_loopg [5] m (fun g i wr => ∃ k : Nat, k + g = m ∧ i = .int .i64 k ∧ Hid (Below w.heap.size w wr))
  case atStart => exact ⟨0, by omega, rfl, Lib.hid (Below.refl _ _)⟩
  case round =>
    obtain ⟨k, hk, rfl, hdr⟩ := hrel
    cases gk with
    | zero =>
      have hk' : k = m := by omega
      clear hk
      subst hk'
      go_wp2
      go_ret
      exact ⟨rfl, hdr.out⟩
    | succ g =>
      have hlt : k < m := by omega
      obtain ⟨b1, o1, rfl, hl1, p0, p1, p2, p3⟩ := cells_at HA.out (k := k) (by rw [HM.out]; exact hlt)
      obtain ⟨b2, o2, rfl, hl2, q0, q1, q2, q3⟩ := cells_at HB.out (k := k) (by rw [HM.out]; exact hlt)
      have hd1 : ∀ j, wr.cell? ⟨b1, j, none⟩ = w.cell? ⟨b1, j, none⟩ := fun j => hdr.out.cell (p := ⟨b1, j, none⟩) hl1
      have hd2 : ∀ j, wr.cell? ⟨b2, j, none⟩ = w.cell? ⟨b2, j, none⟩ := fun j => hdr.out.cell (p := ⟨b2, j, none⟩) hl2
      rw [← hd1] at p0 p1 p2 p3
      rw [← hd2] at q0 q1 q2 q3
      clear hd1 hd2
      generalize rs[k]'(by rw [HM.out]; exact hlt) = r at *
      go_wp2
      go_quiet (fail)
      go_wp2
      go_roundg g
      case measure => omega
      case rel => exact ⟨k + 1, by omega, by go_num, Lib.hid (below_drewN hdr.out _)⟩
end Go.Proofs.Ytbmfjchpfhealaa
