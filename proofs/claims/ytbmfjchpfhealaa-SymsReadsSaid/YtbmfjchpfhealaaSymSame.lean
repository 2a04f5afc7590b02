/- Layer 6: two lists of symbols, of the same ones. -/
import Derived.Test.YtbmfjchpfhealaaSymReads
import Derived.BigQuiet
import Derived.WalkSmall
import Derived.Deep.LoopGhost
namespace Go.Proofs.Ytbmfjchpfhealaa
open Go.RowKit
set_option linter.unusedVariables false
set_option linter.unusedSimpArgs false

theorem sym_cells {w : World} {a : Option Addr} {s t : List Nat} {n k : Nat} (h : RowS w 7 a (symsTo s t n)) (hk : k < n) {nm : ByteArray} {x1 x2 x3 x4 x5 x6 : Int} (hs : (symAt s t k).1 = [.string nm, .int .i64 x1, .int .i64 x2, .int .i64 x3, .int .i64 x4, .int .u64 x5, .int .u64 x6]) :
    ∃ b o, a = some ⟨b, o, none⟩ ∧ b < w.heap.size ∧
    w.cell? ⟨b, o + k * 7, none⟩ = some (.string nm) ∧ w.cell? ⟨b, o + k * 7 + 1, none⟩ = some (.int .i64 x1) ∧ w.cell? ⟨b, o + k * 7 + 2, none⟩ = some (.int .i64 x2) ∧ w.cell? ⟨b, o + k * 7 + 3, none⟩ = some (.int .i64 x3) ∧
    w.cell? ⟨b, o + k * 7 + 4, none⟩ = some (.int .i64 x4) ∧ w.cell? ⟨b, o + k * 7 + 5, none⟩ = some (.int .u64 x5) ∧ w.cell? ⟨b, o + k * 7 + 6, none⟩ = some (.int .u64 x6) := by
  have hl : k < (symsTo s t n).length := by simp [symsTo]; exact hk
  obtain ⟨b, o, e, hlt, hc⟩ := h k hl
  have e1 : (symsTo s t n)[k] = (symAt s t k).1 := by simp [symsTo]
  rw [e1, hs] at hc
  exact ⟨b, o, e, hlt, hc 0 (by omega), hc 1 (by omega), hc 2 (by omega), hc 3 (by omega), hc 4 (by omega), hc 5 (by omega), hc 6 (by omega)⟩

set_option maxRecDepth 100000 in
set_option maxHeartbeats 4000000 in
theorem symSame_eq (a b : Option Addr) (c d m : Nat) (s t : List Nat) (w : World) (hml : m ≤ 4096) (ha : RowS w 7 a (symsTo s t m)) (hb : RowS w 7 b (symsTo s t m)) :
    Calls Try.prog 11 #[.slice a m c, .slice b m d] w fun e w' => e = .returned (.bool true) ∧ Below w.heap.size w w' := by
  have HA := Lib.hid ha; clear ha
  have HB := Lib.hid hb; clear hb
  go_enter Try.func11, Try.ntmps11
  go_wp2
  go_loopg [5] m (fun g i wr => ∃ k : Nat, k + g = m ∧ i = .int .i64 k ∧ Hid (Below w.heap.size w wr))
  case atStart => exact ⟨0, by omega, rfl, Lib.hid (Below.refl _ _)⟩
  case round =>
    obtain ⟨k, hk, rfl, hdr⟩ := hrel
    cases gk with
    | zero =>
      have hk' : k = m := by omega
      clear hk
      subst hk'
      go_wp2
      go_ret
      exact ⟨rfl, hdr.out⟩
    | succ g =>
      have hlt : k < m := by omega
      obtain ⟨nm, x1, x2, x3, x4, x5, x6, hs⟩ := symF_shape s ((t.drop (24 * k)).take 24)
      obtain ⟨b1, o1, rfl, hl1, p0, p1, p2, p3, p4, p5, p6⟩ := sym_cells HA.out hlt hs
      obtain ⟨b2, o2, rfl, hl2, q0, q1, q2, q3, q4, q5, q6⟩ := sym_cells HB.out hlt hs
      have hd1 : ∀ j, wr.cell? ⟨b1, j, none⟩ = w.cell? ⟨b1, j, none⟩ := fun j => hdr.out.cell (p := ⟨b1, j, none⟩) hl1
      have hd2 : ∀ j, wr.cell? ⟨b2, j, none⟩ = w.cell? ⟨b2, j, none⟩ := fun j => hdr.out.cell (p := ⟨b2, j, none⟩) hl2
      rw [← hd1] at p0 p1 p2 p3 p4 p5 p6
      rw [← hd2] at q0 q1 q2 q3 q4 q5 q6
      clear hd1 hd2 hs
      go_wp2
      go_quiet (fail)
      go_wp2
      go_roundg g
      case measure => omega
      case rel => exact ⟨k + 1, by omega, by go_num, Lib.hid (below_drewN hdr.out _)⟩
end Go.Proofs.Ytbmfjchpfhealaa
