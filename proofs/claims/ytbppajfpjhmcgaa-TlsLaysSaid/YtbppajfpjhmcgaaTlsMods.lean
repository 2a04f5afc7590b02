/- Layer 18: modules, as they come in. -/
import Derived.Test.YtbppajfpjhmcgaaOpenF
import Derived.Test.YtbppajfpjhmcgaaTlsLay
namespace Go.Proofs.Ytbppajfpjhmcgaa
open Go.RowKit Go.WideShapes Go.Deep
set_option linter.unusedVariables false
set_option linter.unusedSimpArgs false

section
variable {H : Type} {enc : TypeId × Value → H} {w : World} {base : Nat} {held : Bool}

set_option maxRecDepth 100000 in
theorem open_mods {fuel : Nat} {c : Value} {x : DataW H × List MemPlace} (h : DataW.trod enc Try.prog w base (fun _ => true) held fuel 22 [c] = some x) (hw : ∀ n ∈ x.1.weights Try.prog 22, n ≤ reachBytes) :
    ∃ (a : Option Addr) (cap : Nat) (l : List Md), c = .slice a l.length cap ∧ MRow w a l ∧ l.length ≤ cap ∧ l.length ≤ 17592186044416 := by
  rcases open_slice_w Try.underlying22 h hw with rfl | ⟨ad, len, cap, n, rfl, hl, hm, hb, hx⟩
  · exact ⟨none, 0, [], rfl, (fun i hi => by simp at hi), by simp, by simp⟩
  · have hc : Try.prog.cellsOf 37 = 3 := by kernel_rfl
    have hby : Try.prog.bytesOf 37 = 40 := by kernel_rfl
    rw [hby] at hb
    have each : ∀ i, i < len → ∃ m : Md, ∃ ia ic, w.cell? (ad.add (i * 3)) = some (.slice ia m.il ic) ∧ w.cell? ((ad.add (i * 3)).add 1) = some (.int .u64 (m.size : Int)) ∧ w.cell? ((ad.add (i * 3)).add 2) = some (.int .u64 (m.al : Int)) ∧ m.il ≤ 140737488355328 ∧ m.size < 18446744073709551616 ∧ m.al < 18446744073709551616 := by
      intro i hi
      obtain ⟨cs, y, h2, h3, h4⟩ := hx i (by omega)
      rw [hc] at h2
      obtain ⟨-, hlen, h5⟩ := World.cells?_some h2
      match cs, hlen with
      | [c0, c1, c2], _ =>
        obtain ⟨m0, x0, t0, u0⟩ : ∃ m x, DataW.trod enc Try.prog w base (fun _ => true) held m 35 (([c0, c1, c2].drop 0).take (Try.prog.cellsOf 35)) = some x ∧ ∀ k ∈ x.1.weights Try.prog 35, k ≤ reachBytes := field_w Try.underlying37 h3 (h4 hi) (j := 0) rfl
        obtain ⟨m1, x1, t1, u1⟩ : ∃ m x, DataW.trod enc Try.prog w base (fun _ => true) held m 25 (([c0, c1, c2].drop 1).take (Try.prog.cellsOf 25)) = some x ∧ ∀ k ∈ x.1.weights Try.prog 25, k ≤ reachBytes := field_w Try.underlying37 h3 (h4 hi) (j := 1) rfl
        obtain ⟨m2, x2, t2, u2⟩ : ∃ m x, DataW.trod enc Try.prog w base (fun _ => true) held m 25 (([c0, c1, c2].drop 2).take (Try.prog.cellsOf 25)) = some x ∧ ∀ k ∈ x.1.weights Try.prog 25, k ≤ reachBytes := field_w Try.underlying37 h3 (h4 hi) (j := 2) rfl
        have k1 : Try.prog.cellsOf 25 = 1 := by kernel_rfl
        have k4 : Try.prog.cellsOf 35 = 1 := by kernel_rfl
        simp only [k1, k4, List.drop_succ_cons, List.drop_zero, List.take_succ_cons, List.take_zero] at t0 t1 t2
        obtain ⟨s, rfl, w1⟩ := field_int Try.underlying25 t1
        obtain ⟨al, rfl, w2⟩ := field_int Try.underlying25 t2
        have b1 := wf_u64_bounds w1
        have b2 := wf_u64_bounds w2
        rw [M64_eq] at b1 b2
        obtain ⟨ia, il, ic, rfl, hil⟩ : ∃ ia il ic, c0 = .slice ia il ic ∧ il ≤ 140737488355328 := by
          rcases open_slice_w Try.underlying35 t0 u0 with rfl | ⟨ad', l', c', n', rfl, hl', hm', hb', -⟩
          · exact ⟨none, 0, 0, rfl, by omega⟩
          · have hb1 : Try.prog.bytesOf 5 = 1 := by kernel_rfl
            rw [hb1] at hb'
            have hr : reachBytes ≤ 140737488355328 := by decide
            exact ⟨_, _, _, rfl, by omega⟩
        have q0 := h5 0 (by omega)
        have q1 := h5 1 (by omega)
        have q2 := h5 2 (by omega)
        refine ⟨⟨il, s.toNat, al.toNat⟩, ia, ic, ?_, ?_, ?_, hil, by show s.toNat < _; omega, by show al.toNat < _; omega⟩
        · have e : (ad.add (i * 3)).add 0 = ad.add (i * 3) := by obtain ⟨b, o, sp⟩ := ad; cases sp <;> rfl
          rw [e] at q0
          exact q0
        · rw [q1]
          show some (Value.int .u64 s) = _
          rw [show ((s.toNat : Nat) : Int) = s from by omega]
        · rw [q2]
          show some (Value.int .u64 al) = _
          rw [show ((al.toNat : Nat) : Int) = al from by omega]
    haveI : Inhabited Md := ⟨⟨0, 0, 0⟩⟩
    obtain ⟨q, hq⟩ := choose_lt each
    have hr : reachBytes ≤ 140737488355328 := by decide
    refine ⟨some ad, cap, (List.range len).map q, by simp, ?_, by simpa using hl, by simp; omega⟩
    intro i hi
    have hi' : i < len := by simpa using hi
    obtain ⟨ia, ic, g0, g1, g2, g3, g4, g5⟩ := hq i hi'
    obtain ⟨ia0, ic0, g00, -⟩ := hq 0 (by omega)
    rw [Nat.zero_mul] at g00
    obtain ⟨b, off, rfl⟩ := adN g00
    rw [WideShapes.add_plain] at g0 g1 g2
    rw [WideShapes.add_plain] at g1 g2
    have e : ((List.range len).map q)[i] = q i := by simp
    rw [e]
    exact ⟨b, off, ia, ic, rfl, by simpa using World.block_lt_of_cell? w _ g0, g0, g1, g2, g3, g4, g5⟩
end

end Go.Proofs.Ytbppajfpjhmcgaa
