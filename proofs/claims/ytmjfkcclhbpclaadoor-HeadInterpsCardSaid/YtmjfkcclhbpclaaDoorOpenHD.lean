/- Layers 4 and 5: a header and what a dynamic section tells, as they come in. -/
import Derived.Test.YtmjfkcclhbpclaaDoorDyn
import Derived.Test.YtmjfkcclhbpclaaDoorDynNum
import Derived.Test.YtmjfkcclhbpclaaDoorAgg
import Derived.Test.YtmjfkcclhbpclaaDoorOpenW
import Derived.Deep.Slices
import Derived.SizedLaws
namespace Go.Proofs.YtmjfkcclhbpclaaDoor
open Go.RowKit Go.WideShapes Go.Deep
set_option linter.unusedVariables false
set_option linter.unusedSimpArgs false


section
variable {H : Type} {enc : TypeId × Value → H} {w : World} {base : Nat} {spare : Nat → Bool} {held : Bool}

theorem wf_u32_nat {n : Int} (h : (Lit.int .u32 n).wf = true) : ∃ m : Nat, n = (m : Int) ∧ m < 4294967296 := by
  have := bounds_u32 h
  exact ⟨n.toNat, by omega, by omega⟩
theorem wf_u64_nat {n : Int} (h : (Lit.int .u64 n).wf = true) : ∃ m : Nat, n = (m : Int) ∧ m < 18446744073709551616 := by
  have := bounds_u64 h
  exact ⟨n.toNat, by omega, by omega⟩

set_option maxRecDepth 100000 in
theorem prog_of_trod {n : Nat} {cs : List Value} {y : DataW H × List MemPlace} (h : DataW.trod enc Tryd.prog w base spare held n 37 cs = some y) : ∃ r : PT, cs = r.cells ∧ r.wf := by
  obtain ⟨xs, m, -, -, hlen, hxl, hf⟩ := DataW.trod_struct Tryd.underlying37 h
  have hc : Tryd.prog.cellsOf 37 = 7 := by kernel_rfl
  rw [hc] at hlen
  match cs, hlen with
  | [c0, c1, c2, c3, c4, c5, c6], _ =>
    have k64 : Tryd.prog.cellsOf 22 = 1 := by kernel_rfl
    have k32 : Tryd.prog.cellsOf 35 = 1 := by kernel_rfl
    have g0 : DataW.trod enc Tryd.prog w base spare held m 35 (([c0, c1, c2, c3, c4, c5, c6].drop 0).take (Tryd.prog.cellsOf 35)) = xs[0]? := hf 0 _ rfl
    have g1 : DataW.trod enc Tryd.prog w base spare held m 35 (([c0, c1, c2, c3, c4, c5, c6].drop 1).take (Tryd.prog.cellsOf 35)) = xs[1]? := hf 1 _ rfl
    have g2 : DataW.trod enc Tryd.prog w base spare held m 22 (([c0, c1, c2, c3, c4, c5, c6].drop 2).take (Tryd.prog.cellsOf 22)) = xs[2]? := hf 2 _ rfl
    have g3 : DataW.trod enc Tryd.prog w base spare held m 22 (([c0, c1, c2, c3, c4, c5, c6].drop 3).take (Tryd.prog.cellsOf 22)) = xs[3]? := hf 3 _ rfl
    have g4 : DataW.trod enc Tryd.prog w base spare held m 22 (([c0, c1, c2, c3, c4, c5, c6].drop 4).take (Tryd.prog.cellsOf 22)) = xs[4]? := hf 4 _ rfl
    have g5 : DataW.trod enc Tryd.prog w base spare held m 22 (([c0, c1, c2, c3, c4, c5, c6].drop 5).take (Tryd.prog.cellsOf 22)) = xs[5]? := hf 5 _ rfl
    have g6 : DataW.trod enc Tryd.prog w base spare held m 22 (([c0, c1, c2, c3, c4, c5, c6].drop 6).take (Tryd.prog.cellsOf 22)) = xs[6]? := hf 6 _ rfl
    have hx : xs.length = 7 := by rw [hxl]; rfl
    simp only [k64, k32, List.drop_succ_cons, List.drop_zero, List.take_succ_cons, List.take_zero] at g0 g1 g2 g3 g4 g5 g6
    rw [List.getElem?_eq_getElem (by omega)] at g0 g1 g2 g3 g4 g5 g6
    obtain ⟨x0, rfl, w0⟩ := field_int Tryd.underlying35 g0
    obtain ⟨m0, rfl, b0⟩ := wf_u32_nat w0
    obtain ⟨x1, rfl, w1⟩ := field_int Tryd.underlying35 g1
    obtain ⟨m1, rfl, b1⟩ := wf_u32_nat w1
    obtain ⟨x2, rfl, w2⟩ := field_int Tryd.underlying22 g2
    obtain ⟨m2, rfl, b2⟩ := wf_u64_nat w2
    obtain ⟨x3, rfl, w3⟩ := field_int Tryd.underlying22 g3
    obtain ⟨m3, rfl, b3⟩ := wf_u64_nat w3
    obtain ⟨x4, rfl, w4⟩ := field_int Tryd.underlying22 g4
    obtain ⟨m4, rfl, b4⟩ := wf_u64_nat w4
    obtain ⟨x5, rfl, w5⟩ := field_int Tryd.underlying22 g5
    obtain ⟨m5, rfl, b5⟩ := wf_u64_nat w5
    obtain ⟨x6, rfl, w6⟩ := field_int Tryd.underlying22 g6
    obtain ⟨m6, rfl, b6⟩ := wf_u64_nat w6
    exact ⟨⟨m0, m1, m2, m3, m4, m5, m6⟩, rfl, b0, b1, b2, b3, b4, b5, b6⟩

set_option maxRecDepth 100000 in
theorem open_progs {fuel : Nat} {c : Value} {x : DataW H × List MemPlace} (h : DataW.trod enc Tryd.prog w base (fun _ => true) held fuel 23 [c] = some x) (hw : ∀ n ∈ x.1.weights Tryd.prog 23, n ≤ reachBytes) :
    ∃ (a : Option Addr) (cap : Nat) (ps : List PT), c = .slice a ps.length cap ∧ PRow w a ps ∧ ps.length ≤ 140737488351232 := by
  rcases open_slice_w Tryd.underlying23 h hw with rfl | ⟨ad, len, cap, n, rfl, hl, hm, hb, hx⟩
  · exact ⟨none, 0, [], rfl, (fun i hi => by simp at hi), by simp⟩
  · have hc : Tryd.prog.cellsOf 37 = 7 := by kernel_rfl
    have hby : Tryd.prog.bytesOf 37 = 48 := by kernel_rfl
    rw [hby] at hb
    have each : ∀ i, i < len → ∃ r : PT, r.wf ∧ ∀ j, j < 7 → w.cell? ((ad.add (i * 7)).add j) = r.cells[j]? := by
      intro i hi
      obtain ⟨cs, y, h2, h3, -⟩ := hx i (by omega)
      rw [hc] at h2
      obtain ⟨-, -, h4⟩ := World.cells?_some h2
      obtain ⟨r, rfl, hr⟩ := prog_of_trod h3
      exact ⟨r, hr, h4⟩
    haveI : Inhabited PT := ⟨PT.zero⟩
    obtain ⟨q, hq⟩ := choose_lt each
    refine ⟨some ad, cap, (List.range len).map q, by simp, ?_, by simp [reachBytes] at hb ⊢; omega⟩
    intro i hi
    have hi' : i < len := by simpa using hi
    obtain ⟨b, off, spot⟩ := ad
    have hs : spot = none := by
      have := (hq 0 (by omega)).2 0 (by omega)
      simp only [Nat.zero_mul, PT.cells, List.getElem?_cons_zero] at this
      simpa [Addr.add] using World.cell?_spot this
    subst hs
    have hcell : ∀ j, j < 7 → w.cell? ⟨b, off + i * 7 + j, none⟩ = (q i).cells[j]? := fun j hj => by
      have := (hq i hi').2 j hj
      rw [WideShapes.add_plain, WideShapes.add_plain] at this
      exact this
    refine ⟨by simpa using (hq i hi').1, b, off, rfl, ?_, fun j hj => ?_⟩
    · have := hcell 0 (by omega)
      simp only [PT.cells, List.getElem?_cons_zero] at this
      simpa using World.block_lt_of_cell? w _ this
    · rw [hcell j hj]
      simp

set_option maxRecDepth 100000 in
theorem open_head {r : Reach} {b0 : Nat} {v : Value} {d : DataW H} {p : List MemPlace} (hv : Value.okWide Tryd.prog w r b0 25 v) (h : DataW.Trod enc Tryd.prog w base (fun _ => true) held 25 v d p) (hw : ∀ n ∈ d.weights Tryd.prog 25, n ≤ reachBytes) :
    ∃ (ty en : Int) (a : Option Addr) (cap : Nat) (ps : List PT), v = headV ty en a ps.length cap ∧ (Lit.int .i64 ty).wf = true ∧ (Lit.int .u64 en).wf = true ∧ PRow w a ps ∧ ps.length ≤ 140737488351232 := by
  obtain ⟨cs, fu, rfl, hl, hf⟩ := open_fields_w (N := 3) Tryd.underlying25 (by kernel_rfl) (by kernel_rfl) hv h hw
  obtain ⟨c0, y0, e0, t0, -⟩ := hf 0 _ rfl (by omega)
  obtain ⟨x0, rfl, w0⟩ := field_int Tryd.underlying3 t0
  obtain ⟨c1, y1, e1, t1, -⟩ := hf 1 _ rfl (by omega)
  obtain ⟨x1, rfl, w1⟩ := field_int Tryd.underlying22 t1
  obtain ⟨c2, y2, e2, t2, u2⟩ := hf 2 _ rfl (by omega)
  obtain ⟨a, cap, ps, rfl, hp, hpl⟩ := open_progs t2 u2
  obtain rfl := list3 hl e0 e1 e2
  exact ⟨x0, x1, a, cap, ps, rfl, w0, w1, hp, hpl⟩




























































































































end
end Go.Proofs.YtmjfkcclhbpclaaDoor
