/- Layer 9: a slice of relocations that comes in. -/
import Derived.Test.YtbmfjchpfhealaaMadeAny
import Derived.Test.YtbmfjchpfhealaaAgg
import Derived.Deep.Slices
namespace Go.Proofs.Ytbmfjchpfhealaa
open Go.RowKit Go.WideShapes Go.Deep
set_option linter.unusedVariables false
set_option linter.unusedSimpArgs false

section
variable {H : Type} {enc : TypeId × Value → H} {w : World} {base : Nat} {spare : Nat → Bool} {held : Bool}

theorem rel_of_trod {n : Nat} {cs : List Value} {y : DataW H × List MemPlace} (h : DataW.trod enc Try.prog w base spare held n 49 cs = some y) : ∃ r : RT, cs = r.cells ∧ r.can := by
  obtain ⟨xs, m, -, -, hlen, hxl, hf⟩ := DataW.trod_struct Try.underlying49 h
  have hc : Try.prog.cellsOf 49 = 4 := by kernel_rfl
  rw [hc] at hlen
  match cs, hlen with
  | [c0, c1, c2, c3], _ =>
    have g0 : DataW.trod enc Try.prog w base spare held m 23 (([c0, c1, c2, c3].drop 0).take (Try.prog.cellsOf 23)) = xs[0]? := hf 0 _ rfl
    have g1 : DataW.trod enc Try.prog w base spare held m 3 (([c0, c1, c2, c3].drop 1).take (Try.prog.cellsOf 3)) = xs[1]? := hf 1 _ rfl
    have g2 : DataW.trod enc Try.prog w base spare held m 3 (([c0, c1, c2, c3].drop 2).take (Try.prog.cellsOf 3)) = xs[2]? := hf 2 _ rfl
    have g3 : DataW.trod enc Try.prog w base spare held m 2 (([c0, c1, c2, c3].drop 3).take (Try.prog.cellsOf 2)) = xs[3]? := hf 3 _ rfl
    have k64 : Try.prog.cellsOf 23 = 1 := by kernel_rfl
    have ki : Try.prog.cellsOf 3 = 1 := by kernel_rfl
    have kl : Try.prog.cellsOf 2 = 1 := by kernel_rfl
    have hx : xs.length = 4 := by rw [hxl]; rfl
    simp only [k64, ki, kl, List.drop_succ_cons, List.drop_zero, List.take_succ_cons, List.take_zero] at g0 g1 g2 g3
    rw [List.getElem?_eq_getElem (by omega)] at g0 g1 g2 g3
    obtain ⟨x0, rfl, w0⟩ := field_int Try.underlying23 g0
    obtain ⟨x1, rfl, w1⟩ := field_int Try.underlying3 g1
    obtain ⟨x2, rfl, w2⟩ := field_int Try.underlying3 g2
    obtain ⟨x3, rfl, w3⟩ := field_int Try.underlying2 g3
    refine ⟨⟨x0, x1, x2, x3⟩, rfl, ?_⟩
    have b0 := wf_u64_bounds w0
    rw [M64_eq] at b0
    have b3 := bounds_i64 w3
    exact ⟨b0.1, b0.2, by simp only []; omega, by simp only []; omega⟩

theorem open_rels {fuel : Nat} {a : Option Addr} {len cap : Nat} {x : DataW H × List MemPlace} (h : DataW.trod enc Try.prog w base (fun _ => true) held fuel 47 [.slice a len cap] = some x) :
    ∃ rs : List RT, rs.length = len ∧ RowS w 4 a (rs.map RT.cells) ∧ (∀ r ∈ rs, r.can) ∧ len ≤ maxLen := by
  rcases open_slice Try.underlying47 h with ⟨h1, -⟩ | ⟨ad, l, c, m, n, D, Pl, h1, -, hl, hm, hmm, -, hx⟩
  · simp only [List.cons.injEq, Value.slice.injEq, and_true] at h1
    obtain ⟨rfl, rfl, rfl⟩ := h1
    exact ⟨[], rfl, (fun i hi => by simp at hi), (fun r hr => by cases hr), by simp [maxLen]⟩
  · simp only [List.cons.injEq, Value.slice.injEq, and_true] at h1
    obtain ⟨rfl, rfl, rfl⟩ := h1
    simp only [if_true] at hmm
    subst hmm
    have hc : Try.prog.cellsOf 49 = 4 := by kernel_rfl
    have each : ∀ i, i < len → ∃ r : RT, r.can ∧ ∀ j, j < 4 → w.cell? ((ad.add (i * 4)).add j) = r.cells[j]? := by
      intro i hi
      obtain ⟨cs, h2, h3⟩ := hx i (by omega)
      rw [hc] at h2
      obtain ⟨-, -, h4⟩ := World.cells?_some h2
      obtain ⟨r, rfl, hr⟩ := rel_of_trod h3
      exact ⟨r, hr, h4⟩
    haveI : Inhabited RT := ⟨⟨0, 0, 0, 0⟩⟩
    obtain ⟨q, hq⟩ := choose_lt each
    refine ⟨(List.range len).map q, by simp, ?_, ?_, by omega⟩
    · intro i hi
      have hi' : i < len := by simpa using hi
      have h0 := (hq 0 (by omega)).2 0 (by omega)
      obtain ⟨b, off, spot⟩ := ad
      have hs : spot = none := by
        have := (hq 0 (by omega)).2 0 (by omega)
        simp only [Nat.zero_mul, RT.cells, List.getElem?_cons_zero] at this
        simpa [Addr.add] using World.cell?_spot this
      subst hs
      have hcell : ∀ j, j < 4 → w.cell? ⟨b, off + i * 4 + j, none⟩ = (q i).cells[j]? := fun j hj => by
        have := (hq i hi').2 j hj
        rw [WideShapes.add_plain, WideShapes.add_plain] at this
        exact this
      refine ⟨b, off, rfl, ?_, fun j hj => ?_⟩
      · have := hcell 0 (by omega)
        simp only [RT.cells, List.getElem?_cons_zero] at this
        simpa using World.block_lt_of_cell? w _ this
      · rw [hcell j hj]
        simp
    · intro r hr
      obtain ⟨i, hi, rfl⟩ := List.mem_map.1 hr
      exact (hq i (List.mem_range.1 hi)).1
end
end Go.Proofs.Ytbmfjchpfhealaa
