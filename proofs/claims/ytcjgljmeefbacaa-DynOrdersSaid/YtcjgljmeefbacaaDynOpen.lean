/- Layer 5: a slice of entries that comes in. -/
import Derived.Test.YtcjgljmeefbacaaDynSec
import Derived.Test.YtcjgljmeefbacaaAgg
import Derived.Deep.Slices
namespace Go.Proofs.Ytcjgljmeefbacaa
open Go.RowKit Go.WideShapes Go.Deep
set_option linter.unusedVariables false
set_option linter.unusedSimpArgs false

section
variable {H : Type} {enc : TypeId × Value → H} {w : World} {base : Nat} {spare : Nat → Bool} {held : Bool}

theorem ent_of_trod {n : Nat} {cs : List Value} {y : DataW H × List MemPlace} (h : DataW.trod enc Try.prog w base spare held n 28 cs = some y) : ∃ e : Nat × Nat, cs = entR e ∧ U64P e := by
  obtain ⟨xs, m, -, -, hlen, hxl, hf⟩ := DataW.trod_struct Try.underlying28 h
  have hc : Try.prog.cellsOf 28 = 2 := by kernel_rfl
  rw [hc] at hlen
  match cs, hlen with
  | [c0, c1], _ =>
    have g0 : DataW.trod enc Try.prog w base spare held m 26 (([c0, c1].drop 0).take (Try.prog.cellsOf 26)) = xs[0]? := hf 0 _ rfl
    have g1 : DataW.trod enc Try.prog w base spare held m 26 (([c0, c1].drop 1).take (Try.prog.cellsOf 26)) = xs[1]? := hf 1 _ rfl
    have k64 : Try.prog.cellsOf 26 = 1 := by kernel_rfl
    have hx : xs.length = 2 := by rw [hxl]; rfl
    simp only [k64, List.drop_succ_cons, List.drop_zero, List.take_succ_cons, List.take_zero] at g0 g1
    rw [List.getElem?_eq_getElem (by omega)] at g0 g1
    obtain ⟨x0, rfl, w0⟩ := field_int Try.underlying26 g0
    obtain ⟨x1, rfl, w1⟩ := field_int Try.underlying26 g1
    have b0 := wf_u64_bounds w0
    have b1 := wf_u64_bounds w1
    rw [M64_eq] at b0 b1
    refine ⟨(x0.toNat, x1.toNat), ?_, ?_⟩
    · unfold entR
      simp only []
      rw [Int.toNat_of_nonneg b0.1, Int.toNat_of_nonneg b1.1]
    · exact ⟨by simp only []; omega, by simp only []; omega⟩

theorem open_ents {fuel : Nat} {a : Option Addr} {len cap : Nat} {x : DataW H × List MemPlace} (h : DataW.trod enc Try.prog w base (fun _ => true) held fuel 22 [.slice a len cap] = some x) :
    ∃ es : List (Nat × Nat), es.length = len ∧ RowS w 2 a (es.map entR) ∧ (∀ e ∈ es, U64P e) ∧ len ≤ maxLen := by
  rcases open_slice Try.underlying22 h with ⟨h1, -⟩ | ⟨ad, l, c, m, n, D, Pl, h1, -, hl, hm, hmm, -, hx⟩
  · simp only [List.cons.injEq, Value.slice.injEq, and_true] at h1
    obtain ⟨rfl, rfl, rfl⟩ := h1
    exact ⟨[], rfl, (fun i hi => by simp at hi), (fun r hr => by cases hr), by simp [maxLen]⟩
  · simp only [List.cons.injEq, Value.slice.injEq, and_true] at h1
    obtain ⟨rfl, rfl, rfl⟩ := h1
    simp only [if_true] at hmm
    subst hmm
    have hc : Try.prog.cellsOf 28 = 2 := by kernel_rfl
    have each : ∀ i, i < len → ∃ e : Nat × Nat, U64P e ∧ ∀ j, j < 2 → w.cell? ((ad.add (i * 2)).add j) = (entR e)[j]? := by
      intro i hi
      obtain ⟨cs, h2, h3⟩ := hx i (by omega)
      rw [hc] at h2
      obtain ⟨-, -, h4⟩ := World.cells?_some h2
      obtain ⟨r, rfl, hr⟩ := ent_of_trod h3
      exact ⟨r, hr, h4⟩
    obtain ⟨q, hq⟩ := choose_lt each
    refine ⟨(List.range len).map q, by simp, ?_, ?_, by omega⟩
    · intro i hi
      have hi' : i < len := by simpa using hi
      obtain ⟨b, off, spot⟩ := ad
      have hs : spot = none := by
        have := (hq 0 (by omega)).2 0 (by omega)
        simp only [Nat.zero_mul, entR, List.getElem?_cons_zero] at this
        simpa [Addr.add] using World.cell?_spot this
      subst hs
      have hcell : ∀ j, j < 2 → w.cell? ⟨b, off + i * 2 + j, none⟩ = (entR (q i))[j]? := fun j hj => by
        have := (hq i hi').2 j hj
        rw [WideShapes.add_plain, WideShapes.add_plain] at this
        exact this
      refine ⟨b, off, rfl, ?_, fun j hj => ?_⟩
      · have := hcell 0 (by omega)
        simp only [entR, List.getElem?_cons_zero] at this
        simpa using World.block_lt_of_cell? w _ this
      · rw [hcell j hj]
        simp
    · intro r hr
      obtain ⟨i, hi, rfl⟩ := List.mem_map.1 hr
      exact (hq i (List.mem_range.1 hi)).1
end
/-- a slice of bytes that comes in -/
theorem brow_of {w : World} {a : Option Addr} {len cap : Nat} {zs : List Int} (h : IsRow .u8 w a len cap zs) : ∃ bs : List Nat, bs.length = len ∧ BRow w a bs ∧ (a = none → len = 0 ∧ cap = 0) ∧ len ≤ cap := by
  obtain ⟨xs, hl, hr, hw, hc, -, hn⟩ := h.row
  have hb : ∀ x ∈ xs, 0 ≤ x ∧ x < 256 := fun x hx => wf_u8_bounds (hw x hx)
  obtain ⟨ys, rfl⟩ := toI_nats (fun x hx => (hb x hx).1)
  refine ⟨ys, by rw [hl, toI_length], ⟨hr, fun b hb' => ?_⟩, hn, hc⟩
  have := (hb (b : Int) (by unfold toI; exact List.mem_map.2 ⟨b, hb', rfl⟩)).2
  omega
theorem irow_of {w : World} {a : Option Addr} {len cap : Nat} {zs : List Int} (h : IsRow .i64 w a len cap zs) : ∃ xs : List Int, xs.length = len ∧ Row .i64 w a xs ∧ (∀ x ∈ xs, -9223372036854775808 ≤ x ∧ x < 9223372036854775808) ∧ len ≤ cap := by
  obtain ⟨xs, hl, hr, hw, hc, -, -⟩ := h.row
  refine ⟨xs, hl.symm, hr, fun x hx => ?_, hc⟩
  have := bounds_i64 (hw x hx)
  omega
end Go.Proofs.Ytcjgljmeefbacaa
