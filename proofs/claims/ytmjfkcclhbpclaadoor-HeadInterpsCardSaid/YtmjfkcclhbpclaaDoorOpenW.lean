/- What comes in, as the frame reads it, with what it weighs: structs, slices, texts. Nothing of the program is named. -/
import Derived.Test.YtmjfkcclhbpclaaDoorBase
import Derived.Test.YtmjfkcclhbpclaaDoorAgg
import Derived.Deep.Slices
import Derived.SizedLaws
namespace Go.Proofs.YtmjfkcclhbpclaaDoor
open Go.RowKit Go.WideShapes Go.Deep
set_option linter.unusedVariables false
set_option linter.unusedSimpArgs false

section
variable {H : Type} {enc : TypeId × Value → H} {P : Program} {w : World} {base : Nat} {spare : Nat → Bool} {held : Bool}

/-- a struct's fields, one cell each, and what they weigh -/
theorem open_fields_w {r : Reach} {b0 N : Nat} {t : TypeId} {fs : Array Field} {v : Value} {d : DataW H} {p : List MemPlace} (ht : P.underlying t = some (.struct fs)) (hone : oneCellFields P fs = true) (hC : P.cellsOf t = N)
    (hv : Value.okWide P w r b0 t v) (h : DataW.Trod enc P w base spare held t v d p) (hw : ∀ n ∈ d.weights P t, n ≤ reachBytes) :
    ∃ (cs : List Value) (n : Nat), v = .agg cs.toArray ∧ cs.length = N ∧ ∀ (j : Nat) (f : Field), fs[j]? = some f → j < N → ∃ c y, cs[j]? = some c ∧ DataW.trod enc P w base spare held n f.type [c] = some y ∧ ∀ k ∈ y.1.weights P f.type, k ≤ reachBytes := by
  obtain ⟨cs, rfl, hsz⟩ := okWide_struct ht hv
  obtain ⟨fuel, hf⟩ := h
  obtain ⟨xs, n, -, hx, -, hlen, hg⟩ := DataW.trod_struct ht hf
  simp only [Prod.mk.injEq] at hx
  obtain ⟨rfl, -⟩ := hx
  refine ⟨cs.toList, n, by simp, by simp [hsz, hC], fun j f hj hN => ?_⟩
  obtain ⟨ho, hk⟩ := hone_of hone j f hj
  have hjl : j < fs.size := (Array.getElem?_eq_some_iff.1 hj).1
  have h1 := hg j f hj
  have hcl : j < cs.toList.length := by rw [Array.length_toList]; omega
  have e1 : ((Value.agg cs).cells.toList.drop f.offset).take (P.cellsOf f.type) = [cs.toList[j]] := by
    rw [ho, hk]
    show (cs.toList.drop j).take 1 = _
    rw [List.drop_eq_getElem_cons hcl]
    rfl
  have hxj : j < xs.length := by omega
  rw [e1, List.getElem?_eq_getElem hxj] at h1
  refine ⟨_, _, List.getElem?_eq_getElem hcl, h1, fun k hk => hw k ?_⟩
  simp only [DataW.weights, ht]
  refine DataW.weights_mem_each (j := j) (t := f.type) (d := xs[j].1) ?_ ?_ k hk
  · rw [List.getElem?_map, Array.getElem?_toList, hj]; rfl
  · rw [List.getElem?_map, List.getElem?_eq_getElem hxj]; rfl

/-- a slice: its elements, and what they weigh -/
theorem open_slice_w {t e : TypeId} {fuel : Nat} {c : Value} {x : DataW H × List MemPlace} (ht : P.underlying t = some (.slice e)) (h : DataW.trod enc P w base (fun _ => true) held fuel t [c] = some x) (hw : ∀ n ∈ x.1.weights P t, n ≤ reachBytes) :
    (c = .slice none 0 0) ∨
    ∃ (a : Addr) (len cap n : Nat), c = .slice (some a) len cap ∧ len ≤ cap ∧ cap ≤ maxLen ∧ cap * P.bytesOf e ≤ reachBytes ∧
      ∀ i, i < cap → ∃ cs' y, w.cells? base (a.add (i * P.cellsOf e)) (P.cellsOf e) = some cs' ∧ DataW.trod enc P w base (fun _ => true) held n e cs' = some y ∧ (i < len → ∀ k ∈ y.1.weights P e, k ≤ reachBytes) := by
  rcases open_slice ht h with ⟨h1, -⟩ | ⟨ad, l, cp, m, n, D, Pl, h1, -, hl, hm, hmm, hx, hy⟩
  · left
    simpa using h1
  · right
    simp only [if_true] at hmm
    subst hmm hx
    refine ⟨ad, l, m, n, by simpa using h1, hl, hm, ?_, fun i hi => ?_⟩
    · have := hw ((((List.range l).map D).length + ((List.range (m - l)).map fun j => D (l + j)).length) * P.bytesOf e) (by simp [DataW.weights, ht])
      simpa [show l + (m - l) = m from by omega] using this
    · obtain ⟨cs', h2, h3⟩ := hy i hi
      refine ⟨cs', _, h2, h3, fun hil k hk => hw k ?_⟩
      simp only [DataW.weights, ht, List.mem_cons, List.mem_append]
      right; left
      have : ∀ (l : List (DataW H)) (d : DataW H), d ∈ l → ∀ k ∈ d.weights P e, k ∈ DataW.weightsAll P e l := by
        intro l
        induction l with
        | nil => intro d hd; cases hd
        | cons d0 l ih =>
          intro d hd k hk
          simp only [DataW.weightsAll, List.mem_append]
          rcases List.mem_cons.1 hd with rfl | hd
          · exact .inl hk
          · exact .inr (ih d hd k hk)
      exact this _ (D i) (List.mem_map.2 ⟨i, List.mem_range.2 hil, rfl⟩) k hk
theorem field_string_w {n : Nat} {t : TypeId} {c : Value} {y : DataW H × List MemPlace} (ht : P.underlying t = some .string) (h : DataW.trod enc P w base spare held n t [c] = some y) (hw : ∀ k ∈ y.1.weights P t, k ≤ reachBytes) : ∃ x : ByteArray, c = .string x ∧ x.size ≤ reachBytes := by
  obtain ⟨x, hc, hy, -⟩ := DataW.trod_string ht h
  refine ⟨x, by simpa using hc, ?_⟩
  have hy1 : y.1 = .lit (.string x.data.toList) := by rw [hy]
  have := hw x.data.toList.length (by rw [hy1]; simp [DataW.weights])
  simpa using this
end

end Go.Proofs.YtmjfkcclhbpclaaDoor
