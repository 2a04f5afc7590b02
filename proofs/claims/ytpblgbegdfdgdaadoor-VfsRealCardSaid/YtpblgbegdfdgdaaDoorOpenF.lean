/- What comes in: fields of structs, wherever their cells stand. Nothing of the program is named. -/
import Derived.Test.YtpblgbegdfdgdaaDoorAgg
import Derived.Test.YtpblgbegdfdgdaaDoorOpenW
import Derived.Deep.Slices
import Derived.SizedLaws
namespace Go.Proofs.YtpblgbegdfdgdaaDoor
open Go.RowKit Go.WideShapes Go.Deep
set_option linter.unusedVariables false
set_option linter.unusedSimpArgs false

section
variable {H : Type} {enc : TypeId × Value → H} {P : Program} {w : World} {base : Nat} {spare : Nat → Bool} {held : Bool}

/-- a struct's field, wherever its cells stand, and what it weighs -/
theorem field_w {n : Nat} {t : TypeId} {fs : Array Field} {cs : List Value} {y : DataW H × List MemPlace} (ht : P.underlying t = some (.struct fs)) (h : DataW.trod enc P w base spare held n t cs = some y) (hw : ∀ k ∈ y.1.weights P t, k ≤ reachBytes) {j : Nat} {f : Field} (hj : fs[j]? = some f) :
    ∃ m x, DataW.trod enc P w base spare held m f.type ((cs.drop f.offset).take (P.cellsOf f.type)) = some x ∧ ∀ k ∈ x.1.weights P f.type, k ≤ reachBytes := by
  obtain ⟨xs, m, -, hx, -, hlen, hg⟩ := DataW.trod_struct ht h
  have hjl : j < fs.size := (Array.getElem?_eq_some_iff.1 hj).1
  have h1 := hg j f hj
  have hxj : j < xs.length := by omega
  rw [List.getElem?_eq_getElem hxj] at h1
  refine ⟨m, _, h1, fun k hk => hw k ?_⟩
  have e1 : y.1 = .agg (xs.map (·.1)) := by rw [hx]
  rw [e1]
  simp only [DataW.weights, ht]
  refine DataW.weights_mem_each (j := j) (t := f.type) (d := xs[j].1) ?_ ?_ k hk
  · rw [List.getElem?_map, Array.getElem?_toList, hj]; rfl
  · rw [List.getElem?_map, List.getElem?_eq_getElem hxj]; rfl
theorem struct_len {n : Nat} {t : TypeId} {fs : Array Field} {cs : List Value} {y : DataW H × List MemPlace} (ht : P.underlying t = some (.struct fs)) (h : DataW.trod enc P w base spare held n t cs = some y) : cs.length = P.cellsOf t := by
  obtain ⟨xs, m, -, -, hl, -, -⟩ := DataW.trod_struct ht h
  exact hl
def basicB (P : Program) (t : TypeId) : Bool := match P.underlying t with
  | some (.int _) => true
  | some .bool => true
  | some .string => true
  | some (.slice _) => true
  | _ => false
theorem basic_one {n : Nat} {t : TypeId} {c : Value} {y : DataW H × List MemPlace} (hb : basicB P t = true) (h : DataW.trod enc P w base (fun _ => true) held n t [c] = some y) : c.oneCell' = true := by
  unfold basicB at hb
  split at hb
  · rename_i k hu
    obtain ⟨x, rfl, -⟩ := field_int hu h
    rfl
  · rename_i hu
    obtain ⟨x, rfl⟩ := field_bool hu h
    rfl
  · rename_i hu
    obtain ⟨x, rfl, -⟩ := field_string hu h
    rfl
  · rename_i e hu
    rcases open_slice hu h with ⟨h1, -⟩ | ⟨ad, l, cp, m, n, D, Pl, h1, -⟩
    · have : c = .slice none 0 0 := by simpa using h1
      subst this
      rfl
    · obtain rfl : c = _ := by simpa using h1
      rfl
  · cases hb
theorem cut_one {cs : List Value} {j : Nat} (h : j < cs.length) : (cs.drop j).take 1 = [cs[j]] := by
  rw [List.drop_eq_getElem_cons h]
  rfl
theorem struct_one {n N : Nat} {t : TypeId} {fs : Array Field} {cs : List Value} {y : DataW H × List MemPlace} (ht : P.underlying t = some (.struct fs)) (hone : oneCellFields P fs = true) (hC : P.cellsOf t = N) (hN : fs.size = N) (hb : fs.all (fun f => basicB P f.type) = true)
    (h : DataW.trod enc P w base (fun _ => true) held n t cs = some y) : ∀ c ∈ cs, c.oneCell' = true := by
  intro c hc
  obtain ⟨j, hj, rfl⟩ := List.getElem_of_mem hc
  obtain ⟨xs, m, -, hx, hl, hlen, hg⟩ := DataW.trod_struct ht h
  have hjf : j < fs.size := by omega
  have hf : fs[j]? = some fs[j] := Array.getElem?_eq_getElem hjf
  obtain ⟨ho, hk⟩ := hone_of hone j _ hf
  have h1 := hg j _ hf
  rw [ho, hk, cut_one hj, List.getElem?_eq_getElem (by omega)] at h1
  refine basic_one ?_ h1
  exact (Array.all_eq_true.1 hb) j hjf
theorem mem_cut {cs : List Value} {j o k : Nat} (h1 : o ≤ j) (h2 : j < o + k) (h : j < cs.length) : cs[j] ∈ (cs.drop o).take k := by
  rw [List.mem_iff_getElem]
  refine ⟨j - o, by rw [List.length_take, List.length_drop]; omega, ?_⟩
  rw [List.getElem_take, List.getElem_drop]
  congr 1
  omega

theorem adN {ad : Addr} {w : World} {v : Value} (h : w.cell? (ad.add 0) = some v) : ∃ b o, ad = ⟨b, o, none⟩ := by
  obtain ⟨b, off, spot⟩ := ad
  have hs : spot = none := by simpa [Addr.add] using World.cell?_spot h
  subst hs
  exact ⟨b, off, rfl⟩
end

end Go.Proofs.YtpblgbegdfdgdaaDoor
