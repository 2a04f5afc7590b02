/- A struct of fields of one cell each, handed in by value: its cells, and what each field reads as. Nothing of the program is named. -/
import Derived.Test.YtcabpidbdnlomaaGreatDoorBase
import Derived.Deep.Fields
import Derived.Deep.Slices
import Derived.SizedLaws
namespace Go.Proofs.YtcabpidbdnlomaaGreatDoor
open Go.RowKit Go.WideShapes Go.Deep
set_option linter.unusedVariables false
set_option linter.unusedSimpArgs false

section
variable {H : Type} {enc : TypeId × Value → H} {P : Program} {w : World} {base : Nat} {spare : Nat → Bool} {held : Bool}

theorem open_fields {r : Reach} {b0 N : Nat} {t : TypeId} {fs : Array Field} {v : Value} {d : DataW H} {p : List MemPlace} (ht : P.underlying t = some (.struct fs)) (hone : oneCellFields P fs = true) (hC : P.cellsOf t = N)
    (hv : Value.okWide P w r b0 t v) (h : DataW.Trod enc P w base spare held t v d p) :
    ∃ (cs : List Value) (n : Nat), v = .agg cs.toArray ∧ cs.length = N ∧ ∀ (j : Nat) (f : Field), fs[j]? = some f → j < N → ∃ c y, cs[j]? = some c ∧ DataW.trod enc P w base spare held n f.type [c] = some y := by
  obtain ⟨cs, rfl, hsz⟩ := okWide_struct ht hv
  obtain ⟨fuel, hf⟩ := h
  obtain ⟨xs, n, -, -, -, hlen, hg⟩ := DataW.trod_struct ht hf
  refine ⟨cs.toList, n, by simp, by simp [hsz, hC], fun j f hj hN => ?_⟩
  obtain ⟨ho, hk⟩ := hone_of hone j f hj
  have hjl : j < fs.size := (Array.getElem?_eq_some_iff.1 hj).1
  have h1 := hg j f hj
  have hcl : j < cs.toList.length := by rw [Array.length_toList]; omega
  have e1 : ((Value.agg cs).cells.toList.drop f.offset).take (P.cellsOf f.type) = [cs.toList[j]] := by
    rw [ho, hk]
    show (cs.toList.drop j).take 1 = _
    rw [List.drop_eq_getElem_cons hcl]
    rfl
  rw [e1, List.getElem?_eq_getElem (by omega)] at h1
  exact ⟨_, _, List.getElem?_eq_getElem hcl, h1⟩

theorem field_int {n : Nat} {t : TypeId} {k : IntKind} {c : Value} {y : DataW H × List MemPlace} (ht : P.underlying t = some (.int k)) (h : DataW.trod enc P w base spare held n t [c] = some y) : ∃ x, c = .int k x ∧ (Lit.int k x).wf = true := by
  obtain ⟨x, hc, -, hw⟩ := DataW.trod_int ht h
  exact ⟨x, by simpa using hc, hw⟩
theorem field_bool {n : Nat} {t : TypeId} {c : Value} {y : DataW H × List MemPlace} (ht : P.underlying t = some .bool) (h : DataW.trod enc P w base spare held n t [c] = some y) : ∃ x, c = .bool x := by
  obtain ⟨x, hc, -⟩ := DataW.trod_bool ht h
  exact ⟨x, by simpa using hc⟩
theorem field_string {n : Nat} {t : TypeId} {c : Value} {y : DataW H × List MemPlace} (ht : P.underlying t = some .string) (h : DataW.trod enc P w base spare held n t [c] = some y) : ∃ x : ByteArray, c = .string x ∧ x.size ≤ maxLen := by
  obtain ⟨x, hc, -, hw⟩ := DataW.trod_string ht h
  exact ⟨x, by simpa using hc, hw⟩
end

theorem list1 {cs : List Value} {c0 : Value} (hl : cs.length = 1) (e0 : cs[0]? = some c0) : cs = [c0] := by
  match cs, hl with
  | [a0], _ =>
    simp only [List.getElem?_cons_zero, List.getElem?_cons_succ, Option.some.injEq] at e0
    simp only [e0]

theorem list2 {cs : List Value} {c0 c1 : Value} (hl : cs.length = 2) (e0 : cs[0]? = some c0) (e1 : cs[1]? = some c1) : cs = [c0, c1] := by
  match cs, hl with
  | [a0, a1], _ =>
    simp only [List.getElem?_cons_zero, List.getElem?_cons_succ, Option.some.injEq] at e0 e1
    simp only [e0, e1]

theorem list3 {cs : List Value} {c0 c1 c2 : Value} (hl : cs.length = 3) (e0 : cs[0]? = some c0) (e1 : cs[1]? = some c1) (e2 : cs[2]? = some c2) : cs = [c0, c1, c2] := by
  match cs, hl with
  | [a0, a1, a2], _ =>
    simp only [List.getElem?_cons_zero, List.getElem?_cons_succ, Option.some.injEq] at e0 e1 e2
    simp only [e0, e1, e2]

theorem list4 {cs : List Value} {c0 c1 c2 c3 : Value} (hl : cs.length = 4) (e0 : cs[0]? = some c0) (e1 : cs[1]? = some c1) (e2 : cs[2]? = some c2) (e3 : cs[3]? = some c3) : cs = [c0, c1, c2, c3] := by
  match cs, hl with
  | [a0, a1, a2, a3], _ =>
    simp only [List.getElem?_cons_zero, List.getElem?_cons_succ, Option.some.injEq] at e0 e1 e2 e3
    simp only [e0, e1, e2, e3]

theorem list5 {cs : List Value} {c0 c1 c2 c3 c4 : Value} (hl : cs.length = 5) (e0 : cs[0]? = some c0) (e1 : cs[1]? = some c1) (e2 : cs[2]? = some c2) (e3 : cs[3]? = some c3) (e4 : cs[4]? = some c4) : cs = [c0, c1, c2, c3, c4] := by
  match cs, hl with
  | [a0, a1, a2, a3, a4], _ =>
    simp only [List.getElem?_cons_zero, List.getElem?_cons_succ, Option.some.injEq] at e0 e1 e2 e3 e4
    simp only [e0, e1, e2, e3, e4]

theorem list6 {cs : List Value} {c0 c1 c2 c3 c4 c5 : Value} (hl : cs.length = 6) (e0 : cs[0]? = some c0) (e1 : cs[1]? = some c1) (e2 : cs[2]? = some c2) (e3 : cs[3]? = some c3) (e4 : cs[4]? = some c4) (e5 : cs[5]? = some c5) : cs = [c0, c1, c2, c3, c4, c5] := by
  match cs, hl with
  | [a0, a1, a2, a3, a4, a5], _ =>
    simp only [List.getElem?_cons_zero, List.getElem?_cons_succ, Option.some.injEq] at e0 e1 e2 e3 e4 e5
    simp only [e0, e1, e2, e3, e4, e5]

theorem list7 {cs : List Value} {c0 c1 c2 c3 c4 c5 c6 : Value} (hl : cs.length = 7) (e0 : cs[0]? = some c0) (e1 : cs[1]? = some c1) (e2 : cs[2]? = some c2) (e3 : cs[3]? = some c3) (e4 : cs[4]? = some c4) (e5 : cs[5]? = some c5) (e6 : cs[6]? = some c6) : cs = [c0, c1, c2, c3, c4, c5, c6] := by
  match cs, hl with
  | [a0, a1, a2, a3, a4, a5, a6], _ =>
    simp only [List.getElem?_cons_zero, List.getElem?_cons_succ, Option.some.injEq] at e0 e1 e2 e3 e4 e5 e6
    simp only [e0, e1, e2, e3, e4, e5, e6]

theorem list8 {cs : List Value} {c0 c1 c2 c3 c4 c5 c6 c7 : Value} (hl : cs.length = 8) (e0 : cs[0]? = some c0) (e1 : cs[1]? = some c1) (e2 : cs[2]? = some c2) (e3 : cs[3]? = some c3) (e4 : cs[4]? = some c4) (e5 : cs[5]? = some c5) (e6 : cs[6]? = some c6) (e7 : cs[7]? = some c7) : cs = [c0, c1, c2, c3, c4, c5, c6, c7] := by
  match cs, hl with
  | [a0, a1, a2, a3, a4, a5, a6, a7], _ =>
    simp only [List.getElem?_cons_zero, List.getElem?_cons_succ, Option.some.injEq] at e0 e1 e2 e3 e4 e5 e6 e7
    simp only [e0, e1, e2, e3, e4, e5, e6, e7]

end Go.Proofs.YtcabpidbdnlomaaGreatDoor
/- What comes in, as the frame reads it, with what it weighs: structs, slices, texts. Nothing of the program is named. -/
namespace Go.Proofs.YtcabpidbdnlomaaGreatDoor
open Go.RowKit Go.WideShapes Go.Deep
set_option linter.unusedVariables false
set_option linter.unusedSimpArgs false

section
variable {H : Type} {enc : TypeId × Value → H} {P : Program} {w : World} {base : Nat} {spare : Nat → Bool} {held : Bool}

/-- a struct's fields, one cell each, and what they weigh -/
theorem open_fields_w {r : Reach} {b0 N : Nat} {t : TypeId} {fs : Array Field} {v : Value} {d : DataW H} {p : List MemPlace} (ht : P.underlying t = some (.struct fs)) (hone : oneCellFields P fs = true) (hC : P.cellsOf t = N)
    (hv : Value.okWide P w r b0 t v) (h : DataW.Trod enc P w base spare held t v d p) (hw : ∀ n ∈ d.weights P t, n ≤ reachBytes) :
    ∃ (cs : List Value) (n : Nat), v = .agg cs.toArray ∧ cs.length = N ∧ ∀ (j : Nat) (f : Field), fs[j]? = some f → j < N → ∃ c y, cs[j]? = some c ∧ DataW.trod enc P w base spare held n f.type [c] = some y ∧ ∀ k ∈ y.1.weights P f.type, k ≤ reachBytes := by
  obtain ⟨cs, rfl, hsz⟩ := okWide_struct ht hv
  obtain ⟨fuel, hf⟩ := h
  obtain ⟨xs, n, -, hx, -, hlen, hg⟩ := DataW.trod_struct ht hf
  simp only [Prod.mk.injEq] at hx
  obtain ⟨rfl, -⟩ := hx
  refine ⟨cs.toList, n, by simp, by simp [hsz, hC], fun j f hj hN => ?_⟩
  obtain ⟨ho, hk⟩ := hone_of hone j f hj
  have hjl : j < fs.size := (Array.getElem?_eq_some_iff.1 hj).1
  have h1 := hg j f hj
  have hcl : j < cs.toList.length := by rw [Array.length_toList]; omega
  have e1 : ((Value.agg cs).cells.toList.drop f.offset).take (P.cellsOf f.type) = [cs.toList[j]] := by
    rw [ho, hk]
    show (cs.toList.drop j).take 1 = _
    rw [List.drop_eq_getElem_cons hcl]
    rfl
  have hxj : j < xs.length := by omega
  rw [e1, List.getElem?_eq_getElem hxj] at h1
  refine ⟨_, _, List.getElem?_eq_getElem hcl, h1, fun k hk => hw k ?_⟩
  simp only [DataW.weights, ht]
  refine DataW.weights_mem_each (j := j) (t := f.type) (d := xs[j].1) ?_ ?_ k hk
  · rw [List.getElem?_map, Array.getElem?_toList, hj]; rfl
  · rw [List.getElem?_map, List.getElem?_eq_getElem hxj]; rfl

/-- a slice: its elements, and what they weigh -/
theorem open_slice_w {t e : TypeId} {fuel : Nat} {c : Value} {x : DataW H × List MemPlace} (ht : P.underlying t = some (.slice e)) (h : DataW.trod enc P w base (fun _ => true) held fuel t [c] = some x) (hw : ∀ n ∈ x.1.weights P t, n ≤ reachBytes) :
    (c = .slice none 0 0) ∨
    ∃ (a : Addr) (len cap n : Nat), c = .slice (some a) len cap ∧ len ≤ cap ∧ cap ≤ maxLen ∧ cap * P.bytesOf e ≤ reachBytes ∧
      ∀ i, i < cap → ∃ cs' y, w.cells? base (a.add (i * P.cellsOf e)) (P.cellsOf e) = some cs' ∧ DataW.trod enc P w base (fun _ => true) held n e cs' = some y ∧ (i < len → ∀ k ∈ y.1.weights P e, k ≤ reachBytes) := by
  rcases open_slice ht h with ⟨h1, -⟩ | ⟨ad, l, cp, m, n, D, Pl, h1, -, hl, hm, hmm, hx, hy⟩
  · left
    simpa using h1
  · right
    simp only [if_true] at hmm
    subst hmm hx
    refine ⟨ad, l, m, n, by simpa using h1, hl, hm, ?_, fun i hi => ?_⟩
    · have := hw ((((List.range l).map D).length + ((List.range (m - l)).map fun j => D (l + j)).length) * P.bytesOf e) (by simp [DataW.weights, ht])
      simpa [show l + (m - l) = m from by omega] using this
    · obtain ⟨cs', h2, h3⟩ := hy i hi
      refine ⟨cs', _, h2, h3, fun hil k hk => hw k ?_⟩
      simp only [DataW.weights, ht, List.mem_cons, List.mem_append]
      right; left
      have : ∀ (l : List (DataW H)) (d : DataW H), d ∈ l → ∀ k ∈ d.weights P e, k ∈ DataW.weightsAll P e l := by
        intro l
        induction l with
        | nil => intro d hd; cases hd
        | cons d0 l ih =>
          intro d hd k hk
          simp only [DataW.weightsAll, List.mem_append]
          rcases List.mem_cons.1 hd with rfl | hd
          · exact .inl hk
          · exact .inr (ih d hd k hk)
      exact this _ (D i) (List.mem_map.2 ⟨i, List.mem_range.2 hil, rfl⟩) k hk
theorem field_string_w {n : Nat} {t : TypeId} {c : Value} {y : DataW H × List MemPlace} (ht : P.underlying t = some .string) (h : DataW.trod enc P w base spare held n t [c] = some y) (hw : ∀ k ∈ y.1.weights P t, k ≤ reachBytes) : ∃ x : ByteArray, c = .string x ∧ x.size ≤ reachBytes := by
  obtain ⟨x, hc, hy, -⟩ := DataW.trod_string ht h
  refine ⟨x, by simpa using hc, ?_⟩
  have hy1 : y.1 = .lit (.string x.data.toList) := by rw [hy]
  have := hw x.data.toList.length (by rw [hy1]; simp [DataW.weights])
  simpa using this
end

end Go.Proofs.YtcabpidbdnlomaaGreatDoor
/- What comes in: fields of structs, wherever their cells stand. Nothing of the program is named. -/
namespace Go.Proofs.YtcabpidbdnlomaaGreatDoor
open Go.RowKit Go.WideShapes Go.Deep
set_option linter.unusedVariables false
set_option linter.unusedSimpArgs false

section
variable {H : Type} {enc : TypeId × Value → H} {P : Program} {w : World} {base : Nat} {spare : Nat → Bool} {held : Bool}

/-- a struct's field, wherever its cells stand, and what it weighs -/
theorem field_w {n : Nat} {t : TypeId} {fs : Array Field} {cs : List Value} {y : DataW H × List MemPlace} (ht : P.underlying t = some (.struct fs)) (h : DataW.trod enc P w base spare held n t cs = some y) (hw : ∀ k ∈ y.1.weights P t, k ≤ reachBytes) {j : Nat} {f : Field} (hj : fs[j]? = some f) :
    ∃ m x, DataW.trod enc P w base spare held m f.type ((cs.drop f.offset).take (P.cellsOf f.type)) = some x ∧ ∀ k ∈ x.1.weights P f.type, k ≤ reachBytes := by
  obtain ⟨xs, m, -, hx, -, hlen, hg⟩ := DataW.trod_struct ht h
  have hjl : j < fs.size := (Array.getElem?_eq_some_iff.1 hj).1
  have h1 := hg j f hj
  have hxj : j < xs.length := by omega
  rw [List.getElem?_eq_getElem hxj] at h1
  refine ⟨m, _, h1, fun k hk => hw k ?_⟩
  have e1 : y.1 = .agg (xs.map (·.1)) := by rw [hx]
  rw [e1]
  simp only [DataW.weights, ht]
  refine DataW.weights_mem_each (j := j) (t := f.type) (d := xs[j].1) ?_ ?_ k hk
  · rw [List.getElem?_map, Array.getElem?_toList, hj]; rfl
  · rw [List.getElem?_map, List.getElem?_eq_getElem hxj]; rfl
theorem struct_len {n : Nat} {t : TypeId} {fs : Array Field} {cs : List Value} {y : DataW H × List MemPlace} (ht : P.underlying t = some (.struct fs)) (h : DataW.trod enc P w base spare held n t cs = some y) : cs.length = P.cellsOf t := by
  obtain ⟨xs, m, -, -, hl, -, -⟩ := DataW.trod_struct ht h
  exact hl
def basicB (P : Program) (t : TypeId) : Bool := match P.underlying t with
  | some (.int _) => true
  | some .bool => true
  | some .string => true
  | some (.slice _) => true
  | _ => false
theorem basic_one {n : Nat} {t : TypeId} {c : Value} {y : DataW H × List MemPlace} (hb : basicB P t = true) (h : DataW.trod enc P w base (fun _ => true) held n t [c] = some y) : c.oneCell' = true := by
  unfold basicB at hb
  split at hb
  · rename_i k hu
    obtain ⟨x, rfl, -⟩ := field_int hu h
    rfl
  · rename_i hu
    obtain ⟨x, rfl⟩ := field_bool hu h
    rfl
  · rename_i hu
    obtain ⟨x, rfl, -⟩ := field_string hu h
    rfl
  · rename_i e hu
    rcases open_slice hu h with ⟨h1, -⟩ | ⟨ad, l, cp, m, n, D, Pl, h1, -⟩
    · have : c = .slice none 0 0 := by simpa using h1
      subst this
      rfl
    · obtain rfl : c = _ := by simpa using h1
      rfl
  · cases hb
theorem cut_one {cs : List Value} {j : Nat} (h : j < cs.length) : (cs.drop j).take 1 = [cs[j]] := by
  rw [List.drop_eq_getElem_cons h]
  rfl
theorem struct_one {n N : Nat} {t : TypeId} {fs : Array Field} {cs : List Value} {y : DataW H × List MemPlace} (ht : P.underlying t = some (.struct fs)) (hone : oneCellFields P fs = true) (hC : P.cellsOf t = N) (hN : fs.size = N) (hb : fs.all (fun f => basicB P f.type) = true)
    (h : DataW.trod enc P w base (fun _ => true) held n t cs = some y) : ∀ c ∈ cs, c.oneCell' = true := by
  intro c hc
  obtain ⟨j, hj, rfl⟩ := List.getElem_of_mem hc
  obtain ⟨xs, m, -, hx, hl, hlen, hg⟩ := DataW.trod_struct ht h
  have hjf : j < fs.size := by omega
  have hf : fs[j]? = some fs[j] := Array.getElem?_eq_getElem hjf
  obtain ⟨ho, hk⟩ := hone_of hone j _ hf
  have h1 := hg j _ hf
  rw [ho, hk, cut_one hj, List.getElem?_eq_getElem (by omega)] at h1
  refine basic_one ?_ h1
  exact (Array.all_eq_true.1 hb) j hjf
theorem mem_cut {cs : List Value} {j o k : Nat} (h1 : o ≤ j) (h2 : j < o + k) (h : j < cs.length) : cs[j] ∈ (cs.drop o).take k := by
  rw [List.mem_iff_getElem]
  refine ⟨j - o, by rw [List.length_take, List.length_drop]; omega, ?_⟩
  rw [List.getElem_take, List.getElem_drop]
  congr 1
  omega

theorem adN {ad : Addr} {w : World} {v : Value} (h : w.cell? (ad.add 0) = some v) : ∃ b o, ad = ⟨b, o, none⟩ := by
  obtain ⟨b, off, spot⟩ := ad
  have hs : spot = none := by simpa [Addr.add] using World.cell?_spot h
  subst hs
  exact ⟨b, off, rfl⟩
end

end Go.Proofs.YtcabpidbdnlomaaGreatDoor
