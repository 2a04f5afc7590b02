/- A struct of fields of one cell each, handed in by value: its cells, and what each field reads as. Nothing of the program is named. -/
import Derived.Test.YtpilccalgegadaaBase
import Derived.Deep.Fields
import Derived.Deep.Slices
import Derived.SizedLaws
import Derived.Test.YtpilccalgegadaaBindF
import Derived.Test.YtpilccalgegadaaBindObj
namespace Go.Proofs.Ytpilccalgegadaa
open Go.RowKit Go.WideShapes Go.Deep
set_option linter.unusedVariables false
set_option linter.unusedSimpArgs false

section
variable {H : Type} {enc : TypeId × Value → H} {P : Program} {w : World} {base : Nat} {spare : Nat → Bool} {held : Bool}

theorem open_fields {r : Reach} {b0 N : Nat} {t : TypeId} {fs : Array Field} {v : Value} {d : DataW H} {p : List MemPlace} (ht : P.underlying t = some (.struct fs)) (hone : oneCellFields P fs = true) (hC : P.cellsOf t = N)
    (hv : Value.okWide P w r b0 t v) (h : DataW.Trod enc P w base spare held t v d p) :
    ∃ (cs : List Value) (n : Nat), v = .agg cs.toArray ∧ cs.length = N ∧ ∀ (j : Nat) (f : Field), fs[j]? = some f → j < N → ∃ c y, cs[j]? = some c ∧ DataW.trod enc P w base spare held n f.type [c] = some y := by
  obtain ⟨cs, rfl, hsz⟩ := okWide_struct ht hv
  obtain ⟨fuel, hf⟩ := h
  obtain ⟨xs, n, -, -, -, hlen, hg⟩ := DataW.trod_struct ht hf
  refine ⟨cs.toList, n, by simp, by simp [hsz, hC], fun j f hj hN => ?_⟩
  obtain ⟨ho, hk⟩ := hone_of hone j f hj
  have hjl : j < fs.size := (Array.getElem?_eq_some_iff.1 hj).1
  have h1 := hg j f hj
  have hcl : j < cs.toList.length := by rw [Array.length_toList]; omega
  have e1 : ((Value.agg cs).cells.toList.drop f.offset).take (P.cellsOf f.type) = [cs.toList[j]] := by
    rw [ho, hk]
    show (cs.toList.drop j).take 1 = _
    rw [List.drop_eq_getElem_cons hcl]
    rfl
  rw [e1, List.getElem?_eq_getElem (by omega)] at h1
  exact ⟨_, _, List.getElem?_eq_getElem hcl, h1⟩

theorem field_int {n : Nat} {t : TypeId} {k : IntKind} {c : Value} {y : DataW H × List MemPlace} (ht : P.underlying t = some (.int k)) (h : DataW.trod enc P w base spare held n t [c] = some y) : ∃ x, c = .int k x ∧ (Lit.int k x).wf = true := by
  obtain ⟨x, hc, -, hw⟩ := DataW.trod_int ht h
  exact ⟨x, by simpa using hc, hw⟩
theorem field_bool {n : Nat} {t : TypeId} {c : Value} {y : DataW H × List MemPlace} (ht : P.underlying t = some .bool) (h : DataW.trod enc P w base spare held n t [c] = some y) : ∃ x, c = .bool x := by
  obtain ⟨x, hc, -⟩ := DataW.trod_bool ht h
  exact ⟨x, by simpa using hc⟩
theorem field_string {n : Nat} {t : TypeId} {c : Value} {y : DataW H × List MemPlace} (ht : P.underlying t = some .string) (h : DataW.trod enc P w base spare held n t [c] = some y) : ∃ x : ByteArray, c = .string x ∧ x.size ≤ maxLen := by
  obtain ⟨x, hc, -, hw⟩ := DataW.trod_string ht h
  exact ⟨x, by simpa using hc, hw⟩
end

theorem list1 {cs : List Value} {c0 : Value} (hl : cs.length = 1) (e0 : cs[0]? = some c0) : cs = [c0] := by
  match cs, hl with
  | [a0], _ =>
    simp only [List.getElem?_cons_zero, List.getElem?_cons_succ, Option.some.injEq] at e0
    simp only [e0]

theorem list2 {cs : List Value} {c0 c1 : Value} (hl : cs.length = 2) (e0 : cs[0]? = some c0) (e1 : cs[1]? = some c1) : cs = [c0, c1] := by
  match cs, hl with
  | [a0, a1], _ =>
    simp only [List.getElem?_cons_zero, List.getElem?_cons_succ, Option.some.injEq] at e0 e1
    simp only [e0, e1]

theorem list3 {cs : List Value} {c0 c1 c2 : Value} (hl : cs.length = 3) (e0 : cs[0]? = some c0) (e1 : cs[1]? = some c1) (e2 : cs[2]? = some c2) : cs = [c0, c1, c2] := by
  match cs, hl with
  | [a0, a1, a2], _ =>
    simp only [List.getElem?_cons_zero, List.getElem?_cons_succ, Option.some.injEq] at e0 e1 e2
    simp only [e0, e1, e2]

theorem list4 {cs : List Value} {c0 c1 c2 c3 : Value} (hl : cs.length = 4) (e0 : cs[0]? = some c0) (e1 : cs[1]? = some c1) (e2 : cs[2]? = some c2) (e3 : cs[3]? = some c3) : cs = [c0, c1, c2, c3] := by
  match cs, hl with
  | [a0, a1, a2, a3], _ =>
    simp only [List.getElem?_cons_zero, List.getElem?_cons_succ, Option.some.injEq] at e0 e1 e2 e3
    simp only [e0, e1, e2, e3]

theorem list5 {cs : List Value} {c0 c1 c2 c3 c4 : Value} (hl : cs.length = 5) (e0 : cs[0]? = some c0) (e1 : cs[1]? = some c1) (e2 : cs[2]? = some c2) (e3 : cs[3]? = some c3) (e4 : cs[4]? = some c4) : cs = [c0, c1, c2, c3, c4] := by
  match cs, hl with
  | [a0, a1, a2, a3, a4], _ =>
    simp only [List.getElem?_cons_zero, List.getElem?_cons_succ, Option.some.injEq] at e0 e1 e2 e3 e4
    simp only [e0, e1, e2, e3, e4]

theorem list6 {cs : List Value} {c0 c1 c2 c3 c4 c5 : Value} (hl : cs.length = 6) (e0 : cs[0]? = some c0) (e1 : cs[1]? = some c1) (e2 : cs[2]? = some c2) (e3 : cs[3]? = some c3) (e4 : cs[4]? = some c4) (e5 : cs[5]? = some c5) : cs = [c0, c1, c2, c3, c4, c5] := by
  match cs, hl with
  | [a0, a1, a2, a3, a4, a5], _ =>
    simp only [List.getElem?_cons_zero, List.getElem?_cons_succ, Option.some.injEq] at e0 e1 e2 e3 e4 e5
    simp only [e0, e1, e2, e3, e4, e5]

theorem list7 {cs : List Value} {c0 c1 c2 c3 c4 c5 c6 : Value} (hl : cs.length = 7) (e0 : cs[0]? = some c0) (e1 : cs[1]? = some c1) (e2 : cs[2]? = some c2) (e3 : cs[3]? = some c3) (e4 : cs[4]? = some c4) (e5 : cs[5]? = some c5) (e6 : cs[6]? = some c6) : cs = [c0, c1, c2, c3, c4, c5, c6] := by
  match cs, hl with
  | [a0, a1, a2, a3, a4, a5, a6], _ =>
    simp only [List.getElem?_cons_zero, List.getElem?_cons_succ, Option.some.injEq] at e0 e1 e2 e3 e4 e5 e6
    simp only [e0, e1, e2, e3, e4, e5, e6]

theorem list8 {cs : List Value} {c0 c1 c2 c3 c4 c5 c6 c7 : Value} (hl : cs.length = 8) (e0 : cs[0]? = some c0) (e1 : cs[1]? = some c1) (e2 : cs[2]? = some c2) (e3 : cs[3]? = some c3) (e4 : cs[4]? = some c4) (e5 : cs[5]? = some c5) (e6 : cs[6]? = some c6) (e7 : cs[7]? = some c7) : cs = [c0, c1, c2, c3, c4, c5, c6, c7] := by
  match cs, hl with
  | [a0, a1, a2, a3, a4, a5, a6, a7], _ =>
    simp only [List.getElem?_cons_zero, List.getElem?_cons_succ, Option.some.injEq] at e0 e1 e2 e3 e4 e5 e6 e7
    simp only [e0, e1, e2, e3, e4, e5, e6, e7]

end Go.Proofs.Ytpilccalgegadaa
/- What comes in, as the frame reads it, with what it weighs: structs, slices, texts. Nothing of the program is named. -/
namespace Go.Proofs.Ytpilccalgegadaa
open Go.RowKit Go.WideShapes Go.Deep
set_option linter.unusedVariables false
set_option linter.unusedSimpArgs false

section
variable {H : Type} {enc : TypeId × Value → H} {P : Program} {w : World} {base : Nat} {spare : Nat → Bool} {held : Bool}

/-- a struct's fields, one cell each, and what they weigh -/
theorem open_fields_w {r : Reach} {b0 N : Nat} {t : TypeId} {fs : Array Field} {v : Value} {d : DataW H} {p : List MemPlace} (ht : P.underlying t = some (.struct fs)) (hone : oneCellFields P fs = true) (hC : P.cellsOf t = N)
    (hv : Value.okWide P w r b0 t v) (h : DataW.Trod enc P w base spare held t v d p) (hw : ∀ n ∈ d.weights P t, n ≤ reachBytes) :
    ∃ (cs : List Value) (n : Nat), v = .agg cs.toArray ∧ cs.length = N ∧ ∀ (j : Nat) (f : Field), fs[j]? = some f → j < N → ∃ c y, cs[j]? = some c ∧ DataW.trod enc P w base spare held n f.type [c] = some y ∧ ∀ k ∈ y.1.weights P f.type, k ≤ reachBytes := by
  obtain ⟨cs, rfl, hsz⟩ := okWide_struct ht hv
  obtain ⟨fuel, hf⟩ := h
  obtain ⟨xs, n, -, hx, -, hlen, hg⟩ := DataW.trod_struct ht hf
  simp only [Prod.mk.injEq] at hx
  obtain ⟨rfl, -⟩ := hx
  refine ⟨cs.toList, n, by simp, by simp [hsz, hC], fun j f hj hN => ?_⟩
  obtain ⟨ho, hk⟩ := hone_of hone j f hj
  have hjl : j < fs.size := (Array.getElem?_eq_some_iff.1 hj).1
  have h1 := hg j f hj
  have hcl : j < cs.toList.length := by rw [Array.length_toList]; omega
  have e1 : ((Value.agg cs).cells.toList.drop f.offset).take (P.cellsOf f.type) = [cs.toList[j]] := by
    rw [ho, hk]
    show (cs.toList.drop j).take 1 = _
    rw [List.drop_eq_getElem_cons hcl]
    rfl
  have hxj : j < xs.length := by omega
  rw [e1, List.getElem?_eq_getElem hxj] at h1
  refine ⟨_, _, List.getElem?_eq_getElem hcl, h1, fun k hk => hw k ?_⟩
  simp only [DataW.weights, ht]
  refine DataW.weights_mem_each (j := j) (t := f.type) (d := xs[j].1) ?_ ?_ k hk
  · rw [List.getElem?_map, Array.getElem?_toList, hj]; rfl
  · rw [List.getElem?_map, List.getElem?_eq_getElem hxj]; rfl

/-- a slice: its elements, and what they weigh -/
theorem open_slice_w {t e : TypeId} {fuel : Nat} {c : Value} {x : DataW H × List MemPlace} (ht : P.underlying t = some (.slice e)) (h : DataW.trod enc P w base (fun _ => true) held fuel t [c] = some x) (hw : ∀ n ∈ x.1.weights P t, n ≤ reachBytes) :
    (c = .slice none 0 0) ∨
    ∃ (a : Addr) (len cap n : Nat), c = .slice (some a) len cap ∧ len ≤ cap ∧ cap ≤ maxLen ∧ cap * P.bytesOf e ≤ reachBytes ∧
      ∀ i, i < cap → ∃ cs' y, w.cells? base (a.add (i * P.cellsOf e)) (P.cellsOf e) = some cs' ∧ DataW.trod enc P w base (fun _ => true) held n e cs' = some y ∧ (i < len → ∀ k ∈ y.1.weights P e, k ≤ reachBytes) := by
  rcases open_slice ht h with ⟨h1, -⟩ | ⟨ad, l, cp, m, n, D, Pl, h1, -, hl, hm, hmm, hx, hy⟩
  · left
    simpa using h1
  · right
    simp only [if_true] at hmm
    subst hmm hx
    refine ⟨ad, l, m, n, by simpa using h1, hl, hm, ?_, fun i hi => ?_⟩
    · have := hw ((((List.range l).map D).length + ((List.range (m - l)).map fun j => D (l + j)).length) * P.bytesOf e) (by simp [DataW.weights, ht])
      simpa [show l + (m - l) = m from by omega] using this
    · obtain ⟨cs', h2, h3⟩ := hy i hi
      refine ⟨cs', _, h2, h3, fun hil k hk => hw k ?_⟩
      simp only [DataW.weights, ht, List.mem_cons, List.mem_append]
      right; left
      have : ∀ (l : List (DataW H)) (d : DataW H), d ∈ l → ∀ k ∈ d.weights P e, k ∈ DataW.weightsAll P e l := by
        intro l
        induction l with
        | nil => intro d hd; cases hd
        | cons d0 l ih =>
          intro d hd k hk
          simp only [DataW.weightsAll, List.mem_append]
          rcases List.mem_cons.1 hd with rfl | hd
          · exact .inl hk
          · exact .inr (ih d hd k hk)
      exact this _ (D i) (List.mem_map.2 ⟨i, List.mem_range.2 hil, rfl⟩) k hk
theorem field_string_w {n : Nat} {t : TypeId} {c : Value} {y : DataW H × List MemPlace} (ht : P.underlying t = some .string) (h : DataW.trod enc P w base spare held n t [c] = some y) (hw : ∀ k ∈ y.1.weights P t, k ≤ reachBytes) : ∃ x : ByteArray, c = .string x ∧ x.size ≤ reachBytes := by
  obtain ⟨x, hc, hy, -⟩ := DataW.trod_string ht h
  refine ⟨x, by simpa using hc, ?_⟩
  have hy1 : y.1 = .lit (.string x.data.toList) := by rw [hy]
  have := hw x.data.toList.length (by rw [hy1]; simp [DataW.weights])
  simpa using this
end

end Go.Proofs.Ytpilccalgegadaa
/- Layer 17: objects, as they come in. -/
namespace Go.Proofs.Ytpilccalgegadaa
open Go.RowKit Go.WideShapes Go.Deep
set_option linter.unusedVariables false
set_option linter.unusedSimpArgs false

section
variable {H : Type} {enc : TypeId × Value → H} {P : Program} {w : World} {base : Nat} {spare : Nat → Bool} {held : Bool}

/-- a struct's field, wherever its cells stand, and what it weighs -/
theorem field_w {n : Nat} {t : TypeId} {fs : Array Field} {cs : List Value} {y : DataW H × List MemPlace} (ht : P.underlying t = some (.struct fs)) (h : DataW.trod enc P w base spare held n t cs = some y) (hw : ∀ k ∈ y.1.weights P t, k ≤ reachBytes) {j : Nat} {f : Field} (hj : fs[j]? = some f) :
    ∃ m x, DataW.trod enc P w base spare held m f.type ((cs.drop f.offset).take (P.cellsOf f.type)) = some x ∧ ∀ k ∈ x.1.weights P f.type, k ≤ reachBytes := by
  obtain ⟨xs, m, -, hx, -, hlen, hg⟩ := DataW.trod_struct ht h
  have hjl : j < fs.size := (Array.getElem?_eq_some_iff.1 hj).1
  have h1 := hg j f hj
  have hxj : j < xs.length := by omega
  rw [List.getElem?_eq_getElem hxj] at h1
  refine ⟨m, _, h1, fun k hk => hw k ?_⟩
  have e1 : y.1 = .agg (xs.map (·.1)) := by rw [hx]
  rw [e1]
  simp only [DataW.weights, ht]
  refine DataW.weights_mem_each (j := j) (t := f.type) (d := xs[j].1) ?_ ?_ k hk
  · rw [List.getElem?_map, Array.getElem?_toList, hj]; rfl
  · rw [List.getElem?_map, List.getElem?_eq_getElem hxj]; rfl
theorem struct_len {n : Nat} {t : TypeId} {fs : Array Field} {cs : List Value} {y : DataW H × List MemPlace} (ht : P.underlying t = some (.struct fs)) (h : DataW.trod enc P w base spare held n t cs = some y) : cs.length = P.cellsOf t := by
  obtain ⟨xs, m, -, -, hl, -, -⟩ := DataW.trod_struct ht h
  exact hl
def basicB (P : Program) (t : TypeId) : Bool := match P.underlying t with
  | some (.int _) => true
  | some .bool => true
  | some .string => true
  | some (.slice _) => true
  | _ => false
theorem basic_one {n : Nat} {t : TypeId} {c : Value} {y : DataW H × List MemPlace} (hb : basicB P t = true) (h : DataW.trod enc P w base (fun _ => true) held n t [c] = some y) : c.oneCell' = true := by
  unfold basicB at hb
  split at hb
  · rename_i k hu
    obtain ⟨x, rfl, -⟩ := field_int hu h
    rfl
  · rename_i hu
    obtain ⟨x, rfl⟩ := field_bool hu h
    rfl
  · rename_i hu
    obtain ⟨x, rfl, -⟩ := field_string hu h
    rfl
  · rename_i e hu
    rcases open_slice hu h with ⟨h1, -⟩ | ⟨ad, l, cp, m, n, D, Pl, h1, -⟩
    · have : c = .slice none 0 0 := by simpa using h1
      subst this
      rfl
    · obtain rfl : c = _ := by simpa using h1
      rfl
  · cases hb
theorem cut_one {cs : List Value} {j : Nat} (h : j < cs.length) : (cs.drop j).take 1 = [cs[j]] := by
  rw [List.drop_eq_getElem_cons h]
  rfl
theorem struct_one {n N : Nat} {t : TypeId} {fs : Array Field} {cs : List Value} {y : DataW H × List MemPlace} (ht : P.underlying t = some (.struct fs)) (hone : oneCellFields P fs = true) (hC : P.cellsOf t = N) (hN : fs.size = N) (hb : fs.all (fun f => basicB P f.type) = true)
    (h : DataW.trod enc P w base (fun _ => true) held n t cs = some y) : ∀ c ∈ cs, c.oneCell' = true := by
  intro c hc
  obtain ⟨j, hj, rfl⟩ := List.getElem_of_mem hc
  obtain ⟨xs, m, -, hx, hl, hlen, hg⟩ := DataW.trod_struct ht h
  have hjf : j < fs.size := by omega
  have hf : fs[j]? = some fs[j] := Array.getElem?_eq_getElem hjf
  obtain ⟨ho, hk⟩ := hone_of hone j _ hf
  have h1 := hg j _ hf
  rw [ho, hk, cut_one hj, List.getElem?_eq_getElem (by omega)] at h1
  refine basic_one ?_ h1
  exact (Array.all_eq_true.1 hb) j hjf
theorem mem_cut {cs : List Value} {j o k : Nat} (h1 : o ≤ j) (h2 : j < o + k) (h : j < cs.length) : cs[j] ∈ (cs.drop o).take k := by
  rw [List.mem_iff_getElem]
  refine ⟨j - o, by rw [List.length_take, List.length_drop]; omega, ?_⟩
  rw [List.getElem_take, List.getElem_drop]
  congr 1
  omega

theorem adN {ad : Addr} {w : World} {v : Value} (h : w.cell? (ad.add 0) = some v) : ∃ b o, ad = ⟨b, o, none⟩ := by
  obtain ⟨b, off, spot⟩ := ad
  have hs : spot = none := by simpa [Addr.add] using World.cell?_spot h
  subst hs
  exact ⟨b, off, rfl⟩
end

section
variable {H : Type} {enc : TypeId × Value → H} {w : World} {base : Nat} {held : Bool}

theorem open_defs {fuel : Nat} {c : Value} {x : DataW H × List MemPlace} (h : DataW.trod enc Try.prog w base (fun _ => true) held fuel 38 [c] = some x) (hw : ∀ n ∈ x.1.weights Try.prog 38, n ≤ reachBytes) :
    ∃ (a : Option Addr) (cap : Nat) (T : List ByteArray), c = .slice a T.length cap ∧ VDRow w a T ∧ T.length ≤ 140737488355328 := by
  rcases open_slice_w Try.underlying38 h hw with rfl | ⟨ad, len, cap, n, rfl, hl, hm, hb, hx⟩
  · exact ⟨none, 0, [], rfl, (fun i hi => by simp at hi), by simp⟩
  · have hc : Try.prog.cellsOf 37 = 4 := by kernel_rfl
    have hby : Try.prog.bytesOf 37 = 56 := by kernel_rfl
    rw [hby] at hb
    have each : ∀ i, i < len → ∃ r : ByteArray, ∃ ix bs pa pl pc, w.cell? (ad.add (i * 4)) = some (.int .i64 ix) ∧ w.cell? ((ad.add (i * 4)).add 1) = some (.bool bs) ∧ w.cell? ((ad.add (i * 4)).add 2) = some (.string r) ∧ w.cell? ((ad.add (i * 4)).add 3) = some (.slice pa pl pc) := by
      intro i hi
      obtain ⟨cs, y, h2, h3, h4⟩ := hx i (by omega)
      rw [hc] at h2
      obtain ⟨-, hlen, h5⟩ := World.cells?_some h2
      match cs, hlen with
      | [c0, c1, c2, c3], _ =>
        obtain ⟨m0, x0, t0, u0⟩ : ∃ m x, DataW.trod enc Try.prog w base (fun _ => true) held m 3 (([c0, c1, c2, c3].drop 0).take (Try.prog.cellsOf 3)) = some x ∧ ∀ k ∈ x.1.weights Try.prog 3, k ≤ reachBytes := field_w Try.underlying37 h3 (h4 hi) (j := 0) rfl
        obtain ⟨m1, x1, t1, u1⟩ : ∃ m x, DataW.trod enc Try.prog w base (fun _ => true) held m 4 (([c0, c1, c2, c3].drop 1).take (Try.prog.cellsOf 4)) = some x ∧ ∀ k ∈ x.1.weights Try.prog 4, k ≤ reachBytes := field_w Try.underlying37 h3 (h4 hi) (j := 1) rfl
        obtain ⟨m2, x2, t2, u2⟩ : ∃ m x, DataW.trod enc Try.prog w base (fun _ => true) held m 9 (([c0, c1, c2, c3].drop 2).take (Try.prog.cellsOf 9)) = some x ∧ ∀ k ∈ x.1.weights Try.prog 9, k ≤ reachBytes := field_w Try.underlying37 h3 (h4 hi) (j := 2) rfl
        obtain ⟨m3, x3, t3, u3⟩ : ∃ m x, DataW.trod enc Try.prog w base (fun _ => true) held m 35 (([c0, c1, c2, c3].drop 3).take (Try.prog.cellsOf 35)) = some x ∧ ∀ k ∈ x.1.weights Try.prog 35, k ≤ reachBytes := field_w Try.underlying37 h3 (h4 hi) (j := 3) rfl
        have k1 : Try.prog.cellsOf 3 = 1 := by kernel_rfl
        have k2 : Try.prog.cellsOf 4 = 1 := by kernel_rfl
        have k3 : Try.prog.cellsOf 9 = 1 := by kernel_rfl
        have k4 : Try.prog.cellsOf 35 = 1 := by kernel_rfl
        simp only [k1, k2, k3, k4, List.drop_succ_cons, List.drop_zero, List.take_succ_cons, List.take_zero] at t0 t1 t2 t3
        obtain ⟨ix, rfl, -⟩ := field_int Try.underlying3 t0
        obtain ⟨bs, rfl⟩ := field_bool Try.underlying4 t1
        obtain ⟨nm, rfl, -⟩ := field_string Try.underlying9 t2
        obtain ⟨pa, pl, pc, rfl⟩ : ∃ a n c, c3 = .slice a n c := by
          rcases open_slice Try.underlying35 t3 with ⟨h1, -⟩ | ⟨ad, l, cp, m, n, D, Pl, h1, -⟩
          · exact ⟨_, _, _, by simpa using h1⟩
          · exact ⟨_, _, _, by simpa using h1⟩
        have e0 := h5 0 (by omega)
        have e1 := h5 1 (by omega)
        have e2 := h5 2 (by omega)
        have e3 := h5 3 (by omega)
        exact ⟨nm, ix, bs, pa, pl, pc, by simpa [Addr.add] using e0, e1, e2, e3⟩
    obtain ⟨q, hq⟩ := choose_lt each
    refine ⟨some ad, cap, (List.range len).map q, by simp, ?_, by simp [reachBytes] at hb ⊢; omega⟩
    intro i hi
    have hi' : i < len := by simpa using hi
    obtain ⟨b, off, rfl⟩ : ∃ b o, ad = ⟨b, o, none⟩ := by
      obtain ⟨ix, bs, pa, pl, pc, h0, -⟩ := hq 0 (by omega)
      exact adN (by simpa [Addr.add] using h0)
    obtain ⟨ix, bs, pa, pl, pc, e0, e1, e2, e3⟩ := hq i hi'
    rw [WideShapes.add_plain] at e0
    rw [WideShapes.add_plain, WideShapes.add_plain] at e1 e2 e3
    exact ⟨b, off, ix, bs, pa, pl, pc, rfl, by simpa using World.block_lt_of_cell? w _ e0, e0, e1, by rw [e2]; simp [List.getD, hi'], e3⟩

theorem open_auxs {fuel : Nat} {c : Value} {x : DataW H × List MemPlace} (h : DataW.trod enc Try.prog w base (fun _ => true) held fuel 101 [c] = some x) (hw : ∀ n ∈ x.1.weights Try.prog 101, n ≤ reachBytes) :
    ∃ (a : Option Addr) (cap : Nat) (l : List BAux), c = .slice a l.length cap ∧ AXRow w a l ∧ l.length ≤ 140737488355328 := by
  rcases open_slice_w Try.underlying101 h hw with rfl | ⟨ad, len, cap, n, rfl, hl, hm, hb, hx⟩
  · exact ⟨none, 0, [], rfl, (fun i hi => by simp at hi), by simp⟩
  · have hc : Try.prog.cellsOf 105 = 3 := by kernel_rfl
    have hby : Try.prog.bytesOf 105 = 32 := by kernel_rfl
    rw [hby] at hb
    have each : ∀ i, i < len → ∃ r : BAux, w.cell? (ad.add (i * 3)) = some (.int .i64 r.idx) ∧ w.cell? ((ad.add (i * 3)).add 1) = some (.bool r.weak) ∧ w.cell? ((ad.add (i * 3)).add 2) = some (.string r.name) := by
      intro i hi
      obtain ⟨cs, y, h2, h3, h4⟩ := hx i (by omega)
      rw [hc] at h2
      obtain ⟨-, hlen, h5⟩ := World.cells?_some h2
      match cs, hlen with
      | [c0, c1, c2], _ =>
        obtain ⟨m0, x0, t0, u0⟩ : ∃ m x, DataW.trod enc Try.prog w base (fun _ => true) held m 3 (([c0, c1, c2].drop 0).take (Try.prog.cellsOf 3)) = some x ∧ ∀ k ∈ x.1.weights Try.prog 3, k ≤ reachBytes := field_w Try.underlying105 h3 (h4 hi) (j := 0) rfl
        obtain ⟨m1, x1, t1, u1⟩ : ∃ m x, DataW.trod enc Try.prog w base (fun _ => true) held m 4 (([c0, c1, c2].drop 1).take (Try.prog.cellsOf 4)) = some x ∧ ∀ k ∈ x.1.weights Try.prog 4, k ≤ reachBytes := field_w Try.underlying105 h3 (h4 hi) (j := 1) rfl
        obtain ⟨m2, x2, t2, u2⟩ : ∃ m x, DataW.trod enc Try.prog w base (fun _ => true) held m 9 (([c0, c1, c2].drop 2).take (Try.prog.cellsOf 9)) = some x ∧ ∀ k ∈ x.1.weights Try.prog 9, k ≤ reachBytes := field_w Try.underlying105 h3 (h4 hi) (j := 2) rfl
        have k1 : Try.prog.cellsOf 3 = 1 := by kernel_rfl
        have k2 : Try.prog.cellsOf 4 = 1 := by kernel_rfl
        have k3 : Try.prog.cellsOf 9 = 1 := by kernel_rfl
        simp only [k1, k2, k3, List.drop_succ_cons, List.drop_zero, List.take_succ_cons, List.take_zero] at t0 t1 t2
        obtain ⟨ix, rfl, -⟩ := field_int Try.underlying3 t0
        obtain ⟨bs, rfl⟩ := field_bool Try.underlying4 t1
        obtain ⟨nm, rfl, -⟩ := field_string Try.underlying9 t2
        have e0 := h5 0 (by omega)
        have e1 := h5 1 (by omega)
        have e2 := h5 2 (by omega)
        exact ⟨⟨ix, bs, nm⟩, by simpa [Addr.add] using e0, e1, e2⟩
    haveI : Inhabited BAux := ⟨⟨0, false, .empty⟩⟩
    obtain ⟨q, hq⟩ := choose_lt each
    refine ⟨some ad, cap, (List.range len).map q, by simp, ?_, by simp [reachBytes] at hb ⊢; omega⟩
    intro i hi
    have hi' : i < len := by simpa using hi
    obtain ⟨b, off, rfl⟩ : ∃ b o, ad = ⟨b, o, none⟩ := by
      obtain ⟨h0, -⟩ := hq 0 (by omega)
      exact adN (by simpa [Addr.add] using h0)
    obtain ⟨e0, e1, e2⟩ := hq i hi'
    rw [WideShapes.add_plain] at e0
    rw [WideShapes.add_plain, WideShapes.add_plain] at e1 e2
    exact ⟨b, off, rfl, by simpa using World.block_lt_of_cell? w _ e0, by rw [e0]; simp, by rw [e1]; simp, by rw [e2]; simp⟩

theorem open_needs {fuel : Nat} {c : Value} {x : DataW H × List MemPlace} (h : DataW.trod enc Try.prog w base (fun _ => true) held fuel 49 [c] = some x) (hw : ∀ n ∈ x.1.weights Try.prog 49, n ≤ reachBytes) :
    ∃ (a : Option Addr) (cap : Nat) (l : List BNeed), c = .slice a l.length cap ∧ NDRow w a l ∧ l.length ≤ 140737488351232 := by
  rcases open_slice_w Try.underlying49 h hw with rfl | ⟨ad, len, cap, n, rfl, hl, hm, hb, hx⟩
  · exact ⟨none, 0, [], rfl, (fun i hi => by simp at hi), by simp⟩
  · have hc : Try.prog.cellsOf 103 = 2 := by kernel_rfl
    have hby : Try.prog.bytesOf 103 = 40 := by kernel_rfl
    rw [hby] at hb
    have each : ∀ i, i < len → ∃ r : BNeed, ∃ xa xc, w.cell? (ad.add (i * 2)) = some (.string r.file) ∧ w.cell? ((ad.add (i * 2)).add 1) = some (.slice xa r.aux.length xc) ∧ AXRow w xa r.aux ∧ r.aux.length ≤ 140737488355328 := by
      intro i hi
      obtain ⟨cs, y, h2, h3, h4⟩ := hx i (by omega)
      rw [hc] at h2
      obtain ⟨-, hlen, h5⟩ := World.cells?_some h2
      match cs, hlen with
      | [c0, c1], _ =>
        obtain ⟨m0, x0, t0, u0⟩ : ∃ m x, DataW.trod enc Try.prog w base (fun _ => true) held m 9 (([c0, c1].drop 0).take (Try.prog.cellsOf 9)) = some x ∧ ∀ k ∈ x.1.weights Try.prog 9, k ≤ reachBytes := field_w Try.underlying103 h3 (h4 hi) (j := 0) rfl
        obtain ⟨m1, x1, t1, u1⟩ : ∃ m x, DataW.trod enc Try.prog w base (fun _ => true) held m 101 (([c0, c1].drop 1).take (Try.prog.cellsOf 101)) = some x ∧ ∀ k ∈ x.1.weights Try.prog 101, k ≤ reachBytes := field_w Try.underlying103 h3 (h4 hi) (j := 1) rfl
        have k3 : Try.prog.cellsOf 9 = 1 := by kernel_rfl
        have k4 : Try.prog.cellsOf 101 = 1 := by kernel_rfl
        simp only [k3, k4, List.drop_succ_cons, List.drop_zero, List.take_succ_cons, List.take_zero] at t0 t1
        obtain ⟨nm, rfl, -⟩ := field_string Try.underlying9 t0
        obtain ⟨xa, xc, l, rfl, hax, hal⟩ := open_auxs t1 u1
        have e0 := h5 0 (by omega)
        have e1 := h5 1 (by omega)
        exact ⟨⟨nm, l⟩, xa, xc, by simpa [Addr.add] using e0, e1, hax, hal⟩
    haveI : Inhabited BNeed := ⟨⟨.empty, []⟩⟩
    obtain ⟨q, hq⟩ := choose_lt each
    refine ⟨some ad, cap, (List.range len).map q, by simp, ?_, by simp [reachBytes] at hb ⊢; omega⟩
    intro i hi
    have hi' : i < len := by simpa using hi
    obtain ⟨b, off, rfl⟩ : ∃ b o, ad = ⟨b, o, none⟩ := by
      obtain ⟨xa, xc, h0, -⟩ := hq 0 (by omega)
      exact adN (by simpa [Addr.add] using h0)
    obtain ⟨xa, xc, e0, e1, hax, hal⟩ := hq i hi'
    rw [WideShapes.add_plain] at e0
    rw [WideShapes.add_plain, WideShapes.add_plain] at e1
    have eq : ((List.range len).map q)[i] = q i := by simp
    rw [eq]
    exact ⟨b, off, xa, xc, rfl, by simpa using World.block_lt_of_cell? w _ e0, e0, e1, hax, hal⟩

set_option maxRecDepth 100000 in
theorem obj_of_trod {n : Nat} {cs : List Value} {y : DataW H × List MemPlace} (h3 : DataW.trod enc Try.prog w base (fun _ => true) held n 55 cs = some y) (h4 : ∀ k ∈ y.1.weights Try.prog 55, k ≤ reachBytes) : ∃ x : BObj, OCells w cs.toArray x := by
  have hlen : cs.length = 54 := by rw [struct_len Try.underlying55 h3]; kernel_rfl
  obtain ⟨m0, x0, t0, u0⟩ : ∃ m x, DataW.trod enc Try.prog w base (fun _ => true) held m 44 ((cs.drop 0).take (Try.prog.cellsOf 44)) = some x ∧ ∀ k ∈ x.1.weights Try.prog 44, k ≤ reachBytes := field_w Try.underlying55 h3 h4 (j := 0) rfl
  obtain ⟨m1, x1, t1, u1⟩ : ∃ m x, DataW.trod enc Try.prog w base (fun _ => true) held m 4 ((cs.drop 3).take (Try.prog.cellsOf 4)) = some x ∧ ∀ k ∈ x.1.weights Try.prog 4, k ≤ reachBytes := field_w Try.underlying55 h3 h4 (j := 1) rfl
  obtain ⟨m2, x2, t2, u2⟩ : ∃ m x, DataW.trod enc Try.prog w base (fun _ => true) held m 47 ((cs.drop 4).take (Try.prog.cellsOf 47)) = some x ∧ ∀ k ∈ x.1.weights Try.prog 47, k ≤ reachBytes := field_w Try.underlying55 h3 h4 (j := 2) rfl
  obtain ⟨m3, x3, t3, u3⟩ : ∃ m x, DataW.trod enc Try.prog w base (fun _ => true) held m 9 ((cs.drop 41).take (Try.prog.cellsOf 9)) = some x ∧ ∀ k ∈ x.1.weights Try.prog 9, k ≤ reachBytes := field_w Try.underlying55 h3 h4 (j := 3) rfl
  obtain ⟨m4, x4, t4, u4⟩ : ∃ m x, DataW.trod enc Try.prog w base (fun _ => true) held m 9 ((cs.drop 42).take (Try.prog.cellsOf 9)) = some x ∧ ∀ k ∈ x.1.weights Try.prog 9, k ≤ reachBytes := field_w Try.underlying55 h3 h4 (j := 4) rfl
  obtain ⟨m5, x5, t5, u5⟩ : ∃ m x, DataW.trod enc Try.prog w base (fun _ => true) held m 9 ((cs.drop 43).take (Try.prog.cellsOf 9)) = some x ∧ ∀ k ∈ x.1.weights Try.prog 9, k ≤ reachBytes := field_w Try.underlying55 h3 h4 (j := 5) rfl
  obtain ⟨m6, x6, t6, u6⟩ : ∃ m x, DataW.trod enc Try.prog w base (fun _ => true) held m 35 ((cs.drop 44).take (Try.prog.cellsOf 35)) = some x ∧ ∀ k ∈ x.1.weights Try.prog 35, k ≤ reachBytes := field_w Try.underlying55 h3 h4 (j := 6) rfl
  obtain ⟨m7, x7, t7, u7⟩ : ∃ m x, DataW.trod enc Try.prog w base (fun _ => true) held m 48 ((cs.drop 45).take (Try.prog.cellsOf 48)) = some x ∧ ∀ k ∈ x.1.weights Try.prog 48, k ≤ reachBytes := field_w Try.underlying55 h3 h4 (j := 7) rfl
  obtain ⟨m8, x8, t8, u8⟩ : ∃ m x, DataW.trod enc Try.prog w base (fun _ => true) held m 51 ((cs.drop 46).take (Try.prog.cellsOf 51)) = some x ∧ ∀ k ∈ x.1.weights Try.prog 51, k ≤ reachBytes := field_w Try.underlying55 h3 h4 (j := 8) rfl
  obtain ⟨m9, x9, t9, u9⟩ : ∃ m x, DataW.trod enc Try.prog w base (fun _ => true) held m 52 ((cs.drop 50).take (Try.prog.cellsOf 52)) = some x ∧ ∀ k ∈ x.1.weights Try.prog 52, k ≤ reachBytes := field_w Try.underlying55 h3 h4 (j := 9) rfl
  obtain ⟨m10, x10, t10, u10⟩ : ∃ m x, DataW.trod enc Try.prog w base (fun _ => true) held m 52 ((cs.drop 51).take (Try.prog.cellsOf 52)) = some x ∧ ∀ k ∈ x.1.weights Try.prog 52, k ≤ reachBytes := field_w Try.underlying55 h3 h4 (j := 10) rfl
  obtain ⟨m11, x11, t11, u11⟩ : ∃ m x, DataW.trod enc Try.prog w base (fun _ => true) held m 45 ((cs.drop 52).take (Try.prog.cellsOf 45)) = some x ∧ ∀ k ∈ x.1.weights Try.prog 45, k ≤ reachBytes := field_w Try.underlying55 h3 h4 (j := 11) rfl
  obtain ⟨m12, x12, t12, u12⟩ : ∃ m x, DataW.trod enc Try.prog w base (fun _ => true) held m 53 ((cs.drop 53).take (Try.prog.cellsOf 53)) = some x ∧ ∀ k ∈ x.1.weights Try.prog 53, k ≤ reachBytes := field_w Try.underlying55 h3 h4 (j := 12) rfl
  have kb : Try.prog.cellsOf 4 = 1 := by kernel_rfl
  have ks : Try.prog.cellsOf 9 = 1 := by kernel_rfl
  have kss : Try.prog.cellsOf 35 = 1 := by kernel_rfl
  have ksy : Try.prog.cellsOf 48 = 1 := by kernel_rfl
  have kr : Try.prog.cellsOf 52 = 1 := by kernel_rfl
  have ku : Try.prog.cellsOf 45 = 1 := by kernel_rfl
  have kb8 : Try.prog.cellsOf 53 = 1 := by kernel_rfl
  have kh : Try.prog.cellsOf 44 = 3 := by kernel_rfl
  have kd : Try.prog.cellsOf 47 = 37 := by kernel_rfl
  have kv : Try.prog.cellsOf 51 = 4 := by kernel_rfl
  rw [kb, cut_one (show 3 < cs.length by omega)] at t1
  rw [ks, cut_one (show 41 < cs.length by omega)] at t3
  rw [ks, cut_one (show 42 < cs.length by omega)] at t4
  rw [ks, cut_one (show 43 < cs.length by omega)] at t5
  rw [kss, cut_one (show 44 < cs.length by omega)] at t6
  rw [ksy, cut_one (show 45 < cs.length by omega)] at t7
  rw [kr, cut_one (show 50 < cs.length by omega)] at t9
  rw [kr, cut_one (show 51 < cs.length by omega)] at t10
  rw [ku, cut_one (show 52 < cs.length by omega)] at t11
  rw [kb8, cut_one (show 53 < cs.length by omega)] at t12
  have o0 := struct_one Try.underlying44 (by kernel_rfl) kh rfl (by kernel_rfl) t0
  have o2 := struct_one Try.underlying47 (by kernel_rfl) kd rfl (by kernel_rfl) t2
  have o8 := struct_one Try.underlying51 (by kernel_rfl) kv rfl (by kernel_rfl) t8
  rw [kh] at o0
  rw [kd] at o2
  rw [kv] at o8
  have hone : ∀ c ∈ cs, c.oneCell' = true := by
    intro c hc
    obtain ⟨j, hj, rfl⟩ := List.getElem_of_mem hc
    rcases (show j < 3 ∨ j = 3 ∨ (4 ≤ j ∧ j < 41) ∨ j = 41 ∨ j = 42 ∨ j = 43 ∨ j = 44 ∨ j = 45 ∨ (46 ≤ j ∧ j < 50) ∨ j = 50 ∨ j = 51 ∨ j = 52 ∨ j = 53 by omega) with h | rfl | h | rfl | rfl | rfl | rfl | rfl | h | rfl | rfl | rfl | rfl
    · exact o0 _ (mem_cut (by omega) (by omega) hj)
    · exact basic_one (show basicB Try.prog 4 = true by kernel_rfl) t1
    · exact o2 _ (mem_cut (by omega) (by omega) hj)
    · exact basic_one (show basicB Try.prog 9 = true by kernel_rfl) t3
    · exact basic_one (show basicB Try.prog 9 = true by kernel_rfl) t4
    · exact basic_one (show basicB Try.prog 9 = true by kernel_rfl) t5
    · exact basic_one (show basicB Try.prog 35 = true by kernel_rfl) t6
    · exact basic_one (show basicB Try.prog 48 = true by kernel_rfl) t7
    · exact o8 _ (mem_cut (by omega) (by omega) hj)
    · exact basic_one (show basicB Try.prog 52 = true by kernel_rfl) t9
    · exact basic_one (show basicB Try.prog 52 = true by kernel_rfl) t10
    · exact basic_one (show basicB Try.prog 45 = true by kernel_rfl) t11
    · exact basic_one (show basicB Try.prog 53 = true by kernel_rfl) t12
  obtain ⟨sn, hsn, -⟩ := field_string Try.underlying9 t3
  obtain ⟨ma, xa, ta, ua⟩ : ∃ m x, DataW.trod enc Try.prog w base (fun _ => true) held m 38 ((((cs.drop 46).take (Try.prog.cellsOf 51)).drop 2).take (Try.prog.cellsOf 38)) = some x ∧ ∀ k ∈ x.1.weights Try.prog 38, k ≤ reachBytes := field_w Try.underlying51 t8 u8 (j := 2) rfl
  obtain ⟨mb, xb, tb, ub⟩ : ∃ m x, DataW.trod enc Try.prog w base (fun _ => true) held m 49 ((((cs.drop 46).take (Try.prog.cellsOf 51)).drop 3).take (Try.prog.cellsOf 49)) = some x ∧ ∀ k ∈ x.1.weights Try.prog 49, k ≤ reachBytes := field_w Try.underlying51 t8 u8 (j := 3) rfl
  have kvd : Try.prog.cellsOf 38 = 1 := by kernel_rfl
  have kvn : Try.prog.cellsOf 49 = 1 := by kernel_rfl
  have hcut : ∀ o (ho : 46 + o < cs.length), o < 4 → ((((cs.drop 46).take 4).drop o).take 1) = [cs[46 + o]] := by
    intro o ho h4o
    rw [cut_one (by rw [List.length_take, List.length_drop]; omega)]
    simp
  rw [kv, kvd, hcut 2 (by omega) (by omega)] at ta
  rw [kv, kvn, hcut 3 (by omega) (by omega)] at tb
  obtain ⟨da, dc, T, hd, hdr, hdl⟩ := open_defs ta ua
  obtain ⟨na, nc, l, hn, hnr, hnl⟩ := open_needs tb ub
  refine ⟨⟨sn, T, l⟩, by simp [hlen], ?_, ?_, ⟨da, dc, ?_, hdr⟩, ⟨na, nc, ?_, hnr⟩, hdl, Nat.le_trans hnl (by decide)⟩
  · exact all_oneCell_toArray hone
  · rw [List.getElem?_toArray, List.getElem?_eq_getElem (by omega), hsn]
  · rw [List.getElem?_toArray, List.getElem?_eq_getElem (by omega)]
    exact congrArg some hd
  · rw [List.getElem?_toArray, List.getElem?_eq_getElem (by omega)]
    exact congrArg some hn

theorem open_objs {fuel : Nat} {c : Value} {x : DataW H × List MemPlace} (h : DataW.trod enc Try.prog w base (fun _ => true) held fuel 22 [c] = some x) (hw : ∀ n ∈ x.1.weights Try.prog 22, n ≤ reachBytes) :
    ∃ (a : Option Addr) (cap : Nat) (l : List BObj), c = .slice a l.length cap ∧ ORow w a l ∧ l.length ≤ 1099511627776 := by
  rcases open_slice_w Try.underlying22 h hw with rfl | ⟨ad, len, cap, n, rfl, hl, hm, hb, hx⟩
  · exact ⟨none, 0, [], rfl, (fun i hi => by simp at hi), by simp⟩
  · have hc : Try.prog.cellsOf 55 = 54 := by kernel_rfl
    have hby : 128 ≤ Try.prog.bytesOf 55 := by
      have : (decide (128 ≤ Try.prog.bytesOf 55)) = true := by kernel_rfl
      exact of_decide_eq_true this
    have hb2 : cap * 128 ≤ reachBytes := Nat.le_trans (Nat.mul_le_mul_left cap hby) hb
    have each : ∀ i, i < len → ∃ r : BObj, ∃ cs : List Value, cs.length = 54 ∧ OCells w cs.toArray r ∧ ∀ j, j < 54 → w.cell? ((ad.add (i * 54)).add j) = cs[j]? := by
      intro i hi
      obtain ⟨cs, y, h2, h3, h4⟩ := hx i (by omega)
      rw [hc] at h2
      obtain ⟨-, hlen, h5⟩ := World.cells?_some h2
      obtain ⟨r, hr⟩ := obj_of_trod h3 (h4 hi)
      exact ⟨r, cs, hlen, hr, h5⟩
    haveI : Inhabited BObj := ⟨⟨.empty, [], []⟩⟩
    obtain ⟨q, hq⟩ := choose_lt each
    refine ⟨some ad, cap, (List.range len).map q, by simp, ?_, by simp [reachBytes] at hb2 ⊢; omega⟩
    intro i hi
    have hi' : i < len := by simpa using hi
    obtain ⟨b, off, rfl⟩ : ∃ b o, ad = ⟨b, o, none⟩ := by
      obtain ⟨cs, hl0, hr0, h0⟩ := hq 0 (by omega)
      have h1 := h0 0 (by omega)
      rw [List.getElem?_eq_getElem (by omega)] at h1
      exact adN (by simpa [Addr.add] using h1)
    obtain ⟨cs, hl0, hr0, h0⟩ := hq i hi'
    have h1 : ∀ j, j < 54 → w.cell? ⟨b, off + i * 54 + j, none⟩ = cs[j]? := fun j hj => by
      have := h0 j hj
      rw [WideShapes.add_plain, WideShapes.add_plain] at this
      exact this
    have eq : ((List.range len).map q)[i] = q i := by simp
    rw [eq]
    have h2 := h1 0 (by omega)
    rw [List.getElem?_eq_getElem (by omega)] at h2
    refine ⟨b, off, cs.toArray, rfl, by simpa using World.block_lt_of_cell? w _ h2, ?_, hr0⟩
    intro j v hj
    have hjl : j < 54 := by
      have := (List.getElem?_eq_some_iff.1 hj).1
      simp only [Array.length_toList, List.size_toArray, List.toList_toArray] at this
      omega
    rw [h1 j hjl]
    simpa using hj
end
end Go.Proofs.Ytpilccalgegadaa
/- Layer 17: whole objects, as they come in (printed by genopeng.py). -/
namespace Go.Proofs.Ytpilccalgegadaa
open Go.RowKit Go.WideShapes Go.Deep
set_option linter.unusedVariables false
set_option linter.unusedSimpArgs false

section
variable {H : Type} {enc : TypeId × Value → H} {w : World} {base : Nat} {spare : Nat → Bool} {held : Bool}

theorem wf_u32_nat {n : Int} (h : (Lit.int .u32 n).wf = true) : ∃ m : Nat, n = (m : Int) ∧ m < 4294967296 := by
  have := bounds_u32 h
  exact ⟨n.toNat, by omega, by omega⟩
theorem wf_u64_nat {n : Int} (h : (Lit.int .u64 n).wf = true) : ∃ m : Nat, n = (m : Int) ∧ m < 18446744073709551616 := by
  have := bounds_u64 h
  exact ⟨n.toNat, by omega, by omega⟩

set_option maxRecDepth 100000 in
theorem prog_of_trod {n : Nat} {cs : List Value} {y : DataW H × List MemPlace} (h : DataW.trod enc Try.prog w base spare held n 68 cs = some y) : ∃ r : PT, cs = r.cells ∧ r.wf := by
  obtain ⟨xs, m, -, -, hlen, hxl, hf⟩ := DataW.trod_struct Try.underlying68 h
  have hc : Try.prog.cellsOf 68 = 7 := by kernel_rfl
  rw [hc] at hlen
  match cs, hlen with
  | [c0, c1, c2, c3, c4, c5, c6], _ =>
    have k64 : Try.prog.cellsOf 41 = 1 := by kernel_rfl
    have k32 : Try.prog.cellsOf 66 = 1 := by kernel_rfl
    have g0 : DataW.trod enc Try.prog w base spare held m 66 (([c0, c1, c2, c3, c4, c5, c6].drop 0).take (Try.prog.cellsOf 66)) = xs[0]? := hf 0 _ rfl
    have g1 : DataW.trod enc Try.prog w base spare held m 66 (([c0, c1, c2, c3, c4, c5, c6].drop 1).take (Try.prog.cellsOf 66)) = xs[1]? := hf 1 _ rfl
    have g2 : DataW.trod enc Try.prog w base spare held m 41 (([c0, c1, c2, c3, c4, c5, c6].drop 2).take (Try.prog.cellsOf 41)) = xs[2]? := hf 2 _ rfl
    have g3 : DataW.trod enc Try.prog w base spare held m 41 (([c0, c1, c2, c3, c4, c5, c6].drop 3).take (Try.prog.cellsOf 41)) = xs[3]? := hf 3 _ rfl
    have g4 : DataW.trod enc Try.prog w base spare held m 41 (([c0, c1, c2, c3, c4, c5, c6].drop 4).take (Try.prog.cellsOf 41)) = xs[4]? := hf 4 _ rfl
    have g5 : DataW.trod enc Try.prog w base spare held m 41 (([c0, c1, c2, c3, c4, c5, c6].drop 5).take (Try.prog.cellsOf 41)) = xs[5]? := hf 5 _ rfl
    have g6 : DataW.trod enc Try.prog w base spare held m 41 (([c0, c1, c2, c3, c4, c5, c6].drop 6).take (Try.prog.cellsOf 41)) = xs[6]? := hf 6 _ rfl
    have hx : xs.length = 7 := by rw [hxl]; rfl
    simp only [k64, k32, List.drop_succ_cons, List.drop_zero, List.take_succ_cons, List.take_zero] at g0 g1 g2 g3 g4 g5 g6
    rw [List.getElem?_eq_getElem (by omega)] at g0 g1 g2 g3 g4 g5 g6
    obtain ⟨x0, rfl, w0⟩ := field_int Try.underlying66 g0
    obtain ⟨m0, rfl, b0⟩ := wf_u32_nat w0
    obtain ⟨x1, rfl, w1⟩ := field_int Try.underlying66 g1
    obtain ⟨m1, rfl, b1⟩ := wf_u32_nat w1
    obtain ⟨x2, rfl, w2⟩ := field_int Try.underlying41 g2
    obtain ⟨m2, rfl, b2⟩ := wf_u64_nat w2
    obtain ⟨x3, rfl, w3⟩ := field_int Try.underlying41 g3
    obtain ⟨m3, rfl, b3⟩ := wf_u64_nat w3
    obtain ⟨x4, rfl, w4⟩ := field_int Try.underlying41 g4
    obtain ⟨m4, rfl, b4⟩ := wf_u64_nat w4
    obtain ⟨x5, rfl, w5⟩ := field_int Try.underlying41 g5
    obtain ⟨m5, rfl, b5⟩ := wf_u64_nat w5
    obtain ⟨x6, rfl, w6⟩ := field_int Try.underlying41 g6
    obtain ⟨m6, rfl, b6⟩ := wf_u64_nat w6
    exact ⟨⟨m0, m1, m2, m3, m4, m5, m6⟩, rfl, b0, b1, b2, b3, b4, b5, b6⟩

set_option maxRecDepth 100000 in
theorem open_progs {fuel : Nat} {c : Value} {x : DataW H × List MemPlace} (h : DataW.trod enc Try.prog w base (fun _ => true) held fuel 42 [c] = some x) (hw : ∀ n ∈ x.1.weights Try.prog 42, n ≤ reachBytes) :
    ∃ (a : Option Addr) (cap : Nat) (ps : List PT), c = .slice a ps.length cap ∧ PRow w a ps ∧ ps.length ≤ 140737488351232 := by
  rcases open_slice_w Try.underlying42 h hw with rfl | ⟨ad, len, cap, n, rfl, hl, hm, hb, hx⟩
  · exact ⟨none, 0, [], rfl, (fun i hi => by simp at hi), by simp⟩
  · have hc : Try.prog.cellsOf 68 = 7 := by kernel_rfl
    have hby : Try.prog.bytesOf 68 = 48 := by kernel_rfl
    rw [hby] at hb
    have each : ∀ i, i < len → ∃ r : PT, r.wf ∧ ∀ j, j < 7 → w.cell? ((ad.add (i * 7)).add j) = r.cells[j]? := by
      intro i hi
      obtain ⟨cs, y, h2, h3, -⟩ := hx i (by omega)
      rw [hc] at h2
      obtain ⟨-, -, h4⟩ := World.cells?_some h2
      obtain ⟨r, rfl, hr⟩ := prog_of_trod h3
      exact ⟨r, hr, h4⟩
    haveI : Inhabited PT := ⟨PT.zero⟩
    obtain ⟨q, hq⟩ := choose_lt each
    refine ⟨some ad, cap, (List.range len).map q, by simp, ?_, by simp [reachBytes] at hb ⊢; omega⟩
    intro i hi
    have hi' : i < len := by simpa using hi
    obtain ⟨b, off, spot⟩ := ad
    have hs : spot = none := by
      have := (hq 0 (by omega)).2 0 (by omega)
      simp only [Nat.zero_mul, PT.cells, List.getElem?_cons_zero] at this
      simpa [Addr.add] using World.cell?_spot this
    subst hs
    have hcell : ∀ j, j < 7 → w.cell? ⟨b, off + i * 7 + j, none⟩ = (q i).cells[j]? := fun j hj => by
      have := (hq i hi').2 j hj
      rw [WideShapes.add_plain, WideShapes.add_plain] at this
      exact this
    refine ⟨by simpa using (hq i hi').1, b, off, rfl, ?_, fun j hj => ?_⟩
    · have := hcell 0 (by omega)
      simp only [PT.cells, List.getElem?_cons_zero] at this
      simpa using World.block_lt_of_cell? w _ this
    · rw [hcell j hj]
      simp
end

section
variable {H : Type} {enc : TypeId × Value → H} {w : World} {base : Nat} {held : Bool}

theorem open_gsyms {fuel : Nat} {c : Value} {x : DataW H × List MemPlace} (h : DataW.trod enc Try.prog w base (fun _ => true) held fuel 48 [c] = some x) (hw : ∀ n ∈ x.1.weights Try.prog 48, n ≤ reachBytes) :
    ∃ (a : Option Addr) (cap : Nat) (l : List GSym), c = .slice a l.length cap ∧ GSRow w a l ∧ l.length ≤ 140737488351232 := by
  rcases open_slice_w Try.underlying48 h hw with rfl | ⟨ad, len, cap, n, rfl, hl, hm, hb, hx⟩
  · exact ⟨none, 0, [], rfl, (fun i hi => by simp at hi), by simp⟩
  · have hc : Try.prog.cellsOf 62 = 7 := by kernel_rfl
    have hby : Try.prog.bytesOf 62 = 64 := by kernel_rfl
    rw [hby] at hb
    have each : ∀ i, i < len → ∃ r : GSym, w.cell? (ad.add (i * 7)) = some (.string r.name) ∧ w.cell? ((ad.add (i * 7)).add 1) = some (.int .i64 r.bi) ∧ w.cell? ((ad.add (i * 7)).add 2) = some (.int .i64 r.ty) ∧ w.cell? ((ad.add (i * 7)).add 3) = some (.int .i64 r.vi) ∧ w.cell? ((ad.add (i * 7)).add 4) = some (.int .i64 r.se) ∧ w.cell? ((ad.add (i * 7)).add 5) = some (.int .u64 r.va) ∧ w.cell? ((ad.add (i * 7)).add 6) = some (.int .u64 r.sz) := by
      intro i hi
      obtain ⟨cs, y, h2, h3, h4⟩ := hx i (by omega)
      rw [hc] at h2
      obtain ⟨-, hlen, h5⟩ := World.cells?_some h2
      match cs, hlen with
      | [c0, c1, c2, c3, c4, c5, c6], _ =>
        obtain ⟨m0, x0, t0, u0⟩ : ∃ m x, DataW.trod enc Try.prog w base (fun _ => true) held m 9 (([c0, c1, c2, c3, c4, c5, c6].drop 0).take (Try.prog.cellsOf 9)) = some x ∧ ∀ k ∈ x.1.weights Try.prog 9, k ≤ reachBytes := field_w Try.underlying62 h3 (h4 hi) (j := 0) rfl
        obtain ⟨m1, x1, t1, u1⟩ : ∃ m x, DataW.trod enc Try.prog w base (fun _ => true) held m 3 (([c0, c1, c2, c3, c4, c5, c6].drop 1).take (Try.prog.cellsOf 3)) = some x ∧ ∀ k ∈ x.1.weights Try.prog 3, k ≤ reachBytes := field_w Try.underlying62 h3 (h4 hi) (j := 1) rfl
        obtain ⟨m2, x2, t2, u2⟩ : ∃ m x, DataW.trod enc Try.prog w base (fun _ => true) held m 3 (([c0, c1, c2, c3, c4, c5, c6].drop 2).take (Try.prog.cellsOf 3)) = some x ∧ ∀ k ∈ x.1.weights Try.prog 3, k ≤ reachBytes := field_w Try.underlying62 h3 (h4 hi) (j := 2) rfl
        obtain ⟨m3, x3, t3, u3⟩ : ∃ m x, DataW.trod enc Try.prog w base (fun _ => true) held m 3 (([c0, c1, c2, c3, c4, c5, c6].drop 3).take (Try.prog.cellsOf 3)) = some x ∧ ∀ k ∈ x.1.weights Try.prog 3, k ≤ reachBytes := field_w Try.underlying62 h3 (h4 hi) (j := 3) rfl
        obtain ⟨m4, x4, t4, u4⟩ : ∃ m x, DataW.trod enc Try.prog w base (fun _ => true) held m 3 (([c0, c1, c2, c3, c4, c5, c6].drop 4).take (Try.prog.cellsOf 3)) = some x ∧ ∀ k ∈ x.1.weights Try.prog 3, k ≤ reachBytes := field_w Try.underlying62 h3 (h4 hi) (j := 4) rfl
        obtain ⟨m5, x5, t5, u5⟩ : ∃ m x, DataW.trod enc Try.prog w base (fun _ => true) held m 41 (([c0, c1, c2, c3, c4, c5, c6].drop 5).take (Try.prog.cellsOf 41)) = some x ∧ ∀ k ∈ x.1.weights Try.prog 41, k ≤ reachBytes := field_w Try.underlying62 h3 (h4 hi) (j := 5) rfl
        obtain ⟨m6, x6, t6, u6⟩ : ∃ m x, DataW.trod enc Try.prog w base (fun _ => true) held m 41 (([c0, c1, c2, c3, c4, c5, c6].drop 6).take (Try.prog.cellsOf 41)) = some x ∧ ∀ k ∈ x.1.weights Try.prog 41, k ≤ reachBytes := field_w Try.underlying62 h3 (h4 hi) (j := 6) rfl
        have k0 : Try.prog.cellsOf 9 = 1 := by kernel_rfl
        have k1 : Try.prog.cellsOf 3 = 1 := by kernel_rfl
        have k2 : Try.prog.cellsOf 41 = 1 := by kernel_rfl
        simp only [k0, k1, k2, List.drop_succ_cons, List.drop_zero, List.take_succ_cons, List.take_zero] at t0 t1 t2 t3 t4 t5 t6
        obtain ⟨v0, rfl, -⟩ := field_string Try.underlying9 t0
        obtain ⟨v1, rfl, -⟩ := field_int Try.underlying3 t1
        obtain ⟨v2, rfl, -⟩ := field_int Try.underlying3 t2
        obtain ⟨v3, rfl, -⟩ := field_int Try.underlying3 t3
        obtain ⟨v4, rfl, -⟩ := field_int Try.underlying3 t4
        obtain ⟨v5, rfl, -⟩ := field_int Try.underlying41 t5
        obtain ⟨v6, rfl, -⟩ := field_int Try.underlying41 t6
        have e0 := h5 0 (by omega)
        have e1 := h5 1 (by omega)
        have e2 := h5 2 (by omega)
        have e3 := h5 3 (by omega)
        have e4 := h5 4 (by omega)
        have e5 := h5 5 (by omega)
        have e6 := h5 6 (by omega)
        exact ⟨⟨v0, v1, v2, v3, v4, v5, v6⟩, by simpa [Addr.add] using e0, e1, e2, e3, e4, e5, e6⟩
    haveI : Inhabited GSym := ⟨⟨.empty, 0, 0, 0, 0, 0, 0⟩⟩
    obtain ⟨q, hq⟩ := choose_lt each
    refine ⟨some ad, cap, (List.range len).map q, by simp, ?_, by simp [reachBytes] at hb ⊢; omega⟩
    intro i hi
    have hi' : i < len := by simpa using hi
    obtain ⟨b, off, rfl⟩ : ∃ b o, ad = ⟨b, o, none⟩ := by
      obtain ⟨h0, -⟩ := hq 0 (by omega)
      exact adN (by simpa [Addr.add] using h0)
    obtain ⟨e0, e1, e2, e3, e4, e5, e6⟩ := hq i hi'
    rw [WideShapes.add_plain] at e0
    rw [WideShapes.add_plain, WideShapes.add_plain] at e1 e2 e3 e4 e5 e6
    have eq : ((List.range len).map q)[i] = q i := by simp
    rw [eq]
    exact ⟨b, off, rfl, by simpa using World.block_lt_of_cell? w _ e0, e0, e1, e2, e3, e4, e5, e6⟩

theorem open_gdefs {fuel : Nat} {c : Value} {x : DataW H × List MemPlace} (h : DataW.trod enc Try.prog w base (fun _ => true) held fuel 38 [c] = some x) (hw : ∀ n ∈ x.1.weights Try.prog 38, n ≤ reachBytes) :
    ∃ (a : Option Addr) (cap : Nat) (l : List GDef), c = .slice a l.length cap ∧ GDRow w a l ∧ l.length ≤ 140737488351232 := by
  rcases open_slice_w Try.underlying38 h hw with rfl | ⟨ad, len, cap, n, rfl, hl, hm, hb, hx⟩
  · exact ⟨none, 0, [], rfl, (fun i hi => by simp at hi), by simp⟩
  · have hc : Try.prog.cellsOf 37 = 4 := by kernel_rfl
    have hby : Try.prog.bytesOf 37 = 56 := by kernel_rfl
    rw [hby] at hb
    have each : ∀ i, i < len → ∃ r : GDef, ∃ pa pl pc, w.cell? (ad.add (i * 4)) = some (.int .i64 r.idx) ∧ w.cell? ((ad.add (i * 4)).add 1) = some (.bool r.base) ∧ w.cell? ((ad.add (i * 4)).add 2) = some (.string r.name) ∧ w.cell? ((ad.add (i * 4)).add 3) = some (.slice pa pl pc) := by
      intro i hi
      obtain ⟨cs, y, h2, h3, h4⟩ := hx i (by omega)
      rw [hc] at h2
      obtain ⟨-, hlen, h5⟩ := World.cells?_some h2
      match cs, hlen with
      | [c0, c1, c2, c3], _ =>
        obtain ⟨m0, x0, t0, u0⟩ : ∃ m x, DataW.trod enc Try.prog w base (fun _ => true) held m 3 (([c0, c1, c2, c3].drop 0).take (Try.prog.cellsOf 3)) = some x ∧ ∀ k ∈ x.1.weights Try.prog 3, k ≤ reachBytes := field_w Try.underlying37 h3 (h4 hi) (j := 0) rfl
        obtain ⟨m1, x1, t1, u1⟩ : ∃ m x, DataW.trod enc Try.prog w base (fun _ => true) held m 4 (([c0, c1, c2, c3].drop 1).take (Try.prog.cellsOf 4)) = some x ∧ ∀ k ∈ x.1.weights Try.prog 4, k ≤ reachBytes := field_w Try.underlying37 h3 (h4 hi) (j := 1) rfl
        obtain ⟨m2, x2, t2, u2⟩ : ∃ m x, DataW.trod enc Try.prog w base (fun _ => true) held m 9 (([c0, c1, c2, c3].drop 2).take (Try.prog.cellsOf 9)) = some x ∧ ∀ k ∈ x.1.weights Try.prog 9, k ≤ reachBytes := field_w Try.underlying37 h3 (h4 hi) (j := 2) rfl
        obtain ⟨m3, x3, t3, u3⟩ : ∃ m x, DataW.trod enc Try.prog w base (fun _ => true) held m 35 (([c0, c1, c2, c3].drop 3).take (Try.prog.cellsOf 35)) = some x ∧ ∀ k ∈ x.1.weights Try.prog 35, k ≤ reachBytes := field_w Try.underlying37 h3 (h4 hi) (j := 3) rfl
        have k0 : Try.prog.cellsOf 3 = 1 := by kernel_rfl
        have k1 : Try.prog.cellsOf 4 = 1 := by kernel_rfl
        have k2 : Try.prog.cellsOf 9 = 1 := by kernel_rfl
        have k3 : Try.prog.cellsOf 35 = 1 := by kernel_rfl
        simp only [k0, k1, k2, k3, List.drop_succ_cons, List.drop_zero, List.take_succ_cons, List.take_zero] at t0 t1 t2 t3
        obtain ⟨v0, rfl, -⟩ := field_int Try.underlying3 t0
        obtain ⟨v1, rfl⟩ := field_bool Try.underlying4 t1
        obtain ⟨v2, rfl, -⟩ := field_string Try.underlying9 t2
        obtain ⟨pa, pl, pc, rfl⟩ : ∃ a n c, c3 = .slice a n c := by
          rcases open_slice Try.underlying35 t3 with ⟨h1, -⟩ | ⟨ad, l, cp, m, n, D, Pl, h1, -⟩
          · exact ⟨_, _, _, by simpa using h1⟩
          · exact ⟨_, _, _, by simpa using h1⟩
        have e0 := h5 0 (by omega)
        have e1 := h5 1 (by omega)
        have e2 := h5 2 (by omega)
        have e3 := h5 3 (by omega)
        exact ⟨⟨v0, v1, v2⟩, pa, pl, pc, by simpa [Addr.add] using e0, e1, e2, e3⟩
    haveI : Inhabited GDef := ⟨⟨0, false, .empty⟩⟩
    obtain ⟨q, hq⟩ := choose_lt each
    refine ⟨some ad, cap, (List.range len).map q, by simp, ?_, by simp [reachBytes] at hb ⊢; omega⟩
    intro i hi
    have hi' : i < len := by simpa using hi
    obtain ⟨b, off, rfl⟩ : ∃ b o, ad = ⟨b, o, none⟩ := by
      obtain ⟨pa, pl, pc, h0, -⟩ := hq 0 (by omega)
      exact adN (by simpa [Addr.add] using h0)
    obtain ⟨pa, pl, pc, e0, e1, e2, e3⟩ := hq i hi'
    rw [WideShapes.add_plain] at e0
    rw [WideShapes.add_plain, WideShapes.add_plain] at e1 e2 e3
    have eq : ((List.range len).map q)[i] = q i := by simp
    rw [eq]
    exact ⟨b, off, pa, pl, pc, rfl, by simpa using World.block_lt_of_cell? w _ e0, e0, e1, e2, e3⟩

theorem open_gints {fuel : Nat} {c : Value} {x : DataW H × List MemPlace} (h : DataW.trod enc Try.prog w base (fun _ => true) held fuel 23 [c] = some x) (hw : ∀ n ∈ x.1.weights Try.prog 23, n ≤ reachBytes) :
    ∃ (a : Option Addr) (cap : Nat) (l : List Int), c = .slice a l.length cap ∧ Row .i64 w a l ∧ l.length ≤ 140737488351232 := by
  rcases open_slice_w Try.underlying23 h hw with rfl | ⟨ad, len, cap, n, rfl, hl, hm, hb, hx⟩
  · exact ⟨none, 0, [], rfl, (fun i hi => by simp at hi), by simp⟩
  · have hc : Try.prog.cellsOf 3 = 1 := by kernel_rfl
    have hby : Try.prog.bytesOf 3 = 8 := by kernel_rfl
    rw [hby] at hb
    have each : ∀ i, i < len → ∃ t : Int, w.cell? (ad.add i) = some (.int .i64 t) := by
      intro i hi
      obtain ⟨cs, y, h2, h3, h4⟩ := hx i (by omega)
      rw [hc, Nat.mul_one] at h2
      obtain ⟨-, hlen, h5⟩ := World.cells?_some h2
      match cs, hlen with
      | [v], _ =>
        obtain ⟨t, rfl, -⟩ := field_int Try.underlying3 h3
        have := h5 0 (by omega)
        exact ⟨t, by simpa [Addr.add] using this⟩
    obtain ⟨q, hq⟩ := choose_lt each
    refine ⟨some ad, cap, (List.range len).map q, by simp, ?_, by simp [reachBytes] at hb ⊢; omega⟩
    intro i hi
    have hi' : i < len := by simpa using hi
    obtain ⟨b, off, spot⟩ := ad
    have hs : spot = none := by simpa [Addr.add] using World.cell?_spot (hq 0 (by omega))
    subst hs
    have h1 := hq i hi'
    rw [WideShapes.add_plain] at h1
    refine ⟨b, off, rfl, ?_⟩
    rw [h1]
    simp [List.getD, hi']

theorem open_gbytes {fuel : Nat} {c : Value} {x : DataW H × List MemPlace} (h : DataW.trod enc Try.prog w base (fun _ => true) held fuel 53 [c] = some x) (hw : ∀ n ∈ x.1.weights Try.prog 53, n ≤ reachBytes) :
    ∃ (a : Option Addr) (cap : Nat) (l : List Nat), c = .slice a l.length cap ∧ BRow w a l ∧ l.length ≤ cap ∧ (a = none → l.length = 0 ∧ cap = 0) ∧ l.length ≤ 140737488351232 := by
  rcases open_slice_w Try.underlying53 h hw with rfl | ⟨ad, len, cap, n, rfl, hl, hm, hb, hx⟩
  · exact ⟨none, 0, [], rfl, ⟨(fun i hi => by simp [toI] at hi), (fun b hb => by cases hb)⟩, by simp, fun _ => ⟨rfl, rfl⟩, by simp⟩
  · have hc : Try.prog.cellsOf 5 = 1 := by kernel_rfl
    have hby : Try.prog.bytesOf 5 = 1 := by kernel_rfl
    rw [hby] at hb
    have each : ∀ i, i < len → ∃ t : Nat, w.cell? (ad.add i) = some (.int .u8 (t : Int)) ∧ t < 256 := by
      intro i hi
      obtain ⟨cs, y, h2, h3, h4⟩ := hx i (by omega)
      rw [hc, Nat.mul_one] at h2
      obtain ⟨-, hlen, h5⟩ := World.cells?_some h2
      match cs, hlen with
      | [v], _ =>
        obtain ⟨t, rfl, ht⟩ := field_int Try.underlying5 h3
        have hb8 := wf_u8_bounds ht
        have := h5 0 (by omega)
        refine ⟨t.toNat, ?_, by omega⟩
        rw [show ((t.toNat : Nat) : Int) = t by omega]
        simpa [Addr.add] using this
    obtain ⟨q, hq⟩ := choose_lt each
    refine ⟨some ad, cap, (List.range len).map q, by simp, ⟨?_, ?_⟩, by simp; omega, (fun h => by cases h), by simp [reachBytes] at hb ⊢; omega⟩
    · intro i hi
      have hi' : i < len := by simpa [toI] using hi
      obtain ⟨b, off, spot⟩ := ad
      have hs : spot = none := by simpa [Addr.add] using World.cell?_spot (hq 0 (by omega)).1
      subst hs
      have h1 := (hq i hi').1
      rw [WideShapes.add_plain] at h1
      refine ⟨b, off, rfl, ?_⟩
      rw [h1, toI_getD]
      simp [List.getD, hi']
    · intro t ht
      obtain ⟨i, hi, rfl⟩ := List.mem_map.1 ht
      exact (hq i (List.mem_range.1 hi)).2

theorem u64_of_trod {n : Nat} {c : Value} {y : DataW H × List MemPlace} (h : DataW.trod enc Try.prog w base (fun _ => true) held n 41 [c] = some y) : ∃ m : Nat, c = .int .u64 (m : Int) ∧ m < 18446744073709551616 := by
  obtain ⟨x, rfl, hx⟩ := field_int Try.underlying41 h
  obtain ⟨m, rfl, hm⟩ := wf_u64_nat hx
  exact ⟨m, rfl, hm⟩

set_option maxRecDepth 100000 in
theorem gobj_of_trod {n : Nat} {cs : List Value} {y : DataW H × List MemPlace} (h3 : DataW.trod enc Try.prog w base (fun _ => true) held n 55 cs = some y) (h4 : ∀ k ∈ y.1.weights Try.prog 55, k ≤ reachBytes) : ∃ (D : Array Value) (x : GObj), GCells w cs.toArray D x := by
  have hlen : cs.length = 54 := by rw [struct_len Try.underlying55 h3]; kernel_rfl
  obtain ⟨m0, x0, t0, u0⟩ : ∃ m x, DataW.trod enc Try.prog w base (fun _ => true) held m 44 ((cs.drop 0).take (Try.prog.cellsOf 44)) = some x ∧ ∀ k ∈ x.1.weights Try.prog 44, k ≤ reachBytes := field_w Try.underlying55 h3 h4 (j := 0) rfl
  obtain ⟨m1, x1, t1, u1⟩ : ∃ m x, DataW.trod enc Try.prog w base (fun _ => true) held m 4 ((cs.drop 3).take (Try.prog.cellsOf 4)) = some x ∧ ∀ k ∈ x.1.weights Try.prog 4, k ≤ reachBytes := field_w Try.underlying55 h3 h4 (j := 1) rfl
  obtain ⟨m2, x2, t2, u2⟩ : ∃ m x, DataW.trod enc Try.prog w base (fun _ => true) held m 47 ((cs.drop 4).take (Try.prog.cellsOf 47)) = some x ∧ ∀ k ∈ x.1.weights Try.prog 47, k ≤ reachBytes := field_w Try.underlying55 h3 h4 (j := 2) rfl
  obtain ⟨m3, x3, t3, u3⟩ : ∃ m x, DataW.trod enc Try.prog w base (fun _ => true) held m 9 ((cs.drop 41).take (Try.prog.cellsOf 9)) = some x ∧ ∀ k ∈ x.1.weights Try.prog 9, k ≤ reachBytes := field_w Try.underlying55 h3 h4 (j := 3) rfl
  obtain ⟨m4, x4, t4, u4⟩ : ∃ m x, DataW.trod enc Try.prog w base (fun _ => true) held m 9 ((cs.drop 42).take (Try.prog.cellsOf 9)) = some x ∧ ∀ k ∈ x.1.weights Try.prog 9, k ≤ reachBytes := field_w Try.underlying55 h3 h4 (j := 4) rfl
  obtain ⟨m5, x5, t5, u5⟩ : ∃ m x, DataW.trod enc Try.prog w base (fun _ => true) held m 9 ((cs.drop 43).take (Try.prog.cellsOf 9)) = some x ∧ ∀ k ∈ x.1.weights Try.prog 9, k ≤ reachBytes := field_w Try.underlying55 h3 h4 (j := 5) rfl
  obtain ⟨m6, x6, t6, u6⟩ : ∃ m x, DataW.trod enc Try.prog w base (fun _ => true) held m 35 ((cs.drop 44).take (Try.prog.cellsOf 35)) = some x ∧ ∀ k ∈ x.1.weights Try.prog 35, k ≤ reachBytes := field_w Try.underlying55 h3 h4 (j := 6) rfl
  obtain ⟨m7, x7, t7, u7⟩ : ∃ m x, DataW.trod enc Try.prog w base (fun _ => true) held m 48 ((cs.drop 45).take (Try.prog.cellsOf 48)) = some x ∧ ∀ k ∈ x.1.weights Try.prog 48, k ≤ reachBytes := field_w Try.underlying55 h3 h4 (j := 7) rfl
  obtain ⟨m8, x8, t8, u8⟩ : ∃ m x, DataW.trod enc Try.prog w base (fun _ => true) held m 51 ((cs.drop 46).take (Try.prog.cellsOf 51)) = some x ∧ ∀ k ∈ x.1.weights Try.prog 51, k ≤ reachBytes := field_w Try.underlying55 h3 h4 (j := 8) rfl
  obtain ⟨m9, x9, t9, u9⟩ : ∃ m x, DataW.trod enc Try.prog w base (fun _ => true) held m 52 ((cs.drop 50).take (Try.prog.cellsOf 52)) = some x ∧ ∀ k ∈ x.1.weights Try.prog 52, k ≤ reachBytes := field_w Try.underlying55 h3 h4 (j := 9) rfl
  obtain ⟨m10, x10, t10, u10⟩ : ∃ m x, DataW.trod enc Try.prog w base (fun _ => true) held m 52 ((cs.drop 51).take (Try.prog.cellsOf 52)) = some x ∧ ∀ k ∈ x.1.weights Try.prog 52, k ≤ reachBytes := field_w Try.underlying55 h3 h4 (j := 10) rfl
  obtain ⟨m11, x11, t11, u11⟩ : ∃ m x, DataW.trod enc Try.prog w base (fun _ => true) held m 45 ((cs.drop 52).take (Try.prog.cellsOf 45)) = some x ∧ ∀ k ∈ x.1.weights Try.prog 45, k ≤ reachBytes := field_w Try.underlying55 h3 h4 (j := 11) rfl
  obtain ⟨m12, x12, t12, u12⟩ : ∃ m x, DataW.trod enc Try.prog w base (fun _ => true) held m 53 ((cs.drop 53).take (Try.prog.cellsOf 53)) = some x ∧ ∀ k ∈ x.1.weights Try.prog 53, k ≤ reachBytes := field_w Try.underlying55 h3 h4 (j := 12) rfl
  have kb : Try.prog.cellsOf 4 = 1 := by kernel_rfl
  have ks : Try.prog.cellsOf 9 = 1 := by kernel_rfl
  have kss : Try.prog.cellsOf 35 = 1 := by kernel_rfl
  have ksy : Try.prog.cellsOf 48 = 1 := by kernel_rfl
  have kr : Try.prog.cellsOf 52 = 1 := by kernel_rfl
  have ku : Try.prog.cellsOf 45 = 1 := by kernel_rfl
  have kb8 : Try.prog.cellsOf 53 = 1 := by kernel_rfl
  have kh : Try.prog.cellsOf 44 = 3 := by kernel_rfl
  have kd : Try.prog.cellsOf 47 = 37 := by kernel_rfl
  have kv : Try.prog.cellsOf 51 = 4 := by kernel_rfl
  rw [kb, cut_one (show 3 < cs.length by omega)] at t1
  rw [ks, cut_one (show 41 < cs.length by omega)] at t3
  rw [ks, cut_one (show 42 < cs.length by omega)] at t4
  rw [ks, cut_one (show 43 < cs.length by omega)] at t5
  rw [kss, cut_one (show 44 < cs.length by omega)] at t6
  rw [ksy, cut_one (show 45 < cs.length by omega)] at t7
  rw [kr, cut_one (show 50 < cs.length by omega)] at t9
  rw [kr, cut_one (show 51 < cs.length by omega)] at t10
  rw [ku, cut_one (show 52 < cs.length by omega)] at t11
  rw [kb8, cut_one (show 53 < cs.length by omega)] at t12
  have o0 := struct_one Try.underlying44 (by kernel_rfl) kh rfl (by kernel_rfl) t0
  have o2 := struct_one Try.underlying47 (by kernel_rfl) kd rfl (by kernel_rfl) t2
  have o8 := struct_one Try.underlying51 (by kernel_rfl) kv rfl (by kernel_rfl) t8
  rw [kh] at o0
  rw [kd] at o2
  rw [kv] at o8
  have hone : ∀ c ∈ cs, c.oneCell' = true := by
    intro c hc
    obtain ⟨j, hj, rfl⟩ := List.getElem_of_mem hc
    rcases (show j < 3 ∨ j = 3 ∨ (4 ≤ j ∧ j < 41) ∨ j = 41 ∨ j = 42 ∨ j = 43 ∨ j = 44 ∨ j = 45 ∨ (46 ≤ j ∧ j < 50) ∨ j = 50 ∨ j = 51 ∨ j = 52 ∨ j = 53 by omega) with h | rfl | h | rfl | rfl | rfl | rfl | rfl | h | rfl | rfl | rfl | rfl
    · exact o0 _ (mem_cut (by omega) (by omega) hj)
    · exact basic_one (show basicB Try.prog 4 = true by kernel_rfl) t1
    · exact o2 _ (mem_cut (by omega) (by omega) hj)
    · exact basic_one (show basicB Try.prog 9 = true by kernel_rfl) t3
    · exact basic_one (show basicB Try.prog 9 = true by kernel_rfl) t4
    · exact basic_one (show basicB Try.prog 9 = true by kernel_rfl) t5
    · exact basic_one (show basicB Try.prog 35 = true by kernel_rfl) t6
    · exact basic_one (show basicB Try.prog 48 = true by kernel_rfl) t7
    · exact o8 _ (mem_cut (by omega) (by omega) hj)
    · exact basic_one (show basicB Try.prog 52 = true by kernel_rfl) t9
    · exact basic_one (show basicB Try.prog 52 = true by kernel_rfl) t10
    · exact basic_one (show basicB Try.prog 45 = true by kernel_rfl) t11
    · exact basic_one (show basicB Try.prog 53 = true by kernel_rfl) t12
  have kint : Try.prog.cellsOf 3 = 1 := by kernel_rfl
  have k64 : Try.prog.cellsOf 41 = 1 := by kernel_rfl
  have kis : Try.prog.cellsOf 23 = 1 := by kernel_rfl
  have kpr : Try.prog.cellsOf 42 = 1 := by kernel_rfl
  have kvd : Try.prog.cellsOf 38 = 1 := by kernel_rfl
  have kvn : Try.prog.cellsOf 49 = 1 := by kernel_rfl
  have hcut : ∀ b N o (ho : b + o < cs.length), o < N → ((((cs.drop b).take N).drop o).take 1) = [cs[b + o]] := by
    intro b N o ho h4o
    rw [cut_one (by rw [List.length_take, List.length_drop]; omega)]
    simp
  obtain ⟨ma0, xa0, ta0, ua0⟩ : ∃ m x, DataW.trod enc Try.prog w base (fun _ => true) held m 3 ((((cs.drop 0).take (Try.prog.cellsOf 44)).drop 0).take (Try.prog.cellsOf 3)) = some x ∧ ∀ k ∈ x.1.weights Try.prog 3, k ≤ reachBytes := field_w Try.underlying44 t0 u0 (j := 0) rfl
  obtain ⟨ma1, xa1, ta1, ua1⟩ : ∃ m x, DataW.trod enc Try.prog w base (fun _ => true) held m 41 ((((cs.drop 0).take (Try.prog.cellsOf 44)).drop 1).take (Try.prog.cellsOf 41)) = some x ∧ ∀ k ∈ x.1.weights Try.prog 41, k ≤ reachBytes := field_w Try.underlying44 t0 u0 (j := 1) rfl
  obtain ⟨ma2, xa2, ta2, ua2⟩ : ∃ m x, DataW.trod enc Try.prog w base (fun _ => true) held m 42 ((((cs.drop 0).take (Try.prog.cellsOf 44)).drop 2).take (Try.prog.cellsOf 42)) = some x ∧ ∀ k ∈ x.1.weights Try.prog 42, k ≤ reachBytes := field_w Try.underlying44 t0 u0 (j := 2) rfl
  obtain ⟨md3, xd3, td3, ud3⟩ : ∃ m x, DataW.trod enc Try.prog w base (fun _ => true) held m 41 ((((cs.drop 4).take (Try.prog.cellsOf 47)).drop 3).take (Try.prog.cellsOf 41)) = some x ∧ ∀ k ∈ x.1.weights Try.prog 41, k ≤ reachBytes := field_w Try.underlying47 t2 u2 (j := 3) rfl
  obtain ⟨md25, xd25, td25, ud25⟩ : ∃ m x, DataW.trod enc Try.prog w base (fun _ => true) held m 41 ((((cs.drop 4).take (Try.prog.cellsOf 47)).drop 25).take (Try.prog.cellsOf 41)) = some x ∧ ∀ k ∈ x.1.weights Try.prog 41, k ≤ reachBytes := field_w Try.underlying47 t2 u2 (j := 25) rfl
  obtain ⟨mv0, xv0, tv0, uv0⟩ : ∃ m x, DataW.trod enc Try.prog w base (fun _ => true) held m 4 ((((cs.drop 46).take (Try.prog.cellsOf 51)).drop 0).take (Try.prog.cellsOf 4)) = some x ∧ ∀ k ∈ x.1.weights Try.prog 4, k ≤ reachBytes := field_w Try.underlying51 t8 u8 (j := 0) rfl
  obtain ⟨mv1, xv1, tv1, uv1⟩ : ∃ m x, DataW.trod enc Try.prog w base (fun _ => true) held m 23 ((((cs.drop 46).take (Try.prog.cellsOf 51)).drop 1).take (Try.prog.cellsOf 23)) = some x ∧ ∀ k ∈ x.1.weights Try.prog 23, k ≤ reachBytes := field_w Try.underlying51 t8 u8 (j := 1) rfl
  obtain ⟨mv2, xv2, tv2, uv2⟩ : ∃ m x, DataW.trod enc Try.prog w base (fun _ => true) held m 38 ((((cs.drop 46).take (Try.prog.cellsOf 51)).drop 2).take (Try.prog.cellsOf 38)) = some x ∧ ∀ k ∈ x.1.weights Try.prog 38, k ≤ reachBytes := field_w Try.underlying51 t8 u8 (j := 2) rfl
  obtain ⟨mv3, xv3, tv3, uv3⟩ : ∃ m x, DataW.trod enc Try.prog w base (fun _ => true) held m 49 ((((cs.drop 46).take (Try.prog.cellsOf 51)).drop 3).take (Try.prog.cellsOf 49)) = some x ∧ ∀ k ∈ x.1.weights Try.prog 49, k ≤ reachBytes := field_w Try.underlying51 t8 u8 (j := 3) rfl
  rw [kh, kint, hcut 0 3 0 (by omega) (by omega)] at ta0
  rw [kh, k64, hcut 0 3 1 (by omega) (by omega)] at ta1
  rw [kh, kpr, hcut 0 3 2 (by omega) (by omega)] at ta2
  rw [kd, k64, hcut 4 37 3 (by omega) (by omega)] at td3
  rw [kd, k64, hcut 4 37 25 (by omega) (by omega)] at td25
  rw [kv, kb, hcut 46 4 0 (by omega) (by omega)] at tv0
  rw [kv, kis, hcut 46 4 1 (by omega) (by omega)] at tv1
  rw [kv, kvd, hcut 46 4 2 (by omega) (by omega)] at tv2
  rw [kv, kvn, hcut 46 4 3 (by omega) (by omega)] at tv3
  obtain ⟨ty, hty, -⟩ := field_int Try.underlying3 ta0
  obtain ⟨en, hen, -⟩ := field_int Try.underlying41 ta1
  obtain ⟨pa, pc, ps, hps, hpr, hpl⟩ := open_progs ta2 ua2
  obtain ⟨hh, hhe, hhb⟩ := u64_of_trod td3
  obtain ⟨gg, hge, hgb⟩ := u64_of_trod td25
  obtain ⟨sa, sc, sy, hse, hsr, hsl⟩ := open_gsyms t7 u7
  obtain ⟨hs, hhs⟩ := field_bool Try.underlying4 tv0
  obtain ⟨wa, wc, ws, hwe, hwr, hwl⟩ := open_gints tv1 uv1
  obtain ⟨da, dc, df, hde, hdr, hdl⟩ := open_gdefs tv2 uv2
  obtain ⟨na, nc, nl, hne, hnr, hnl⟩ := open_needs tv3 uv3
  obtain ⟨ba, bc, bs, hbe, hbr, hbc, hbn, hbl⟩ := open_gbytes t12 u12
  have at_ : ∀ j (hj : j < 54), cs.toArray[j]? = some (cs[j]'(by omega)) := fun j hj => by rw [List.getElem?_toArray, List.getElem?_eq_getElem (by omega)]
  have dl : ((cs.drop 4).take 37).length = 37 := by rw [List.length_take, List.length_drop]; omega
  have da_ : ∀ j (hj : j < 37), ((cs.drop 4).take 37).toArray[j]? = some (cs[4 + j]'(by omega)) := fun j hj => by
    rw [List.getElem?_toArray, List.getElem?_eq_getElem (by omega), List.getElem_take, List.getElem_drop]
  exact ⟨((cs.drop 4).take 37).toArray, ⟨ty, en, ps, hh, gg, sy, hs, ws, df, nl, bs⟩,
    { size := by simp [hlen]
      one := all_oneCell_toArray hone
      c0 := by rw [at_ 0 (by omega)]; exact congrArg some hty
      c1 := by rw [at_ 1 (by omega)]; exact congrArg some hen
      head := ⟨pa, pc, by rw [at_ 2 (by omega)]; exact congrArg some hps, hpr⟩
      dyn := fun j v hj => by
        have hjl : j < 37 := by
          have := (List.getElem?_eq_some_iff.1 hj).1
          simpa [dl] using this
        rw [at_ (4 + j) (by omega)]
        have h1 := da_ j hjl
        rw [← Array.getElem?_toList] at h1
        exact h1.symm.trans hj
      dsize := by simpa using dl
      d3 := by rw [da_ 3 (by omega)]; exact congrArg some hhe
      d25 := by rw [da_ 25 (by omega)]; exact congrArg some hge
      h1 := hhb
      h2 := hgb
      syms := ⟨sa, sc, by rw [at_ 45 (by omega)]; exact congrArg some hse, hsr⟩
      c46 := by rw [at_ 46 (by omega)]; exact congrArg some hhs
      words := ⟨wa, wc, by rw [at_ 47 (by omega)]; exact congrArg some hwe, hwr⟩
      defs := ⟨da, dc, by rw [at_ 48 (by omega)]; exact congrArg some hde, hdr⟩
      needs := ⟨na, nc, by rw [at_ 49 (by omega)]; exact congrArg some hne, hnr⟩
      bytes := ⟨ba, bc, by rw [at_ 53 (by omega)]; exact congrArg some hbe, hbr, hbc, hbn⟩
      pl := hpl
      sl := hsl
      wl := hwl
      dl := hdl
      nl := hnl
      bl := hbl }⟩

theorem open_gobjs {fuel : Nat} {c : Value} {x : DataW H × List MemPlace} (h : DataW.trod enc Try.prog w base (fun _ => true) held fuel 22 [c] = some x) (hw : ∀ n ∈ x.1.weights Try.prog 22, n ≤ reachBytes) :
    ∃ (a : Option Addr) (cap : Nat) (l : List GObj), c = .slice a l.length cap ∧ GORow w a l ∧ l.length ≤ 1099511627776 := by
  rcases open_slice_w Try.underlying22 h hw with rfl | ⟨ad, len, cap, n, rfl, hl, hm, hb, hx⟩
  · exact ⟨none, 0, [], rfl, (fun i hi => by simp at hi), by simp⟩
  · have hc : Try.prog.cellsOf 55 = 54 := by kernel_rfl
    have hby : 128 ≤ Try.prog.bytesOf 55 := by
      have : (decide (128 ≤ Try.prog.bytesOf 55)) = true := by kernel_rfl
      exact of_decide_eq_true this
    have hb2 : cap * 128 ≤ reachBytes := Nat.le_trans (Nat.mul_le_mul_left cap hby) hb
    have each : ∀ i, i < len → ∃ r : GObj, ∃ (D : Array Value) (cs : List Value), cs.length = 54 ∧ GCells w cs.toArray D r ∧ ∀ j, j < 54 → w.cell? ((ad.add (i * 54)).add j) = cs[j]? := by
      intro i hi
      obtain ⟨cs, y, h2, h3, h4⟩ := hx i (by omega)
      rw [hc] at h2
      obtain ⟨-, hlen, h5⟩ := World.cells?_some h2
      obtain ⟨D, r, hr⟩ := gobj_of_trod h3 (h4 hi)
      exact ⟨r, D, cs, hlen, hr, h5⟩
    haveI : Inhabited GObj := ⟨⟨0, 0, [], 0, 0, [], false, [], [], [], []⟩⟩
    obtain ⟨q, hq⟩ := choose_lt each
    refine ⟨some ad, cap, (List.range len).map q, by simp, ?_, by simp [reachBytes] at hb2 ⊢; omega⟩
    intro i hi
    have hi' : i < len := by simpa using hi
    obtain ⟨b, off, rfl⟩ : ∃ b o, ad = ⟨b, o, none⟩ := by
      obtain ⟨D, cs, hl0, hr0, h0⟩ := hq 0 (by omega)
      have h1 := h0 0 (by omega)
      rw [List.getElem?_eq_getElem (by omega)] at h1
      exact adN (by simpa [Addr.add] using h1)
    obtain ⟨D, cs, hl0, hr0, h0⟩ := hq i hi'
    have h1 : ∀ j, j < 54 → w.cell? ⟨b, off + i * 54 + j, none⟩ = cs[j]? := fun j hj => by
      have := h0 j hj
      rw [WideShapes.add_plain, WideShapes.add_plain] at this
      exact this
    have eq : ((List.range len).map q)[i] = q i := by simp
    rw [eq]
    have h2 := h1 0 (by omega)
    rw [List.getElem?_eq_getElem (by omega)] at h2
    refine ⟨b, off, cs.toArray, D, rfl, by simpa using World.block_lt_of_cell? w _ h2, ?_, hr0⟩
    intro j v hj
    have hjl : j < 54 := by
      have := (List.getElem?_eq_some_iff.1 hj).1
      simp only [Array.length_toList, List.size_toArray, List.toList_toArray] at this
      omega
    rw [h1 j hjl]
    simpa using hj
end
end Go.Proofs.Ytpilccalgegadaa
