/- A struct of fields of one cell each, handed in by value: its cells, and what each field reads as. Nothing of the program is named. -/
import Derived.Test.YtaedeaefoeeidaaBase
import Derived.Deep.Fields
import Derived.Deep.Slices
import Derived.SizedLaws
import Derived.Test.YtaedeaefoeeidaaDyn
import Derived.Test.YtaedeaefoeeidaaDynNum
namespace Go.Proofs.Ytaedeaefoeeidaa
open Go.RowKit Go.WideShapes Go.Deep
set_option linter.unusedVariables false
set_option linter.unusedSimpArgs false

section
variable {H : Type} {enc : TypeId × Value → H} {P : Program} {w : World} {base : Nat} {spare : Nat → Bool} {held : Bool}

theorem open_fields {r : Reach} {b0 N : Nat} {t : TypeId} {fs : Array Field} {v : Value} {d : DataW H} {p : List MemPlace} (ht : P.underlying t = some (.struct fs)) (hone : oneCellFields P fs = true) (hC : P.cellsOf t = N)
    (hv : Value.okWide P w r b0 t v) (h : DataW.Trod enc P w base spare held t v d p) :
    ∃ (cs : List Value) (n : Nat), v = .agg cs.toArray ∧ cs.length = N ∧ ∀ (j : Nat) (f : Field), fs[j]? = some f → j < N → ∃ c y, cs[j]? = some c ∧ DataW.trod enc P w base spare held n f.type [c] = some y := by
  obtain ⟨cs, rfl, hsz⟩ := okWide_struct ht hv
  obtain ⟨fuel, hf⟩ := h
  obtain ⟨xs, n, -, -, -, hlen, hg⟩ := DataW.trod_struct ht hf
  refine ⟨cs.toList, n, by simp, by simp [hsz, hC], fun j f hj hN => ?_⟩
  obtain ⟨ho, hk⟩ := hone_of hone j f hj
  have hjl : j < fs.size := (Array.getElem?_eq_some_iff.1 hj).1
  have h1 := hg j f hj
  have hcl : j < cs.toList.length := by rw [Array.length_toList]; omega
  have e1 : ((Value.agg cs).cells.toList.drop f.offset).take (P.cellsOf f.type) = [cs.toList[j]] := by
    rw [ho, hk]
    show (cs.toList.drop j).take 1 = _
    rw [List.drop_eq_getElem_cons hcl]
    rfl
  rw [e1, List.getElem?_eq_getElem (by omega)] at h1
  exact ⟨_, _, List.getElem?_eq_getElem hcl, h1⟩

theorem field_int {n : Nat} {t : TypeId} {k : IntKind} {c : Value} {y : DataW H × List MemPlace} (ht : P.underlying t = some (.int k)) (h : DataW.trod enc P w base spare held n t [c] = some y) : ∃ x, c = .int k x ∧ (Lit.int k x).wf = true := by
  obtain ⟨x, hc, -, hw⟩ := DataW.trod_int ht h
  exact ⟨x, by simpa using hc, hw⟩
theorem field_bool {n : Nat} {t : TypeId} {c : Value} {y : DataW H × List MemPlace} (ht : P.underlying t = some .bool) (h : DataW.trod enc P w base spare held n t [c] = some y) : ∃ x, c = .bool x := by
  obtain ⟨x, hc, -⟩ := DataW.trod_bool ht h
  exact ⟨x, by simpa using hc⟩
theorem field_string {n : Nat} {t : TypeId} {c : Value} {y : DataW H × List MemPlace} (ht : P.underlying t = some .string) (h : DataW.trod enc P w base spare held n t [c] = some y) : ∃ x : ByteArray, c = .string x ∧ x.size ≤ maxLen := by
  obtain ⟨x, hc, -, hw⟩ := DataW.trod_string ht h
  exact ⟨x, by simpa using hc, hw⟩
end

theorem list1 {cs : List Value} {c0 : Value} (hl : cs.length = 1) (e0 : cs[0]? = some c0) : cs = [c0] := by
  match cs, hl with
  | [a0], _ =>
    simp only [List.getElem?_cons_zero, List.getElem?_cons_succ, Option.some.injEq] at e0
    simp only [e0]

theorem list2 {cs : List Value} {c0 c1 : Value} (hl : cs.length = 2) (e0 : cs[0]? = some c0) (e1 : cs[1]? = some c1) : cs = [c0, c1] := by
  match cs, hl with
  | [a0, a1], _ =>
    simp only [List.getElem?_cons_zero, List.getElem?_cons_succ, Option.some.injEq] at e0 e1
    simp only [e0, e1]

theorem list3 {cs : List Value} {c0 c1 c2 : Value} (hl : cs.length = 3) (e0 : cs[0]? = some c0) (e1 : cs[1]? = some c1) (e2 : cs[2]? = some c2) : cs = [c0, c1, c2] := by
  match cs, hl with
  | [a0, a1, a2], _ =>
    simp only [List.getElem?_cons_zero, List.getElem?_cons_succ, Option.some.injEq] at e0 e1 e2
    simp only [e0, e1, e2]

theorem list4 {cs : List Value} {c0 c1 c2 c3 : Value} (hl : cs.length = 4) (e0 : cs[0]? = some c0) (e1 : cs[1]? = some c1) (e2 : cs[2]? = some c2) (e3 : cs[3]? = some c3) : cs = [c0, c1, c2, c3] := by
  match cs, hl with
  | [a0, a1, a2, a3], _ =>
    simp only [List.getElem?_cons_zero, List.getElem?_cons_succ, Option.some.injEq] at e0 e1 e2 e3
    simp only [e0, e1, e2, e3]

theorem list5 {cs : List Value} {c0 c1 c2 c3 c4 : Value} (hl : cs.length = 5) (e0 : cs[0]? = some c0) (e1 : cs[1]? = some c1) (e2 : cs[2]? = some c2) (e3 : cs[3]? = some c3) (e4 : cs[4]? = some c4) : cs = [c0, c1, c2, c3, c4] := by
  match cs, hl with
  | [a0, a1, a2, a3, a4], _ =>
    simp only [List.getElem?_cons_zero, List.getElem?_cons_succ, Option.some.injEq] at e0 e1 e2 e3 e4
    simp only [e0, e1, e2, e3, e4]

theorem list6 {cs : List Value} {c0 c1 c2 c3 c4 c5 : Value} (hl : cs.length = 6) (e0 : cs[0]? = some c0) (e1 : cs[1]? = some c1) (e2 : cs[2]? = some c2) (e3 : cs[3]? = some c3) (e4 : cs[4]? = some c4) (e5 : cs[5]? = some c5) : cs = [c0, c1, c2, c3, c4, c5] := by
  match cs, hl with
  | [a0, a1, a2, a3, a4, a5], _ =>
    simp only [List.getElem?_cons_zero, List.getElem?_cons_succ, Option.some.injEq] at e0 e1 e2 e3 e4 e5
    simp only [e0, e1, e2, e3, e4, e5]

theorem list7 {cs : List Value} {c0 c1 c2 c3 c4 c5 c6 : Value} (hl : cs.length = 7) (e0 : cs[0]? = some c0) (e1 : cs[1]? = some c1) (e2 : cs[2]? = some c2) (e3 : cs[3]? = some c3) (e4 : cs[4]? = some c4) (e5 : cs[5]? = some c5) (e6 : cs[6]? = some c6) : cs = [c0, c1, c2, c3, c4, c5, c6] := by
  match cs, hl with
  | [a0, a1, a2, a3, a4, a5, a6], _ =>
    simp only [List.getElem?_cons_zero, List.getElem?_cons_succ, Option.some.injEq] at e0 e1 e2 e3 e4 e5 e6
    simp only [e0, e1, e2, e3, e4, e5, e6]

theorem list8 {cs : List Value} {c0 c1 c2 c3 c4 c5 c6 c7 : Value} (hl : cs.length = 8) (e0 : cs[0]? = some c0) (e1 : cs[1]? = some c1) (e2 : cs[2]? = some c2) (e3 : cs[3]? = some c3) (e4 : cs[4]? = some c4) (e5 : cs[5]? = some c5) (e6 : cs[6]? = some c6) (e7 : cs[7]? = some c7) : cs = [c0, c1, c2, c3, c4, c5, c6, c7] := by
  match cs, hl with
  | [a0, a1, a2, a3, a4, a5, a6, a7], _ =>
    simp only [List.getElem?_cons_zero, List.getElem?_cons_succ, Option.some.injEq] at e0 e1 e2 e3 e4 e5 e6 e7
    simp only [e0, e1, e2, e3, e4, e5, e6, e7]

end Go.Proofs.Ytaedeaefoeeidaa
/- What comes in, as the frame reads it, with what it weighs: structs, slices, texts. Nothing of the program is named. -/
namespace Go.Proofs.Ytaedeaefoeeidaa
open Go.RowKit Go.WideShapes Go.Deep
set_option linter.unusedVariables false
set_option linter.unusedSimpArgs false

section
variable {H : Type} {enc : TypeId × Value → H} {P : Program} {w : World} {base : Nat} {spare : Nat → Bool} {held : Bool}

/-- a struct's fields, one cell each, and what they weigh -/
theorem open_fields_w {r : Reach} {b0 N : Nat} {t : TypeId} {fs : Array Field} {v : Value} {d : DataW H} {p : List MemPlace} (ht : P.underlying t = some (.struct fs)) (hone : oneCellFields P fs = true) (hC : P.cellsOf t = N)
    (hv : Value.okWide P w r b0 t v) (h : DataW.Trod enc P w base spare held t v d p) (hw : ∀ n ∈ d.weights P t, n ≤ reachBytes) :
    ∃ (cs : List Value) (n : Nat), v = .agg cs.toArray ∧ cs.length = N ∧ ∀ (j : Nat) (f : Field), fs[j]? = some f → j < N → ∃ c y, cs[j]? = some c ∧ DataW.trod enc P w base spare held n f.type [c] = some y ∧ ∀ k ∈ y.1.weights P f.type, k ≤ reachBytes := by
  obtain ⟨cs, rfl, hsz⟩ := okWide_struct ht hv
  obtain ⟨fuel, hf⟩ := h
  obtain ⟨xs, n, -, hx, -, hlen, hg⟩ := DataW.trod_struct ht hf
  simp only [Prod.mk.injEq] at hx
  obtain ⟨rfl, -⟩ := hx
  refine ⟨cs.toList, n, by simp, by simp [hsz, hC], fun j f hj hN => ?_⟩
  obtain ⟨ho, hk⟩ := hone_of hone j f hj
  have hjl : j < fs.size := (Array.getElem?_eq_some_iff.1 hj).1
  have h1 := hg j f hj
  have hcl : j < cs.toList.length := by rw [Array.length_toList]; omega
  have e1 : ((Value.agg cs).cells.toList.drop f.offset).take (P.cellsOf f.type) = [cs.toList[j]] := by
    rw [ho, hk]
    show (cs.toList.drop j).take 1 = _
    rw [List.drop_eq_getElem_cons hcl]
    rfl
  have hxj : j < xs.length := by omega
  rw [e1, List.getElem?_eq_getElem hxj] at h1
  refine ⟨_, _, List.getElem?_eq_getElem hcl, h1, fun k hk => hw k ?_⟩
  simp only [DataW.weights, ht]
  refine DataW.weights_mem_each (j := j) (t := f.type) (d := xs[j].1) ?_ ?_ k hk
  · rw [List.getElem?_map, Array.getElem?_toList, hj]; rfl
  · rw [List.getElem?_map, List.getElem?_eq_getElem hxj]; rfl

/-- a slice: its elements, and what they weigh -/
theorem open_slice_w {t e : TypeId} {fuel : Nat} {c : Value} {x : DataW H × List MemPlace} (ht : P.underlying t = some (.slice e)) (h : DataW.trod enc P w base (fun _ => true) held fuel t [c] = some x) (hw : ∀ n ∈ x.1.weights P t, n ≤ reachBytes) :
    (c = .slice none 0 0) ∨
    ∃ (a : Addr) (len cap n : Nat), c = .slice (some a) len cap ∧ len ≤ cap ∧ cap ≤ maxLen ∧ cap * P.bytesOf e ≤ reachBytes ∧
      ∀ i, i < cap → ∃ cs' y, w.cells? base (a.add (i * P.cellsOf e)) (P.cellsOf e) = some cs' ∧ DataW.trod enc P w base (fun _ => true) held n e cs' = some y ∧ (i < len → ∀ k ∈ y.1.weights P e, k ≤ reachBytes) := by
  rcases open_slice ht h with ⟨h1, -⟩ | ⟨ad, l, cp, m, n, D, Pl, h1, -, hl, hm, hmm, hx, hy⟩
  · left
    simpa using h1
  · right
    simp only [if_true] at hmm
    subst hmm hx
    refine ⟨ad, l, m, n, by simpa using h1, hl, hm, ?_, fun i hi => ?_⟩
    · have := hw ((((List.range l).map D).length + ((List.range (m - l)).map fun j => D (l + j)).length) * P.bytesOf e) (by simp [DataW.weights, ht])
      simpa [show l + (m - l) = m from by omega] using this
    · obtain ⟨cs', h2, h3⟩ := hy i hi
      refine ⟨cs', _, h2, h3, fun hil k hk => hw k ?_⟩
      simp only [DataW.weights, ht, List.mem_cons, List.mem_append]
      right; left
      have : ∀ (l : List (DataW H)) (d : DataW H), d ∈ l → ∀ k ∈ d.weights P e, k ∈ DataW.weightsAll P e l := by
        intro l
        induction l with
        | nil => intro d hd; cases hd
        | cons d0 l ih =>
          intro d hd k hk
          simp only [DataW.weightsAll, List.mem_append]
          rcases List.mem_cons.1 hd with rfl | hd
          · exact .inl hk
          · exact .inr (ih d hd k hk)
      exact this _ (D i) (List.mem_map.2 ⟨i, List.mem_range.2 hil, rfl⟩) k hk
theorem field_string_w {n : Nat} {t : TypeId} {c : Value} {y : DataW H × List MemPlace} (ht : P.underlying t = some .string) (h : DataW.trod enc P w base spare held n t [c] = some y) (hw : ∀ k ∈ y.1.weights P t, k ≤ reachBytes) : ∃ x : ByteArray, c = .string x ∧ x.size ≤ reachBytes := by
  obtain ⟨x, hc, hy, -⟩ := DataW.trod_string ht h
  refine ⟨x, by simpa using hc, ?_⟩
  have hy1 : y.1 = .lit (.string x.data.toList) := by rw [hy]
  have := hw x.data.toList.length (by rw [hy1]; simp [DataW.weights])
  simpa using this
end

end Go.Proofs.Ytaedeaefoeeidaa
/- Layers 4 and 5: a header and what a dynamic section tells, as they come in. -/
namespace Go.Proofs.Ytaedeaefoeeidaa
open Go.RowKit Go.WideShapes Go.Deep
set_option linter.unusedVariables false
set_option linter.unusedSimpArgs false


section
variable {H : Type} {enc : TypeId × Value → H} {w : World} {base : Nat} {spare : Nat → Bool} {held : Bool}

theorem wf_u32_nat {n : Int} (h : (Lit.int .u32 n).wf = true) : ∃ m : Nat, n = (m : Int) ∧ m < 4294967296 := by
  have := bounds_u32 h
  exact ⟨n.toNat, by omega, by omega⟩
theorem wf_u64_nat {n : Int} (h : (Lit.int .u64 n).wf = true) : ∃ m : Nat, n = (m : Int) ∧ m < 18446744073709551616 := by
  have := bounds_u64 h
  exact ⟨n.toNat, by omega, by omega⟩

set_option maxRecDepth 100000 in
theorem prog_of_trod {n : Nat} {cs : List Value} {y : DataW H × List MemPlace} (h : DataW.trod enc Try.prog w base spare held n 47 cs = some y) : ∃ r : PT, cs = r.cells ∧ r.wf := by
  obtain ⟨xs, m, -, -, hlen, hxl, hf⟩ := DataW.trod_struct Try.underlying47 h
  have hc : Try.prog.cellsOf 47 = 7 := by kernel_rfl
  rw [hc] at hlen
  match cs, hlen with
  | [c0, c1, c2, c3, c4, c5, c6], _ =>
    have k64 : Try.prog.cellsOf 23 = 1 := by kernel_rfl
    have k32 : Try.prog.cellsOf 45 = 1 := by kernel_rfl
    have g0 : DataW.trod enc Try.prog w base spare held m 45 (([c0, c1, c2, c3, c4, c5, c6].drop 0).take (Try.prog.cellsOf 45)) = xs[0]? := hf 0 _ rfl
    have g1 : DataW.trod enc Try.prog w base spare held m 45 (([c0, c1, c2, c3, c4, c5, c6].drop 1).take (Try.prog.cellsOf 45)) = xs[1]? := hf 1 _ rfl
    have g2 : DataW.trod enc Try.prog w base spare held m 23 (([c0, c1, c2, c3, c4, c5, c6].drop 2).take (Try.prog.cellsOf 23)) = xs[2]? := hf 2 _ rfl
    have g3 : DataW.trod enc Try.prog w base spare held m 23 (([c0, c1, c2, c3, c4, c5, c6].drop 3).take (Try.prog.cellsOf 23)) = xs[3]? := hf 3 _ rfl
    have g4 : DataW.trod enc Try.prog w base spare held m 23 (([c0, c1, c2, c3, c4, c5, c6].drop 4).take (Try.prog.cellsOf 23)) = xs[4]? := hf 4 _ rfl
    have g5 : DataW.trod enc Try.prog w base spare held m 23 (([c0, c1, c2, c3, c4, c5, c6].drop 5).take (Try.prog.cellsOf 23)) = xs[5]? := hf 5 _ rfl
    have g6 : DataW.trod enc Try.prog w base spare held m 23 (([c0, c1, c2, c3, c4, c5, c6].drop 6).take (Try.prog.cellsOf 23)) = xs[6]? := hf 6 _ rfl
    have hx : xs.length = 7 := by rw [hxl]; rfl
    simp only [k64, k32, List.drop_succ_cons, List.drop_zero, List.take_succ_cons, List.take_zero] at g0 g1 g2 g3 g4 g5 g6
    rw [List.getElem?_eq_getElem (by omega)] at g0 g1 g2 g3 g4 g5 g6
    obtain ⟨x0, rfl, w0⟩ := field_int Try.underlying45 g0
    obtain ⟨m0, rfl, b0⟩ := wf_u32_nat w0
    obtain ⟨x1, rfl, w1⟩ := field_int Try.underlying45 g1
    obtain ⟨m1, rfl, b1⟩ := wf_u32_nat w1
    obtain ⟨x2, rfl, w2⟩ := field_int Try.underlying23 g2
    obtain ⟨m2, rfl, b2⟩ := wf_u64_nat w2
    obtain ⟨x3, rfl, w3⟩ := field_int Try.underlying23 g3
    obtain ⟨m3, rfl, b3⟩ := wf_u64_nat w3
    obtain ⟨x4, rfl, w4⟩ := field_int Try.underlying23 g4
    obtain ⟨m4, rfl, b4⟩ := wf_u64_nat w4
    obtain ⟨x5, rfl, w5⟩ := field_int Try.underlying23 g5
    obtain ⟨m5, rfl, b5⟩ := wf_u64_nat w5
    obtain ⟨x6, rfl, w6⟩ := field_int Try.underlying23 g6
    obtain ⟨m6, rfl, b6⟩ := wf_u64_nat w6
    exact ⟨⟨m0, m1, m2, m3, m4, m5, m6⟩, rfl, b0, b1, b2, b3, b4, b5, b6⟩

set_option maxRecDepth 100000 in
theorem open_progs {fuel : Nat} {c : Value} {x : DataW H × List MemPlace} (h : DataW.trod enc Try.prog w base (fun _ => true) held fuel 24 [c] = some x) (hw : ∀ n ∈ x.1.weights Try.prog 24, n ≤ reachBytes) :
    ∃ (a : Option Addr) (cap : Nat) (ps : List PT), c = .slice a ps.length cap ∧ PRow w a ps ∧ ps.length ≤ 140737488351232 := by
  rcases open_slice_w Try.underlying24 h hw with rfl | ⟨ad, len, cap, n, rfl, hl, hm, hb, hx⟩
  · exact ⟨none, 0, [], rfl, (fun i hi => by simp at hi), by simp⟩
  · have hc : Try.prog.cellsOf 47 = 7 := by kernel_rfl
    have hby : Try.prog.bytesOf 47 = 48 := by kernel_rfl
    rw [hby] at hb
    have each : ∀ i, i < len → ∃ r : PT, r.wf ∧ ∀ j, j < 7 → w.cell? ((ad.add (i * 7)).add j) = r.cells[j]? := by
      intro i hi
      obtain ⟨cs, y, h2, h3, -⟩ := hx i (by omega)
      rw [hc] at h2
      obtain ⟨-, -, h4⟩ := World.cells?_some h2
      obtain ⟨r, rfl, hr⟩ := prog_of_trod h3
      exact ⟨r, hr, h4⟩
    haveI : Inhabited PT := ⟨PT.zero⟩
    obtain ⟨q, hq⟩ := choose_lt each
    refine ⟨some ad, cap, (List.range len).map q, by simp, ?_, by simp [reachBytes] at hb ⊢; omega⟩
    intro i hi
    have hi' : i < len := by simpa using hi
    obtain ⟨b, off, spot⟩ := ad
    have hs : spot = none := by
      have := (hq 0 (by omega)).2 0 (by omega)
      simp only [Nat.zero_mul, PT.cells, List.getElem?_cons_zero] at this
      simpa [Addr.add] using World.cell?_spot this
    subst hs
    have hcell : ∀ j, j < 7 → w.cell? ⟨b, off + i * 7 + j, none⟩ = (q i).cells[j]? := fun j hj => by
      have := (hq i hi').2 j hj
      rw [WideShapes.add_plain, WideShapes.add_plain] at this
      exact this
    refine ⟨by simpa using (hq i hi').1, b, off, rfl, ?_, fun j hj => ?_⟩
    · have := hcell 0 (by omega)
      simp only [PT.cells, List.getElem?_cons_zero] at this
      simpa using World.block_lt_of_cell? w _ this
    · rw [hcell j hj]
      simp

set_option maxRecDepth 100000 in
theorem open_head {r : Reach} {b0 : Nat} {v : Value} {d : DataW H} {p : List MemPlace} (hv : Value.okWide Try.prog w r b0 26 v) (h : DataW.Trod enc Try.prog w base (fun _ => true) held 26 v d p) (hw : ∀ n ∈ d.weights Try.prog 26, n ≤ reachBytes) :
    ∃ (ty en : Int) (a : Option Addr) (cap : Nat) (ps : List PT), v = headV ty en a ps.length cap ∧ (Lit.int .i64 ty).wf = true ∧ (Lit.int .u64 en).wf = true ∧ PRow w a ps ∧ ps.length ≤ 140737488351232 := by
  obtain ⟨cs, fu, rfl, hl, hf⟩ := open_fields_w (N := 3) Try.underlying26 (by kernel_rfl) (by kernel_rfl) hv h hw
  obtain ⟨c0, y0, e0, t0, -⟩ := hf 0 _ rfl (by omega)
  obtain ⟨x0, rfl, w0⟩ := field_int Try.underlying3 t0
  obtain ⟨c1, y1, e1, t1, -⟩ := hf 1 _ rfl (by omega)
  obtain ⟨x1, rfl, w1⟩ := field_int Try.underlying23 t1
  obtain ⟨c2, y2, e2, t2, u2⟩ := hf 2 _ rfl (by omega)
  obtain ⟨a, cap, ps, rfl, hp, hpl⟩ := open_progs t2 u2
  obtain rfl := list3 hl e0 e1 e2
  exact ⟨x0, x1, a, cap, ps, rfl, w0, w1, hp, hpl⟩


theorem list37 {cs : List Value} {c0 c1 c2 c3 c4 c5 c6 c7 c8 c9 c10 c11 c12 c13 c14 c15 c16 c17 c18 c19 c20 c21 c22 c23 c24 c25 c26 c27 c28 c29 c30 c31 c32 c33 c34 c35 c36 : Value} (hl : cs.length = 37) (e0 : cs[0]? = some c0) (e1 : cs[1]? = some c1) (e2 : cs[2]? = some c2) (e3 : cs[3]? = some c3) (e4 : cs[4]? = some c4) (e5 : cs[5]? = some c5) (e6 : cs[6]? = some c6) (e7 : cs[7]? = some c7) (e8 : cs[8]? = some c8) (e9 : cs[9]? = some c9) (e10 : cs[10]? = some c10) (e11 : cs[11]? = some c11) (e12 : cs[12]? = some c12) (e13 : cs[13]? = some c13) (e14 : cs[14]? = some c14) (e15 : cs[15]? = some c15) (e16 : cs[16]? = some c16) (e17 : cs[17]? = some c17) (e18 : cs[18]? = some c18) (e19 : cs[19]? = some c19) (e20 : cs[20]? = some c20) (e21 : cs[21]? = some c21) (e22 : cs[22]? = some c22) (e23 : cs[23]? = some c23) (e24 : cs[24]? = some c24) (e25 : cs[25]? = some c25) (e26 : cs[26]? = some c26) (e27 : cs[27]? = some c27) (e28 : cs[28]? = some c28) (e29 : cs[29]? = some c29) (e30 : cs[30]? = some c30) (e31 : cs[31]? = some c31) (e32 : cs[32]? = some c32) (e33 : cs[33]? = some c33) (e34 : cs[34]? = some c34) (e35 : cs[35]? = some c35) (e36 : cs[36]? = some c36) : cs = [c0, c1, c2, c3, c4, c5, c6, c7, c8, c9, c10, c11, c12, c13, c14, c15, c16, c17, c18, c19, c20, c21, c22, c23, c24, c25, c26, c27, c28, c29, c30, c31, c32, c33, c34, c35, c36] := by
  apply List.ext_getElem?
  intro j
  by_cases hj : j < 37
  · have : j = 0 ∨ j = 1 ∨ j = 2 ∨ j = 3 ∨ j = 4 ∨ j = 5 ∨ j = 6 ∨ j = 7 ∨ j = 8 ∨ j = 9 ∨ j = 10 ∨ j = 11 ∨ j = 12 ∨ j = 13 ∨ j = 14 ∨ j = 15 ∨ j = 16 ∨ j = 17 ∨ j = 18 ∨ j = 19 ∨ j = 20 ∨ j = 21 ∨ j = 22 ∨ j = 23 ∨ j = 24 ∨ j = 25 ∨ j = 26 ∨ j = 27 ∨ j = 28 ∨ j = 29 ∨ j = 30 ∨ j = 31 ∨ j = 32 ∨ j = 33 ∨ j = 34 ∨ j = 35 ∨ j = 36 := by omega
    rcases this with rfl | rfl | rfl | rfl | rfl | rfl | rfl | rfl | rfl | rfl | rfl | rfl | rfl | rfl | rfl | rfl | rfl | rfl | rfl | rfl | rfl | rfl | rfl | rfl | rfl | rfl | rfl | rfl | rfl | rfl | rfl | rfl | rfl | rfl | rfl | rfl | rfl
    all_goals first | (simp only [*]; rfl)
  · rw [List.getElem?_eq_none (by omega), List.getElem?_eq_none (by simp; omega)]

set_option maxHeartbeats 1000000 in
set_option maxRecDepth 100000 in
theorem open_dyn {r : Reach} {b0 : Nat} {v : Value} {d : DataW H} {p : List MemPlace} (hv : Value.okWide Try.prog w r b0 29 v) (h : DataW.Trod enc Try.prog w base (fun _ => true) held 29 v d p) :
    ∃ d : DT, v = .agg d.cells ∧ d.wf := by
  obtain ⟨cs, fu, rfl, hl, hf⟩ := open_fields (N := 37) Try.underlying29 (by kernel_rfl) (by kernel_rfl) hv h
  obtain ⟨c0, y0, e0, t0⟩ := hf 0 _ rfl (by omega)
  obtain ⟨a, n, c, rfl⟩ : ∃ a n c, c0 = .slice a n c := by
    rcases open_slice Try.underlying27 t0 with ⟨h1, -⟩ | ⟨ad, l, cp, m, n, D, Pl, h1, -⟩
    · exact ⟨_, _, _, by simpa using h1⟩
    · exact ⟨_, _, _, by simpa using h1⟩
  obtain ⟨c1, y1, e1, t1⟩ := hf 1 _ rfl (by omega)
  obtain ⟨x1, rfl, w1⟩ := field_int Try.underlying23 t1
  obtain ⟨m1, rfl, b1⟩ := wf_u64_nat w1
  obtain ⟨c2, y2, e2, t2⟩ := hf 2 _ rfl (by omega)
  obtain ⟨x2, rfl, w2⟩ := field_int Try.underlying23 t2
  obtain ⟨m2, rfl, b2⟩ := wf_u64_nat w2
  obtain ⟨c3, y3, e3, t3⟩ := hf 3 _ rfl (by omega)
  obtain ⟨x3, rfl, w3⟩ := field_int Try.underlying23 t3
  obtain ⟨m3, rfl, b3⟩ := wf_u64_nat w3
  obtain ⟨c4, y4, e4, t4⟩ := hf 4 _ rfl (by omega)
  obtain ⟨x4, rfl, w4⟩ := field_int Try.underlying23 t4
  obtain ⟨m4, rfl, b4⟩ := wf_u64_nat w4
  obtain ⟨c5, y5, e5, t5⟩ := hf 5 _ rfl (by omega)
  obtain ⟨x5, rfl, w5⟩ := field_int Try.underlying23 t5
  obtain ⟨m5, rfl, b5⟩ := wf_u64_nat w5
  obtain ⟨c6, y6, e6, t6⟩ := hf 6 _ rfl (by omega)
  obtain ⟨x6, rfl, w6⟩ := field_int Try.underlying23 t6
  obtain ⟨m6, rfl, b6⟩ := wf_u64_nat w6
  obtain ⟨c7, y7, e7, t7⟩ := hf 7 _ rfl (by omega)
  obtain ⟨x7, rfl, w7⟩ := field_int Try.underlying23 t7
  obtain ⟨m7, rfl, b7⟩ := wf_u64_nat w7
  obtain ⟨c8, y8, e8, t8⟩ := hf 8 _ rfl (by omega)
  obtain ⟨x8, rfl, w8⟩ := field_int Try.underlying23 t8
  obtain ⟨m8, rfl, b8⟩ := wf_u64_nat w8
  obtain ⟨c9, y9, e9, t9⟩ := hf 9 _ rfl (by omega)
  obtain ⟨x9, rfl, w9⟩ := field_int Try.underlying23 t9
  obtain ⟨m9, rfl, b9⟩ := wf_u64_nat w9
  obtain ⟨c10, y10, e10, t10⟩ := hf 10 _ rfl (by omega)
  obtain ⟨x10, rfl, w10⟩ := field_int Try.underlying23 t10
  obtain ⟨m10, rfl, b10⟩ := wf_u64_nat w10
  obtain ⟨c11, y11, e11, t11⟩ := hf 11 _ rfl (by omega)
  obtain ⟨x11, rfl, w11⟩ := field_int Try.underlying23 t11
  obtain ⟨m11, rfl, b11⟩ := wf_u64_nat w11
  obtain ⟨c12, y12, e12, t12⟩ := hf 12 _ rfl (by omega)
  obtain ⟨x12, rfl, w12⟩ := field_int Try.underlying23 t12
  obtain ⟨m12, rfl, b12⟩ := wf_u64_nat w12
  obtain ⟨c13, y13, e13, t13⟩ := hf 13 _ rfl (by omega)
  obtain ⟨x13, rfl, w13⟩ := field_int Try.underlying23 t13
  obtain ⟨m13, rfl, b13⟩ := wf_u64_nat w13
  obtain ⟨c14, y14, e14, t14⟩ := hf 14 _ rfl (by omega)
  obtain ⟨m14, rfl⟩ := field_bool Try.underlying4 t14
  obtain ⟨c15, y15, e15, t15⟩ := hf 15 _ rfl (by omega)
  obtain ⟨m15, rfl⟩ := field_bool Try.underlying4 t15
  obtain ⟨c16, y16, e16, t16⟩ := hf 16 _ rfl (by omega)
  obtain ⟨m16, rfl⟩ := field_bool Try.underlying4 t16
  obtain ⟨c17, y17, e17, t17⟩ := hf 17 _ rfl (by omega)
  obtain ⟨x17, rfl, w17⟩ := field_int Try.underlying23 t17
  obtain ⟨m17, rfl, b17⟩ := wf_u64_nat w17
  obtain ⟨c18, y18, e18, t18⟩ := hf 18 _ rfl (by omega)
  obtain ⟨x18, rfl, w18⟩ := field_int Try.underlying23 t18
  obtain ⟨m18, rfl, b18⟩ := wf_u64_nat w18
  obtain ⟨c19, y19, e19, t19⟩ := hf 19 _ rfl (by omega)
  obtain ⟨x19, rfl, w19⟩ := field_int Try.underlying23 t19
  obtain ⟨m19, rfl, b19⟩ := wf_u64_nat w19
  obtain ⟨c20, y20, e20, t20⟩ := hf 20 _ rfl (by omega)
  obtain ⟨x20, rfl, w20⟩ := field_int Try.underlying23 t20
  obtain ⟨m20, rfl, b20⟩ := wf_u64_nat w20
  obtain ⟨c21, y21, e21, t21⟩ := hf 21 _ rfl (by omega)
  obtain ⟨x21, rfl, w21⟩ := field_int Try.underlying23 t21
  obtain ⟨m21, rfl, b21⟩ := wf_u64_nat w21
  obtain ⟨c22, y22, e22, t22⟩ := hf 22 _ rfl (by omega)
  obtain ⟨x22, rfl, w22⟩ := field_int Try.underlying23 t22
  obtain ⟨m22, rfl, b22⟩ := wf_u64_nat w22
  obtain ⟨c23, y23, e23, t23⟩ := hf 23 _ rfl (by omega)
  obtain ⟨x23, rfl, w23⟩ := field_int Try.underlying23 t23
  obtain ⟨m23, rfl, b23⟩ := wf_u64_nat w23
  obtain ⟨c24, y24, e24, t24⟩ := hf 24 _ rfl (by omega)
  obtain ⟨x24, rfl, w24⟩ := field_int Try.underlying23 t24
  obtain ⟨m24, rfl, b24⟩ := wf_u64_nat w24
  obtain ⟨c25, y25, e25, t25⟩ := hf 25 _ rfl (by omega)
  obtain ⟨x25, rfl, w25⟩ := field_int Try.underlying23 t25
  obtain ⟨m25, rfl, b25⟩ := wf_u64_nat w25
  obtain ⟨c26, y26, e26, t26⟩ := hf 26 _ rfl (by omega)
  obtain ⟨x26, rfl, w26⟩ := field_int Try.underlying23 t26
  obtain ⟨m26, rfl, b26⟩ := wf_u64_nat w26
  obtain ⟨c27, y27, e27, t27⟩ := hf 27 _ rfl (by omega)
  obtain ⟨x27, rfl, w27⟩ := field_int Try.underlying23 t27
  obtain ⟨m27, rfl, b27⟩ := wf_u64_nat w27
  obtain ⟨c28, y28, e28, t28⟩ := hf 28 _ rfl (by omega)
  obtain ⟨x28, rfl, w28⟩ := field_int Try.underlying23 t28
  obtain ⟨m28, rfl, b28⟩ := wf_u64_nat w28
  obtain ⟨c29, y29, e29, t29⟩ := hf 29 _ rfl (by omega)
  obtain ⟨x29, rfl, w29⟩ := field_int Try.underlying23 t29
  obtain ⟨m29, rfl, b29⟩ := wf_u64_nat w29
  obtain ⟨c30, y30, e30, t30⟩ := hf 30 _ rfl (by omega)
  obtain ⟨x30, rfl, w30⟩ := field_int Try.underlying23 t30
  obtain ⟨m30, rfl, b30⟩ := wf_u64_nat w30
  obtain ⟨c31, y31, e31, t31⟩ := hf 31 _ rfl (by omega)
  obtain ⟨x31, rfl, w31⟩ := field_int Try.underlying23 t31
  obtain ⟨m31, rfl, b31⟩ := wf_u64_nat w31
  obtain ⟨c32, y32, e32, t32⟩ := hf 32 _ rfl (by omega)
  obtain ⟨m32, rfl⟩ := field_bool Try.underlying4 t32
  obtain ⟨c33, y33, e33, t33⟩ := hf 33 _ rfl (by omega)
  obtain ⟨m33, rfl⟩ := field_bool Try.underlying4 t33
  obtain ⟨c34, y34, e34, t34⟩ := hf 34 _ rfl (by omega)
  obtain ⟨m34, rfl⟩ := field_bool Try.underlying4 t34
  obtain ⟨c35, y35, e35, t35⟩ := hf 35 _ rfl (by omega)
  obtain ⟨m35, rfl⟩ := field_bool Try.underlying4 t35
  obtain ⟨c36, y36, e36, t36⟩ := hf 36 _ rfl (by omega)
  obtain ⟨m36, rfl⟩ := field_bool Try.underlying4 t36
  obtain rfl := list37 hl e0 e1 e2 e3 e4 e5 e6 e7 e8 e9 e10 e11 e12 e13 e14 e15 e16 e17 e18 e19 e20 e21 e22 e23 e24 e25 e26 e27 e28 e29 e30 e31 e32 e33 e34 e35 e36
  exact ⟨⟨a, n, c, m1, m2, m3, m4, m5, m6, m7, m8, m9, m10, m11, m12, m13, m14, m15, m16, m17, m18, m19, m20, m21, m22, m23, m24, m25, m26, m27, m28, m29, m30, m31, m32, m33, m34, m35, m36⟩, rfl, b1, b2, b3, b4, b5, b6, b7, b8, b9, b10, b11, b12, b13, b17, b18, b19, b20, b21, b22, b23, b24, b25, b26, b27, b28, b29, b30, b31⟩

end
end Go.Proofs.Ytaedeaefoeeidaa
