/- Layer 5: what a dynamic section tells, as a value. -/
import Derived.Test.YtmjfkcclhbpclaaDoorKit
import Derived.Test.YtmjfkcclhbpclaaDoorBase
import Derived.Deep.Fields
import Derived.Deep.Slices
import Derived.SizedLaws
import Derived.Test.YtmjfkcclhbpclaaDoorDynNum
namespace Go.Proofs.YtmjfkcclhbpclaaDoor
open Go.RowKit

structure DT where
  na : Option Addr
  nl : Nat
  nc : Nat
  pltrelsz : Nat
  pltgot : Nat
  hash : Nat
  strtab : Nat
  symtab : Nat
  rela : Nat
  relasz : Nat
  strsz : Nat
  init : Nat
  fini : Nat
  soname : Nat
  rpath : Nat
  runpath : Nat
  hasSoname : Bool
  hasRpath : Bool
  hasRunpath : Bool
  jmprel : Nat
  initArray : Nat
  finiArray : Nat
  initArraysz : Nat
  finiArraysz : Nat
  flags : Nat
  relr : Nat
  relrsz : Nat
  gnuHash : Nat
  versym : Nat
  flags1 : Nat
  verdef : Nat
  verdefnum : Nat
  verneed : Nat
  verneednum : Nat
  symbolic : Bool
  bindNow : Bool
  textrel : Bool
  hasInit : Bool
  hasFini : Bool

def DT.cells (d : DT) : Array Value := #[.slice d.na d.nl d.nc, .int .u64 ((d.pltrelsz : Nat) : Int), .int .u64 ((d.pltgot : Nat) : Int), .int .u64 ((d.hash : Nat) : Int), .int .u64 ((d.strtab : Nat) : Int), .int .u64 ((d.symtab : Nat) : Int), .int .u64 ((d.rela : Nat) : Int), .int .u64 ((d.relasz : Nat) : Int), .int .u64 ((d.strsz : Nat) : Int), .int .u64 ((d.init : Nat) : Int), .int .u64 ((d.fini : Nat) : Int), .int .u64 ((d.soname : Nat) : Int), .int .u64 ((d.rpath : Nat) : Int), .int .u64 ((d.runpath : Nat) : Int), .bool d.hasSoname, .bool d.hasRpath, .bool d.hasRunpath, .int .u64 ((d.jmprel : Nat) : Int), .int .u64 ((d.initArray : Nat) : Int), .int .u64 ((d.finiArray : Nat) : Int), .int .u64 ((d.initArraysz : Nat) : Int), .int .u64 ((d.finiArraysz : Nat) : Int), .int .u64 ((d.flags : Nat) : Int), .int .u64 ((d.relr : Nat) : Int), .int .u64 ((d.relrsz : Nat) : Int), .int .u64 ((d.gnuHash : Nat) : Int), .int .u64 ((d.versym : Nat) : Int), .int .u64 ((d.flags1 : Nat) : Int), .int .u64 ((d.verdef : Nat) : Int), .int .u64 ((d.verdefnum : Nat) : Int), .int .u64 ((d.verneed : Nat) : Int), .int .u64 ((d.verneednum : Nat) : Int), .bool d.symbolic, .bool d.bindNow, .bool d.textrel, .bool d.hasInit, .bool d.hasFini]
def DT.wf (d : DT) : Prop := d.pltrelsz < 18446744073709551616 ∧ d.pltgot < 18446744073709551616 ∧ d.hash < 18446744073709551616 ∧ d.strtab < 18446744073709551616 ∧ d.symtab < 18446744073709551616 ∧ d.rela < 18446744073709551616 ∧ d.relasz < 18446744073709551616 ∧ d.strsz < 18446744073709551616 ∧ d.init < 18446744073709551616 ∧ d.fini < 18446744073709551616 ∧ d.soname < 18446744073709551616 ∧ d.rpath < 18446744073709551616 ∧ d.runpath < 18446744073709551616 ∧ d.jmprel < 18446744073709551616 ∧ d.initArray < 18446744073709551616 ∧ d.finiArray < 18446744073709551616 ∧ d.initArraysz < 18446744073709551616 ∧ d.finiArraysz < 18446744073709551616 ∧ d.flags < 18446744073709551616 ∧ d.relr < 18446744073709551616 ∧ d.relrsz < 18446744073709551616 ∧ d.gnuHash < 18446744073709551616 ∧ d.versym < 18446744073709551616 ∧ d.flags1 < 18446744073709551616 ∧ d.verdef < 18446744073709551616 ∧ d.verdefnum < 18446744073709551616 ∧ d.verneed < 18446744073709551616 ∧ d.verneednum < 18446744073709551616
def DT.v (d : DT) : Value := .agg d.cells
theorem DT.wf.pltrelsz {d : DT} (h : d.wf) : d.pltrelsz < 18446744073709551616 := h.1
theorem DT.wf.pltgot {d : DT} (h : d.wf) : d.pltgot < 18446744073709551616 := h.2.1
theorem DT.wf.hash {d : DT} (h : d.wf) : d.hash < 18446744073709551616 := h.2.2.1
theorem DT.wf.strtab {d : DT} (h : d.wf) : d.strtab < 18446744073709551616 := h.2.2.2.1
theorem DT.wf.symtab {d : DT} (h : d.wf) : d.symtab < 18446744073709551616 := h.2.2.2.2.1
theorem DT.wf.rela {d : DT} (h : d.wf) : d.rela < 18446744073709551616 := h.2.2.2.2.2.1
theorem DT.wf.relasz {d : DT} (h : d.wf) : d.relasz < 18446744073709551616 := h.2.2.2.2.2.2.1
theorem DT.wf.strsz {d : DT} (h : d.wf) : d.strsz < 18446744073709551616 := h.2.2.2.2.2.2.2.1
theorem DT.wf.init {d : DT} (h : d.wf) : d.init < 18446744073709551616 := h.2.2.2.2.2.2.2.2.1
theorem DT.wf.fini {d : DT} (h : d.wf) : d.fini < 18446744073709551616 := h.2.2.2.2.2.2.2.2.2.1
theorem DT.wf.soname {d : DT} (h : d.wf) : d.soname < 18446744073709551616 := h.2.2.2.2.2.2.2.2.2.2.1
theorem DT.wf.rpath {d : DT} (h : d.wf) : d.rpath < 18446744073709551616 := h.2.2.2.2.2.2.2.2.2.2.2.1
theorem DT.wf.runpath {d : DT} (h : d.wf) : d.runpath < 18446744073709551616 := h.2.2.2.2.2.2.2.2.2.2.2.2.1
theorem DT.wf.jmprel {d : DT} (h : d.wf) : d.jmprel < 18446744073709551616 := h.2.2.2.2.2.2.2.2.2.2.2.2.2.1
theorem DT.wf.initArray {d : DT} (h : d.wf) : d.initArray < 18446744073709551616 := h.2.2.2.2.2.2.2.2.2.2.2.2.2.2.1
theorem DT.wf.finiArray {d : DT} (h : d.wf) : d.finiArray < 18446744073709551616 := h.2.2.2.2.2.2.2.2.2.2.2.2.2.2.2.1
theorem DT.wf.initArraysz {d : DT} (h : d.wf) : d.initArraysz < 18446744073709551616 := h.2.2.2.2.2.2.2.2.2.2.2.2.2.2.2.2.1
theorem DT.wf.finiArraysz {d : DT} (h : d.wf) : d.finiArraysz < 18446744073709551616 := h.2.2.2.2.2.2.2.2.2.2.2.2.2.2.2.2.2.1
theorem DT.wf.flags {d : DT} (h : d.wf) : d.flags < 18446744073709551616 := h.2.2.2.2.2.2.2.2.2.2.2.2.2.2.2.2.2.2.1
theorem DT.wf.relr {d : DT} (h : d.wf) : d.relr < 18446744073709551616 := h.2.2.2.2.2.2.2.2.2.2.2.2.2.2.2.2.2.2.2.1
theorem DT.wf.relrsz {d : DT} (h : d.wf) : d.relrsz < 18446744073709551616 := h.2.2.2.2.2.2.2.2.2.2.2.2.2.2.2.2.2.2.2.2.1
theorem DT.wf.gnuHash {d : DT} (h : d.wf) : d.gnuHash < 18446744073709551616 := h.2.2.2.2.2.2.2.2.2.2.2.2.2.2.2.2.2.2.2.2.2.1
theorem DT.wf.versym {d : DT} (h : d.wf) : d.versym < 18446744073709551616 := h.2.2.2.2.2.2.2.2.2.2.2.2.2.2.2.2.2.2.2.2.2.2.1
theorem DT.wf.flags1 {d : DT} (h : d.wf) : d.flags1 < 18446744073709551616 := h.2.2.2.2.2.2.2.2.2.2.2.2.2.2.2.2.2.2.2.2.2.2.2.1
theorem DT.wf.verdef {d : DT} (h : d.wf) : d.verdef < 18446744073709551616 := h.2.2.2.2.2.2.2.2.2.2.2.2.2.2.2.2.2.2.2.2.2.2.2.2.1
theorem DT.wf.verdefnum {d : DT} (h : d.wf) : d.verdefnum < 18446744073709551616 := h.2.2.2.2.2.2.2.2.2.2.2.2.2.2.2.2.2.2.2.2.2.2.2.2.2.1
theorem DT.wf.verneed {d : DT} (h : d.wf) : d.verneed < 18446744073709551616 := h.2.2.2.2.2.2.2.2.2.2.2.2.2.2.2.2.2.2.2.2.2.2.2.2.2.2.1
theorem DT.wf.verneednum {d : DT} (h : d.wf) : d.verneednum < 18446744073709551616 := h.2.2.2.2.2.2.2.2.2.2.2.2.2.2.2.2.2.2.2.2.2.2.2.2.2.2.2
end Go.Proofs.YtmjfkcclhbpclaaDoor
/- A struct of fields of one cell each, handed in by value: its cells, and what each field reads as. Nothing of the program is named. -/
namespace Go.Proofs.YtmjfkcclhbpclaaDoor
open Go.RowKit Go.WideShapes Go.Deep
set_option linter.unusedVariables false
set_option linter.unusedSimpArgs false

section
variable {H : Type} {enc : TypeId × Value → H} {P : Program} {w : World} {base : Nat} {spare : Nat → Bool} {held : Bool}

theorem open_fields {r : Reach} {b0 N : Nat} {t : TypeId} {fs : Array Field} {v : Value} {d : DataW H} {p : List MemPlace} (ht : P.underlying t = some (.struct fs)) (hone : oneCellFields P fs = true) (hC : P.cellsOf t = N)
    (hv : Value.okWide P w r b0 t v) (h : DataW.Trod enc P w base spare held t v d p) :
    ∃ (cs : List Value) (n : Nat), v = .agg cs.toArray ∧ cs.length = N ∧ ∀ (j : Nat) (f : Field), fs[j]? = some f → j < N → ∃ c y, cs[j]? = some c ∧ DataW.trod enc P w base spare held n f.type [c] = some y := by
  obtain ⟨cs, rfl, hsz⟩ := okWide_struct ht hv
  obtain ⟨fuel, hf⟩ := h
  obtain ⟨xs, n, -, -, -, hlen, hg⟩ := DataW.trod_struct ht hf
  refine ⟨cs.toList, n, by simp, by simp [hsz, hC], fun j f hj hN => ?_⟩
  obtain ⟨ho, hk⟩ := hone_of hone j f hj
  have hjl : j < fs.size := (Array.getElem?_eq_some_iff.1 hj).1
  have h1 := hg j f hj
  have hcl : j < cs.toList.length := by rw [Array.length_toList]; omega
  have e1 : ((Value.agg cs).cells.toList.drop f.offset).take (P.cellsOf f.type) = [cs.toList[j]] := by
    rw [ho, hk]
    show (cs.toList.drop j).take 1 = _
    rw [List.drop_eq_getElem_cons hcl]
    rfl
  rw [e1, List.getElem?_eq_getElem (by omega)] at h1
  exact ⟨_, _, List.getElem?_eq_getElem hcl, h1⟩

theorem field_int {n : Nat} {t : TypeId} {k : IntKind} {c : Value} {y : DataW H × List MemPlace} (ht : P.underlying t = some (.int k)) (h : DataW.trod enc P w base spare held n t [c] = some y) : ∃ x, c = .int k x ∧ (Lit.int k x).wf = true := by
  obtain ⟨x, hc, -, hw⟩ := DataW.trod_int ht h
  exact ⟨x, by simpa using hc, hw⟩
theorem field_bool {n : Nat} {t : TypeId} {c : Value} {y : DataW H × List MemPlace} (ht : P.underlying t = some .bool) (h : DataW.trod enc P w base spare held n t [c] = some y) : ∃ x, c = .bool x := by
  obtain ⟨x, hc, -⟩ := DataW.trod_bool ht h
  exact ⟨x, by simpa using hc⟩
theorem field_string {n : Nat} {t : TypeId} {c : Value} {y : DataW H × List MemPlace} (ht : P.underlying t = some .string) (h : DataW.trod enc P w base spare held n t [c] = some y) : ∃ x : ByteArray, c = .string x ∧ x.size ≤ maxLen := by
  obtain ⟨x, hc, -, hw⟩ := DataW.trod_string ht h
  exact ⟨x, by simpa using hc, hw⟩
end

theorem list1 {cs : List Value} {c0 : Value} (hl : cs.length = 1) (e0 : cs[0]? = some c0) : cs = [c0] := by
  match cs, hl with
  | [a0], _ =>
    simp only [List.getElem?_cons_zero, List.getElem?_cons_succ, Option.some.injEq] at e0
    simp only [e0]

theorem list2 {cs : List Value} {c0 c1 : Value} (hl : cs.length = 2) (e0 : cs[0]? = some c0) (e1 : cs[1]? = some c1) : cs = [c0, c1] := by
  match cs, hl with
  | [a0, a1], _ =>
    simp only [List.getElem?_cons_zero, List.getElem?_cons_succ, Option.some.injEq] at e0 e1
    simp only [e0, e1]

theorem list3 {cs : List Value} {c0 c1 c2 : Value} (hl : cs.length = 3) (e0 : cs[0]? = some c0) (e1 : cs[1]? = some c1) (e2 : cs[2]? = some c2) : cs = [c0, c1, c2] := by
  match cs, hl with
  | [a0, a1, a2], _ =>
    simp only [List.getElem?_cons_zero, List.getElem?_cons_succ, Option.some.injEq] at e0 e1 e2
    simp only [e0, e1, e2]

theorem list4 {cs : List Value} {c0 c1 c2 c3 : Value} (hl : cs.length = 4) (e0 : cs[0]? = some c0) (e1 : cs[1]? = some c1) (e2 : cs[2]? = some c2) (e3 : cs[3]? = some c3) : cs = [c0, c1, c2, c3] := by
  match cs, hl with
  | [a0, a1, a2, a3], _ =>
    simp only [List.getElem?_cons_zero, List.getElem?_cons_succ, Option.some.injEq] at e0 e1 e2 e3
    simp only [e0, e1, e2, e3]

theorem list5 {cs : List Value} {c0 c1 c2 c3 c4 : Value} (hl : cs.length = 5) (e0 : cs[0]? = some c0) (e1 : cs[1]? = some c1) (e2 : cs[2]? = some c2) (e3 : cs[3]? = some c3) (e4 : cs[4]? = some c4) : cs = [c0, c1, c2, c3, c4] := by
  match cs, hl with
  | [a0, a1, a2, a3, a4], _ =>
    simp only [List.getElem?_cons_zero, List.getElem?_cons_succ, Option.some.injEq] at e0 e1 e2 e3 e4
    simp only [e0, e1, e2, e3, e4]

theorem list6 {cs : List Value} {c0 c1 c2 c3 c4 c5 : Value} (hl : cs.length = 6) (e0 : cs[0]? = some c0) (e1 : cs[1]? = some c1) (e2 : cs[2]? = some c2) (e3 : cs[3]? = some c3) (e4 : cs[4]? = some c4) (e5 : cs[5]? = some c5) : cs = [c0, c1, c2, c3, c4, c5] := by
  match cs, hl with
  | [a0, a1, a2, a3, a4, a5], _ =>
    simp only [List.getElem?_cons_zero, List.getElem?_cons_succ, Option.some.injEq] at e0 e1 e2 e3 e4 e5
    simp only [e0, e1, e2, e3, e4, e5]

theorem list7 {cs : List Value} {c0 c1 c2 c3 c4 c5 c6 : Value} (hl : cs.length = 7) (e0 : cs[0]? = some c0) (e1 : cs[1]? = some c1) (e2 : cs[2]? = some c2) (e3 : cs[3]? = some c3) (e4 : cs[4]? = some c4) (e5 : cs[5]? = some c5) (e6 : cs[6]? = some c6) : cs = [c0, c1, c2, c3, c4, c5, c6] := by
  match cs, hl with
  | [a0, a1, a2, a3, a4, a5, a6], _ =>
    simp only [List.getElem?_cons_zero, List.getElem?_cons_succ, Option.some.injEq] at e0 e1 e2 e3 e4 e5 e6
    simp only [e0, e1, e2, e3, e4, e5, e6]

theorem list8 {cs : List Value} {c0 c1 c2 c3 c4 c5 c6 c7 : Value} (hl : cs.length = 8) (e0 : cs[0]? = some c0) (e1 : cs[1]? = some c1) (e2 : cs[2]? = some c2) (e3 : cs[3]? = some c3) (e4 : cs[4]? = some c4) (e5 : cs[5]? = some c5) (e6 : cs[6]? = some c6) (e7 : cs[7]? = some c7) : cs = [c0, c1, c2, c3, c4, c5, c6, c7] := by
  match cs, hl with
  | [a0, a1, a2, a3, a4, a5, a6, a7], _ =>
    simp only [List.getElem?_cons_zero, List.getElem?_cons_succ, Option.some.injEq] at e0 e1 e2 e3 e4 e5 e6 e7
    simp only [e0, e1, e2, e3, e4, e5, e6, e7]

end Go.Proofs.YtmjfkcclhbpclaaDoor
/- What comes in, as the frame reads it, with what it weighs: structs, slices, texts. Nothing of the program is named. -/
namespace Go.Proofs.YtmjfkcclhbpclaaDoor
open Go.RowKit Go.WideShapes Go.Deep
set_option linter.unusedVariables false
set_option linter.unusedSimpArgs false

section
variable {H : Type} {enc : TypeId × Value → H} {P : Program} {w : World} {base : Nat} {spare : Nat → Bool} {held : Bool}

/-- a struct's fields, one cell each, and what they weigh -/
theorem open_fields_w {r : Reach} {b0 N : Nat} {t : TypeId} {fs : Array Field} {v : Value} {d : DataW H} {p : List MemPlace} (ht : P.underlying t = some (.struct fs)) (hone : oneCellFields P fs = true) (hC : P.cellsOf t = N)
    (hv : Value.okWide P w r b0 t v) (h : DataW.Trod enc P w base spare held t v d p) (hw : ∀ n ∈ d.weights P t, n ≤ reachBytes) :
    ∃ (cs : List Value) (n : Nat), v = .agg cs.toArray ∧ cs.length = N ∧ ∀ (j : Nat) (f : Field), fs[j]? = some f → j < N → ∃ c y, cs[j]? = some c ∧ DataW.trod enc P w base spare held n f.type [c] = some y ∧ ∀ k ∈ y.1.weights P f.type, k ≤ reachBytes := by
  obtain ⟨cs, rfl, hsz⟩ := okWide_struct ht hv
  obtain ⟨fuel, hf⟩ := h
  obtain ⟨xs, n, -, hx, -, hlen, hg⟩ := DataW.trod_struct ht hf
  simp only [Prod.mk.injEq] at hx
  obtain ⟨rfl, -⟩ := hx
  refine ⟨cs.toList, n, by simp, by simp [hsz, hC], fun j f hj hN => ?_⟩
  obtain ⟨ho, hk⟩ := hone_of hone j f hj
  have hjl : j < fs.size := (Array.getElem?_eq_some_iff.1 hj).1
  have h1 := hg j f hj
  have hcl : j < cs.toList.length := by rw [Array.length_toList]; omega
  have e1 : ((Value.agg cs).cells.toList.drop f.offset).take (P.cellsOf f.type) = [cs.toList[j]] := by
    rw [ho, hk]
    show (cs.toList.drop j).take 1 = _
    rw [List.drop_eq_getElem_cons hcl]
    rfl
  have hxj : j < xs.length := by omega
  rw [e1, List.getElem?_eq_getElem hxj] at h1
  refine ⟨_, _, List.getElem?_eq_getElem hcl, h1, fun k hk => hw k ?_⟩
  simp only [DataW.weights, ht]
  refine DataW.weights_mem_each (j := j) (t := f.type) (d := xs[j].1) ?_ ?_ k hk
  · rw [List.getElem?_map, Array.getElem?_toList, hj]; rfl
  · rw [List.getElem?_map, List.getElem?_eq_getElem hxj]; rfl

/-- a slice: its elements, and what they weigh -/
theorem open_slice_w {t e : TypeId} {fuel : Nat} {c : Value} {x : DataW H × List MemPlace} (ht : P.underlying t = some (.slice e)) (h : DataW.trod enc P w base (fun _ => true) held fuel t [c] = some x) (hw : ∀ n ∈ x.1.weights P t, n ≤ reachBytes) :
    (c = .slice none 0 0) ∨
    ∃ (a : Addr) (len cap n : Nat), c = .slice (some a) len cap ∧ len ≤ cap ∧ cap ≤ maxLen ∧ cap * P.bytesOf e ≤ reachBytes ∧
      ∀ i, i < cap → ∃ cs' y, w.cells? base (a.add (i * P.cellsOf e)) (P.cellsOf e) = some cs' ∧ DataW.trod enc P w base (fun _ => true) held n e cs' = some y ∧ (i < len → ∀ k ∈ y.1.weights P e, k ≤ reachBytes) := by
  rcases open_slice ht h with ⟨h1, -⟩ | ⟨ad, l, cp, m, n, D, Pl, h1, -, hl, hm, hmm, hx, hy⟩
  · left
    simpa using h1
  · right
    simp only [if_true] at hmm
    subst hmm hx
    refine ⟨ad, l, m, n, by simpa using h1, hl, hm, ?_, fun i hi => ?_⟩
    · have := hw ((((List.range l).map D).length + ((List.range (m - l)).map fun j => D (l + j)).length) * P.bytesOf e) (by simp [DataW.weights, ht])
      simpa [show l + (m - l) = m from by omega] using this
    · obtain ⟨cs', h2, h3⟩ := hy i hi
      refine ⟨cs', _, h2, h3, fun hil k hk => hw k ?_⟩
      simp only [DataW.weights, ht, List.mem_cons, List.mem_append]
      right; left
      have : ∀ (l : List (DataW H)) (d : DataW H), d ∈ l → ∀ k ∈ d.weights P e, k ∈ DataW.weightsAll P e l := by
        intro l
        induction l with
        | nil => intro d hd; cases hd
        | cons d0 l ih =>
          intro d hd k hk
          simp only [DataW.weightsAll, List.mem_append]
          rcases List.mem_cons.1 hd with rfl | hd
          · exact .inl hk
          · exact .inr (ih d hd k hk)
      exact this _ (D i) (List.mem_map.2 ⟨i, List.mem_range.2 hil, rfl⟩) k hk
theorem field_string_w {n : Nat} {t : TypeId} {c : Value} {y : DataW H × List MemPlace} (ht : P.underlying t = some .string) (h : DataW.trod enc P w base spare held n t [c] = some y) (hw : ∀ k ∈ y.1.weights P t, k ≤ reachBytes) : ∃ x : ByteArray, c = .string x ∧ x.size ≤ reachBytes := by
  obtain ⟨x, hc, hy, -⟩ := DataW.trod_string ht h
  refine ⟨x, by simpa using hc, ?_⟩
  have hy1 : y.1 = .lit (.string x.data.toList) := by rw [hy]
  have := hw x.data.toList.length (by rw [hy1]; simp [DataW.weights])
  simpa using this
end

end Go.Proofs.YtmjfkcclhbpclaaDoor
/- Layers 4 and 5: a header and what a dynamic section tells, as they come in. -/
namespace Go.Proofs.YtmjfkcclhbpclaaDoor
open Go.RowKit Go.WideShapes Go.Deep
set_option linter.unusedVariables false
set_option linter.unusedSimpArgs false


section
variable {H : Type} {enc : TypeId × Value → H} {w : World} {base : Nat} {spare : Nat → Bool} {held : Bool}

theorem wf_u32_nat {n : Int} (h : (Lit.int .u32 n).wf = true) : ∃ m : Nat, n = (m : Int) ∧ m < 4294967296 := by
  have := bounds_u32 h
  exact ⟨n.toNat, by omega, by omega⟩
theorem wf_u64_nat {n : Int} (h : (Lit.int .u64 n).wf = true) : ∃ m : Nat, n = (m : Int) ∧ m < 18446744073709551616 := by
  have := bounds_u64 h
  exact ⟨n.toNat, by omega, by omega⟩

set_option maxRecDepth 100000 in
theorem prog_of_trod {n : Nat} {cs : List Value} {y : DataW H × List MemPlace} (h : DataW.trod enc Tryd.prog w base spare held n 37 cs = some y) : ∃ r : PT, cs = r.cells ∧ r.wf := by
  obtain ⟨xs, m, -, -, hlen, hxl, hf⟩ := DataW.trod_struct Tryd.underlying37 h
  have hc : Tryd.prog.cellsOf 37 = 7 := by kernel_rfl
  rw [hc] at hlen
  match cs, hlen with
  | [c0, c1, c2, c3, c4, c5, c6], _ =>
    have k64 : Tryd.prog.cellsOf 22 = 1 := by kernel_rfl
    have k32 : Tryd.prog.cellsOf 35 = 1 := by kernel_rfl
    have g0 : DataW.trod enc Tryd.prog w base spare held m 35 (([c0, c1, c2, c3, c4, c5, c6].drop 0).take (Tryd.prog.cellsOf 35)) = xs[0]? := hf 0 _ rfl
    have g1 : DataW.trod enc Tryd.prog w base spare held m 35 (([c0, c1, c2, c3, c4, c5, c6].drop 1).take (Tryd.prog.cellsOf 35)) = xs[1]? := hf 1 _ rfl
    have g2 : DataW.trod enc Tryd.prog w base spare held m 22 (([c0, c1, c2, c3, c4, c5, c6].drop 2).take (Tryd.prog.cellsOf 22)) = xs[2]? := hf 2 _ rfl
    have g3 : DataW.trod enc Tryd.prog w base spare held m 22 (([c0, c1, c2, c3, c4, c5, c6].drop 3).take (Tryd.prog.cellsOf 22)) = xs[3]? := hf 3 _ rfl
    have g4 : DataW.trod enc Tryd.prog w base spare held m 22 (([c0, c1, c2, c3, c4, c5, c6].drop 4).take (Tryd.prog.cellsOf 22)) = xs[4]? := hf 4 _ rfl
    have g5 : DataW.trod enc Tryd.prog w base spare held m 22 (([c0, c1, c2, c3, c4, c5, c6].drop 5).take (Tryd.prog.cellsOf 22)) = xs[5]? := hf 5 _ rfl
    have g6 : DataW.trod enc Tryd.prog w base spare held m 22 (([c0, c1, c2, c3, c4, c5, c6].drop 6).take (Tryd.prog.cellsOf 22)) = xs[6]? := hf 6 _ rfl
    have hx : xs.length = 7 := by rw [hxl]; rfl
    simp only [k64, k32, List.drop_succ_cons, List.drop_zero, List.take_succ_cons, List.take_zero] at g0 g1 g2 g3 g4 g5 g6
    rw [List.getElem?_eq_getElem (by omega)] at g0 g1 g2 g3 g4 g5 g6
    obtain ⟨x0, rfl, w0⟩ := field_int Tryd.underlying35 g0
    obtain ⟨m0, rfl, b0⟩ := wf_u32_nat w0
    obtain ⟨x1, rfl, w1⟩ := field_int Tryd.underlying35 g1
    obtain ⟨m1, rfl, b1⟩ := wf_u32_nat w1
    obtain ⟨x2, rfl, w2⟩ := field_int Tryd.underlying22 g2
    obtain ⟨m2, rfl, b2⟩ := wf_u64_nat w2
    obtain ⟨x3, rfl, w3⟩ := field_int Tryd.underlying22 g3
    obtain ⟨m3, rfl, b3⟩ := wf_u64_nat w3
    obtain ⟨x4, rfl, w4⟩ := field_int Tryd.underlying22 g4
    obtain ⟨m4, rfl, b4⟩ := wf_u64_nat w4
    obtain ⟨x5, rfl, w5⟩ := field_int Tryd.underlying22 g5
    obtain ⟨m5, rfl, b5⟩ := wf_u64_nat w5
    obtain ⟨x6, rfl, w6⟩ := field_int Tryd.underlying22 g6
    obtain ⟨m6, rfl, b6⟩ := wf_u64_nat w6
    exact ⟨⟨m0, m1, m2, m3, m4, m5, m6⟩, rfl, b0, b1, b2, b3, b4, b5, b6⟩

set_option maxRecDepth 100000 in
theorem open_progs {fuel : Nat} {c : Value} {x : DataW H × List MemPlace} (h : DataW.trod enc Tryd.prog w base (fun _ => true) held fuel 23 [c] = some x) (hw : ∀ n ∈ x.1.weights Tryd.prog 23, n ≤ reachBytes) :
    ∃ (a : Option Addr) (cap : Nat) (ps : List PT), c = .slice a ps.length cap ∧ PRow w a ps ∧ ps.length ≤ 140737488351232 := by
  rcases open_slice_w Tryd.underlying23 h hw with rfl | ⟨ad, len, cap, n, rfl, hl, hm, hb, hx⟩
  · exact ⟨none, 0, [], rfl, (fun i hi => by simp at hi), by simp⟩
  · have hc : Tryd.prog.cellsOf 37 = 7 := by kernel_rfl
    have hby : Tryd.prog.bytesOf 37 = 48 := by kernel_rfl
    rw [hby] at hb
    have each : ∀ i, i < len → ∃ r : PT, r.wf ∧ ∀ j, j < 7 → w.cell? ((ad.add (i * 7)).add j) = r.cells[j]? := by
      intro i hi
      obtain ⟨cs, y, h2, h3, -⟩ := hx i (by omega)
      rw [hc] at h2
      obtain ⟨-, -, h4⟩ := World.cells?_some h2
      obtain ⟨r, rfl, hr⟩ := prog_of_trod h3
      exact ⟨r, hr, h4⟩
    haveI : Inhabited PT := ⟨PT.zero⟩
    obtain ⟨q, hq⟩ := choose_lt each
    refine ⟨some ad, cap, (List.range len).map q, by simp, ?_, by simp [reachBytes] at hb ⊢; omega⟩
    intro i hi
    have hi' : i < len := by simpa using hi
    obtain ⟨b, off, spot⟩ := ad
    have hs : spot = none := by
      have := (hq 0 (by omega)).2 0 (by omega)
      simp only [Nat.zero_mul, PT.cells, List.getElem?_cons_zero] at this
      simpa [Addr.add] using World.cell?_spot this
    subst hs
    have hcell : ∀ j, j < 7 → w.cell? ⟨b, off + i * 7 + j, none⟩ = (q i).cells[j]? := fun j hj => by
      have := (hq i hi').2 j hj
      rw [WideShapes.add_plain, WideShapes.add_plain] at this
      exact this
    refine ⟨by simpa using (hq i hi').1, b, off, rfl, ?_, fun j hj => ?_⟩
    · have := hcell 0 (by omega)
      simp only [PT.cells, List.getElem?_cons_zero] at this
      simpa using World.block_lt_of_cell? w _ this
    · rw [hcell j hj]
      simp

set_option maxRecDepth 100000 in
theorem open_head {r : Reach} {b0 : Nat} {v : Value} {d : DataW H} {p : List MemPlace} (hv : Value.okWide Tryd.prog w r b0 25 v) (h : DataW.Trod enc Tryd.prog w base (fun _ => true) held 25 v d p) (hw : ∀ n ∈ d.weights Tryd.prog 25, n ≤ reachBytes) :
    ∃ (ty en : Int) (a : Option Addr) (cap : Nat) (ps : List PT), v = headV ty en a ps.length cap ∧ (Lit.int .i64 ty).wf = true ∧ (Lit.int .u64 en).wf = true ∧ PRow w a ps ∧ ps.length ≤ 140737488351232 := by
  obtain ⟨cs, fu, rfl, hl, hf⟩ := open_fields_w (N := 3) Tryd.underlying25 (by kernel_rfl) (by kernel_rfl) hv h hw
  obtain ⟨c0, y0, e0, t0, -⟩ := hf 0 _ rfl (by omega)
  obtain ⟨x0, rfl, w0⟩ := field_int Tryd.underlying3 t0
  obtain ⟨c1, y1, e1, t1, -⟩ := hf 1 _ rfl (by omega)
  obtain ⟨x1, rfl, w1⟩ := field_int Tryd.underlying22 t1
  obtain ⟨c2, y2, e2, t2, u2⟩ := hf 2 _ rfl (by omega)
  obtain ⟨a, cap, ps, rfl, hp, hpl⟩ := open_progs t2 u2
  obtain rfl := list3 hl e0 e1 e2
  exact ⟨x0, x1, a, cap, ps, rfl, w0, w1, hp, hpl⟩




























































































































end
end Go.Proofs.YtmjfkcclhbpclaaDoor
