/- Layer 8: the reader of versions in memory: what it reads from, and the map of what was told. -/
import Derived.Test.YtikpkblemegggaaVersF
namespace Go.Proofs.Ytikpkblemegggaa
open Go.RowKit Go.Maps
set_option linter.unusedVariables false
set_option linter.unusedSimpArgs false

theorem lawInt : Keyed Try.prog 3 := int_keyed Try.underlying3
theorem zeroUnit (w : World) : (zeroValue 100).run Try.prog w = .ok (.agg #[]) w := by kernel_rfl
def keyL (x : Nat) : Lit := .int .i64 (x : Int)
def setN (told : List Nat) : DataW Unit := setOf (.agg []) (told.map keyL)
theorem keyL_key (x : Nat) : WideAt.IsKeyLit (keyL x) := trivial
theorem keyL_of {x : Nat} (h : x < 9223372036854775808) : keyOf Try.prog 3 (.int .i64 (x : Int)) = some (keyL x) := keyOf_int_mk Try.underlying3 (WalkArith.wf_i64 (by omega))
theorem setN_snoc (told : List Nat) (x : Nat) : setN (told ++ [x]) = (setN told).put (keyL x) (.agg []) := by
  unfold setN
  rw [List.map_append, List.map_cons, List.map_nil, setOf_snoc]
theorem has_setN (told : List Nat) (x : Nat) : Maps.has (setN told) (keyL x) = decide (x ∈ told) := by
  unfold setN
  rw [has_setOf _ _ _ (fun y hy => by
    obtain ⟨z, -, rfl⟩ := List.mem_map.1 hy
    exact keyL_key z)]
  rw [Bool.eq_iff_iff, List.any_eq_true, decide_eq_true_eq]
  constructor
  · rintro ⟨y, hy, hs⟩
    obtain ⟨z, hz, rfl⟩ := List.mem_map.1 hy
    have : z = x := by
      simp [keyL, Lit.sameKey] at hs
      omega
    subst this
    exact hz
  · intro h
    exact ⟨keyL x, List.mem_map.2 ⟨x, h, rfl⟩, by simp [keyL, Lit.sameKey]⟩

/-- the map of what was told -/
def MapN (w : World) (B : Nat) (told : List Nat) : Prop := w.ownsMap Try.prog 3 (unitElem (H := Unit)) B told.length (setN told) ∧ ToldOk told

/-- where the reader is, and what it reads from -/
structure RD where
  R : Nat
  B : Nat
  a : Option Addr
  cap : Nat
  bs : List Nat
  ty : Int
  en : Int
  p : Option Addr
  pc : Nat
  ps : List PT
  sa : Option Addr
  sc : Nat
  ss : List Nat
def RD.cells (r : RD) : Array Value := #[.slice r.a r.bs.length r.cap, .int .i64 r.ty, .int .u64 r.en, .slice r.p r.ps.length r.pc, .slice r.sa r.ss.length r.sc, .map (some r.B)]
structure RD.fit (r : RD) : Prop where
  hbl : r.bs.length ≤ 140737488351232
  hbc : r.bs.length ≤ r.cap
  hbn : r.a = none → r.bs.length = 0 ∧ r.cap = 0
  hl : r.ps.length ≤ 140737488351232
  ssl : r.ss.length ≤ 1048576
  ssc : r.ss.length ≤ r.sc
structure RD.ok (r : RD) (w : World) : Prop where
  box : w.heap[r.R]? = some (.cells r.cells 66)
  hb : BRow w r.a r.bs
  h : PRow w r.p r.ps
  hs : BRow w r.sa r.ss
  fit : r.fit
  isMap : ∃ es c, w.heap[r.B]? = some (.map es c)

theorem cell_no_map {w : World} {b : Nat} {es : Array MapEntry} {c : Nat} (h : w.heap[b]? = some (.map es c)) (o : Nat) {v : Value} : w.cell? ⟨b, o, none⟩ = some v → False := by
  intro h2
  simp [World.cell?, h] at h2

/-- all but the map stays -/
def Kp (B : Nat) (w w' : World) : Prop := w.grownBy w' (some B)
theorem Kp.refl (B : Nat) (w : World) : Kp B w w := World.grownBy.refl _ _
theorem Kp.below {B : Nat} {w w' : World} (h : Below w.heap.size w w') : Kp B w w' := ⟨h.os, h.tape, h.output, h.size, fun i hi _ => h.block i hi⟩
theorem Kp.trans {B : Nat} {a b c : World} (h : Kp B a b) (k : Kp B b c) : Kp B a c := World.grownBy.trans h k
theorem Kp.alloc {B : Nat} {a w : World} (h : Kp B a w) (o : Obj) : Kp B a (w.alloc o) := h.trans (Kp.below ((Below.refl _ _).alloc (Nat.le_refl _) _))
theorem Kp.drew {B : Nat} {a w : World} (h : Kp B a w) : Kp B a w.drew := ⟨h.os, h.tape, h.output, h.size, h.block⟩
theorem Kp.set {B : Nat} {a w : World} (h : Kp B a w) {q : Addr} (hq : a.heap.size ≤ q.block) (u : Value) : Kp B a (w.setCell q u) :=
  ⟨h.os, h.tape, h.output, by have := h.size; simpa [World.setCell] using this, fun i hi hne => (Below.heap_setCell _ _ _ _ (by omega)).trans (h.block i hi hne)⟩
theorem Kp.grown {B : Nat} {a w w' : World} (h : Kp B a w) {row : Option Nat} (hg : w.grownBy w' row) (hr : ∀ k, row = some k → a.heap.size ≤ k) : Kp B a w' :=
  ⟨hg.os.trans h.os, hg.tape.trans h.tape, hg.output.trans h.output, Nat.le_trans h.size hg.size, fun i hi hne => (hg.block i (Nat.lt_of_lt_of_le hi h.size) (fun e => by have := hr i e.symm; omega)).trans (h.block i hi hne)⟩

theorem RD.ok.kept {r : RD} {w w' : World} (h : r.ok w) (k : Kp r.B w w') (hm : ∃ es c, w'.heap[r.B]? = some (.map es c)) : r.ok w' := by
  obtain ⟨es, c, hB⟩ := h.isMap
  have far : ∀ b o v, w.cell? ⟨b, o, none⟩ = some v → w'.cell? ⟨b, o, none⟩ = some v := fun b o v hv =>
    k.cell hv (fun e => by
      simp only [Option.some.injEq] at e
      subst e
      exact cell_no_map hB o hv)
  have brow : ∀ (a : Option Addr) (xs : List Nat), BRow w a xs → BRow w' a xs := fun a xs hr => ⟨fun i hi => by
    obtain ⟨b, o, e, hc⟩ := hr.1 i hi
    exact ⟨b, o, e, far b _ _ hc⟩, hr.2⟩
  have hne : some r.R ≠ some r.B := fun e => by
    simp only [Option.some.injEq] at e
    have h1 := h.box
    rw [e, hB] at h1
    cases h1
  refine ⟨(k.block r.R (lt_of_block h.box) hne).trans h.box, brow _ _ h.hb, ?_, brow _ _ h.hs, h.fit, hm⟩
  intro i hi
  obtain ⟨hw, b, o, e, hlt, hc⟩ := h.h i hi
  refine ⟨hw, b, o, e, Nat.lt_of_lt_of_le hlt k.size, fun j hj => ?_⟩
  rw [← hc j hj]
  have hcs : r.ps[i].cells[j]? ≠ none := by
    rcases (show j = 0 ∨ j = 1 ∨ j = 2 ∨ j = 3 ∨ j = 4 ∨ j = 5 ∨ j = 6 by omega) with rfl | rfl | rfl | rfl | rfl | rfl | rfl <;> simp [PT.cells]
  obtain ⟨v, hv⟩ := Option.ne_none_iff_exists'.1 hcs
  have hcv := hc j hj
  rw [hv] at hcv
  rw [far _ _ _ hcv, hcv]
theorem MapN.isMap {w : World} {B : Nat} {told : List Nat} (h : MapN w B told) : ∃ es c, w.heap[B]? = some (.map es c) := by
  obtain ⟨es, c, hb, -⟩ := h.1
  exact ⟨es, c, hb⟩
theorem MapN.lt {w : World} {B : Nat} {told : List Nat} (h : MapN w B told) : B < w.heap.size := by
  obtain ⟨es, c, hb⟩ := h.isMap
  exact lt_of_block hb
theorem MapN.kept {w w' : World} {B : Nat} {told : List Nat} {row : Option Nat} (h : MapN w B told) (hg : w.grownBy w' row) (hne : some B ≠ row) : MapN w' B told := ⟨World.ownsMap.kept h.1 hg hne, h.2⟩
theorem MapN.below {w w' : World} {B : Nat} {told : List Nat} (h : MapN w B told) (hb : Below w.heap.size w w') : MapN w' B told := h.kept (row := none) ⟨hb.os, hb.tape, hb.output, hb.size, fun i hi _ => hb.block i hi⟩ (by simp)
theorem MapN.set {w : World} {B : Nat} {told : List Nat} (h : MapN w B told) {q : Addr} (hq : B ≠ q.block) (u : Value) : MapN (w.setCell q u) B told := ⟨World.ownsMap.setCell h.1 hq u, h.2⟩
theorem RD.ok.below {r : RD} {w w' : World} (h : r.ok w) (hb : Below w.heap.size w w') : r.ok w' := by
  obtain ⟨es, c, hB⟩ := h.isMap
  exact h.kept (Kp.below hb) ⟨es, c, by rw [hb.block _ (lt_of_block hB)]; exact hB⟩

section
variable {r : RD} {w : World}
theorem RD.ok.c0 (h : r.ok w) : w.cell? ⟨r.R, 0, none⟩ = some (.slice r.a r.bs.length r.cap) := by rw [cell_of_row w r.R 0 _ _ _ h.box]; rfl
theorem RD.ok.c1 (h : r.ok w) : w.cell? ⟨r.R, 1, none⟩ = some (.int .i64 r.ty) := by rw [cell_of_row w r.R 1 _ _ _ h.box]; rfl
theorem RD.ok.c2 (h : r.ok w) : w.cell? ⟨r.R, 2, none⟩ = some (.int .u64 r.en) := by rw [cell_of_row w r.R 2 _ _ _ h.box]; rfl
theorem RD.ok.c3 (h : r.ok w) : w.cell? ⟨r.R, 3, none⟩ = some (.slice r.p r.ps.length r.pc) := by rw [cell_of_row w r.R 3 _ _ _ h.box]; rfl
theorem RD.ok.c4 (h : r.ok w) : w.cell? ⟨r.R, 4, none⟩ = some (.slice r.sa r.ss.length r.sc) := by rw [cell_of_row w r.R 4 _ _ _ h.box]; rfl
theorem RD.ok.c5 (h : r.ok w) : w.cell? ⟨r.R, 5, none⟩ = some (.map (some r.B)) := by rw [cell_of_row w r.R 5 _ _ _ h.box]; rfl
end
def rdV (r : RD) : Value := .pointer (some ⟨r.R, 0, none⟩)
end Go.Proofs.Ytikpkblemegggaa
