/- Layer 17: which version isn't there, as lists (plain functions); objects in memory. -/
import Derived.Test.YtpilccalgegadaaTexts
import Derived.Test.YtpilccalgegadaaBox
import Derived.Deep.MidRow
import Derived.Laws.CopyOwn
import Derived.Deep.WholeRow
namespace Go.Proofs.Ytpilccalgegadaa
open Go.RowKit
set_option linter.unusedVariables false
set_option linter.unusedSimpArgs false

theorem three_stores {w : World} {b : Nat} {T : TypeId} {u0 u1 u2 : Value} (E : w.heap[b]? = some (.cells #[u0, u1, u2] T)) (v0 v1 v2 : Value) :
    (((w.setCell ⟨b, 0, none⟩ v0).setCell ⟨b, 1, none⟩ v1).setCell ⟨b, 2, none⟩ v2) = w.setRow b #[v0, v1, v2] := by
  have step : ∀ (cs : Array Value) (i : Nat) (v : Value), (w.setRow b cs).setCell ⟨b, i, none⟩ v = w.setRow b (cs.setIfInBounds i v) := fun cs i v => by
    rw [setCell_eq_setRow _ _ _ _ _ _ _ (setRow_heap w b _ cs T (0, 0) E), setRow_setRow]
  rw [setCell_eq_setRow w b 0 _ _ _ _ E, step, step]
  simp only [List.setIfInBounds_toArray, List.set_cons_zero, List.set_cons_succ]
structure BAux where
  idx : Int
  weak : Bool
  name : ByteArray
structure BNeed where
  file : ByteArray
  aux : List BAux
structure BObj where
  soname : ByteArray
  defs : List ByteArray
  needs : List BNeed

/-- is a text in a list? -/
def hasF (T : List ByteArray) (ver : ByteArray) : Bool := T.any fun d => decide (d = ver)
theorem hasF_yes {T : List ByteArray} {ver : ByteArray} (h : ver ∈ T) : hasF T ver = true := List.any_eq_true.2 ⟨ver, h, decide_eq_true rfl⟩
theorem hasF_no {T : List ByteArray} {ver : ByteArray} (h : ∀ x ∈ T, ¬ x = ver) : hasF T ver = false := by
  rw [Bool.eq_false_iff]
  intro hh
  obtain ⟨x, hx, hd⟩ := List.any_eq_true.1 hh
  exact h x hx (of_decide_eq_true hd)
/-- does an object go by a name? -/
def goesF (o : BObj) (i : Nat) (names : List ByteArray) (name : ByteArray) : Bool := decide (o.soname = name ∨ (i < names.length ∧ names.getD i .empty = name))
/-- is a version there? -/
def provF (names : List ByteArray) (file ver : ByteArray) : Nat → List BObj → Bool
  | _, [] => false
  | i, o :: l => if goesF o i names file = true then (decide (o.defs.length = 0) || hasF o.defs ver) else provF names file ver (i + 1) l
theorem provF_cons (names : List ByteArray) (file ver : ByteArray) (i : Nat) (o : BObj) (l : List BObj) : provF names file ver i (o :: l) = if goesF o i names file = true then (decide (o.defs.length = 0) || hasF o.defs ver) else provF names file ver (i + 1) l := rfl
/-- the first one that isn't there: the object, the version, the file -/
def missA (pr : ByteArray → ByteArray → Bool) (i : Nat) (file : ByteArray) : List BAux → Option (Nat × ByteArray × ByteArray)
  | [] => none
  | v :: l => if v.weak = false ∧ pr file v.name = false then some (i, v.name, file) else missA pr i file l
def missN (pr : ByteArray → ByteArray → Bool) (i : Nat) : List BNeed → Option (Nat × ByteArray × ByteArray)
  | [] => none
  | n :: l => (missA pr i n.file n.aux).or (missN pr i l)
def missO (pr : ByteArray → ByteArray → Bool) : Nat → List BObj → Option (Nat × ByteArray × ByteArray)
  | _, [] => none
  | i, o :: l => (missN pr i o.needs).or (missO pr (i + 1) l)

theorem missA_cons (pr : ByteArray → ByteArray → Bool) (i : Nat) (file : ByteArray) (v : BAux) (l : List BAux) : missA pr i file (v :: l) = if v.weak = false ∧ pr file v.name = false then some (i, v.name, file) else missA pr i file l := rfl
theorem missN_cons (pr : ByteArray → ByteArray → Bool) (i : Nat) (n : BNeed) (l : List BNeed) : missN pr i (n :: l) = (missA pr i n.file n.aux).or (missN pr i l) := rfl
theorem missO_cons (pr : ByteArray → ByteArray → Bool) (i : Nat) (o : BObj) (l : List BObj) : missO pr i (o :: l) = (missN pr i o.needs).or (missO pr (i + 1) l) := rfl
theorem or_or {α : Type} (a b c : Option α) : (a.or b).or c = a.or (b.or c) := by cases a <;> rfl
/-- what is answered -/
def wantV : Option (Nat × ByteArray × ByteArray) → Value
  | none => .tuple #[.int .i64 0, .agg #[.string ⟨#[]⟩, .string ⟨#[]⟩, .string ⟨#[]⟩], .bool true]
  | some (i, v, f) => .tuple #[.int .i64 (i : Int), .agg #[.string ⟨#[]⟩, .string v, .string f], .bool false]
theorem drop_cons {α : Type} {l : List α} {k : Nat} (h : k < l.length) : l.drop k = l[k] :: l.drop (k + 1) := List.drop_eq_getElem_cons h

/-- what versions an object defines, in memory -/
def VDRow (w : World) (a : Option Addr) (T : List ByteArray) : Prop := ∀ i, i < T.length → ∃ b o ix bs pa pl pc, a = some ⟨b, o, none⟩ ∧ b < w.heap.size ∧ w.cell? ⟨b, o + i * 4, none⟩ = some (.int .i64 ix) ∧ w.cell? ⟨b, o + i * 4 + 1, none⟩ = some (.bool bs) ∧ w.cell? ⟨b, o + i * 4 + 2, none⟩ = some (.string (T.getD i .empty)) ∧ w.cell? ⟨b, o + i * 4 + 3, none⟩ = some (.slice pa pl pc)
def AXRow (w : World) (a : Option Addr) (l : List BAux) : Prop := ∀ i (h : i < l.length), ∃ b o, a = some ⟨b, o, none⟩ ∧ b < w.heap.size ∧ w.cell? ⟨b, o + i * 3, none⟩ = some (.int .i64 l[i].idx) ∧ w.cell? ⟨b, o + i * 3 + 1, none⟩ = some (.bool l[i].weak) ∧ w.cell? ⟨b, o + i * 3 + 2, none⟩ = some (.string l[i].name)
def NDRow (w : World) (a : Option Addr) (l : List BNeed) : Prop := ∀ i (h : i < l.length), ∃ b o xa xc, a = some ⟨b, o, none⟩ ∧ b < w.heap.size ∧ w.cell? ⟨b, o + i * 2, none⟩ = some (.string l[i].file) ∧ w.cell? ⟨b, o + i * 2 + 1, none⟩ = some (.slice xa l[i].aux.length xc) ∧ AXRow w xa l[i].aux ∧ l[i].aux.length ≤ 140737488355328
/-- an object as the cells of a value -/
structure OCells (w : World) (C : Array Value) (x : BObj) : Prop where
  size : C.size = 54
  one : C.all (·.oneCell') = true
  soname : C[41]? = some (.string x.soname)
  defs : ∃ da dc, C[48]? = some (.slice da x.defs.length dc) ∧ VDRow w da x.defs
  needs : ∃ na nc, C[49]? = some (.slice na x.needs.length nc) ∧ NDRow w na x.needs
  dlen : x.defs.length ≤ 140737488355328
  nlen : x.needs.length ≤ 140737488355328
def ORow (w : World) (a : Option Addr) (l : List BObj) : Prop := ∀ i (h : i < l.length), ∃ b o C, a = some ⟨b, o, none⟩ ∧ b < w.heap.size ∧ w.rangeAt b (o + i * 54) C.toList ∧ OCells w C l[i]

theorem VDRow.below {w w' : World} {a : Option Addr} {T : List ByteArray} (h : VDRow w a T) (hb : Below w.heap.size w w') : VDRow w' a T := by
  intro i hi
  obtain ⟨b, o, ix, bs, pa, pl, pc, e, hlt, h0, h1, h2, h3⟩ := h i hi
  exact ⟨b, o, ix, bs, pa, pl, pc, e, Nat.lt_of_lt_of_le hlt hb.size, by rw [hb.cell (p := ⟨b, _, none⟩) hlt]; exact h0, by rw [hb.cell (p := ⟨b, _, none⟩) hlt]; exact h1, by rw [hb.cell (p := ⟨b, _, none⟩) hlt]; exact h2, by rw [hb.cell (p := ⟨b, _, none⟩) hlt]; exact h3⟩
theorem AXRow.below {w w' : World} {a : Option Addr} {l : List BAux} (h : AXRow w a l) (hb : Below w.heap.size w w') : AXRow w' a l := by
  intro i hi
  obtain ⟨b, o, e, hlt, h0, h1, h2⟩ := h i hi
  exact ⟨b, o, e, Nat.lt_of_lt_of_le hlt hb.size, by rw [hb.cell (p := ⟨b, _, none⟩) hlt]; exact h0, by rw [hb.cell (p := ⟨b, _, none⟩) hlt]; exact h1, by rw [hb.cell (p := ⟨b, _, none⟩) hlt]; exact h2⟩
theorem NDRow.below {w w' : World} {a : Option Addr} {l : List BNeed} (h : NDRow w a l) (hb : Below w.heap.size w w') : NDRow w' a l := by
  intro i hi
  obtain ⟨b, o, xa, xc, e, hlt, h0, h1, h2, h3⟩ := h i hi
  exact ⟨b, o, xa, xc, e, Nat.lt_of_lt_of_le hlt hb.size, by rw [hb.cell (p := ⟨b, _, none⟩) hlt]; exact h0, by rw [hb.cell (p := ⟨b, _, none⟩) hlt]; exact h1, h2.below hb, h3⟩
theorem OCells.below {w w' : World} {C : Array Value} {x : BObj} (h : OCells w C x) (hb : Below w.heap.size w w') : OCells w' C x := by
  obtain ⟨da, dc, e1, h1⟩ := h.defs
  obtain ⟨na, nc, e2, h2⟩ := h.needs
  exact ⟨h.size, h.one, h.soname, ⟨da, dc, e1, h1.below hb⟩, ⟨na, nc, e2, h2.below hb⟩, h.dlen, h.nlen⟩
theorem rangeAt_below {w w' : World} {b o : Nat} {cs : List Value} (h : w.rangeAt b o cs) (hlt : b < w.heap.size) (hb : Below w.heap.size w w') : w'.rangeAt b o cs := by
  intro j v hj
  rw [hb.cell (p := ⟨b, _, none⟩) hlt]
  exact h j v hj
theorem ORow.below {w w' : World} {a : Option Addr} {l : List BObj} (h : ORow w a l) (hb : Below w.heap.size w w') : ORow w' a l := by
  intro i hi
  obtain ⟨b, o, C, e, hlt, h0, h1⟩ := h i hi
  exact ⟨b, o, C, e, Nat.lt_of_lt_of_le hlt hb.size, rangeAt_below h0 hlt hb, h1.below hb⟩
end Go.Proofs.Ytpilccalgegadaa
