/- append(nothing, b...): an own copy of whatever slice of numbers. -/
import Derived.Test.YtobpfcipfjadaaaDoorRefPut
import Derived.Laws.AppendOwnNone
namespace Go.Proofs.YtobpfcipfjadaaaDoor
open Go.RowKit
set_option linter.unusedVariables false

theorem Row.anynews {k : IntKind} {w : World} {ad : Addr} {xs : List Int} (h : Row k w (some ad) xs) : ∀ j u, (xs.map (Value.int k))[j]? = some u → w.cell? (ad.add j) = some u := by
  intro j u hj
  have hl : j < xs.length := by
    have := (List.getElem?_eq_some_iff.1 hj).1
    simpa using this
  obtain ⟨b', o', e, -⟩ := h j hl
  simp only [Option.some.injEq] at e
  subst e
  exact h.news j u hj

theorem wpList_append_copy {P : Program} {w : World} {ops : Array Oper} {rest : List Oper} {o : Oper} {a : Act} {Q : Exit → Act → World → Prop} (hgd : o.guard = none) (s x : Operand) (t : TypeId)
    (ho : o.op = .call { callee := .builtin .append, args := #[s, x], argTypes := #[t, t] })
    (e : TypeId) (i : TypeInfo) (z : Value) (bytes : Nat) (ht : P.underlying t = some (.slice e)) (hi : P.info? e = some i) (hz : i.zero = some z)
    (hsize : i.size = 1) (hby : i.bytes = bytes) (hzs : z.cells.size = 1)
    (k : IntKind) (ad : Option Addr) (len cap : Nat) (xs : List Int) (hs : a.eval s = .slice none 0 0) (hx : a.eval x = .slice ad len cap) (hlen : len = xs.length) (hrow : Row k w ad xs) (hn : ad = none → xs.length = 0 ∧ cap = 0)
    (h63 : xs.length ≤ maxLen) (hbytes : xs.length * bytes ≤ 140737488355328)
    (h : ∀ v' w', w'.ownsRow w.heap.size e 1 v' xs.length (xs.map (Value.int k)) → Below w.heap.size w w' → wpList P ops Q rest (a.put o.dst v') w') : wpList P ops Q (o :: rest) a w := by
  subst hlen
  cases ad with
  | none =>
    obtain ⟨h0, rfl⟩ := hn rfl
    obtain rfl : xs = [] := List.length_eq_zero_iff.1 h0
    refine wpList_append_own_none hgd s x t ho w.heap.size e i 1 ht hi (.slice none 0 0) 0 [] hs (World.ownsRow_nil _ _ _ _) hx ?_
    exact h _ _ (World.ownsRow_nil _ _ _ _) (Below.refl _ _)
  | some ad =>
    refine wpList_append_own w hgd s x t ho w.heap.size e i z 1 bytes ht hi hz hsize hby hzs (by decide) (.slice none 0 0) 0 [] hs (World.ownsRow_nil _ _ _ _) ad xs.length cap (xs.map (Value.int k)) hx (by simp) hrow.anynews (ints_one _ _) (by omega) (by rw [Nat.zero_add]; exact hbytes) (Nat.le_refl _) ?_
    intro v' w' hown hgr _
    rw [Nat.zero_add, List.nil_append] at hown
    exact h v' w' hown ((Below.refl _ _).grown hgr (Nat.le_refl _) (fun k hk => by cases hk))

theorem same_eq (a b : Option Addr) (c d : Nat) (xs : List Int) (n m : Nat) (w : World) (hn : n = xs.length) (hm : m = xs.length) (ha : Row .u8 w a xs) (hb : Row .u8 w b xs) (hx : xs.length ≤ maxLen) :
    Calls Tryd.prog 10 #[.slice a n c, .slice b m d] w fun e w' => e = .returned (.bool true) ∧ Below w.heap.size w w' := by
  subst hn hm
  have := same_any a b c d xs xs w ha hb hx hx
  simpa using this
theorem same_nil (w : World) :
    Calls Tryd.prog 10 #[.slice none 0 0, .slice none 0 0] w fun e w' => e = .returned (.bool true) ∧ Below w.heap.size w w' :=
  same_eq none none 0 0 [] 0 0 w rfl rfl (fun i hi => by simp at hi) (fun i hi => by simp at hi) (by simp)
end Go.Proofs.YtobpfcipfjadaaaDoor
