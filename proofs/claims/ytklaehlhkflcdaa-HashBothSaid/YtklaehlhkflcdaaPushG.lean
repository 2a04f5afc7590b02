/- append of numbers to a slice that a call makes itself, which tells the block. Nothing of the program is named. -/
import Derived.Test.YtklaehlhkflcdaaStepI
namespace Go.Proofs.Ytklaehlhkflcdaa
open Go.RowKit
set_option linter.unusedVariables false
set_option linter.unusedSimpArgs false

section
variable {P : Program} {w : World} {ops : Array Oper} {rest : List Oper} {o : Oper} {a : Act} {K : Act → World → Prop} {Q : Exit → Act → World → Prop} {E : Prop}
theorem wpList_pushes_g (hgd : o.guard = none) (s x : Operand) {t e : TypeId} {k : IntKind} {bytes : Nat} (F : IntSlice P t e k bytes)
    (ho : o.op = .call { callee := .builtin .append, args := #[s, x], argTypes := #[t, t] })
    (B : Nat) (v : Value) (xs : List Int) (n : Nat) (ad : Addr) (c len : Nat) (ys : List Int) (hs : a.eval s = v) (hx : a.eval x = .slice (some ad) len c) (hn0 : xs.length = n) (hl : ys.length = len) (h0 : 0 < len) (hrow : Row k w (some ad) ys)
    (hown : OwnI w B e k v xs) (h63 : n + len ≤ maxLen) (hlen : (n + len) * bytes ≤ 140737488355328) (hb : B ≤ w.heap.size) (H : Nat) (hH : w.heap.size = H)
    (h : ∀ g cap w', OwnI w' B e k (.slice (some ⟨g, 0, none⟩) (n + len) cap) (xs ++ ys) → w.grownBy w' v.ownBlock → (v.ownBlock = some g ∨ g = H) → wpList P ops Q rest (a.put o.dst (.slice (some ⟨g, 0, none⟩) (n + len) cap)) w') : wpList P ops Q (o :: rest) a w := by
  subst hn0 hl
  obtain ⟨ht, hinfo⟩ := F
  obtain ⟨i, hi, hz0, hz1, hz2⟩ := info_parts hinfo
  refine wpList_append_lies _ hgd s x t ho B e i (.int k 0) 1 bytes ht hi hz0 hz1 hz2 rfl (by decide) v xs.length (xs.map (Value.int k)) hs hown ad ys.length c (ys.map (Value.int k)) hx (by simp) ?_ (ints_oneCell k ys) h0 h63 hlen hb H hH ?_
  · intro j u hj
    have hl : j < ys.length := by
      have := (List.getElem?_eq_some_iff.1 hj).1
      simpa using this
    obtain ⟨b', o', e', hc⟩ := hrow j hl
    simp only [Option.some.injEq] at e'
    subst e'
    rw [WideShapes.add_plain, hc]
    rw [List.getElem?_map, List.getElem?_eq_getElem hl] at hj
    simp only [Option.map_some, Option.some.injEq] at hj
    rw [← hj]
    simp [List.getD, hl]
  · intro g cap w1 hown' hgr hor _
    refine h g cap w1 ?_ hgr hor
    unfold OwnI
    rw [List.length_append, List.map_append]
    exact hown'
theorem step_pushes_g (hgd : o.guard = none) (s x : Operand) {t e : TypeId} {k : IntKind} {bytes : Nat} (F : IntSlice P t e k bytes)
    (ho : o.op = .call { callee := .builtin .append, args := #[s, x], argTypes := #[t, t] })
    (B : Nat) (v : Value) (xs : List Int) (n : Nat) (ad : Addr) (c len : Nat) (ys : List Int) (hs : a.eval s = v) (hx : a.eval x = .slice (some ad) len c) (hn0 : xs.length = n) (hl : ys.length = len) (h0 : 0 < len) (hrow : Row k w (some ad) ys)
    (hown : OwnI w B e k v xs) (h63 : n + len ≤ maxLen) (hlen : (n + len) * bytes ≤ 140737488355328) (hb : B ≤ w.heap.size) (H : Nat) (hH : w.heap.size = H)
    (h : ∀ g cap w', OwnI w' B e k (.slice (some ⟨g, 0, none⟩) (n + len) cap) (xs ++ ys) → w.grownBy w' v.ownBlock → (v.ownBlock = some g ∨ g = H) → K (a.put o.dst (.slice (some ⟨g, 0, none⟩) (n + len) cap)) w') :
    if Region.wanted o (yielded ops a.tmps) = true then Oper.wp P o a w K Q else E := by
  subst hn0 hl
  obtain ⟨ht, hinfo⟩ := F
  obtain ⟨i, hi, hz0, hz1, hz2⟩ := info_parts hinfo
  refine step_append_lies _ hgd s x t ho B e i (.int k 0) 1 bytes ht hi hz0 hz1 hz2 rfl (by decide) v xs.length (xs.map (Value.int k)) hs hown ad ys.length c (ys.map (Value.int k)) hx (by simp) ?_ (ints_oneCell k ys) h0 h63 hlen hb H hH ?_
  · intro j u hj
    have hl : j < ys.length := by
      have := (List.getElem?_eq_some_iff.1 hj).1
      simpa using this
    obtain ⟨b', o', e', hc⟩ := hrow j hl
    simp only [Option.some.injEq] at e'
    subst e'
    rw [WideShapes.add_plain, hc]
    rw [List.getElem?_map, List.getElem?_eq_getElem hl] at hj
    simp only [Option.map_some, Option.some.injEq] at hj
    rw [← hj]
    simp [List.getD, hl]
  · intro g cap w1 hown' hgr hor _
    refine h g cap w1 ?_ hgr hor
    unfold OwnI
    rw [List.length_append, List.map_append]
    exact hown'
end
/-- a row that is owned elsewhere stays -/
theorem OwnI.keepG {w w' : World} {B : Nat} {e : TypeId} {k : IntKind} {g n cap : Nat} {xs : List Int} {v : Value} {g0 : Nat} (h : OwnI w B e k (.slice (some ⟨g, 0, none⟩) n cap) xs) (hg : w.grownBy w' v.ownBlock) (hv : v.ownBlock = some g0) (hne : ¬ g = g0) : OwnI w' B e k (.slice (some ⟨g, 0, none⟩) n cap) xs :=
  World.ownsRow.kept h hg (.inr (by rw [hv]; intro e1; simp only [Value.ownBlock, Option.some.injEq] at e1; exact hne e1))
end Go.Proofs.Ytklaehlhkflcdaa
