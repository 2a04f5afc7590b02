/- append of a struct to an own slice, and where the new slice lies. Nothing of the program is named. -/
import Derived.Test.YtcjgljmeefbacaaStepS
namespace Go.Proofs.Ytcjgljmeefbacaa
open Go.RowKit
set_option linter.unusedVariables false
set_option linter.unusedSimpArgs false

theorem own_snoc {w : World} {B : Nat} {e : TypeId} {sz : Nat} {g : Option Addr} {n cap : Nat} {rows : List (List Value)} {r : List Value} (hown' : w.ownsRow B e sz (.slice g (n + 1) cap) (n + 1) (rows.flatten ++ r)) (h2 : ∀ q ∈ rows, q.length = sz) (hr : r.length = sz) (hn : rows.length = n) : OwnS w B e sz (.slice g (n + 1) cap) (rows ++ [r]) := by
  subst hn
  refine ⟨?_, fun q hq => ?_⟩
  · rw [List.length_append, List.length_cons, List.length_nil, List.flatten_append, List.flatten_cons, List.flatten_nil, List.append_nil]
    exact hown'
  · rcases List.mem_append.1 hq with h | h
    · exact h2 q h
    · simp only [List.mem_cons, List.not_mem_nil, or_false] at h
      subst h
      exact hr
theorem step_lies_row {P : Program} {w : World} {ops : Array Oper} {o : Oper} {a : Act} {K : Act → World → Prop} {Q : Exit → Act → World → Prop} {E : Prop} (hgd : o.guard = none) (s x : Operand) {t e : TypeId} {z : Value} {sz bytes : Nat} (F : RowSlice P t e z sz bytes)
    (ho : o.op = .call { callee := .builtin .append, args := #[s, x], argTypes := #[t, t] })
    (B : Nat) (v : Value) (rows : List (List Value)) (n : Nat) (r : List Value) (hs : a.eval s = v) (ad : Addr) (c : Nat) (hx : a.eval x = .slice (some ad) 1 c) (hnews : ∀ j u, r[j]? = some u → w.cell? (ad.add j) = some u)
    (hn : rows.length = n) (hr : r.length = sz) (hr1 : ∀ u ∈ r, u.oneCell' = true)
    (hown : OwnS w B e sz v rows) (h63 : n + 1 ≤ maxLen) (hlen : (n + 1) * bytes ≤ 140737488355328) (hb : B ≤ w.heap.size) (H : Nat) (hH : w.heap.size = H)
    (h : ∀ g cap w', OwnS w' B e sz (.slice (some ⟨g, 0, none⟩) (n + 1) cap) (rows ++ [r]) → w.grownBy w' v.ownBlock → (v.ownBlock = some g ∨ g = H) → K (a.put o.dst (.slice (some ⟨g, 0, none⟩) (n + 1) cap)) w') :
    if Region.wanted o (yielded ops a.tmps) = true then Oper.wp P o a w K Q else E := by
  obtain ⟨ht, hinfo, hz, hsz⟩ := F
  obtain ⟨i, hi, hz0, hz1, hz2⟩ := info_parts hinfo
  obtain ⟨hown1, hown2⟩ := hown
  rw [hn] at hown1
  refine step_append_lies _ hgd s x t ho B e i z sz bytes ht hi hz0 hz1 hz2 hz hsz v n rows.flatten hs hown1 ad 1 c r hx (by rw [hr, Nat.one_mul]) hnews hr1 (by omega) h63 hlen hb H hH ?_
  intro g cap w1 hown' hgr hat _
  exact h g cap w1 (own_snoc hown' hown2 hr hn) hgr hat
theorem wpList_lies_row {P : Program} {w : World} {ops : Array Oper} {rest : List Oper} {o : Oper} {a : Act} {Q : Exit → Act → World → Prop} (hgd : o.guard = none) (s x : Operand) {t e : TypeId} {z : Value} {sz bytes : Nat} (F : RowSlice P t e z sz bytes)
    (ho : o.op = .call { callee := .builtin .append, args := #[s, x], argTypes := #[t, t] })
    (B : Nat) (v : Value) (rows : List (List Value)) (n : Nat) (r : List Value) (hs : a.eval s = v) (ad : Addr) (c : Nat) (hx : a.eval x = .slice (some ad) 1 c) (hnews : ∀ j u, r[j]? = some u → w.cell? (ad.add j) = some u)
    (hn : rows.length = n) (hr : r.length = sz) (hr1 : ∀ u ∈ r, u.oneCell' = true)
    (hown : OwnS w B e sz v rows) (h63 : n + 1 ≤ maxLen) (hlen : (n + 1) * bytes ≤ 140737488355328) (hb : B ≤ w.heap.size) (H : Nat) (hH : w.heap.size = H)
    (h : ∀ g cap w', OwnS w' B e sz (.slice (some ⟨g, 0, none⟩) (n + 1) cap) (rows ++ [r]) → w.grownBy w' v.ownBlock → (v.ownBlock = some g ∨ g = H) → wpList P ops Q rest (a.put o.dst (.slice (some ⟨g, 0, none⟩) (n + 1) cap)) w') :
    wpList P ops Q (o :: rest) a w := by
  obtain ⟨ht, hinfo, hz, hsz⟩ := F
  obtain ⟨i, hi, hz0, hz1, hz2⟩ := info_parts hinfo
  obtain ⟨hown1, hown2⟩ := hown
  rw [hn] at hown1
  refine wpList_append_lies _ hgd s x t ho B e i z sz bytes ht hi hz0 hz1 hz2 hz hsz v n rows.flatten hs hown1 ad 1 c r hx (by rw [hr, Nat.one_mul]) hnews hr1 (by omega) h63 hlen hb H hH ?_
  intro g cap w1 hown' hgr hat _
  exact h g cap w1 (own_snoc hown' hown2 hr hn) hgr hat
end Go.Proofs.Ytcjgljmeefbacaa
