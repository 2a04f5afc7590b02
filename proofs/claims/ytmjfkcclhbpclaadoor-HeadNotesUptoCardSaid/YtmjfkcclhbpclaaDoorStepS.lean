/- append of a struct to a slice of structs that a call makes itself, as one step of a statement whose order is left open. Nothing of the program is named. -/
import Derived.Test.YtmjfkcclhbpclaaDoorGrow
import Derived.Deep.AppendLies
import Derived.Deep.RegionHeld3
namespace Go.Proofs.YtmjfkcclhbpclaaDoor
open Go.RowKit
set_option linter.unusedVariables false
set_option linter.unusedSimpArgs false

theorem step_push_row {P : Program} {w : World} {ops : Array Oper} {o : Oper} {a : Act} {K : Act → World → Prop} {Q : Exit → Act → World → Prop} {E : Prop} (hgd : o.guard = none) (s x : Operand) {t e : TypeId} {z : Value} {sz bytes : Nat} (F : RowSlice P t e z sz bytes)
    (ho : o.op = .call { callee := .builtin .append, args := #[s, x], argTypes := #[t, t] })
    (B : Nat) (w0 : World) (v : Value) (rows : List (List Value)) (n : Nat) (r : List Value) (hs : a.eval s = v) (ad : Addr) (c : Nat) (hx : a.eval x = .slice (some ad) 1 c) (hnews : ∀ j u, r[j]? = some u → w.cell? (ad.add j) = some u)
    (hn : rows.length = n) (hr : r.length = sz) (hr1 : ∀ u ∈ r, u.oneCell' = true)
    (hown : OwnS w B e sz v rows) (h63 : n + 1 ≤ maxLen) (hlen : (n + 1) * bytes ≤ 140737488355328) (bel : Below B w0 w) (hb : B ≤ w.heap.size)
    (h : ∀ ad' cap w', OwnS w' B e sz (.slice ad' (n + 1) cap) (rows ++ [r]) → Below B w0 w' → K (a.put o.dst (.slice ad' (n + 1) cap)) w') :
    if Region.wanted o (yielded ops a.tmps) = true then Oper.wp P o a w K Q else E := by
  subst hn
  obtain ⟨ht, hinfo, hz, hsz⟩ := F
  obtain ⟨i, hi, hz0, hz1, hz2⟩ := info_parts hinfo
  obtain ⟨hown1, hown2⟩ := hown
  refine step_append_lies _ hgd s x t ho B e i z sz bytes ht hi hz0 hz1 hz2 hz hsz v rows.length rows.flatten hs hown1 ad 1 c r hx (by rw [hr, Nat.one_mul]) hnews hr1 (by omega) h63 hlen hb _ rfl ?_
  intro g cap w1 hown' hgr _ _
  refine h (some ⟨g, 0, none⟩) cap w1 ⟨?_, fun q hq => ?_⟩ (bel.grown hgr hb fun j hj => (World.ownsRow.lt hown1 j hj).1)
  · rw [List.length_append, List.length_cons, List.length_nil, List.flatten_append, List.flatten_cons, List.flatten_nil, List.append_nil]
    exact hown'
  · rcases List.mem_append.1 hq with h | h
    · exact hown2 q h
    · simp only [List.mem_cons, List.not_mem_nil, or_false] at h
      subst h
      exact hr
theorem step_grow_row {P : Program} {w : World} {ops : Array Oper} {o : Oper} {a : Act} {K : Act → World → Prop} {Q : Exit → Act → World → Prop} {E : Prop} (hgd : o.guard = none) (s x : Operand) {t e : TypeId} {z : Value} {sz bytes : Nat} (F : RowSlice P t e z sz bytes)
    (ho : o.op = .call { callee := .builtin .append, args := #[s, x], argTypes := #[t, t] })
    (B : Nat) (v : Value) (rows : List (List Value)) (n : Nat) (r : List Value) (hs : a.eval s = v) (ad : Addr) (c : Nat) (hx : a.eval x = .slice (some ad) 1 c) (hnews : ∀ j u, r[j]? = some u → w.cell? (ad.add j) = some u)
    (hn : rows.length = n) (hr : r.length = sz) (hr1 : ∀ u ∈ r, u.oneCell' = true)
    (hown : OwnS w B e sz v rows) (h63 : n + 1 ≤ maxLen) (hlen : (n + 1) * bytes ≤ 140737488355328) (hb : B ≤ w.heap.size)
    (h : ∀ ad' cap w', OwnS w' B e sz (.slice ad' (n + 1) cap) (rows ++ [r]) → w.grownBy w' v.ownBlock → K (a.put o.dst (.slice ad' (n + 1) cap)) w') :
    if Region.wanted o (yielded ops a.tmps) = true then Oper.wp P o a w K Q else E := by
  subst hn
  obtain ⟨ht, hinfo, hz, hsz⟩ := F
  obtain ⟨i, hi, hz0, hz1, hz2⟩ := info_parts hinfo
  obtain ⟨hown1, hown2⟩ := hown
  refine step_append_lies _ hgd s x t ho B e i z sz bytes ht hi hz0 hz1 hz2 hz hsz v rows.length rows.flatten hs hown1 ad 1 c r hx (by rw [hr, Nat.one_mul]) hnews hr1 (by omega) h63 hlen hb _ rfl ?_
  intro g cap w1 hown' hgr _ _
  refine h (some ⟨g, 0, none⟩) cap w1 ⟨?_, fun q hq => ?_⟩ hgr
  · rw [List.length_append, List.length_cons, List.length_nil, List.flatten_append, List.flatten_cons, List.flatten_nil, List.append_nil]
    exact hown'
  · rcases List.mem_append.1 hq with h | h
    · exact hown2 q h
    · simp only [List.mem_cons, List.not_mem_nil, or_false] at h
      subst h
      exact hr
theorem news_alloc (w : World) (r : List Value) (T : TypeId) : ∀ j u, r[j]? = some u → (w.alloc (.cells r.toArray T)).cell? ((⟨w.heap.size, 0, none⟩ : Addr).add j) = some u := fun j u hu => by
  rw [WideShapes.add_plain, World.cell?_alloc_new]
  simpa using hu
end Go.Proofs.YtmjfkcclhbpclaaDoor
