/- append(x, y...) of structs, y whatever can be read. Nothing of the program is named. -/
import Derived.Test.YtmnjkaimpejohaaGreatDoorOwnS
import Derived.Test.YtmnjkaimpejohaaGreatDoorGrow
import Derived.Laws.AppendOwnNone
import Derived.OwnWalk
namespace Go.Proofs.YtmnjkaimpejohaaGreatDoor
open Go.RowKit
set_option linter.unusedVariables false
set_option linter.unusedSimpArgs false

section
variable {P : Program} {w : World} {ops : Array Oper} {rest : List Oper} {o : Oper} {a : Act} {Q : Exit → Act → World → Prop}
/-- out = append(out, l...), structs -/
theorem wpList_rows (hgd : o.guard = none) (s x : Operand) {t e : TypeId} {z : Value} {sz bytes : Nat} (F : RowSlice P t e z sz bytes)
    (ho : o.op = .call { callee := .builtin .append, args := #[s, x], argTypes := #[t, t] })
    (B : Nat) (w0 : World) (v : Value) (rows : List (List Value)) (n : Nat) (ad : Addr) (cap len : Nat) (ys : List (List Value)) (hs : a.eval s = v) (hx : a.eval x = .slice (some ad) len cap) (hn0 : rows.length = n) (hl : ys.length = len)
    (hrow : RowS w sz (some ad) ys) (hy : ∀ r ∈ ys, r.length = sz ∧ ∀ u ∈ r, u.oneCell' = true)
    (hown : OwnS w B e sz v rows) (h63 : n + len ≤ maxLen) (hlen : (n + len) * bytes ≤ 140737488355328) (bel : Below B w0 w) (hb : B ≤ w.heap.size)
    (h : ∀ ad' cap' w', OwnS w' B e sz (.slice ad' (n + len) cap') (rows ++ ys) → Below B w0 w' → w.grownBy w' v.ownBlock → wpList P ops Q rest (a.put o.dst (.slice ad' (n + len) cap')) w') : wpList P ops Q (o :: rest) a w := by
  subst hl hn0
  obtain ⟨ht, hinfo, hz, hsz⟩ := F
  obtain ⟨i, hi, hz0, hz1, hz2⟩ := info_parts hinfo
  obtain ⟨hown1, hown2⟩ := hown
  have hyl : ∀ r ∈ ys, r.length = sz := fun r hr => (hy r hr).1
  have hfl : ys.flatten.length = ys.length * sz := by
    have : ∀ (q : List (List Value)), (∀ r ∈ q, r.length = sz) → q.flatten.length = q.length * sz := by
      intro q
      induction q with
      | nil => intro _; simp
      | cons r q ih => intro hq; rw [List.flatten_cons, List.length_append, hq r (by simp), ih (fun x hx => hq x (by simp [hx])), List.length_cons, Nat.add_mul]; omega
    exact this ys hyl
  refine wpList_append_own _ hgd s x t ho B e i z sz bytes ht hi hz0 hz1 hz2 hz hsz v rows.length rows.flatten hs hown1 ad ys.length cap ys.flatten hx hfl ?_ ?_ h63 hlen hb ?_
  · intro j u hj
    have hjl : j < ys.length * sz := by
      have := (List.getElem?_eq_some_iff.1 hj).1
      omega
    have hq : j / sz < ys.length := Nat.div_lt_of_lt_mul (by rw [Nat.mul_comm]; exact hjl)
    have hm : j % sz < sz := Nat.mod_lt _ hsz
    obtain ⟨b', o', e', -, hc⟩ := hrow (j / sz) hq
    simp only [Option.some.injEq] at e'
    subst e'
    have h1 := hc (j % sz) hm
    have h2 := flatten_at ys hyl (j / sz) (j % sz) hq hm
    have h3 : j / sz * sz + j % sz = j := by rw [Nat.mul_comm]; exact Nat.div_add_mod j sz
    rw [h3] at h2
    rw [WideShapes.add_plain, show o' + j = o' + j / sz * sz + j % sz by omega, h1, ← h2, hj]
  · intro u hu
    obtain ⟨r, hr, hu⟩ := List.mem_flatten.1 hu
    exact (hy r hr).2 u hu
  · intro v' w1 hown' hgr _
    have hos : OwnS w1 B e sz v' (rows ++ ys) := by
      refine ⟨?_, fun q hq => ?_⟩
      · rw [List.length_append, List.flatten_append]
        exact hown'
      · rcases List.mem_append.1 hq with h | h
        · exact hown2 q h
        · exact hyl q h
    obtain ⟨ad', cap', hv, -⟩ := hos.row
    rw [List.length_append] at hv
    subst hv
    exact h ad' cap' w1 hos (bel.grown hgr hb fun j hj => (World.ownsRow.lt hown1 j hj).1) hgr
end
theorem RowS.cut {w : World} {sz : Nat} {a : Addr} {rows : List (List Value)} (h : RowS w sz (some a) rows) (d n : Nat) : RowS w sz (some (a.add (d * sz))) ((rows.drop d).take n) := by
  intro i hi
  have hi2 : d + i < rows.length := by simp at hi; omega
  obtain ⟨b, o, e, hlt, hc⟩ := h (d + i) hi2
  simp only [Option.some.injEq] at e
  subst e
  refine ⟨b, o + d * sz, by rw [WideShapes.add_plain], hlt, fun j hj => ?_⟩
  have := hc j hj
  rw [show o + d * sz + i * sz + j = o + (d + i) * sz + j by rw [Nat.add_mul]; omega, this]
  rw [List.getElem_take, List.getElem_drop]
end Go.Proofs.YtmnjkaimpejohaaGreatDoor
