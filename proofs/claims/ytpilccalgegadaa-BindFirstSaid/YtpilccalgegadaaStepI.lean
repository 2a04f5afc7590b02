/- append of one number to a slice of numbers that a call makes itself, as one step of a statement whose order is left open. Nothing of the program is named. -/
import Derived.Test.YtpilccalgegadaaGrow
import Derived.Deep.AppendLies
import Derived.Deep.RegionHeld3
namespace Go.Proofs.Ytpilccalgegadaa
open Go.RowKit
set_option linter.unusedVariables false
set_option linter.unusedSimpArgs false

theorem step_push_int {P : Program} {w : World} {ops : Array Oper} {o : Oper} {a : Act} {K : Act → World → Prop} {Q : Exit → Act → World → Prop} {E : Prop} (hgd : o.guard = none) (s x : Operand) {t e : TypeId} {k : IntKind} {bytes : Nat} (F : IntSlice P t e k bytes)
    (ho : o.op = .call { callee := .builtin .append, args := #[s, x], argTypes := #[t, t] })
    (B : Nat) (B0 : Nat) (w0 : World) (v : Value) (xs : List Int) (n : Nat) (y : Int) (hs : a.eval s = v) (ad : Addr) (c : Nat) (hx : a.eval x = .slice (some ad) 1 c) (hnews : w.cell? ad = some (.int k y))
    (hn : xs.length = n) (hown : OwnI w B e k v xs) (h63 : n + 1 ≤ maxLen) (hlen : (n + 1) * bytes ≤ 140737488355328) (bel : Below B0 w0 w) (hB0 : B0 ≤ B) (hb : B ≤ w.heap.size)
    (h : ∀ ad' cap w', OwnI w' B e k (.slice ad' (n + 1) cap) (xs ++ [y]) → Below B0 w0 w' → Below B w w' → K (a.put o.dst (.slice ad' (n + 1) cap)) w') :
    if Region.wanted o (yielded ops a.tmps) = true then Oper.wp P o a w K Q else E := by
  subst hn
  obtain ⟨ht, hinfo⟩ := F
  obtain ⟨i, hi, hz0, hz1, hz2⟩ := info_parts hinfo
  refine step_append_lies _ hgd s x t ho B e i (.int k 0) 1 bytes ht hi hz0 hz1 hz2 rfl (by decide) v xs.length (xs.map (Value.int k)) hs hown ad 1 c [.int k y] hx rfl ?_ (by intro u hu; simp only [List.mem_cons, List.not_mem_nil, or_false] at hu; subst hu; rfl) (by omega) h63 hlen hb _ rfl ?_
  · intro j u hj
    match j, hj with
    | 0, hj =>
      simp only [List.getElem?_cons_zero, Option.some.injEq] at hj
      subst hj
      have : ad.add 0 = ad := by cases ad; rfl
      rw [this]
      exact hnews
  · intro g cap w1 hown' hgr _ _
    refine h (some ⟨g, 0, none⟩) cap w1 ?_ (bel.grown hgr (Nat.le_trans hB0 hb) fun j hj => Nat.le_trans hB0 (World.ownsRow.lt hown j hj).1) ((Below.refl B w).grown hgr hb fun j hj => (World.ownsRow.lt hown j hj).1)
    unfold OwnI
    rw [List.length_append, List.length_cons, List.length_nil, List.map_append]
    exact hown'
end Go.Proofs.Ytpilccalgegadaa
