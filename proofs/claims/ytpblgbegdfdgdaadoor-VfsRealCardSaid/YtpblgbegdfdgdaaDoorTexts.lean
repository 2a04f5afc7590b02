/- Slices of texts: as they come in, and such as a call makes itself. -/
import Derived.Test.YtpblgbegdfdgdaaDoorGrow
import Derived.Laws.AppendOwnNone
import Derived.OwnWalk
namespace Go.Proofs.YtpblgbegdfdgdaaDoor
open Go.RowKit
set_option linter.unusedVariables false
set_option linter.unusedSimpArgs false

/-- a slice of texts that can be read -/
def TRow (w : World) (a : Option Addr) (T : List ByteArray) : Prop := ∀ i, i < T.length → ∃ b off, a = some ⟨b, off, none⟩ ∧ b < w.heap.size ∧ w.cell? ⟨b, off + i, none⟩ = some (.string (T.getD i .empty))
theorem TRow.below {w w' : World} {a : Option Addr} {T : List ByteArray} (h : TRow w a T) (hb : Below w.heap.size w w') : TRow w' a T := by
  intro i hi
  obtain ⟨b, off, e, hlt, hc⟩ := h i hi
  exact ⟨b, off, e, Nat.lt_of_lt_of_le hlt hb.size, by rw [hb.cell (p := ⟨b, off + i, none⟩) hlt]; exact hc⟩

/-- a slice of texts that a call made -/
def OwnT (w : World) (B : Nat) (e : TypeId) (v : Value) (T : List ByteArray) : Prop := w.ownsRow B e 1 v T.length (T.map Value.string)
theorem OwnT.lit (w : World) (B : Nat) (e : TypeId) (T : List ByteArray) (cs : Array Value) (hcs : cs = (T.map Value.string).toArray) (hb : B ≤ w.heap.size) (h63 : T.length ≤ maxLen) : OwnT (w.alloc (.cells cs e)) B e (.slice (some ⟨w.heap.size, 0, none⟩) T.length T.length) T := by
  subst hcs
  refine ⟨by simp, .inr ⟨w.heap.size, T.length, (T.map Value.string).toArray, rfl, hb, ?_, Nat.le_refl _, h63, by simp, by rw [Nat.mul_one]; exact List.take_of_length_le (by simp)⟩⟩
  show (w.heap.push _)[w.heap.size]? = _
  simp
theorem OwnT.row {w : World} {B n cap : Nat} {e : TypeId} {ad : Option Addr} {T : List ByteArray} (h : OwnT w B e (.slice ad n cap) T) : TRow w ad T ∧ n = T.length ∧ n ≤ cap := by
  obtain ⟨h1, h2⟩ := h
  rcases h2 with ⟨hv, h0⟩ | ⟨g, cp, cur, hv, hB, hg, hc, hm, hs, hx⟩
  · simp only [Value.slice.injEq] at hv
    obtain ⟨rfl, rfl, rfl⟩ := hv
    exact ⟨fun i hi => by omega, h0.symm, Nat.le_refl _⟩
  · simp only [Value.slice.injEq] at hv
    obtain ⟨rfl, rfl, rfl⟩ := hv
    refine ⟨fun i hi => ⟨g, 0, rfl, lt_of_block hg, ?_⟩, rfl, hc⟩
    have hown : w.ownsRow B e 1 (.slice (some ⟨g, 0, none⟩) T.length cap) T.length (T.map Value.string) := ⟨h1, .inr ⟨g, cap, cur, rfl, hB, hg, hc, hm, hs, hx⟩⟩
    rw [Nat.zero_add, hown.cellAt i (by omega)]
    simp [hi]
theorem texts_one (T : List ByteArray) : ∀ u ∈ T.map Value.string, u.oneCell' = true := by
  intro u hu
  obtain ⟨t, -, rfl⟩ := List.mem_map.1 hu
  rfl

section
variable {P : Program} {w : World} {ops : Array Oper} {rest : List Oper} {o : Oper} {a : Act} {Q : Exit → Act → World → Prop}
/-- out = append(out, l...), texts -/
theorem wpList_texts (hgd : o.guard = none) (s x : Operand) {t e : TypeId} (ht : P.underlying t = some (.slice e)) (hinfo : (P.info? e).map (fun i => (i.zero, i.size, i.bytes)) = some (some (.string .empty), 1, 16))
    (ho : o.op = .call { callee := .builtin .append, args := #[s, x], argTypes := #[t, t] })
    (B : Nat) (w0 : World) (v : Value) (T : List ByteArray) (n : Nat) (ad : Option Addr) (cap len : Nat) (ys : List ByteArray) (hs : a.eval s = v) (hx : a.eval x = .slice ad len cap) (hn0 : T.length = n) (hl : ys.length = len) (hrow : TRow w ad ys) (hn : ad = none → ys.length = 0 ∧ cap = 0)
    (hown : OwnT w B e v T) (h63 : n + len ≤ maxLen) (hlen : (n + len) * 16 ≤ 140737488355328) (bel : Below B w0 w) (hb : B ≤ w.heap.size)
    (h : ∀ v' w', OwnT w' B e v' (T ++ ys) → Below B w0 w' → wpList P ops Q rest (a.put o.dst v') w') : wpList P ops Q (o :: rest) a w := by
  subst hl hn0
  obtain ⟨i, hi, hz0, hz1, hz2⟩ := info_parts hinfo
  cases ad with
  | none =>
    obtain ⟨h0, rfl⟩ := hn rfl
    obtain rfl : ys = [] := List.length_eq_zero_iff.1 h0
    refine wpList_append_own_none hgd s x t ho B e i 1 ht hi v T.length (T.map Value.string) hs hown hx ?_
    rw [List.append_nil] at h
    exact h _ _ hown bel
  | some ad =>
    refine wpList_append_own _ hgd s x t ho B e i (.string .empty) 1 16 ht hi hz0 hz1 hz2 rfl (by decide) v T.length (T.map Value.string) hs hown ad ys.length cap (ys.map Value.string) hx (by simp) ?_
      (texts_one ys) h63 hlen hb ?_
    · intro j u hj
      have hl : j < ys.length := by
        have := (List.getElem?_eq_some_iff.1 hj).1
        simpa using this
      obtain ⟨b', o', e', -, hc⟩ := hrow j hl
      simp only [Option.some.injEq] at e'
      subst e'
      rw [WideShapes.add_plain, hc]
      rw [List.getElem?_map, List.getElem?_eq_getElem hl] at hj
      simp only [Option.map_some, Option.some.injEq] at hj
      rw [← hj]
      simp [List.getD, hl]
    · intro v' w1 hown1 hgr _
      refine h v' w1 ?_ (bel.grown hgr hb ?_)
      · unfold OwnT
        rw [List.length_append, List.map_append]
        exact hown1
      · intro j hj
        exact (World.ownsRow.lt hown j hj).1
end
theorem texts_t : Tryd.prog.underlying 23 = some (.slice 9) := Tryd.underlying23
theorem text_info : (Tryd.prog.info? 9).map (fun i => (i.zero, i.size, i.bytes)) = some (some (.string .empty), 1, 16) := by kernel_rfl

theorem OwnT.allocT {w : World} {B : Nat} {e : TypeId} {v : Value} {T : List ByteArray} (h : OwnT w B e v T) (o : Obj) : OwnT (w.alloc o) B e v T := World.ownsRow.alloc h o
theorem text_row (w : World) (t : ByteArray) (T : TypeId) : TRow (w.alloc (.cells #[.string t] T)) (some ⟨w.heap.size, 0, none⟩) [t] := by
  intro i hi
  have hi0 : i = 0 := by simpa using hi
  subst hi0
  exact ⟨w.heap.size, 0, rfl, by simp, by rw [World.cell?_alloc_new]; rfl⟩
theorem OwnT.form {w : World} {B : Nat} {e : TypeId} {v : Value} {T : List ByteArray} (h : OwnT w B e v T) : ∃ ad c, v = .slice ad T.length c := by
  rcases h.2 with ⟨rfl, h0⟩ | ⟨g, c, cur, rfl, -⟩
  · exact ⟨none, 0, by rw [h0]⟩
  · exact ⟨_, c, rfl⟩
theorem text_ne {x y : ByteArray} (h : ¬ x = y) : (x.toList == y.toList) = false := by
  rw [beq_eq_false_iff_ne, ByteArray.toList_eq, ByteArray.toList_eq]
  intro e
  exact h (ByteArray.ext (Array.ext' e))
theorem OwnT.below {w w' : World} {B : Nat} {e : TypeId} {v : Value} {T : List ByteArray} (h : OwnT w B e v T) (hb : Below w.heap.size w w') : OwnT w' B e v T := by
  obtain ⟨h1, h2⟩ := h
  refine ⟨h1, ?_⟩
  rcases h2 with h2 | ⟨g, cap, cur, hv, hB, hg, r⟩
  · exact .inl h2
  · exact .inr ⟨g, cap, cur, hv, hB, by rw [hb.block g (lt_of_block hg)]; exact hg, r⟩
theorem OwnT.mono {w : World} {B B' : Nat} {e : TypeId} {v : Value} {T : List ByteArray} (h : OwnT w B e v T) (hB : B' ≤ B) : OwnT w B' e v T := by
  obtain ⟨h1, h2⟩ := h
  refine ⟨h1, ?_⟩
  rcases h2 with h2 | ⟨g, cap, cur, hv, hg, r⟩
  · exact .inl h2
  · exact .inr ⟨g, cap, cur, hv, Nat.le_trans hB hg, r⟩
theorem OwnT.nil (w : World) (B : Nat) (e : TypeId) : OwnT w B e (.slice none 0 0) [] := World.ownsRow_nil _ _ _ _
end Go.Proofs.YtpblgbegdfdgdaaDoor
