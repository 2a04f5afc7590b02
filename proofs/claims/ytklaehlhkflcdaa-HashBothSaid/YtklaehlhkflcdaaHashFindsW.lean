/- Layer 7: the walk of the statement on tables of the first kind. -/
import Derived.Test.YtklaehlhkflcdaaHashMade
import Derived.Test.YtklaehlhkflcdaaOwnPut
namespace Go.Proofs.Ytklaehlhkflcdaa
open Go.RowKit
set_option linter.unusedVariables false
set_option linter.unusedSimpArgs false

/-- a slice of texts that a call made -/
def OwnT (w : World) (B : Nat) (e : TypeId) (v : Value) (T : List ByteArray) : Prop := w.ownsRow B e 1 v T.length (T.map Value.string)
theorem OwnT.lit (w : World) (B : Nat) (e : TypeId) (T : List ByteArray) (cs : Array Value) (hcs : cs = (T.map Value.string).toArray) (hb : B ≤ w.heap.size) (h63 : T.length ≤ maxLen) : OwnT (w.alloc (.cells cs e)) B e (.slice (some ⟨w.heap.size, 0, none⟩) T.length T.length) T := by
  subst hcs
  refine ⟨by simp, .inr ⟨w.heap.size, T.length, (T.map Value.string).toArray, rfl, hb, ?_, Nat.le_refl _, h63, by simp, by rw [Nat.mul_one]; exact List.take_of_length_le (by simp)⟩⟩
  show (w.heap.push _)[w.heap.size]? = _
  simp
theorem OwnT.row {w : World} {B n cap : Nat} {e : TypeId} {ad : Option Addr} {T : List ByteArray} (h : OwnT w B e (.slice ad n cap) T) : TRow w ad T ∧ n = T.length ∧ n ≤ cap := by
  obtain ⟨h1, h2⟩ := h
  rcases h2 with ⟨hv, h0⟩ | ⟨g, cp, cur, hv, hB, hg, hc, hm, hs, hx⟩
  · simp only [Value.slice.injEq] at hv
    obtain ⟨rfl, rfl, rfl⟩ := hv
    exact ⟨fun i hi => by omega, h0.symm, Nat.le_refl _⟩
  · simp only [Value.slice.injEq] at hv
    obtain ⟨rfl, rfl, rfl⟩ := hv
    refine ⟨fun i hi => ⟨g, 0, rfl, lt_of_block hg, ?_⟩, rfl, hc⟩
    have hown : w.ownsRow B e 1 (.slice (some ⟨g, 0, none⟩) T.length cap) T.length (T.map Value.string) := ⟨h1, .inr ⟨g, cap, cur, rfl, hB, hg, hc, hm, hs, hx⟩⟩
    rw [Nat.zero_add, hown.cellAt i (by omega)]
    simp [hi]
theorem texts_one (T : List ByteArray) : ∀ u ∈ T.map Value.string, u.oneCell' = true := by
  intro u hu
  obtain ⟨t, -, rfl⟩ := List.mem_map.1 hu
  rfl

section
variable {P : Program} {w : World} {ops : Array Oper} {rest : List Oper} {o : Oper} {a : Act} {Q : Exit → Act → World → Prop}
/-- out = append(out, l...), texts -/
theorem wpList_texts (hgd : o.guard = none) (s x : Operand) {t e : TypeId} (ht : P.underlying t = some (.slice e)) (hinfo : (P.info? e).map (fun i => (i.zero, i.size, i.bytes)) = some (some (.string .empty), 1, 16))
    (ho : o.op = .call { callee := .builtin .append, args := #[s, x], argTypes := #[t, t] })
    (B : Nat) (w0 : World) (v : Value) (T : List ByteArray) (n : Nat) (ad : Option Addr) (cap len : Nat) (ys : List ByteArray) (hs : a.eval s = v) (hx : a.eval x = .slice ad len cap) (hn0 : T.length = n) (hl : ys.length = len) (hrow : TRow w ad ys) (hn : ad = none → ys.length = 0 ∧ cap = 0)
    (hown : OwnT w B e v T) (h63 : n + len ≤ maxLen) (hlen : (n + len) * 16 ≤ 140737488355328) (bel : Below B w0 w) (hb : B ≤ w.heap.size)
    (h : ∀ v' w', OwnT w' B e v' (T ++ ys) → Below B w0 w' → wpList P ops Q rest (a.put o.dst v') w') : wpList P ops Q (o :: rest) a w := by
  subst hl hn0
  obtain ⟨i, hi, hz0, hz1, hz2⟩ := info_parts hinfo
  cases ad with
  | none =>
    obtain ⟨h0, rfl⟩ := hn rfl
    obtain rfl : ys = [] := List.length_eq_zero_iff.1 h0
    refine wpList_append_own_none hgd s x t ho B e i 1 ht hi v T.length (T.map Value.string) hs hown hx ?_
    rw [List.append_nil] at h
    exact h _ _ hown bel
  | some ad =>
    refine wpList_append_own _ hgd s x t ho B e i (.string .empty) 1 16 ht hi hz0 hz1 hz2 rfl (by decide) v T.length (T.map Value.string) hs hown ad ys.length cap (ys.map Value.string) hx (by simp) ?_
      (texts_one ys) h63 hlen hb ?_
    · intro j u hj
      have hl : j < ys.length := by
        have := (List.getElem?_eq_some_iff.1 hj).1
        simpa using this
      obtain ⟨b', o', e', -, hc⟩ := hrow j hl
      simp only [Option.some.injEq] at e'
      subst e'
      rw [WideShapes.add_plain, hc]
      rw [List.getElem?_map, List.getElem?_eq_getElem hl] at hj
      simp only [Option.map_some, Option.some.injEq] at hj
      rw [← hj]
      simp [List.getD, hl]
    · intro v' w1 hown1 hgr _
      refine h v' w1 ?_ (bel.grown hgr hb ?_)
      · unfold OwnT
        rw [List.length_append, List.map_append]
        exact hown1
      · intro j hj
        exact (World.ownsRow.lt hown j hj).1
end
theorem texts_t : Try.prog.underlying 22 = some (.slice 9) := Try.underlying22
theorem text_info : (Try.prog.info? 9).map (fun i => (i.zero, i.size, i.bytes)) = some (some (.string .empty), 1, 16) := by kernel_rfl

/-- an empty symbol -/
def symNil : List Value := [.string .empty, .int .i64 0, .int .i64 0, .int .i64 0, .int .i64 0, .int .u64 0, .int .u64 0]
def symOf (t : ByteArray) : List Value := [.string t, .int .i64 0, .int .i64 0, .int .i64 0, .int .i64 0, .int .u64 0, .int .u64 0]
theorem symSlice : RowSlice Try.prog 36 39 (.agg symNil.toArray) 7 64 := ⟨Try.underlying36, by kernel_rfl, rfl, by omega⟩
def symsTo (all : List ByteArray) (k : Nat) : List (List Value) := (List.range all.length).map fun i => if i < k then symOf (all.getD i .empty) else symNil
theorem symsTo_length (all : List ByteArray) (k : Nat) : (symsTo all k).length = all.length := by simp [symsTo]
theorem symsTo_zero (all : List ByteArray) : symsTo all 0 = List.replicate all.length symNil := by
  apply List.ext_getElem?
  intro j
  by_cases hj : j < all.length
  · simp [symsTo, hj]
  · rw [List.getElem?_eq_none (by rw [symsTo_length]; omega), List.getElem?_eq_none (by simp; omega)]
theorem symsTo_seven (all : List ByteArray) (k : Nat) : ∀ r ∈ symsTo all k, r.length = 7 := by
  intro r hr
  obtain ⟨i, -, rfl⟩ := List.mem_map.1 hr
  split <;> rfl
theorem symsTo_at {all : List ByteArray} {k i : Nat} (h : i < all.length) : (symsTo all k)[i]? = some (if i < k then symOf (all.getD i .empty) else symNil) := by simp [symsTo, h]
theorem symsTo_set {all : List ByteArray} {k : Nat} (h : k < all.length) : (symsTo all k).flatten.set (k * 7) (.string (all.getD k .empty)) = (symsTo all (k + 1)).flatten := by
  have h7 := symsTo_seven all k
  have h7' := symsTo_seven all (k + 1)
  apply List.ext_getElem?
  intro m
  rw [List.getElem?_set]
  by_cases hm : m < all.length * 7
  · obtain ⟨hi, hj, e⟩ := flatten_get (by omega : 0 < 7) (symsTo all k) h7 m (by rw [symsTo_length]; exact hm)
    obtain ⟨hi', -, e'⟩ := flatten_get (by omega : 0 < 7) (symsTo all (k + 1)) h7' m (by rw [symsTo_length]; exact hm)
    have hi2 : m / 7 < all.length := by rw [symsTo_length] at hi; exact hi
    have g1 := symsTo_at (k := k) hi2
    have g2 := symsTo_at (k := k + 1) hi2
    rw [List.getElem?_eq_getElem hi, Option.some.injEq] at g1
    rw [List.getElem?_eq_getElem hi', Option.some.injEq] at g2
    rw [e', g2]
    by_cases hk : k * 7 = m
    · have h1 : m / 7 = k := by omega
      have h2 : m % 7 = 0 := by omega
      rw [if_pos hk, if_pos (by rw [flatten_len _ h7, symsTo_length]; omega), h1, h2, if_pos (by omega)]
      rfl
    · rw [if_neg hk, e, g1]
      by_cases h3 : m / 7 < k
      · rw [if_pos h3, if_pos (by omega)]
      · rw [if_neg h3]
        by_cases h4 : m / 7 < k + 1
        · have h5 : m / 7 = k := by omega
          have h6 : m % 7 ≠ 0 := by omega
          rw [if_pos h4]
          match hq : m % 7, h6, hj with
          | 1, _, _ => rfl
          | 2, _, _ => rfl
          | 3, _, _ => rfl
          | 4, _, _ => rfl
          | 5, _, _ => rfl
          | 6, _, _ => rfl
        · rw [if_neg h4]
  · have hn1 : (symsTo all k).flatten[m]? = none := List.getElem?_eq_none (by rw [flatten_len _ h7, symsTo_length]; omega)
    have hn2 : (symsTo all (k + 1)).flatten[m]? = none := List.getElem?_eq_none (by rw [flatten_len _ h7', symsTo_length]; omega)
    have : ¬ k * 7 = m := by omega
    rw [if_neg this, hn1, hn2]
theorem OwnS.putText {w : World} {B g n : Nat} {e : TypeId} {all : List ByteArray} {k : Nat} (h : OwnS w B e 7 (.slice (some ⟨g, 0, none⟩) n n) (symsTo all k)) (hn : all.length = n) (hk : k < n) :
    OwnS (w.setCell ⟨g, k * 7, none⟩ (.string (all.getD k .empty))) B e 7 (.slice (some ⟨g, 0, none⟩) n n) (symsTo all (k + 1)) := by
  subst hn
  obtain ⟨h1, h2⟩ := h
  rw [symsTo_length] at h1
  have h3 := (World.ownsRow.stored h1 (k * 7) (.string (all.getD k .empty))).1
  rw [symsTo_set hk] at h3
  refine ⟨?_, symsTo_seven _ _⟩
  rw [symsTo_length]
  exact h3
theorem OwnS.names {w : World} {B g n : Nat} {e : TypeId} {all : List ByteArray} (h : OwnS w B e 7 (.slice (some ⟨g, 0, none⟩) n n) (symsTo all all.length)) : NameRow w (some ⟨g, 0, none⟩) all := by
  intro i hi
  obtain ⟨-, hr, -⟩ := h.at
  obtain ⟨b, o, e1, hlt, hc⟩ := hr i (by rw [symsTo_length]; exact hi)
  cases e1
  refine ⟨g, 0, rfl, hlt, ?_⟩
  have h0 := hc 0 (by omega)
  have g1 := symsTo_at (k := all.length) hi
  rw [List.getElem?_eq_getElem (by rw [symsTo_length]; exact hi), Option.some.injEq, if_pos hi] at g1
  rw [g1, Nat.add_zero] at h0
  exact h0
/-- the symbols of a name among the first ones -/
def wantTo (all : List ByteArray) (name : ByteArray) (k : Nat) : List Nat := (List.range k).filter fun i => decide (0 < i ∧ all.getD i .empty = name)
theorem wantTo_succ (all : List ByteArray) (name : ByteArray) (k : Nat) : wantTo all name (k + 1) = if 0 < k ∧ all.getD k .empty = name then wantTo all name k ++ [k] else wantTo all name k := by
  unfold wantTo
  rw [List.range_succ, List.filter_append]
  by_cases h : 0 < k ∧ all.getD k .empty = name
  · rw [if_pos h]
    simp only [List.filter_cons, List.filter_nil, decide_eq_true h, if_true]
  · rw [if_neg h]
    simp only [List.filter_cons, List.filter_nil, decide_eq_false h, Bool.false_eq_true, if_false, List.append_nil]
theorem wantTo_le (all : List ByteArray) (name : ByteArray) (k : Nat) : (wantTo all name k).length ≤ k := by
  have := List.length_filter_le (fun i => decide (0 < i ∧ all.getD i .empty = name)) (List.range k)
  simpa [wantTo] using this
theorem wantTo_all (all : List ByteArray) (name : ByteArray) (h : 0 < all.length) : wantTo all name all.length = wantF all name 0 := by
  unfold wantTo wantF
  have : List.range all.length = 0 :: List.range' (0 + 1) (all.length - 1 - 0) := by
    rw [List.range_eq_range']
    conv => lhs; rw [show all.length = (all.length - 1 - 0) + 1 from by omega]
    rw [List.range'_succ]
  rw [this, List.filter_cons, decide_eq_false (by simp), if_neg (by simp)]
  apply List.filter_congr
  intro x hx
  have := (List.mem_range'.1 hx)
  obtain ⟨i, hi, rfl⟩ := this
  simp; omega
end Go.Proofs.Ytklaehlhkflcdaa
