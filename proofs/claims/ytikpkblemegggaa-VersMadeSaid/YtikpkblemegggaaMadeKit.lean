/- Layer 8, VersMade: what its walk needs. -/
import Derived.Test.YtikpkblemegggaaMadeMath2
import Derived.Test.YtikpkblemegggaaMadeLay
import Derived.Test.YtikpkblemegggaaRefSysv
import Derived.Test.YtikpkblemegggaaVersUp
namespace Go.Proofs.Ytikpkblemegggaa
open Go.RowKit
set_option linter.unusedVariables false
set_option linter.unusedSimpArgs false

def posL (T : List ByteArray) (k : Nat) : List Nat := (List.range k).map fun j => (tabL (T.take j)).length
theorem posL_succ (T : List ByteArray) (k : Nat) : posL T (k + 1) = posL T k ++ [(tabL (T.take k)).length] := by simp [posL, List.range_succ]
theorem posL_length (T : List ByteArray) (k : Nat) : (posL T k).length = k := by simp [posL]
theorem posL_getD (T : List ByteArray) (k j : Nat) (h : j < k) : (posL T k).getD j 0 = (tabL (T.take j)).length := by simp [posL, List.getD, h]
theorem getDT {T : List ByteArray} {i : Nat} (h : i < T.length) : T.getD i .empty = T[i] := by simp [List.getD, h]
theorem named_no {t : ByteArray} (h : namedF t = true) : noZero t ∧ t.size ≤ 255 ∧ 0 < t.size := by
  unfold namedF at h
  obtain ⟨h1, h2, h3⟩ := of_decide_eq_true h
  refine ⟨fun b hb e => h3 b hb ?_, h2, h1⟩
  subst e
  rfl

theorem bulk_succ (T : List ByteArray) (k : Nat) (h : k < T.length) : bulkT (T.take (k + 1)) = bulkT (T.take k) + ((T.getD k .empty).size + 1) := by
  unfold bulkT
  rw [List.take_succ_eq_append_getElem h, List.map_append, List.sum_append, getDT h]
  simp
theorem tabL_succ (T : List ByteArray) (k : Nat) (h : k < T.length) : tabL (T.take (k + 1)) = tabL (T.take k) ++ bI (T.getD k .empty) ++ [0] := by rw [tabL_take T k h, getDT h]

/-- the dynamic section that is made -/
def DTF (st sz vs vd vdn vn vnn : Nat) : DT := { DT0 with strtab := st, strsz := sz, versym := vs, verdef := vd, verdefnum := vdn, verneed := vn, verneednum := vnn }
theorem dtf_built (st sz vs : Nat) : Try.prog.built 29 [(4, .int .u64 (st : Int)), (8, .int .u64 (sz : Int)), (26, .int .u64 (vs : Int))] = some (DTF st sz vs 0 0 0 0).cells := by kernel_rfl
theorem dtf_28 (st sz vs vd vdn vn vnn v : Nat) : (DTF st sz vs vd vdn vn vnn).cells.setIfInBounds 28 (.int .u64 (v : Int)) = (DTF st sz vs v vdn vn vnn).cells := rfl
theorem dtf_29 (st sz vs vd vdn vn vnn v : Nat) : (DTF st sz vs vd vdn vn vnn).cells.setIfInBounds 29 (.int .u64 (v : Int)) = (DTF st sz vs vd v vn vnn).cells := rfl
theorem dtf_30 (st sz vs vd vdn vn vnn v : Nat) : (DTF st sz vs vd vdn vn vnn).cells.setIfInBounds 30 (.int .u64 (v : Int)) = (DTF st sz vs vd vdn v vnn).cells := rfl
theorem dtf_31 (st sz vs vd vdn vn vnn v : Nat) : (DTF st sz vs vd vdn vn vnn).cells.setIfInBounds 31 (.int .u64 (v : Int)) = (DTF st sz vs vd vdn vn v).cells := rfl
theorem dtf_wf {st sz vs vd vdn vn vnn : Nat} (h1 : st < 18446744073709551616) (h2 : sz < 18446744073709551616) (h3 : vs < 18446744073709551616) (h4 : vd < 18446744073709551616) (h5 : vdn < 18446744073709551616) (h6 : vn < 18446744073709551616) (h7 : vnn < 18446744073709551616) : (DTF st sz vs vd vdn vn vnn).wf := by
  simp only [DT.wf, DTF, DT0]
  omega

/-- the word that is picked by a number -/
def wF (n fs m : Nat) (x : Int) : Nat :=
  if ((if x < 0 then (-(x + 1)).toNat else x.toNat) % (fs + m) = n + 1 ∧ m = 0) ∨ (n < (if x < 0 then (-(x + 1)).toNat else x.toNat) % (fs + m) ∧ (if x < 0 then (-(x + 1)).toNat else x.toNat) % (fs + m) < fs) then 0 else (if x < 0 then (-(x + 1)).toNat else x.toNat) % (fs + m)
theorem wF_lt (n fs m : Nat) (x : Int) (h : 0 < fs) (h2 : fs ≤ 21) (h3 : m ≤ 20) : wF n fs m x < 65536 := by
  unfold wF
  have hl := Nat.mod_lt (if x < 0 then (-(x + 1)).toNat else x.toNat) (show 0 < fs + m by omega)
  generalize (if x < 0 then (-(x + 1)).toNat else x.toNat) % (fs + m) = r at *
  split <;> omega
theorem wF_ok (n fs m : Nat) (x : Int) (h : 2 ≤ fs) (h2 : fs ≤ 21) (h3 : m ≤ 20) (h4 : fs = if n = 0 then 2 else n + 1) : wordOk (auxT (defT n) fs m) (wF n fs m x) = true := by
  have hl := Nat.mod_lt (if x < 0 then (-(x + 1)).toNat else x.toNat) (show 0 < fs + m by omega)
  unfold wordOk wF
  generalize (if x < 0 then (-(x + 1)).toNat else x.toNat) % (fs + m) = r at *
  rw [decide_eq_true_eq]
  by_cases hc : (r = n + 1 ∧ m = 0) ∨ (n < r ∧ r < fs)
  · rw [if_pos hc]
    left
    decide
  · rw [if_neg hc]
    by_cases h1 : r ≤ 1
    · left; omega
    · right
      rw [Nat.mod_eq_of_lt (by omega)]
      unfold auxT
      rw [List.mem_append, defT_mem, List.mem_map]
      by_cases hrn : r ≤ n
      · left; omega
      · right
        refine ⟨r - fs, List.mem_range.2 ?_, ?_⟩
        · have : ¬ (n < r ∧ r < fs) := fun h => hc (.inr h)
          omega
        · have : ¬ (n < r ∧ r < fs) := fun h => hc (.inr h)
          show fs + (r - fs) = r
          omega

/-- bytes that are laid one behind the other -/
structure LS (w0 w : World) (ad : Option Addr) (m c : Nat) (base : List Nat) : Prop where
  own : OwnI w w0.heap.size 5 .u8 (.slice ad m c) (toI base)
  len : base.length = m
  bel : Below w0.heap.size w0 w
theorem LS.zero (w0 : World) : LS w0 w0 none 0 0 [] := ⟨OwnI.nil _ _ _ _, rfl, Below.refl _ _⟩
theorem lay_ls {w0 w : World} {ad : Option Addr} {m c : Nat} {base : List Nat} (h : LS w0 w ad m c base) (v n : Nat) {x y : Int} (hm : m ≤ 1048576) (hv : v < 4611686018427387904) (hn : n ≤ 8) (hx : x = (v : Int)) (hy : y = (n : Int)) :
    Calls Try.prog 12 #[.slice ad m c, .int .i64 x, .int .i64 y] w fun e w' => ∃ ad' c', e = .returned (.slice ad' (m + n) c') ∧ LS w0 w' ad' (m + n) c' (base ++ digs v n) ∧ Kept 5 w w' := by
  subst hx hy
  refine (lay_any w0.heap.size ad c base m v n w h.own h.len hm hv hn h.bel.size).mono ?_
  rintro e w' ⟨ad', c', he, ho, hb, hk⟩
  exact ⟨ad', c', he, ⟨ho, by rw [List.length_append, h.len, digs_length], h.bel.trans hb⟩, hk⟩
section
variable {P : Program} {w : World} {ops : Array Oper} {rest : List Oper} {o : Oper} {a : Act} {Q : Exit → Act → World → Prop}
/-- out = append(out, l...), whatever l is; what else is owned stays -/
theorem wpList_pushes_k (hgd : o.guard = none) (s x : Operand) {t e : TypeId} {k : IntKind} {bytes : Nat} (F : IntSlice P t e k bytes)
    (ho : o.op = .call { callee := .builtin .append, args := #[s, x], argTypes := #[t, t] })
    (B : Nat) (w0 : World) (v : Value) (xs : List Int) (n : Nat) (ad : Addr) (cap len : Nat) (ys : List Int) (hs : a.eval s = v) (hx : a.eval x = .slice (some ad) len cap) (hn0 : xs.length = n) (hl : ys.length = len) (hrow : Row k w (some ad) ys)
    (hown : OwnI w B e k v xs) (h63 : n + len ≤ maxLen) (hlen : (n + len) * bytes ≤ 140737488355328) (bel : Below B w0 w) (hb : B ≤ w.heap.size)
    (h : ∀ ad' cap' w', OwnI w' B e k (.slice ad' (n + len) cap') (xs ++ ys) → Below B w0 w' → Kept e w w' → wpList P ops Q rest (a.put o.dst (.slice ad' (n + len) cap')) w') : wpList P ops Q (o :: rest) a w := by
  subst hl hn0
  obtain ⟨ht, hinfo⟩ := F
  obtain ⟨i, hi, hz0, hz1, hz2⟩ := info_parts hinfo
  refine wpList_append_own _ hgd s x t ho B e i (.int k 0) 1 bytes ht hi hz0 hz1 hz2 rfl (by decide) v xs.length (xs.map (Value.int k)) hs hown ad ys.length cap (ys.map (Value.int k)) hx (by simp) ?_
    (ints_oneCell k ys) h63 hlen hb ?_
  · intro j u hj
    have hl : j < ys.length := by
      have := (List.getElem?_eq_some_iff.1 hj).1
      simpa using this
    obtain ⟨b', o', e', hc⟩ := hrow j hl
    simp only [Option.some.injEq] at e'
    subst e'
    rw [WideShapes.add_plain, hc]
    rw [List.getElem?_map, List.getElem?_eq_getElem hl] at hj
    simp only [Option.map_some, Option.some.injEq] at hj
    rw [← hj]
    simp [List.getD, hl]
  · intro v' w1 hown1 hgr _
    have h1 : OwnI w1 B e k v' (xs ++ ys) := by
      unfold OwnI
      rw [List.length_append, List.map_append]
      exact hown1
    obtain ⟨ad', cap', hv⟩ := h1.len_le
    rw [List.length_append] at hv
    subst hv
    exact h ad' cap' w1 h1 (bel.grown hgr hb fun j hj => (World.ownsRow.lt hown j hj).1) (Kept.of hown hgr)
end
end Go.Proofs.Ytikpkblemegggaa
