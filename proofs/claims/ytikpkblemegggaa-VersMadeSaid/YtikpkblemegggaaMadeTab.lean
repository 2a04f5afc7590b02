/- Layer 8, VersMade: a table of strings that is made of texts, as lists, and what its places tell. -/
import Derived.Test.YtikpkblemegggaaSymF
import Derived.Test.YtikpkblemegggaaMadeLay
import Derived.Lib.AppendStr
import Derived.Lib.IndexLaws
namespace Go.Proofs.Ytikpkblemegggaa
open Go.RowKit
set_option linter.unusedVariables false
set_option linter.unusedSimpArgs false

/-- a text's bytes -/
def bI (t : ByteArray) : List Int := t.data.toList.map fun (b : UInt8) => (b.toNat : Int)
theorem bI_length (t : ByteArray) : (bI t).length = t.size := by simp [bI]
theorem bI_cells (t : ByteArray) : (bI t).map (Value.int .u8) = Lib.strCells t := by simp [bI, Lib.strCells]
theorem bI_back (t : ByteArray) : (⟨(Lib.bytesOf (bI t)).toArray⟩ : ByteArray) = t := by
  have : Lib.bytesOf (bI t) = t.data.toList := by
    simp only [Lib.bytesOf, bI, List.map_map]
    conv => rhs; rw [← List.map_id t.data.toList]
    apply List.map_congr_left
    intro b _
    simp
  rw [this]
theorem bI_bytes (t : ByteArray) : Bytes (bI t) := by
  intro x hx
  obtain ⟨b, -, rfl⟩ := List.mem_map.1 hx
  have := b.toNat_lt
  omega

/-- the table of texts -/
def tabL (T : List ByteArray) : List Int := 0 :: (T.map fun t => bI t ++ [0]).flatten
theorem tabL_snoc (T : List ByteArray) (t : ByteArray) : tabL (T ++ [t]) = tabL T ++ bI t ++ [0] := by simp [tabL]
theorem tabL_take (T : List ByteArray) (k : Nat) (h : k < T.length) : tabL (T.take (k + 1)) = tabL (T.take k) ++ bI T[k] ++ [0] := by
  rw [List.take_succ_eq_append_getElem h, tabL_snoc]
theorem tabL_bytes (T : List ByteArray) : Bytes (tabL T) := by
  intro x hx
  rcases List.mem_cons.1 hx with rfl | hx
  · omega
  · obtain ⟨l, hl, hxl⟩ := List.mem_flatten.1 hx
    obtain ⟨t, -, rfl⟩ := List.mem_map.1 hl
    rcases List.mem_append.1 hxl with h | h
    · exact bI_bytes t x h
    · simp only [List.mem_cons, List.not_mem_nil, or_false] at h
      omega
def bulkT (T : List ByteArray) : Nat := (T.map fun t => t.size + 1).sum
theorem tabL_len (T : List ByteArray) : (tabL T).length = bulkT T + 1 := by
  induction T with
  | nil => rfl
  | cons t T ih =>
    have : (tabL (t :: T)).length = (tabL T).length + (t.size + 1) := by
      simp only [tabL, List.length_cons, List.map_cons, List.flatten_cons, List.length_append, bI_length, List.length_nil]
      omega
    rw [this, ih]
    simp only [bulkT, List.map_cons, List.sum_cons]
    omega
theorem bulk_take (T : List ByteArray) (k : Nat) : bulkT (T.take k) ≤ bulkT T := by
  have : bulkT T = bulkT (T.take k) + bulkT (T.drop k) := by
    unfold bulkT
    rw [← List.sum_append, ← List.map_append, List.take_append_drop]
  omega
theorem tabL_more (T : List ByteArray) (k d : Nat) : ∃ r, tabL (T.take (k + d)) = tabL (T.take k) ++ r := by
  induction d with
  | zero => exact ⟨[], by simp⟩
  | succ d ih =>
    obtain ⟨r, hr⟩ := ih
    by_cases h : k + d < T.length
    · exact ⟨r ++ bI T[k + d] ++ [0], by rw [← Nat.add_assoc, tabL_take T (k + d) h, hr]; simp⟩
    · exact ⟨r, by rw [← hr, List.take_of_length_le (by omega), List.take_of_length_le (by omega)]⟩

def noZero (t : ByteArray) : Prop := ∀ b ∈ t.data.toList, b ≠ 0

/-- the first byte 0 behind a text that has none -/
theorem first_behind (l r : List UInt8) (h : ∀ b ∈ l, b ≠ 0) : Lib.indexByte (l ++ 0 :: r) 0 = (l.length : Int) := by
  have hat : (l ++ 0 :: r)[l.length]? = some 0 := by simp
  have hge := Lib.indexByte_ge (l ++ 0 :: r) 0
  by_cases hn : Lib.indexByte (l ++ 0 :: r) 0 = -1
  · exact absurd hat (Lib.indexByte_none hn l.length)
  · obtain ⟨o, ho⟩ : ∃ o : Nat, Lib.indexByte (l ++ 0 :: r) 0 = (o : Int) := ⟨(Lib.indexByte (l ++ 0 :: r) 0).toNat, by omega⟩
    obtain ⟨h1, h2⟩ := Lib.indexByte_some ho
    rw [ho]
    by_cases hlt : o < l.length
    · rw [List.getElem?_append_left hlt, List.getElem?_eq_getElem hlt, Option.some.injEq] at h1
      exact absurd h1 (h _ (List.getElem_mem hlt))
    · by_cases hgt : l.length < o
      · exact absurd hat (h2 l.length hgt)
      · omega
theorem bytesOf_bI (t : ByteArray) : Lib.bytesOf (bI t) = t.data.toList := by
  have := bI_back t
  exact congrArg (fun b => b.data.toList) this

theorem tab_find (T : List ByteArray) (k K : Nat) (hk : k < K) (hK : K ≤ T.length) (h : noZero T[k]) :
    Lib.indexByte (Lib.bytesOf ((tabL (T.take K)).drop (tabL (T.take k)).length)) 0 = (T[k].size : Int) ∧ cutOf (tabL (T.take K)) (tabL (T.take k)).length T[k].size = bI T[k] ∧ (tabL (T.take k)).length < (tabL (T.take K)).length := by
  obtain ⟨r, hr⟩ := tabL_more T (k + 1) (K - (k + 1))
  rw [show k + 1 + (K - (k + 1)) = K from by omega, tabL_take T k (by omega)] at hr
  have hd : (tabL (T.take K)).drop (tabL (T.take k)).length = bI T[k] ++ 0 :: r := by
    rw [hr, List.append_assoc, List.append_assoc, List.drop_left]
    simp
  refine ⟨?_, ?_, ?_⟩
  · rw [hd, show Lib.bytesOf (bI T[k] ++ 0 :: r) = T[k].data.toList ++ 0 :: Lib.bytesOf r from by
      rw [← bytesOf_bI]
      simp [Lib.bytesOf], first_behind _ _ h]
    simp
  · unfold cutOf
    rw [hd, ← bI_length, List.take_left]
  · rw [hr]
    simp
    omega
/-- out = append(out, text...) -/
theorem wpList_text {P : Program} {w : World} {ops : Array Oper} {rest : List Oper} {o : Oper} {a : Act} {Q : Exit → Act → World → Prop} (hgd : o.guard = none) (s x : Operand) {t e u : TypeId} (F : IntSlice P t e .u8 1) (hu : P.underlying u = some .string)
    (ho : o.op = .call { callee := .builtin .append, args := #[s, x], argTypes := #[t, u] })
    (B : Nat) (w0 : World) (v : Value) (xs : List Int) (n : Nat) (y : ByteArray) (hs : a.eval s = v) (hx : a.eval x = .string y) (hn : xs.length = n)
    (hown : OwnI w B e .u8 v xs) (hlen : n + y.size ≤ 140737488355328) (bel : Below B w0 w) (hb : B ≤ w.heap.size)
    (h : ∀ ad cap w', OwnI w' B e .u8 (.slice ad (n + y.size) cap) (xs ++ bI y) → Below B w0 w' → Kept e w w' → wpList P ops Q rest (a.put o.dst (.slice ad (n + y.size) cap)) w') : wpList P ops Q (o :: rest) a w := by
  subst hn
  obtain ⟨ht, hinfo⟩ := F
  obtain ⟨i, hi, hz0, hz1, hz2⟩ := info_parts hinfo
  refine Lib.wpList_append_own_string _ hgd s x t u ho B e i ht hu hi hz0 hz1 hz2 v xs.length (xs.map (Value.int .u8)) hs hown y hx (by unfold maxLen; omega) hlen hb ?_
  intro v' w1 hown1 hgr _
  have h1 : OwnI w1 B e .u8 v' (xs ++ bI y) := by
    unfold OwnI
    rw [List.length_append, bI_length, List.map_append, bI_cells]
    exact hown1
  obtain ⟨ad, cap, hv⟩ := h1.len_le
  rw [List.length_append, bI_length] at hv
  subst hv
  exact h ad cap w1 h1 (bel.grown hgr hb fun j hj => (World.ownsRow.lt hown j hj).1) (Kept.of hown hgr)

end Go.Proofs.Ytikpkblemegggaa
