/- Layer 7: a table of the first kind that was made of names, and what it tells. Nothing of the program is named. -/
import Derived.Test.YtpilccalgegadaaHashF
namespace Go.Proofs.Ytpilccalgegadaa
set_option linter.unusedVariables false
set_option linter.unusedSimpArgs false

/-- the next one of a bucket behind s, among so many -/
def nx (hb : Nat → Nat) (j : Nat) : Nat → Nat → Nat
  | 0, _ => 0
  | r + 1, s => if hb (s + 1) = j then s + 1 else nx hb j r (s + 1)
def nxt (hb : Nat → Nat) (N s j : Nat) : Nat := nx hb j (N - 1 - s) s
theorem nxt_end {hb : Nat → Nat} {N s j : Nat} (h : N - 1 ≤ s) : nxt hb N s j = 0 := by
  unfold nxt
  rw [show N - 1 - s = 0 from by omega]
  rfl
theorem nxt_step {hb : Nat → Nat} {N s j : Nat} (h : s + 1 < N) : nxt hb N s j = if hb (s + 1) = j then s + 1 else nxt hb N (s + 1) j := by
  unfold nxt
  rw [show N - 1 - s = (N - 1 - (s + 1)) + 1 from by omega, nx]
theorem nxt_lt {hb : Nat → Nat} {N j : Nat} : ∀ (r s : Nat), N - 1 - s = r → nxt hb N s j = 0 ∨ (s < nxt hb N s j ∧ nxt hb N s j < N)
  | 0, s, h => .inl (nxt_end (by omega))
  | r + 1, s, h => by
    rw [nxt_step (by omega)]
    split
    · right; omega
    · rcases nxt_lt (N := N) (hb := hb) (j := j) r (s + 1) (by omega) with h1 | h1
      · exact .inl h1
      · right; omega
theorem nxt_bound (hb : Nat → Nat) (N s j : Nat) (hN : 0 < N) : nxt hb N s j < N := by
  rcases nxt_lt (hb := hb) (N := N) (j := j) _ s rfl with h | h
  · omega
  · exact h.2

/-- the table's words, when those behind s were laid -/
def tabW (hb : Nat → Nat) (n N s : Nat) : List Nat := [n, N] ++ (List.range n).map (nxt hb N s) ++ (List.range N).map fun x => if x ≤ s then 0 else nxt hb N x (hb x)
theorem tabW_length (hb : Nat → Nat) (n N s : Nat) : (tabW hb n N s).length = 2 + n + N := by simp [tabW]; omega
theorem tabW_bucket {hb : Nat → Nat} {n N s j : Nat} (h : j < n) : (tabW hb n N s)[2 + j]? = some (nxt hb N s j) := by
  unfold tabW
  rw [List.getElem?_append_left (by simp; omega), List.getElem?_append_right (by simp)]
  simp [h]
theorem tabW_chain {hb : Nat → Nat} {n N s x : Nat} (h : x < N) : (tabW hb n N s)[2 + n + x]? = some (if x ≤ s then 0 else nxt hb N x (hb x)) := by
  unfold tabW
  rw [List.getElem?_append_right (by simp; omega)]
  simp [h, show 2 + n + x - (n + 2) = x from by omega]
theorem tabW_start (hb : Nat → Nat) (n N : Nat) : tabW hb n N (N - 1) = [n, N] ++ List.replicate (n + N) 0 := by
  unfold tabW
  rw [List.append_assoc]
  congr 1
  rw [← List.replicate_append_replicate]
  congr 1
  · apply List.ext_getElem?
    intro j
    by_cases hj : j < n
    · simp [hj, nxt_end]
    · rw [List.getElem?_eq_none (by simp; omega), List.getElem?_eq_none (by simp; omega)]
  · apply List.ext_getElem?
    intro j
    by_cases hj : j < N
    · simp [hj, show j ≤ N - 1 from by omega]
    · rw [List.getElem?_eq_none (by simp; omega), List.getElem?_eq_none (by simp; omega)]
theorem tabW_step {hb : Nat → Nat} {n N s : Nat} (hs : s + 1 < N) (hb1 : hb (s + 1) < n) : ((tabW hb n N (s + 1)).set (2 + n + (s + 1)) (nxt hb N (s + 1) (hb (s + 1)))).set (2 + hb (s + 1)) (s + 1) = tabW hb n N s := by
  apply List.ext_getElem?
  intro m
  have hl := tabW_length hb n N (s + 1)
  rw [List.getElem?_set, List.getElem?_set]
  by_cases h0 : m < 2 + n + N
  · by_cases h1 : m < 2
    · rw [if_neg (by omega), if_neg (by omega)]
      unfold tabW
      rw [List.append_assoc, List.append_assoc, List.getElem?_append_left (by simpa using h1), List.getElem?_append_left (by simpa using h1)]
    · by_cases h2 : m < 2 + n
      · obtain ⟨j, rfl⟩ : ∃ j, m = 2 + j := ⟨m - 2, by omega⟩
        rw [tabW_bucket (s := s + 1) (by omega), tabW_bucket (s := s) (by omega), nxt_step hs]
        by_cases h3 : hb (s + 1) = j
        · rw [if_pos (by omega), if_pos (by rw [List.length_set]; omega), if_pos h3]
        · rw [if_neg (by omega), if_neg (by omega), if_neg h3]
      · obtain ⟨x, rfl⟩ : ∃ x, m = 2 + n + x := ⟨m - (2 + n), by omega⟩
        rw [if_neg (by omega), tabW_chain (s := s + 1) (by omega), tabW_chain (s := s) (by omega)]
        by_cases h3 : x = s + 1
        · subst h3
          rw [if_pos rfl, if_pos (by omega), if_neg (by omega)]
        · rw [if_neg (by omega)]
          by_cases h4 : x ≤ s
          · rw [if_pos h4, if_pos (by omega)]
          · rw [if_neg h4, if_neg (by omega)]
  · rw [List.getElem?_eq_none (by rw [tabW_length]; omega)]
    by_cases h1 : 2 + hb (s + 1) = m
    · omega
    · rw [if_neg h1, if_neg (by omega), List.getElem?_eq_none (by rw [tabW_length]; omega)]
theorem tabW_lt {hb : Nat → Nat} {n N s : Nat} (hn : n < 4294967296) (hN : N < 4294967296) (h0 : 0 < N) : ∀ x ∈ tabW hb n N s, x < 4294967296 := by
  intro x hx
  unfold tabW at hx
  rcases List.mem_append.1 hx with hx | hx
  · rcases List.mem_append.1 hx with hx | hx
    · rcases List.mem_cons.1 hx with rfl | hx
      · exact hn
      · simp only [List.mem_singleton] at hx
        omega
    · obtain ⟨j, -, rfl⟩ := List.mem_map.1 hx
      exact Nat.lt_trans (nxt_bound _ _ _ _ h0) hN
  · obtain ⟨j, -, rfl⟩ := List.mem_map.1 hx
    split
    · omega
    · exact Nat.lt_trans (nxt_bound _ _ _ _ h0) hN

/-- the symbols of a name, behind s -/
def wantF (all : List ByteArray) (name : ByteArray) (s : Nat) : List Nat := (List.range' (s + 1) (all.length - 1 - s)).filter fun x => decide (all.getD x .empty = name)
theorem wantF_step {all : List ByteArray} {name : ByteArray} {s : Nat} (h : s + 1 < all.length) : wantF all name s = (if all.getD (s + 1) .empty = name then [s + 1] else []) ++ wantF all name (s + 1) := by
  unfold wantF
  rw [show all.length - 1 - s = (all.length - 1 - (s + 1)) + 1 from by omega, List.range'_succ, List.filter_cons]
  by_cases h1 : all.getD (s + 1) .empty = name
  · rw [decide_eq_true h1, if_pos rfl, if_pos h1]
    rfl
  · rw [decide_eq_false h1, if_neg (by simp), if_neg h1]
    rfl
theorem wantF_end {all : List ByteArray} {name : ByteArray} {s : Nat} (h : all.length - 1 ≤ s) : wantF all name s = [] := by
  unfold wantF
  rw [show all.length - 1 - s = 0 from by omega]
  rfl
/-- a chain tells them -/
theorem chain_tells {hb : Nat → Nat} {all : List ByteArray} {name : ByteArray} {j : Nat} {ch : List Nat} (hch : ch.length = all.length) (hc : ∀ x, 0 < x → x < all.length → ch.getD x 0 = nxt hb all.length x (hb x))
    (hj : ∀ x, x < all.length → all.getD x .empty = name → hb x = j) : ∀ (r s f : Nat) (told : List Nat), all.length - 1 - s = r → r ≤ f → chainGo ch all name f (nxt hb all.length s j) told = (told ++ wantF all name s, 0)
  | 0, s, f, told, h, hf => by
    rw [nxt_end (by omega), chainGo_end, wantF_end (by omega), List.append_nil]
  | r + 1, s, f, told, h, hf => by
    have hs : s + 1 < all.length := by omega
    rw [nxt_step hs, wantF_step hs]
    by_cases h1 : hb (s + 1) = j
    · rw [if_pos h1]
      obtain ⟨g, rfl⟩ : ∃ g, f = g + 1 := ⟨f - 1, by omega⟩
      rw [chainGo_next (by omega) (by omega), hc (s + 1) (by omega) hs, h1, chain_tells hch hc hj r (s + 1) g _ (by omega) (by omega)]
      by_cases h2 : all.getD (s + 1) .empty = name
      · rw [if_pos h2, if_pos h2, List.append_assoc]
      · rw [if_neg h2, if_neg h2, List.nil_append]
    · rw [if_neg h1, if_neg (fun h2 => h1 (hj _ hs h2)), List.nil_append]
      exact chain_tells hch hc hj r (s + 1) f told (by omega) (by omega)

/-! ### Words as bytes -/
def dig4 (v : Nat) : List Nat := [v % 256, v / 256 % 256, v / 65536 % 256, v / 16777216 % 256]
theorem numOf_dig4 {v : Nat} (h : v < 4294967296) : numOf (dig4 v) = v := by
  simp only [dig4, numOf]
  omega
theorem dig4_lt (v : Nat) : ∀ b ∈ dig4 v, b < 256 := by
  intro b hb
  simp only [dig4, List.mem_cons, List.not_mem_nil, or_false] at hb
  omega
def fourF (W : List Nat) : List Nat := W.flatMap dig4
theorem fourF_length (W : List Nat) : (fourF W).length = 4 * W.length := by
  induction W with
  | nil => rfl
  | cons v W ih =>
    have : fourF (v :: W) = dig4 v ++ fourF W := rfl
    rw [this, List.length_append, ih, List.length_cons]
    simp only [dig4, List.length_cons, List.length_nil]
    omega
theorem fourF_lt (W : List Nat) : ∀ b ∈ fourF W, b < 256 := by
  intro b hb
  obtain ⟨v, -, h⟩ := List.mem_flatMap.1 hb
  exact dig4_lt v b h
theorem fourF_snoc (W : List Nat) (v : Nat) : fourF (W ++ [v]) = fourF W ++ dig4 v := by simp [fourF]
theorem fourF_append (W V : List Nat) : fourF (W ++ V) = fourF W ++ fourF V := by simp [fourF]
theorem fourF_take (W : List Nat) (k : Nat) (hk : k ≤ W.length) : (fourF W).take (4 * k) = fourF (W.take k) := by
  conv => lhs; rw [← List.take_append_drop k W, fourF_append]
  rw [List.take_append_of_le_length (by rw [fourF_length, List.length_take]; omega), List.take_of_length_le (by rw [fourF_length, List.length_take]; omega)]
theorem quad_four {W : List Nat} (h : ∀ v ∈ W, v < 4294967296) {i : Nat} (hi : i < W.length) : quadAt (fourF W) i = W[i] := by
  unfold quadAt
  have h1 : (fourF W).drop (4 * i) = fourF (W.drop i) := by
    conv => lhs; rw [← List.take_append_drop i W, fourF_append]
    rw [List.drop_append_of_le_length (by rw [fourF_length, List.length_take]; omega), List.drop_of_length_le (by rw [fourF_length, List.length_take]; omega)]
    rfl
  rw [h1, List.drop_eq_getElem_cons hi]
  have h2 : (fourF (W[i] :: W.drop (i + 1))).take 4 = dig4 W[i] := by
    rfl
  rw [h2, numOf_dig4 (h _ (List.getElem_mem hi))]
theorem split_four {W : List Nat} (h : ∀ v ∈ W, v < 4294967296) : splitF (fourF W) = W := by
  apply List.ext_getElem?
  intro i
  by_cases hi : i < W.length
  · rw [splitF_at (by rw [fourF_length]; omega), quad_four h hi, List.getElem?_eq_getElem hi]
  · rw [List.getElem?_eq_none (by rw [splitF_length, fourF_length]; omega), List.getElem?_eq_none (by omega)]
/-- what is read of a file that is words, and lies at 0x100 -/
theorem words_made {W : List Nat} (h : ∀ v ∈ W, v < 4294967296) {S : Nat} (hS : S = 4 * W.length) {k : Nat} (hk : k ≤ W.length) : wordsF (fourF W) [⟨1, 0, 0, 256, S, 0, 0⟩] 256 k = (W.take k, 0) := by
  have ho : offF [⟨1, 0, 0, 256, S, 0, 0⟩] 256 (4 * k) = (0, 0) := by
    unfold offF
    rw [if_pos ⟨rfl, Nat.le_refl _, by simp, by simp; omega⟩]
    rfl
  have hs : sliceF (fourF W) [⟨1, 0, 0, 256, S, 0, 0⟩] 256 (4 * k) = ((fourF W).take (4 * k), 0) := sliceF_yes ho (Nat.zero_le _) (by rw [fourF_length]; omega)
  rw [wordsF_yes hs, fourF_take W k hk, split_four (fun v hv => h v (List.mem_of_mem_take hv))]
theorem chains_made {hb : Nat → Nat} {n N S : Nat} (hn0 : 0 < n) (hn : n ≤ 4096) (hN0 : 0 < N) (hN : N ≤ 4096) (hS : S = 4 * (2 + n + N)) :
    chainsF (fourF (tabW hb n N 0)) [⟨1, 0, 0, 256, S, 0, 0⟩] 256 = (((List.range n).map (nxt hb N 0), (List.range N).map fun x => if x ≤ 0 then 0 else nxt hb N x (hb x)), 0) := by
  have hw := tabW_lt (hb := hb) (n := n) (N := N) (s := 0) (by omega) (by omega) hN0
  have hl := tabW_length hb n N 0
  unfold chainsF
  rw [words_made hw (by rw [hl]; exact hS) (k := 2) (by omega)]
  have h2 : (tabW hb n N 0).take 2 = [n, N] := by simp [tabW]
  rw [h2]
  simp only [List.getD_cons_zero, List.getD_cons_succ]
  rw [if_neg (by omega), if_neg (by omega), words_made hw (by rw [hl]; exact hS) (k := 2 + n + N) (by omega)]
  simp only
  have h3 : (tabW hb n N 0).take (2 + n + N) = tabW hb n N 0 := List.take_of_length_le (by omega)
  rw [h3]
  have h4 : tabW hb n N 0 = ([n, N] ++ (List.range n).map (nxt hb N 0)) ++ (List.range N).map fun x => if x ≤ 0 then 0 else nxt hb N x (hb x) := rfl
  have h5 : ([n, N] ++ (List.range n).map (nxt hb N 0)).length = 2 + n := by simp; omega
  have h6 : (tabW hb n N 0).take (2 + n) = [n, N] ++ (List.range n).map (nxt hb N 0) := by
    rw [h4, ← h5, List.take_left]
  have h7 : (tabW hb n N 0).drop (2 + n) = (List.range N).map fun x => if x ≤ 0 then 0 else nxt hb N x (hb x) := by
    rw [h4, ← h5, List.drop_left]
  rw [h6, h7]
  rfl
theorem look_made {hb : Nat → Nat} {n : Nat} {all : List ByteArray} {name : ByteArray} {k : Nat} (hn0 : 0 < n) (hN0 : 0 < all.length) (hk : ∀ x, x < all.length → all.getD x .empty = name → hb x = k % n) :
    lookF ((List.range n).map (nxt hb all.length 0), (List.range all.length).map fun x => if x ≤ 0 then 0 else nxt hb all.length x (hb x)) all name k = (wantF all name 0, 0) := by
  unfold lookF
  simp only [List.length_map, List.length_range]
  have h1 : ((List.range n).map (nxt hb all.length 0)).getD (k % n) 0 = nxt hb all.length 0 (k % n) := by
    simp [List.getD, Nat.mod_lt _ hn0]
  rw [h1, chain_tells (hb := hb) (by simp) (fun x h0 hx => by simp [List.getD, hx]; omega) hk _ 0 _ [] rfl (by omega)]
  rfl
end Go.Proofs.Ytpilccalgegadaa
