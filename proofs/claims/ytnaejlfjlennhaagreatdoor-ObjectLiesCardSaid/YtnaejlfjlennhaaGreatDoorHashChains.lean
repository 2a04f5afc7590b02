/- Layer 7: tables of the first kind, as lists. Nothing of the program is named. -/
import Derived.Test.YtnaejlfjlennhaaGreatDoorDynSlice
import Derived.Test.YtnaejlfjlennhaaGreatDoorBox
import Derived.Laws.OwnMore
import Derived.OwnWalk
import Derived.BigQuiet
import Derived.WalkSmall
import Derived.StillTailTactics
namespace Go.Proofs.YtnaejlfjlennhaaGreatDoor
set_option linter.unusedVariables false
set_option linter.unusedSimpArgs false

/-- the numbers of 4 bytes -/
def quadAt (bs : List Nat) (i : Nat) : Nat := numOf ((bs.drop (4 * i)).take 4)
def splitF (bs : List Nat) : List Nat := (List.range (bs.length / 4)).map (quadAt bs)
theorem splitF_length (bs : List Nat) : (splitF bs).length = bs.length / 4 := by simp [splitF]
theorem splitF_at {bs : List Nat} {i : Nat} (h : i < bs.length / 4) : (splitF bs)[i]? = some (quadAt bs i) := by simp [splitF, h]
theorem quadAt_lt {bs : List Nat} (h : ∀ b ∈ bs, b < 256) (i : Nat) : quadAt bs i < 4294967296 := by
  have h1 := numOf_lt ((bs.drop (4 * i)).take 4) (fun b hb => h b (List.mem_of_mem_drop (List.mem_of_mem_take hb)))
  have h2 : 256 ^ ((bs.drop (4 * i)).take 4).length ≤ 256 ^ 4 := Nat.pow_le_pow_right (by omega) (by simp; omega)
  unfold quadAt
  omega
theorem splitF_lt {bs : List Nat} (h : ∀ b ∈ bs, b < 256) : ∀ x ∈ splitF bs, x < 4294967296 := by
  intro x hx
  obtain ⟨i, -, rfl⟩ := List.mem_map.1 hx
  exact quadAt_lt h i

/-- n numbers of 4 bytes at an address; an error's number behind -/
def wordsF (bs : List Nat) (ps : List PT) (addr n : Nat) : List Nat × Nat :=
  if (sliceF bs ps addr (4 * n)).2 = 0 then (splitF (sliceF bs ps addr (4 * n)).1, 0) else ([], 4)
theorem sliceF_code (bs : List Nat) (ps : List PT) (addr size : Nat) : (sliceF bs ps addr size).2 = 0 ∨ sliceF bs ps addr size = ([], 4) := by
  unfold sliceF
  split
  · left; rfl
  · right; rfl
theorem sliceF_len (bs : List Nat) (ps : List PT) (addr size : Nat) : (sliceF bs ps addr size).2 = 0 → (sliceF bs ps addr size).1.length = size := by
  unfold sliceF
  split
  · rename_i h
    intro _
    simp
    omega
  · intro h; simp at h
theorem wordsF_yes {bs : List Nat} {ps : List PT} {addr n : Nat} {s : List Nat} (h : sliceF bs ps addr (4 * n) = (s, 0)) : wordsF bs ps addr n = (splitF s, 0) := by
  unfold wordsF
  rw [h, if_pos rfl]
theorem wordsF_no {bs : List Nat} {ps : List PT} {addr n : Nat} (h : sliceF bs ps addr (4 * n) = ([], 4)) : wordsF bs ps addr n = ([], 4) := by
  unfold wordsF
  rw [h, if_neg (by simp)]
theorem wordsF_len {bs : List Nat} {ps : List PT} {addr n : Nat} (h : (wordsF bs ps addr n).2 = 0) : (wordsF bs ps addr n).1.length = n := by
  rcases sliceF_code bs ps addr (4 * n) with h1 | h1
  · have h2 := sliceF_len _ _ _ _ h1
    unfold wordsF
    rw [if_pos h1]
    rw [splitF_length, h2]
    omega
  · rw [wordsF_no h1] at h
    simp at h
theorem wordsF_code (bs : List Nat) (ps : List PT) (addr n : Nat) : (wordsF bs ps addr n).2 = 0 ∨ wordsF bs ps addr n = ([], 4) := by
  rcases sliceF_code bs ps addr (4 * n) with h1 | h1
  · left
    unfold wordsF
    rw [if_pos h1]
  · right
    exact wordsF_no h1

/-- a table of the first kind: its buckets and its chains; an error's number behind -/
def chainsF (bs : List Nat) (ps : List PT) (addr : Nat) : (List Nat × List Nat) × Nat :=
  match wordsF bs ps addr 2 with
  | (f, 0) =>
    if f.getD 0 0 = 0 ∨ f.getD 1 0 = 0 then (([], []), 3)
    else if 4096 < f.getD 0 0 ∨ 4096 < f.getD 1 0 then (([], []), 2)
    else match wordsF bs ps addr (2 + f.getD 0 0 + f.getD 1 0) with
      | (all, 0) => (((all.take (2 + f.getD 0 0)).drop 2, all.drop (2 + f.getD 0 0)), 0)
      | (_, c) => (([], []), c)
  | (_, c) => (([], []), c)

/-- a chain is gone through: so many rounds at most; what was told, or an error's number -/
def chainGo (ch : List Nat) (names : List ByteArray) (name : ByteArray) : Nat → Nat → List Nat → List Nat × Nat
  | 0, i, told => if i = 0 then (told, 0) else if i ≥ ch.length ∨ i ≥ names.length then ([], 4) else ([], 3)
  | f + 1, i, told => if i = 0 then (told, 0) else if i ≥ ch.length ∨ i ≥ names.length then ([], 4)
      else chainGo ch names name f (ch.getD i 0) (if names.getD i .empty = name then told ++ [i] else told)

theorem chainGo_end {ch : List Nat} {names : List ByteArray} {name : ByteArray} {f : Nat} {told : List Nat} : chainGo ch names name f 0 told = (told, 0) := by
  cases f <;> simp [chainGo]
theorem chainGo_out {ch : List Nat} {names : List ByteArray} {name : ByteArray} {f i : Nat} {told : List Nat} (h0 : ¬ i = 0) (h : i ≥ ch.length ∨ i ≥ names.length) : chainGo ch names name f i told = ([], 4) := by
  cases f <;> simp [chainGo, h0, h]
theorem chainGo_many {ch : List Nat} {names : List ByteArray} {name : ByteArray} {i : Nat} {told : List Nat} (h0 : ¬ i = 0) (h : ¬ (i ≥ ch.length ∨ i ≥ names.length)) : chainGo ch names name 0 i told = ([], 3) := by
  simp [chainGo, h0, h]
theorem chainGo_next {ch : List Nat} {names : List ByteArray} {name : ByteArray} {f i : Nat} {told : List Nat} (h0 : ¬ i = 0) (h : ¬ (i ≥ ch.length ∨ i ≥ names.length)) :
    chainGo ch names name (f + 1) i told = chainGo ch names name f (ch.getD i 0) (if names.getD i .empty = name then told ++ [i] else told) := by
  conv => lhs; unfold chainGo
  rw [if_neg h0, if_neg h]
/-- the symbols of a name by a table of the first kind -/
def lookF (t : List Nat × List Nat) (names : List ByteArray) (name : ByteArray) (k : Nat) : List Nat × Nat := chainGo t.2 names name t.2.length (t.1.getD (k % t.1.length) 0) []
end Go.Proofs.YtnaejlfjlennhaaGreatDoor
/- Layer 7: a table of the first kind that was made of names, and what it tells. Nothing of the program is named. -/
namespace Go.Proofs.YtnaejlfjlennhaaGreatDoor
set_option linter.unusedVariables false
set_option linter.unusedSimpArgs false

/-- the next one of a bucket behind s, among so many -/
def nx (hb : Nat → Nat) (j : Nat) : Nat → Nat → Nat
  | 0, _ => 0
  | r + 1, s => if hb (s + 1) = j then s + 1 else nx hb j r (s + 1)
def nxt (hb : Nat → Nat) (N s j : Nat) : Nat := nx hb j (N - 1 - s) s
theorem nxt_end {hb : Nat → Nat} {N s j : Nat} (h : N - 1 ≤ s) : nxt hb N s j = 0 := by
  unfold nxt
  rw [show N - 1 - s = 0 from by omega]
  rfl
theorem nxt_step {hb : Nat → Nat} {N s j : Nat} (h : s + 1 < N) : nxt hb N s j = if hb (s + 1) = j then s + 1 else nxt hb N (s + 1) j := by
  unfold nxt
  rw [show N - 1 - s = (N - 1 - (s + 1)) + 1 from by omega, nx]
theorem nxt_lt {hb : Nat → Nat} {N j : Nat} : ∀ (r s : Nat), N - 1 - s = r → nxt hb N s j = 0 ∨ (s < nxt hb N s j ∧ nxt hb N s j < N)
  | 0, s, h => .inl (nxt_end (by omega))
  | r + 1, s, h => by
    rw [nxt_step (by omega)]
    split
    · right; omega
    · rcases nxt_lt (N := N) (hb := hb) (j := j) r (s + 1) (by omega) with h1 | h1
      · exact .inl h1
      · right; omega
theorem nxt_bound (hb : Nat → Nat) (N s j : Nat) (hN : 0 < N) : nxt hb N s j < N := by
  rcases nxt_lt (hb := hb) (N := N) (j := j) _ s rfl with h | h
  · omega
  · exact h.2

/-- the table's words, when those behind s were laid -/
def tabW (hb : Nat → Nat) (n N s : Nat) : List Nat := [n, N] ++ (List.range n).map (nxt hb N s) ++ (List.range N).map fun x => if x ≤ s then 0 else nxt hb N x (hb x)
theorem tabW_length (hb : Nat → Nat) (n N s : Nat) : (tabW hb n N s).length = 2 + n + N := by simp [tabW]; omega
theorem tabW_bucket {hb : Nat → Nat} {n N s j : Nat} (h : j < n) : (tabW hb n N s)[2 + j]? = some (nxt hb N s j) := by
  unfold tabW
  rw [List.getElem?_append_left (by simp; omega), List.getElem?_append_right (by simp)]
  simp [h]
theorem tabW_chain {hb : Nat → Nat} {n N s x : Nat} (h : x < N) : (tabW hb n N s)[2 + n + x]? = some (if x ≤ s then 0 else nxt hb N x (hb x)) := by
  unfold tabW
  rw [List.getElem?_append_right (by simp; omega)]
  simp [h, show 2 + n + x - (n + 2) = x from by omega]
theorem tabW_start (hb : Nat → Nat) (n N : Nat) : tabW hb n N (N - 1) = [n, N] ++ List.replicate (n + N) 0 := by
  unfold tabW
  rw [List.append_assoc]
  congr 1
  rw [← List.replicate_append_replicate]
  congr 1
  · apply List.ext_getElem?
    intro j
    by_cases hj : j < n
    · simp [hj, nxt_end]
    · rw [List.getElem?_eq_none (by simp; omega), List.getElem?_eq_none (by simp; omega)]
  · apply List.ext_getElem?
    intro j
    by_cases hj : j < N
    · simp [hj, show j ≤ N - 1 from by omega]
    · rw [List.getElem?_eq_none (by simp; omega), List.getElem?_eq_none (by simp; omega)]
theorem tabW_step {hb : Nat → Nat} {n N s : Nat} (hs : s + 1 < N) (hb1 : hb (s + 1) < n) : ((tabW hb n N (s + 1)).set (2 + n + (s + 1)) (nxt hb N (s + 1) (hb (s + 1)))).set (2 + hb (s + 1)) (s + 1) = tabW hb n N s := by
  apply List.ext_getElem?
  intro m
  have hl := tabW_length hb n N (s + 1)
  rw [List.getElem?_set, List.getElem?_set]
  by_cases h0 : m < 2 + n + N
  · by_cases h1 : m < 2
    · rw [if_neg (by omega), if_neg (by omega)]
      unfold tabW
      rw [List.append_assoc, List.append_assoc, List.getElem?_append_left (by simpa using h1), List.getElem?_append_left (by simpa using h1)]
    · by_cases h2 : m < 2 + n
      · obtain ⟨j, rfl⟩ : ∃ j, m = 2 + j := ⟨m - 2, by omega⟩
        rw [tabW_bucket (s := s + 1) (by omega), tabW_bucket (s := s) (by omega), nxt_step hs]
        by_cases h3 : hb (s + 1) = j
        · rw [if_pos (by omega), if_pos (by rw [List.length_set]; omega), if_pos h3]
        · rw [if_neg (by omega), if_neg (by omega), if_neg h3]
      · obtain ⟨x, rfl⟩ : ∃ x, m = 2 + n + x := ⟨m - (2 + n), by omega⟩
        rw [if_neg (by omega), tabW_chain (s := s + 1) (by omega), tabW_chain (s := s) (by omega)]
        by_cases h3 : x = s + 1
        · subst h3
          rw [if_pos rfl, if_pos (by omega), if_neg (by omega)]
        · rw [if_neg (by omega)]
          by_cases h4 : x ≤ s
          · rw [if_pos h4, if_pos (by omega)]
          · rw [if_neg h4, if_neg (by omega)]
  · rw [List.getElem?_eq_none (by rw [tabW_length]; omega)]
    by_cases h1 : 2 + hb (s + 1) = m
    · omega
    · rw [if_neg h1, if_neg (by omega), List.getElem?_eq_none (by rw [tabW_length]; omega)]
theorem tabW_lt {hb : Nat → Nat} {n N s : Nat} (hn : n < 4294967296) (hN : N < 4294967296) (h0 : 0 < N) : ∀ x ∈ tabW hb n N s, x < 4294967296 := by
  intro x hx
  unfold tabW at hx
  rcases List.mem_append.1 hx with hx | hx
  · rcases List.mem_append.1 hx with hx | hx
    · rcases List.mem_cons.1 hx with rfl | hx
      · exact hn
      · simp only [List.mem_singleton] at hx
        omega
    · obtain ⟨j, -, rfl⟩ := List.mem_map.1 hx
      exact Nat.lt_trans (nxt_bound _ _ _ _ h0) hN
  · obtain ⟨j, -, rfl⟩ := List.mem_map.1 hx
    split
    · omega
    · exact Nat.lt_trans (nxt_bound _ _ _ _ h0) hN

/-- the symbols of a name, behind s -/
def wantF (all : List ByteArray) (name : ByteArray) (s : Nat) : List Nat := (List.range' (s + 1) (all.length - 1 - s)).filter fun x => decide (all.getD x .empty = name)
theorem wantF_step {all : List ByteArray} {name : ByteArray} {s : Nat} (h : s + 1 < all.length) : wantF all name s = (if all.getD (s + 1) .empty = name then [s + 1] else []) ++ wantF all name (s + 1) := by
  unfold wantF
  rw [show all.length - 1 - s = (all.length - 1 - (s + 1)) + 1 from by omega, List.range'_succ, List.filter_cons]
  by_cases h1 : all.getD (s + 1) .empty = name
  · rw [decide_eq_true h1, if_pos rfl, if_pos h1]
    rfl
  · rw [decide_eq_false h1, if_neg (by simp), if_neg h1]
    rfl
theorem wantF_end {all : List ByteArray} {name : ByteArray} {s : Nat} (h : all.length - 1 ≤ s) : wantF all name s = [] := by
  unfold wantF
  rw [show all.length - 1 - s = 0 from by omega]
  rfl
/-- a chain tells them -/
theorem chain_tells {hb : Nat → Nat} {all : List ByteArray} {name : ByteArray} {j : Nat} {ch : List Nat} (hch : ch.length = all.length) (hc : ∀ x, 0 < x → x < all.length → ch.getD x 0 = nxt hb all.length x (hb x))
    (hj : ∀ x, x < all.length → all.getD x .empty = name → hb x = j) : ∀ (r s f : Nat) (told : List Nat), all.length - 1 - s = r → r ≤ f → chainGo ch all name f (nxt hb all.length s j) told = (told ++ wantF all name s, 0)
  | 0, s, f, told, h, hf => by
    rw [nxt_end (by omega), chainGo_end, wantF_end (by omega), List.append_nil]
  | r + 1, s, f, told, h, hf => by
    have hs : s + 1 < all.length := by omega
    rw [nxt_step hs, wantF_step hs]
    by_cases h1 : hb (s + 1) = j
    · rw [if_pos h1]
      obtain ⟨g, rfl⟩ : ∃ g, f = g + 1 := ⟨f - 1, by omega⟩
      rw [chainGo_next (by omega) (by omega), hc (s + 1) (by omega) hs, h1, chain_tells hch hc hj r (s + 1) g _ (by omega) (by omega)]
      by_cases h2 : all.getD (s + 1) .empty = name
      · rw [if_pos h2, if_pos h2, List.append_assoc]
      · rw [if_neg h2, if_neg h2, List.nil_append]
    · rw [if_neg h1, if_neg (fun h2 => h1 (hj _ hs h2)), List.nil_append]
      exact chain_tells hch hc hj r (s + 1) f told (by omega) (by omega)

/-! ### Words as bytes -/
def dig4 (v : Nat) : List Nat := [v % 256, v / 256 % 256, v / 65536 % 256, v / 16777216 % 256]
theorem numOf_dig4 {v : Nat} (h : v < 4294967296) : numOf (dig4 v) = v := by
  simp only [dig4, numOf]
  omega
theorem dig4_lt (v : Nat) : ∀ b ∈ dig4 v, b < 256 := by
  intro b hb
  simp only [dig4, List.mem_cons, List.not_mem_nil, or_false] at hb
  omega
def fourF (W : List Nat) : List Nat := W.flatMap dig4
theorem fourF_length (W : List Nat) : (fourF W).length = 4 * W.length := by
  induction W with
  | nil => rfl
  | cons v W ih =>
    have : fourF (v :: W) = dig4 v ++ fourF W := rfl
    rw [this, List.length_append, ih, List.length_cons]
    simp only [dig4, List.length_cons, List.length_nil]
    omega
theorem fourF_lt (W : List Nat) : ∀ b ∈ fourF W, b < 256 := by
  intro b hb
  obtain ⟨v, -, h⟩ := List.mem_flatMap.1 hb
  exact dig4_lt v b h
theorem fourF_snoc (W : List Nat) (v : Nat) : fourF (W ++ [v]) = fourF W ++ dig4 v := by simp [fourF]
theorem fourF_append (W V : List Nat) : fourF (W ++ V) = fourF W ++ fourF V := by simp [fourF]
theorem fourF_take (W : List Nat) (k : Nat) (hk : k ≤ W.length) : (fourF W).take (4 * k) = fourF (W.take k) := by
  conv => lhs; rw [← List.take_append_drop k W, fourF_append]
  rw [List.take_append_of_le_length (by rw [fourF_length, List.length_take]; omega), List.take_of_length_le (by rw [fourF_length, List.length_take]; omega)]
theorem quad_four {W : List Nat} (h : ∀ v ∈ W, v < 4294967296) {i : Nat} (hi : i < W.length) : quadAt (fourF W) i = W[i] := by
  unfold quadAt
  have h1 : (fourF W).drop (4 * i) = fourF (W.drop i) := by
    conv => lhs; rw [← List.take_append_drop i W, fourF_append]
    rw [List.drop_append_of_le_length (by rw [fourF_length, List.length_take]; omega), List.drop_of_length_le (by rw [fourF_length, List.length_take]; omega)]
    rfl
  rw [h1, List.drop_eq_getElem_cons hi]
  have h2 : (fourF (W[i] :: W.drop (i + 1))).take 4 = dig4 W[i] := by
    rfl
  rw [h2, numOf_dig4 (h _ (List.getElem_mem hi))]
theorem split_four {W : List Nat} (h : ∀ v ∈ W, v < 4294967296) : splitF (fourF W) = W := by
  apply List.ext_getElem?
  intro i
  by_cases hi : i < W.length
  · rw [splitF_at (by rw [fourF_length]; omega), quad_four h hi, List.getElem?_eq_getElem hi]
  · rw [List.getElem?_eq_none (by rw [splitF_length, fourF_length]; omega), List.getElem?_eq_none (by omega)]
/-- what is read of a file that is words, and lies at 0x100 -/
theorem words_made {W : List Nat} (h : ∀ v ∈ W, v < 4294967296) {S : Nat} (hS : S = 4 * W.length) {k : Nat} (hk : k ≤ W.length) : wordsF (fourF W) [⟨1, 0, 0, 256, S, 0, 0⟩] 256 k = (W.take k, 0) := by
  have ho : offF [⟨1, 0, 0, 256, S, 0, 0⟩] 256 (4 * k) = (0, 0) := by
    unfold offF
    rw [if_pos ⟨rfl, Nat.le_refl _, by simp, by simp; omega⟩]
    rfl
  have hs : sliceF (fourF W) [⟨1, 0, 0, 256, S, 0, 0⟩] 256 (4 * k) = ((fourF W).take (4 * k), 0) := sliceF_yes ho (Nat.zero_le _) (by rw [fourF_length]; omega)
  rw [wordsF_yes hs, fourF_take W k hk, split_four (fun v hv => h v (List.mem_of_mem_take hv))]
theorem chains_made {hb : Nat → Nat} {n N S : Nat} (hn0 : 0 < n) (hn : n ≤ 4096) (hN0 : 0 < N) (hN : N ≤ 4096) (hS : S = 4 * (2 + n + N)) :
    chainsF (fourF (tabW hb n N 0)) [⟨1, 0, 0, 256, S, 0, 0⟩] 256 = (((List.range n).map (nxt hb N 0), (List.range N).map fun x => if x ≤ 0 then 0 else nxt hb N x (hb x)), 0) := by
  have hw := tabW_lt (hb := hb) (n := n) (N := N) (s := 0) (by omega) (by omega) hN0
  have hl := tabW_length hb n N 0
  unfold chainsF
  rw [words_made hw (by rw [hl]; exact hS) (k := 2) (by omega)]
  have h2 : (tabW hb n N 0).take 2 = [n, N] := by simp [tabW]
  rw [h2]
  simp only [List.getD_cons_zero, List.getD_cons_succ]
  rw [if_neg (by omega), if_neg (by omega), words_made hw (by rw [hl]; exact hS) (k := 2 + n + N) (by omega)]
  simp only
  have h3 : (tabW hb n N 0).take (2 + n + N) = tabW hb n N 0 := List.take_of_length_le (by omega)
  rw [h3]
  have h4 : tabW hb n N 0 = ([n, N] ++ (List.range n).map (nxt hb N 0)) ++ (List.range N).map fun x => if x ≤ 0 then 0 else nxt hb N x (hb x) := rfl
  have h5 : ([n, N] ++ (List.range n).map (nxt hb N 0)).length = 2 + n := by simp; omega
  have h6 : (tabW hb n N 0).take (2 + n) = [n, N] ++ (List.range n).map (nxt hb N 0) := by
    rw [h4, ← h5, List.take_left]
  have h7 : (tabW hb n N 0).drop (2 + n) = (List.range N).map fun x => if x ≤ 0 then 0 else nxt hb N x (hb x) := by
    rw [h4, ← h5, List.drop_left]
  rw [h6, h7]
  rfl
theorem look_made {hb : Nat → Nat} {n : Nat} {all : List ByteArray} {name : ByteArray} {k : Nat} (hn0 : 0 < n) (hN0 : 0 < all.length) (hk : ∀ x, x < all.length → all.getD x .empty = name → hb x = k % n) :
    lookF ((List.range n).map (nxt hb all.length 0), (List.range all.length).map fun x => if x ≤ 0 then 0 else nxt hb all.length x (hb x)) all name k = (wantF all name 0, 0) := by
  unfold lookF
  simp only [List.length_map, List.length_range]
  have h1 : ((List.range n).map (nxt hb all.length 0)).getD (k % n) 0 = nxt hb all.length 0 (k % n) := by
    simp [List.getD, Nat.mod_lt _ hn0]
  rw [h1, chain_tells (hb := hb) (by simp) (fun x h0 hx => by simp [List.getD, hx]; omega) hk _ 0 _ [] rfl (by omega)]
  rfl
end Go.Proofs.YtnaejlfjlennhaaGreatDoor
/- Layer 7: numbers of 4 bytes in a file. -/
namespace Go.Proofs.YtnaejlfjlennhaaGreatDoor
open Go.RowKit
set_option linter.unusedVariables false
set_option linter.unusedSimpArgs false

theorem slice32 : IntSlice Tryz.prog 128 52 .u32 4 := ⟨Tryz.underlying128, by kernel_rfl⟩

/-- make([]T, n), T a kind of numbers -/
theorem wpList_make_nums {P : Program} {w : World} {ops : Array Oper} {rest : List Oper} {o : Oper} {a : Act} {Q : Exit → Act → World → Prop} (hgd : o.guard = none) (l c : Operand) {t e : TypeId} {k : IntKind} {bytes : Nat}
    (F : IntSlice P t e k bytes) (ho : o.op = Op.makeSlice t l c) (B : Nat) (w0 : World) (n : Nat) (kl kc : IntKind) (L C : Int)
    (hl : a.eval l = .int kl L) (hc : a.eval c = .int kc C) (hL : L = (n : Int)) (hC : C = (n : Int)) (hn : n * bytes ≤ 140737488355328) (hm : n ≤ maxLen) (bel : Below B w0 w) (hb : B ≤ w.heap.size)
    (h : ∀ g w', OwnI w' B e k (.slice (some ⟨g, 0, none⟩) n n) (List.replicate n 0) → w.heap.size ≤ g → Below B w0 w' → Below w.heap.size w w' → wpList P ops Q rest (a.put o.dst (.slice (some ⟨g, 0, none⟩) n n)) w') : wpList P ops Q (o :: rest) a w := by
  obtain ⟨ht, hinfo⟩ := F
  obtain ⟨i, hi, hz0, hz1, hz2⟩ := info_parts hinfo
  refine wpList_make_full w hgd l c t ho B e i (.int k 0) 1 ht hi hz0 hz1 kl kc L C n hl hc hL hC (by rw [hz2]; rw [Nat.mul_comm]; omega) hm hb ?_
  intro w' hown hgr
  refine h w.heap.size w' ?_ (Nat.le_refl _) (bel.grown hgr hb (fun j hj => by cases hj)) ((Below.refl _ _).grown hgr (Nat.le_refl _) (fun j hj => by cases hj))
  unfold OwnI
  rw [List.length_replicate, List.map_replicate]
  have e1 : (madeCells (Value.int k 0).cells (n * 1)).toList = List.replicate n (.int k 0) := by
    rw [Nat.mul_one]
    exact toList_madeCells_one (.int k 0) n
  rw [e1] at hown
  exact hown

/-- a row of which the first are written -/
def laidTo (f : Nat → Nat) (n k : Nat) : List Int := (List.range n).map fun (i : Nat) => if i < k then (f i : Int) else 0
theorem laidTo_length (f : Nat → Nat) (n k : Nat) : (laidTo f n k).length = n := by simp [laidTo]
theorem laidTo_zero (f : Nat → Nat) (n : Nat) : laidTo f n 0 = List.replicate n 0 := by
  apply List.ext_getElem?
  intro j
  by_cases hj : j < n
  · simp [laidTo, hj]
  · rw [List.getElem?_eq_none (by rw [laidTo_length]; omega), List.getElem?_eq_none (by simp; omega)]
theorem laidTo_all (f : Nat → Nat) (n : Nat) : laidTo f n n = toI ((List.range n).map f) := by
  unfold laidTo toI
  rw [List.map_map]
  apply List.map_congr_left
  intro i hi
  rw [if_pos (List.mem_range.1 hi)]
  rfl
theorem laidTo_set {f : Nat → Nat} {n k : Nat} (h : k < n) : (laidTo f n k).set k (f k : Int) = laidTo f n (k + 1) := by
  apply List.ext_getElem?
  intro j
  rw [List.getElem?_set]
  by_cases hj : j < n
  · by_cases hjk : k = j
    · subst hjk
      rw [if_pos rfl, if_pos (by rw [laidTo_length]; exact hj)]
      simp [laidTo, hj]
    · rw [if_neg hjk]
      simp only [laidTo, List.getElem?_map, List.getElem?_range hj, Option.map_some]
      by_cases h1 : j < k
      · rw [if_pos h1, if_pos (by omega)]
      · rw [if_neg h1, if_neg (by omega)]
  · have hkj : k ≠ j := by omega
    rw [if_neg hkj, List.getElem?_eq_none (by rw [laidTo_length]; omega), List.getElem?_eq_none (by rw [laidTo_length]; omega)]
theorem laidTo_get {f : Nat → Nat} {n k : Nat} (h : k < n) : (laidTo f n k)[k]? = some 0 := by simp [laidTo, h]

theorem OwnI.put2 {w : World} {B g n cap : Nat} {e : TypeId} {k : IntKind} {xs : List Int} (h : OwnI w B e k (.slice (some ⟨g, 0, none⟩) n cap) xs) (hn : xs.length = n) (j : Nat) (y : Int) : OwnI (w.setCell ⟨g, j, none⟩ (.int k y)) B e k (.slice (some ⟨g, 0, none⟩) n cap) (xs.set j y) := by
  subst hn
  have := (World.ownsRow.stored h j (.int k y)).1
  unfold OwnI
  rw [List.length_set, List.map_set]
  exact this
theorem OwnI.len {w : World} {B n cap : Nat} {e : TypeId} {k : IntKind} {ad : Option Addr} {xs : List Int} (h : OwnI w B e k (.slice ad n cap) xs) : n = xs.length := by
  obtain ⟨a, c, hv, -⟩ := h.row
  simp only [Value.slice.injEq] at hv
  exact hv.2.1
theorem OwnI.get2 {w : World} {B g n cap : Nat} {e : TypeId} {k : IntKind} {xs : List Int} (h : OwnI w B e k (.slice (some ⟨g, 0, none⟩) n cap) xs) (j : Nat) (y : Int) (hj : xs[j]? = some y) : w.cell? ⟨g, j, none⟩ = some (.int k y) := by
  have he := h.len
  subst he
  have := World.ownsRow.cells h (g := g) rfl j (.int k y) (by simp [hj])
  rw [WideShapes.add_plain] at this
  simpa using this
theorem OwnI.free2 {w : World} {B g m cap : Nat} {e : TypeId} {k : IntKind} {xs : List Int} (h : OwnI w B e k (.slice (some ⟨g, 0, none⟩) m cap) xs) (j : Nat) : w.frozen? ⟨g, j, none⟩ = false := by
  have hn := h.len
  subst hn
  exact World.ownsRow.frozenAt h j
theorem OwnI.ge2 {w : World} {B g n cap : Nat} {e : TypeId} {k : IntKind} {xs : List Int} (h : OwnI w B e k (.slice (some ⟨g, 0, none⟩) n cap) xs) : B ≤ g ∧ g < w.heap.size := World.ownsRow.lt h g rfl

/-- numbers that are answered -/
def NumsAns (T : TypeId) (k : IntKind) (R : List Nat) (w : World) (e : Ending) (w' : World) : Prop :=
  ∃ ad c, e = .returned (.slice ad R.length c) ∧ OwnI w' w.heap.size T k (.slice ad R.length c) (toI R) ∧ Below w.heap.size w w'

set_option maxRecDepth 100000 in
set_option maxHeartbeats 2000000 in
theorem split_any (a : Option Addr) (cap : Nat) (bs : List Nat) (w : World) (h : BRow w a bs) (hl : bs.length ≤ 1048576) (hc : bs.length ≤ cap) :
    Calls Tryz.prog 83 #[.slice a bs.length cap] w (NumsAns 52 .u32 (splitF bs) w) := by
  have H := Lib.hid h
  have HQ : Hid (∀ k, quadAt bs k < 4294967296) := Lib.hid (fun k => quadAt_lt h.2 k)
  have HN := Lib.hid (fun (w1 : World) (b o c : Nat) (q : List Nat) (hq : BRow w1 (some ⟨b, o, none⟩) q) (h4 : q.length = 4) => by
    have := number_any (some ⟨b, o, none⟩) c q w1 hq (by omega)
    rwa [h4] at this)
  obtain ⟨m, hm⟩ : ∃ m, bs.length / 4 = m := ⟨_, rfl⟩
  have HL : Hid ((splitF bs).length = m) := Lib.hid (by rw [splitF_length, hm])
  have HR : Hid (laidTo (quadAt bs) m m = toI (splitF bs)) := Lib.hid (by rw [laidTo_all, splitF, hm])
  have hm2 : m ≤ 1048576 := by omega
  have HM := Lib.hid hm
  have hqm : ((bs.length : Int)).tdiv 4 = (m : Int) := by
    rw [Int.tdiv_eq_ediv_of_nonneg (by omega)]; omega
  clear h hm
  go_enter Tryz.func83, Tryz.ntmps83
  go_wp2_with (at_make; go_loud (refine wpList_make_nums rfl (.tmp 7) (.tmp 7) slice32 rfl w.heap.size w m .i64 .i64 (m : Int) (m : Int) rfl rfl rfl rfl (by omega) (by unfold maxLen; omega) (Below.refl _ _) (Nat.le_refl _) ?_); intro g w4 ho4 hg4 hb4 hb4'; have O4 := Lib.hid ho4; have B4 := Lib.hid hb4; clear ho4 hg4 hb4 hb4')
  go_loopg [11] m (fun gg i wr => ∃ k : Nat, k + gg = m ∧ i = .int .i64 (k : Int) ∧ Hid (OwnI wr w.heap.size 52 .u32 (.slice (some ⟨g, 0, none⟩) m m) (laidTo (quadAt bs) m k)) ∧ Hid (Below w.heap.size w wr))
  case atStart => exact ⟨0, by omega, rfl, by rw [laidTo_zero]; exact O4, B4⟩
  case round =>
    obtain ⟨k, hk, rfl, OW, BW⟩ := hrel
    cases gk with
    | zero =>
      have hke : k = m := by omega
      subst hke
      go_wp2
      go_ret
      have ho := OW.out
      rw [HR.out] at ho
      refine ⟨some ⟨g, 0, none⟩, k, by rw [HL.out]; rfl, by rw [HL.out]; exact ho, BW.out⟩
    | succ gg =>
      have hlk : k < m := by omega
      obtain ⟨b, o, rfl, -, -, -⟩ := H.out.at (i := 4 * k) (by have := HM.out; omega)
      have hk4 : 4 * k + 4 ≤ bs.length := by have := HM.out; omega
      have hne : ¬ cap = 4 * k := by omega
      have hc0 := OW.out.get2 k 0 (laidTo_get hlk)
      have hf0 := OW.out.free2 k
      have hcut := (H.out.below BW.out).cut (4 * k) 4
      simp only [Option.map_some, WideShapes.add_plain] at hcut
      have h4 : ((bs.drop (4 * k)).take 4).length = 4 := by simp; omega
      have HNK := Lib.hid (HN.out wr b (o + 4 * k) (cap - 4 * k) ((bs.drop (4 * k)).take 4) hcut h4)
      have hq1 := HQ.out k
      have HQK : Hid (numOf ((bs.drop (4 * k)).take 4) = quadAt bs k) := Lib.hid rfl
      have HSET := Lib.hid (laidTo_set (f := quadAt bs) hlk)
      rw [HQK.out] at HNK
      have HPUT := Lib.hid (OW.out.put2 (laidTo_length _ _ _) k (quadAt bs k : Int))
      rw [HSET.out] at HPUT
      generalize quadAt bs k = q at *
      clear hcut h4 HSET HQK
      go_wp2_with (first | (go_at_call 48; refine (Hid.out HNK).mono ?_; rintro e w' ⟨rfl, rfl⟩))
      go_roundg gg
      case measure => omega
      case rel => exact ⟨k + 1, by omega, by go_num, HPUT, Lib.hid (BW.out.setCell OW.out.ge2.1 _)⟩
end Go.Proofs.YtnaejlfjlennhaaGreatDoor
/- Layer 7: a table of the first kind is read. -/
namespace Go.Proofs.YtnaejlfjlennhaaGreatDoor
open Go.RowKit
set_option linter.unusedVariables false
set_option linter.unusedSimpArgs false

/-- what tables are read from -/
def fileV (a : Option Addr) (len cap : Nat) (ty en : Int) (p : Option Addr) (n pc : Nat) : Value := .agg #[.slice a len cap, .int .i64 ty, .int .u64 en, .slice p n pc]
/-- numbers and an error that are answered -/
def NumsErr (T : TypeId) (k : IntKind) (F : List Nat × Nat) (w : World) (e : Ending) (w' : World) : Prop :=
  ∃ ad c, e = .returned (.tuple #[.slice ad F.1.length c, errV (F.2 : Int)]) ∧ OwnI w' w.heap.size T k (.slice ad F.1.length c) (toI F.1) ∧ Below w.heap.size w w'

theorem fslice_any (a : Option Addr) (cap : Nat) (bs : List Nat) (ty en : Int) (p : Option Addr) (pc : Nat) (ps : List PT) (addr size : Nat) (w : World) (hb : BRow w a bs) (hbl : bs.length ≤ 140737488351232) (hbc : bs.length ≤ cap) (hbn : a = none → bs.length = 0 ∧ cap = 0)
    (h : PRow w p ps) (hl : ps.length ≤ 140737488351232) (ha : addr < 18446744073709551616) (hs : size < 18446744073709551616) :
    Calls Tryz.prog 82 #[fileV a bs.length cap ty en p ps.length pc, .int .u64 addr, .int .u64 size] w (NumsErr 5 .u8 (sliceF bs ps addr size) w) := by
  have HS := Lib.hid (fun (w1 : World) (hb1 : Below w.heap.size w w1) => slice_any a cap bs ty en p pc ps addr size w1 (hb.below hb1) hbl hbc hbn (h.below hb1) hl ha hs)
  clear hb h hbn
  generalize sliceF bs ps addr size = F at *
  have B1 : Hid (Below w.heap.size w (w.alloc (.cells #[.slice a bs.length cap, .int .i64 ty, .int .u64 en, .slice p ps.length pc] 127))) := Lib.hid ((Below.refl _ _).alloc (Nat.le_refl _) _)
  unfold fileV headV at *
  go_enter Tryz.func82, Tryz.ntmps82
  go_wp2_with fail
  refine (HS.out _ B1.out).mono ?_
  rintro e w2 ⟨ad, c, rfl, ho, hb2⟩
  have HO := Lib.hid (ho.mono B1.out.size); have B2 := Lib.hid (bstep B1.out hb2); clear ho hb2
  go_wp2_with fail
  go_ret2
  exact ⟨ad, c, rfl, HO.out, B2.out⟩

theorem OwnI.row2 {w : World} {B n cap : Nat} {e : TypeId} {k : IntKind} {ad : Option Addr} {xs : List Int} (h : OwnI w B e k (.slice ad n cap) xs) : Row k w ad xs := by
  obtain ⟨a, c, hv, hr, -⟩ := h.row
  simp only [Value.slice.injEq] at hv
  obtain ⟨rfl, -, -⟩ := hv
  exact hr
theorem OwnI.cap2 {w : World} {B n cap : Nat} {e : TypeId} {k : IntKind} {ad : Option Addr} {xs : List Int} (h : OwnI w B e k (.slice ad n cap) xs) : n ≤ cap := by
  obtain ⟨a, c, hv, hr, hc, -⟩ := h.row
  simp only [Value.slice.injEq] at hv
  obtain ⟨-, rfl, rfl⟩ := hv
  exact hc
theorem errV0 : errV ((0 : Nat) : Int) = .nilIface := rfl
theorem errV4 : errV ((4 : Nat) : Int) = .iface 56 (.int .i64 4) := rfl

set_option maxRecDepth 100000 in
set_option maxHeartbeats 2000000 in
theorem words_any (a : Option Addr) (cap : Nat) (bs : List Nat) (ty en : Int) (p : Option Addr) (pc : Nat) (ps : List PT) (addr n : Nat) (w : World) (hb : BRow w a bs) (hbl : bs.length ≤ 140737488351232) (hbc : bs.length ≤ cap) (hbn : a = none → bs.length = 0 ∧ cap = 0)
    (h : PRow w p ps) (hl : ps.length ≤ 140737488351232) (ha : addr < 18446744073709551616) (hn : n ≤ 16384) :
    Calls Tryz.prog 80 #[fileV a bs.length cap ty en p ps.length pc, .int .u64 addr, .int .i64 n] w (NumsErr 52 .u32 (wordsF bs ps addr n) w) := by
  have HS := Lib.hid (fun (w1 : World) (hb1 : Below w.heap.size w w1) => fslice_any a cap bs ty en p pc ps addr (4 * n) w1 (hb.below hb1) hbl hbc hbn (h.below hb1) hl ha (by omega))
  have HBB : Hid (∀ x ∈ (sliceF bs ps addr (4 * n)).1, x < 256) := Lib.hid (by
    intro x hx
    unfold sliceF at hx
    split at hx
    · exact hb.2 x (List.mem_of_mem_drop (List.mem_of_mem_take hx))
    · cases hx)
  have HLEN := Lib.hid (sliceF_len bs ps addr (4 * n))
  clear hb h hbn
  have B1 : Hid (Below w.heap.size w (w.alloc (.cells #[.slice a bs.length cap, .int .i64 ty, .int .u64 en, .slice p ps.length pc] 127))) := Lib.hid ((Below.refl _ _).alloc (Nat.le_refl _) _)
  have h4n : ((4 * n : Nat) : Int) = 4 * (n : Int) := by omega
  rcases sliceF_code bs ps addr (4 * n) with hc | hc
  · obtain ⟨s, hs⟩ : ∃ s, sliceF bs ps addr (4 * n) = (s, 0) := ⟨(sliceF bs ps addr (4 * n)).1, by rw [← hc]⟩
    rw [wordsF_yes hs]
    rw [hs] at HS HBB HLEN
    have hsl : s.length ≤ 65536 := by have h1 : s.length = 4 * n := HLEN.out rfl; omega
    clear hs hc HLEN
    unfold fileV at *
    go_enter Tryz.func80, Tryz.ntmps80
    go_wp2_with fail
    rw [h4n] at HS
    refine (HS.out _ B1.out).mono ?_
    rintro e w2 ⟨ad, c, he, ho, hb2⟩
    replace he : e = .returned (.tuple #[.slice ad s.length c, .nilIface]) := he
    subst he
    have hrow : BRow w2 ad s := ⟨OwnI.row2 ho, HBB.out⟩
    have B2 := Lib.hid (bstep B1.out hb2)
    have hs1 := split_any ad c s w2 hrow (by omega) (by have := OwnI.cap2 ho; exact this)
    have HSP := Lib.hid hs1
    clear ho hb2 hrow hs1 HS B1 HBB
    go_wp2_with fail
    refine HSP.out.mono ?_
    rintro e w3 ⟨ad3, c3, rfl, ho3, hb3⟩
    have HO := Lib.hid (ho3.mono B2.out.size); have B3 := Lib.hid (bstep B2.out hb3); clear ho3 hb3
    go_wp2_with fail
    go_ret2
    exact ⟨ad3, c3, rfl, HO.out, B3.out⟩
  · rw [wordsF_no hc]
    rw [hc, h4n] at HS
    clear hc HLEN HBB
    unfold fileV at *
    go_enter Tryz.func80, Tryz.ntmps80
    go_wp2_with fail
    refine (HS.out _ B1.out).mono ?_
    rintro e w2 ⟨ad, c, he, ho, hb2⟩
    replace he : e = .returned (.tuple #[.slice ad 0 c, .iface 56 (.int .i64 4)]) := he
    subst he
    have B2 := Lib.hid (bstep B1.out hb2)
    clear ho hb2 HS B1
    go_wp2_with fail
    go_ret2
    exact ⟨none, 0, rfl, OwnI.nil _ _ _ _, B2.out⟩

theorem chainsF_no {bs : List Nat} {ps : List PT} {addr : Nat} (h : wordsF bs ps addr 2 = ([], 4)) : chainsF bs ps addr = (([], []), 4) := by
  unfold chainsF
  rw [h]
  rfl
theorem chainsF_zero {bs : List Nat} {ps : List PT} {addr nb ns : Nat} (h : wordsF bs ps addr 2 = ([nb, ns], 0)) (h0 : nb = 0 ∨ ns = 0) : chainsF bs ps addr = (([], []), 3) := by
  unfold chainsF
  rw [h]
  simp only [List.getD_cons_zero, List.getD_cons_succ]
  rw [if_pos h0]
theorem chainsF_long {bs : List Nat} {ps : List PT} {addr nb ns : Nat} (h : wordsF bs ps addr 2 = ([nb, ns], 0)) (h0 : ¬ (nb = 0 ∨ ns = 0)) (h1 : 4096 < nb ∨ 4096 < ns) : chainsF bs ps addr = (([], []), 2) := by
  unfold chainsF
  rw [h]
  simp only [List.getD_cons_zero, List.getD_cons_succ]
  rw [if_neg h0, if_pos h1]
theorem chainsF_out {bs : List Nat} {ps : List PT} {addr nb ns : Nat} (h : wordsF bs ps addr 2 = ([nb, ns], 0)) (h0 : ¬ (nb = 0 ∨ ns = 0)) (h1 : ¬ (4096 < nb ∨ 4096 < ns)) (h2 : wordsF bs ps addr (2 + nb + ns) = ([], 4)) : chainsF bs ps addr = (([], []), 4) := by
  unfold chainsF
  rw [h]
  simp only [List.getD_cons_zero, List.getD_cons_succ]
  rw [if_neg h0, if_neg h1, h2]
  rfl
theorem chainsF_yes {bs : List Nat} {ps : List PT} {addr nb ns : Nat} {all : List Nat} (h : wordsF bs ps addr 2 = ([nb, ns], 0)) (h0 : ¬ (nb = 0 ∨ ns = 0)) (h1 : ¬ (4096 < nb ∨ 4096 < ns)) (h2 : wordsF bs ps addr (2 + nb + ns) = (all, 0)) :
    chainsF bs ps addr = (((all.take (2 + nb)).drop 2, all.drop (2 + nb)), 0) := by
  unfold chainsF
  rw [h]
  simp only [List.getD_cons_zero, List.getD_cons_succ]
  rw [if_neg h0, if_neg h1, h2]
  rfl

/-- a table of the first kind that is answered -/
def ChainsAns (F : (List Nat × List Nat) × Nat) (w : World) (e : Ending) (w' : World) : Prop :=
  ∃ b1 c1 b2 c2, e = .returned (.tuple #[.agg #[.slice b1 F.1.1.length c1, .slice b2 F.1.2.length c2], errV (F.2 : Int)]) ∧ Row .u32 w' b1 (toI F.1.1) ∧ Row .u32 w' b2 (toI F.1.2) ∧ Below w.heap.size w w'
theorem ChainsAns.none_ {F : (List Nat × List Nat) × Nat} {c : Nat} {w w' : World} (h : F = (([], []), c)) (hb : Below w.heap.size w w') : ChainsAns F w (.returned (.tuple #[.agg #[.slice none 0 0, .slice none 0 0], errV (c : Int)])) w' := by
  subst h
  exact ⟨none, 0, none, 0, rfl, fun i hi => by simp [toI] at hi, fun i hi => by simp [toI] at hi, hb⟩

theorem wordsF_lt {bs : List Nat} {ps : List PT} {addr n : Nat} (hb : ∀ b ∈ bs, b < 256) : ∀ x ∈ (wordsF bs ps addr n).1, x < 4294967296 := by
  intro x hx
  unfold wordsF at hx
  split at hx
  · refine splitF_lt (fun b hbb => ?_) x hx
    unfold sliceF at hbb
    split at hbb
    · exact hb b (List.mem_of_mem_drop (List.mem_of_mem_take hbb))
    · cases hbb
  · cases hx
theorem wordsF_alt (bs : List Nat) (ps : List PT) (addr n : Nat) : (∃ l, wordsF bs ps addr n = (l, 0) ∧ l.length = n) ∨ wordsF bs ps addr n = ([], 4) := by
  rcases wordsF_code bs ps addr n with h | h
  · exact .inl ⟨(wordsF bs ps addr n).1, Prod.ext rfl h, wordsF_len h⟩
  · exact .inr h

theorem OwnI.shape2 {w : World} {B n cap : Nat} {e : TypeId} {k : IntKind} {ad : Option Addr} {xs : List Int} (h : OwnI w B e k (.slice ad n cap) xs) (hn : 0 < n) : ∃ g, ad = some ⟨g, 0, none⟩ := by
  rcases h.2 with ⟨h1, h2⟩ | ⟨g, c, cur, hv, -⟩
  · simp at h1; omega
  · simp only [Value.slice.injEq] at hv
    exact ⟨g, hv.1⟩

theorem cell_put {w : World} {b j : Nat} {cs : Array Value} {T : TypeId} (h : w.heap[b]? = some (.cells cs T)) (hj : j < cs.size) (u : Value) : (w.setCell ⟨b, j, none⟩ u).cell? ⟨b, j, none⟩ = some u := by
  rw [cell_of_row _ b j _ _ _ (heap_setCell_same w b j _ _ u h)]
  simp [hj]
theorem Row.setO {k : IntKind} {w : World} {a : Option Addr} {xs : List Int} (h : Row k w a xs) {p : Addr} (hp : ∀ b, a = some b → b.block ≠ p.block) (u : Value) : Row k (w.setCell p u) a xs := by
  intro i hi
  obtain ⟨b, o, e, hc⟩ := h i hi
  refine ⟨b, o, e, ?_⟩
  rw [World.cell?_of_block (w := w) (heap_setCell_other w p b u (hp _ e))]
  exact hc
theorem Row.drewO {k : IntKind} {w : World} {a : Option Addr} {xs : List Int} (h : Row k w a xs) : Row k w.drew a xs := h
theorem cut_list (all : List Nat) (m : Nat) : (all.take m).drop 2 = (all.drop 2).take (m - 2) := by rw [List.drop_take]
/-- two blocks that were made one behind the other stay -/
theorem two_boxes {w w1 : World} {c1 c2 : Array Value} {T1 T2 : TypeId} (hb : Below ((w.alloc (.cells c1 T1)).alloc (.cells c2 T2)).heap.size ((w.alloc (.cells c1 T1)).alloc (.cells c2 T2)) w1) :
    w1.heap[w.heap.size]? = some (.cells c1 T1) ∧ w1.heap[w.heap.size + 1]? = some (.cells c2 T2) := by
  constructor
  · rw [hb.block _ (by simp; omega), heap_alloc_old _ _ (by simp)]
    exact heap_alloc_new _ _
  · rw [hb.block _ (by simp)]
    have := heap_alloc_new (w.alloc (.cells c1 T1)) (.cells c2 T2)
    simpa using this

set_option maxRecDepth 100000 in
set_option maxHeartbeats 4000000 in
theorem readChains_any (a : Option Addr) (cap : Nat) (bs : List Nat) (ty en : Int) (p : Option Addr) (pc : Nat) (ps : List PT) (addr : Nat) (w : World) (hb : BRow w a bs) (hbl : bs.length ≤ 140737488351232) (hbc : bs.length ≤ cap) (hbn : a = none → bs.length = 0 ∧ cap = 0)
    (h : PRow w p ps) (hl : ps.length ≤ 140737488351232) (ha : addr < 18446744073709551616) :
    Calls Tryz.prog 51 #[fileV a bs.length cap ty en p ps.length pc, .int .u64 addr] w (ChainsAns (chainsF bs ps addr) w) := by
  have HW := Lib.hid (fun (w1 : World) (n : Nat) (hb1 : Below w.heap.size w w1) (hn : n ≤ 16384) => words_any a cap bs ty en p pc ps addr n w1 (hb.below hb1) hbl hbc hbn (h.below hb1) hl ha hn)
  have HBB := Lib.hid hb.2
  have B1 : Hid (Below w.heap.size w ((w.alloc (.cells #[.slice a bs.length cap, .int .i64 ty, .int .u64 en, .slice p ps.length pc] 127)).alloc (.cells #[.slice none 0 0, .slice none 0 0] 130))) := Lib.hid (((Below.refl _ _).alloc (Nat.le_refl _) _).alloc (by simp) _)
  clear hb h hbn
  have FB : Hid (∀ w1, Below ((w.alloc (.cells #[.slice a bs.length cap, .int .i64 ty, .int .u64 en, .slice p ps.length pc] 127)).alloc (.cells #[.slice none 0 0, .slice none 0 0] 130)).heap.size ((w.alloc (.cells #[.slice a bs.length cap, .int .i64 ty, .int .u64 en, .slice p ps.length pc] 127)).alloc (.cells #[.slice none 0 0, .slice none 0 0] 130)) w1 →
      w1.cell? ⟨w.heap.size, 0, none⟩ = some (.slice a bs.length cap) ∧ w1.cell? ⟨w.heap.size, 1, none⟩ = some (.int .i64 ty) ∧ w1.cell? ⟨w.heap.size, 2, none⟩ = some (.int .u64 en) ∧ w1.cell? ⟨w.heap.size, 3, none⟩ = some (.slice p ps.length pc) ∧
      w1.cell? ⟨w.heap.size + 1, 0, none⟩ = some (.slice none 0 0) ∧ w1.cell? ⟨w.heap.size + 1, 1, none⟩ = some (.slice none 0 0) ∧ w1.frozen? ⟨w.heap.size + 1, 0, none⟩ = false ∧ w1.frozen? ⟨w.heap.size + 1, 1, none⟩ = false ∧ (∀ u, (w1.setCell ⟨w.heap.size + 1, 0, none⟩ u).cell? ⟨w.heap.size + 1, 0, none⟩ = some u) ∧ (∀ u v, ((w1.setCell ⟨w.heap.size + 1, 0, none⟩ u).setCell ⟨w.heap.size + 1, 1, none⟩ v).cell? ⟨w.heap.size + 1, 1, none⟩ = some v)) := Lib.hid (by
    intro w1 h1
    obtain ⟨e1, e2⟩ := two_boxes h1
    exact ⟨by rw [cell_of_row _ _ _ _ _ _ e1]; rfl, by rw [cell_of_row _ _ _ _ _ _ e1]; rfl, by rw [cell_of_row _ _ _ _ _ _ e1]; rfl, by rw [cell_of_row _ _ _ _ _ _ e1]; rfl, by rw [cell_of_row _ _ _ _ _ _ e2]; rfl, by rw [cell_of_row _ _ _ _ _ _ e2]; rfl, frozen_of_row _ _ _ _ _ e2, frozen_of_row _ _ _ _ _ e2, fun u => cell_put e2 (by simp) u, fun u v => cell_put (heap_setCell_same w1 _ 0 _ _ u e2) (by simp) v⟩)
  unfold fileV at *
  rcases wordsF_alt bs ps addr 2 with ⟨f, hf, hfl⟩ | hf
  · match f, hfl with
    | [nb, ns], _ =>
      have HW2 := Lib.hid (HW.out _ 2 B1.out (by omega))
      rw [hf] at HW2
      have hlt := wordsF_lt (ps := ps) (addr := addr) (n := 2) HBB.out
      rw [hf] at hlt
      have hnb : nb < 4294967296 := hlt nb (by simp)
      have hns : ns < 4294967296 := hlt ns (by simp)
      clear hlt
      have hpre : Hid (∀ (Q : Ending → World → Prop), (∀ (g c : Nat) (w2 : World), w2.cell? ⟨g, 0, none⟩ = some (.int .u32 (nb : Int)) → w2.cell? ⟨g, 1, none⟩ = some (.int .u32 (ns : Int)) → Below ((w.alloc (.cells #[.slice a bs.length cap, .int .i64 ty, .int .u64 en, .slice p ps.length pc] 127)).alloc (.cells #[.slice none 0 0, .slice none 0 0] 130)).heap.size ((w.alloc (.cells #[.slice a bs.length cap, .int .i64 ty, .int .u64 en, .slice p ps.length pc] 127)).alloc (.cells #[.slice none 0 0, .slice none 0 0] 130)) w2 → Q (.returned (.tuple #[.slice (some ⟨g, 0, none⟩) 2 c, .nilIface])) w2) →
          Calls Tryz.prog 80 #[.agg #[.slice a bs.length cap, .int .i64 ty, .int .u64 en, .slice p ps.length pc], .int .u64 addr, .int .i64 2] ((w.alloc (.cells #[.slice a bs.length cap, .int .i64 ty, .int .u64 en, .slice p ps.length pc] 127)).alloc (.cells #[.slice none 0 0, .slice none 0 0] 130)) Q) := Lib.hid (fun Q hQ => HW2.out.mono (by
        rintro e w2 ⟨ad, c, he, ho, hb2⟩
        replace he : e = .returned (.tuple #[.slice ad 2 c, .nilIface]) := he
        replace ho : OwnI w2 _ 52 .u32 (.slice ad 2 c) [(nb : Int), (ns : Int)] := ho
        obtain ⟨g, rfl⟩ := ho.shape2 (by omega)
        subst he
        exact hQ g c w2 (ho.get2 0 _ rfl) (ho.get2 1 _ rfl) hb2))
      by_cases h0 : nb = 0 ∨ ns = 0
      · rw [chainsF_zero hf h0]
        clear hf HW HW2 hnb hns HBB hfl
        rcases Decidable.em (nb = 0) with h1 | h1
        · subst h1
          clear h0
          go_enter Tryz.func51, Tryz.ntmps51
          go_wp2_with fail
          refine hpre.out _ ?_
          intro g c w2 c0 c1 hb2
          have B2 := Lib.hid (bstep B1.out hb2)
          have HB2 := Lib.hid hb2
          obtain ⟨-, -, -, -, f0, f1, g0, g1, -, -⟩ := FB.out w2 hb2
          clear hb2 hpre
          go_wp2
          go_quiet (fail)
          obtain ⟨-, -, -, -, -, -, -, -, r0, r1⟩ := FB.out _ (below_drewN HB2.out nq)
          have R0 := Lib.hid r0; have R1 := Lib.hid r1
          clear r0 r1
          go_wp2_with fail
          have r0 := R0.out; have r1 := R1.out
          refine bodyPost_ret (by simp [results, Tryz.results51, go_sem, r0, r1]; try rfl) rfl ?_
          exact ChainsAns.none_ (c := 3) rfl ((below_drewN B2.out nq).setCell (by simp) _ |>.setCell (by simp) _)
        · have h2 : ns = 0 := h0.resolve_left h1
          subst h2
          have h3 : ¬ (nb : Int) = 0 := by omega
          clear h0 h1
          go_enter Tryz.func51, Tryz.ntmps51
          go_wp2_with fail
          refine hpre.out _ ?_
          intro g c w2 c0 c1 hb2
          have B2 := Lib.hid (bstep B1.out hb2)
          have HB2 := Lib.hid hb2
          obtain ⟨-, -, -, -, f0, f1, g0, g1, -, -⟩ := FB.out w2 hb2
          clear hb2 hpre
          go_wp2
          go_quiet (fail)
          obtain ⟨-, -, -, -, -, -, -, -, r0, r1⟩ := FB.out _ (below_drewN HB2.out nq)
          have R0 := Lib.hid r0; have R1 := Lib.hid r1
          clear r0 r1
          go_wp2_with fail
          have r0 := R0.out; have r1 := R1.out
          refine bodyPost_ret (by simp [results, Tryz.results51, go_sem, r0, r1]; try rfl) rfl ?_
          exact ChainsAns.none_ (c := 3) rfl ((below_drewN B2.out nq).setCell (by simp) _ |>.setCell (by simp) _)
      · by_cases h1 : 4096 < nb ∨ 4096 < ns
        · rw [chainsF_long hf h0 h1]
          clear hf HW HW2 hnb hns HBB hfl
          have h2 : ((nb : Int) == 0) = false := beq_eq_false_iff_ne.2 (by omega)
          have h3 : ((ns : Int) == 0) = false := beq_eq_false_iff_ne.2 (by omega)
          rcases Decidable.em (4096 < nb) with h4 | h4
          · have h5 : decide ((4096 : Int) < (nb : Int)) = true := decide_eq_true (by omega)
            clear h0 h1 h4
            go_enter Tryz.func51, Tryz.ntmps51
            go_wp2_with fail
            refine hpre.out _ ?_
            intro g c w2 c0 c1 hb2
            have B2 := Lib.hid (bstep B1.out hb2)
            have HB2 := Lib.hid hb2
            obtain ⟨-, -, -, -, f0, f1, g0, g1, -, -⟩ := FB.out w2 hb2
            clear hb2 hpre
            go_wp2
            go_quiet (fail)
            obtain ⟨-, -, -, -, -, -, -, -, r0, r1⟩ := FB.out _ (below_drewN HB2.out nq)
            have R0 := Lib.hid r0; have R1 := Lib.hid r1
            clear r0 r1
            go_wp2_with fail
            have r0 := R0.out; have r1 := R1.out
            refine bodyPost_ret (by simp [results, Tryz.results51, go_sem, r0, r1]; try rfl) rfl ?_
            exact ChainsAns.none_ (c := 2) rfl ((below_drewN B2.out nq).setCell (by simp) _ |>.setCell (by simp) _)
          · have h5 : decide ((4096 : Int) < (nb : Int)) = false := decide_eq_false (by omega)
            have h6 : decide ((4096 : Int) < (ns : Int)) = true := decide_eq_true (by omega)
            clear h0 h1 h4
            go_enter Tryz.func51, Tryz.ntmps51
            go_wp2_with fail
            refine hpre.out _ ?_
            intro g c w2 c0 c1 hb2
            have B2 := Lib.hid (bstep B1.out hb2)
            have HB2 := Lib.hid hb2
            obtain ⟨-, -, -, -, f0, f1, g0, g1, -, -⟩ := FB.out w2 hb2
            clear hb2 hpre
            go_wp2
            go_quiet (fail)
            obtain ⟨-, -, -, -, -, -, -, -, r0, r1⟩ := FB.out _ (below_drewN HB2.out nq)
            have R0 := Lib.hid r0; have R1 := Lib.hid r1
            clear r0 r1
            go_wp2_with fail
            have r0 := R0.out; have r1 := R1.out
            refine bodyPost_ret (by simp [results, Tryz.results51, go_sem, r0, r1]; try rfl) rfl ?_
            exact ChainsAns.none_ (c := 2) rfl ((below_drewN B2.out nq).setCell (by simp) _ |>.setCell (by simp) _)
        · have h2 : ((nb : Int) == 0) = false := beq_eq_false_iff_ne.2 (by omega)
          have h3 : ((ns : Int) == 0) = false := beq_eq_false_iff_ne.2 (by omega)
          have h5 : decide ((4096 : Int) < (nb : Int)) = false := decide_eq_false (by omega)
          have h6 : decide ((4096 : Int) < (ns : Int)) = false := decide_eq_false (by omega)
          have hnb2 : nb ≤ 4096 := by omega
          have hns2 : ns ≤ 4096 := by omega
          rcases wordsF_alt bs ps addr (2 + nb + ns) with ⟨all, hall, halll⟩ | hall
          · rw [chainsF_yes hf h0 h1 hall]
            have HW3 := Lib.hid (fun (w1 : World) (hb1 : Below w.heap.size w w1) => HW.out w1 (2 + nb + ns) hb1 (by omega))
            have hcast : (((2 + nb + ns : Nat)) : Int) = 2 + (nb : Int) + (ns : Int) := by omega
            rw [hall, hcast] at HW3
            have HAL := Lib.hid halll
            have hnb1 : 1 ≤ nb := by omega
            have hns1 : 1 ≤ ns := by omega
            clear hf hall HW HW2 hnb hns HBB h0 h1 hcast hfl halll
            go_enter Tryz.func51, Tryz.ntmps51
            go_wp2_with fail
            refine hpre.out _ ?_
            intro g c w2 c0 c1 hb2
            have B2 := Lib.hid (bstep B1.out hb2)
            have HB2 := Lib.hid hb2
            obtain ⟨k0, k1, k2, k3, -, -, -, -, -, -⟩ := FB.out w2 hb2
            clear hb2 hpre
            go_wp2
            go_quiet (fail)
            have HB3 := Lib.hid (below_drewN HB2.out nq)
            have B3 := Lib.hid (below_drewN B2.out nq)
            go_wp2_with fail
            refine (HW3.out _ B3.out).mono ?_
            rintro e w4 ⟨ad, c4, he, ho, hb4⟩
            replace he : e = .returned (.tuple #[.slice ad all.length c4, .nilIface]) := he
            replace ho : OwnI w4 _ 52 .u32 (.slice ad all.length c4) (toI all) := ho
            subst he
            have B4 := Lib.hid (bstep B3.out hb4)
            obtain ⟨g4, rfl⟩ := ho.shape2 (by rw [HAL.out]; omega)
            have hcap := OwnI.cap2 ho
            have HROW := Lib.hid (OwnI.row2 ho)
            have hg4 : ¬ g4 = w.heap.size + 1 := by
              have h1 := ho.ge2.1
              have h2 := HB3.out.size
              simp at h1 h2
              omega
            have HG4 := Lib.hid hg4
            have HB4 := Lib.hid (HB3.out.trans (hb4.mono HB3.out.size))
            obtain ⟨-, -, -, -, f0, f1, g0, g1, r0, r1⟩ := FB.out w4 (HB3.out.trans (hb4.mono HB3.out.size))
            have R0 := Lib.hid r0; have R1 := Lib.hid r1
            clear ho hb4 r0 r1 hg4
            rw [HAL.out] at hcap ⊢
            obtain ⟨m, hm⟩ : ∃ m, 2 + nb = m := ⟨_, rfl⟩
            rw [hm] at hcap ⊢
            have hwr : IntKind.u32.wrap (2 + (nb : Int)) = (m : Int) := by rw [IntKind.wrap_u32]; omega
            have hne1 : ¬ c4 = 2 := by omega
            have hne2 : ¬ c4 = m := by omega
            have hmc : m ≤ c4 := by omega
            have hm2 : (2 : Int) ≤ (m : Int) := by omega
            have hm3 : (m : Int) ≤ (m : Int) + (ns : Int) := by omega
            have HMM := Lib.hid hm
            clear hm
            go_wp2_with fail
            refine wp_region_still_tail 9 (by kernel_rfl) (by kernel_rfl) ?_
            simp only [List.take_succ_cons, List.take_zero, List.drop_succ_cons, List.drop_zero]
            change wpStill _ _ (World.drew w4) _ _ _
            iterate 9 still_step
            refine wpStill_nil ?_
            change wpList _ _ _ _ _ (World.drew w4)
            have hdrew : ∀ (x : Addr), (World.drew w4).cell? x = w4.cell? x := fun _ => rfl
            go_wp2_with fail
            have r0 := R0.out; have r1 := R1.out
            refine bodyPost_ret (by simp [results, Tryz.results51, go_sem, r0, r1]; try rfl) rfl ?_
            have hl1 : ((all.take (2 + nb)).drop 2).length = m - 2 := by have := HAL.out; have := HMM.out; simp; omega
            have hl2 : (all.drop (2 + nb)).length = ns := by have := HAL.out; have := HMM.out; simp; omega
            have hrow : ∀ (o n : Nat), Row .u32 ((w4.setCell ⟨w.heap.size + 1, 0, none⟩ (.slice (some ⟨g4, 2, none⟩) (m - 2) (c4 - 2))).setCell ⟨w.heap.size + 1, 1, none⟩ (.slice (some ⟨g4, m, none⟩) ns (c4 - m))).drew (some ⟨g4, o, none⟩) (toI ((all.drop o).take n)) := by
              intro o n
              have h1 := HROW.out.cut o n
              rw [cut_toID] at h1
              simp only [Option.map_some, WideShapes.add_plain, Nat.zero_add] at h1
              refine Row.drewO (Row.setO (Row.setO h1 ?_ _) ?_ _)
              · intro b hb; cases hb; exact HG4.out
              · intro b hb; cases hb; exact HG4.out
            refine ⟨some ⟨g4, 2, none⟩, c4 - 2, some ⟨g4, m, none⟩, c4 - m, ?_, ?_, ?_, ?_⟩
            · rw [hl1, hl2]; rfl
            · rw [HMM.out, cut_list]; exact hrow 2 (m - 2)
            · rw [HMM.out]
              have := hrow m ns
              rwa [List.take_of_length_le (by rw [← HMM.out]; omega)] at this
            · exact ((B4.out.setCell (by simp) _).setCell (by simp) _).drew
          · rw [chainsF_out hf h0 h1 hall]
            have HW3 := Lib.hid (fun (w1 : World) (hb1 : Below w.heap.size w w1) => HW.out w1 (2 + nb + ns) hb1 (by omega))
            have hcast : (((2 + nb + ns : Nat)) : Int) = 2 + (nb : Int) + (ns : Int) := by omega
            rw [hall, hcast] at HW3
            clear hf hall HW HW2 hnb hns HBB h0 h1 hcast
            go_enter Tryz.func51, Tryz.ntmps51
            go_wp2_with fail
            refine hpre.out _ ?_
            intro g c w2 c0 c1 hb2
            have B2 := Lib.hid (bstep B1.out hb2)
            have HB2 := Lib.hid hb2
            obtain ⟨k0, k1, k2, k3, -, -, -, -, -, -⟩ := FB.out w2 hb2
            clear hb2 hpre
            go_wp2
            go_quiet (fail)
            have HB3 := Lib.hid (below_drewN HB2.out nq)
            have B3 := Lib.hid (below_drewN B2.out nq)
            go_wp2_with fail
            refine (HW3.out _ B3.out).mono ?_
            rintro e w4 ⟨ad, c4, he, ho, hb4⟩
            replace he : e = .returned (.tuple #[.slice ad 0 c4, .iface 56 (.int .i64 4)]) := he
            subst he
            have B4 := Lib.hid (bstep B3.out hb4)
            obtain ⟨-, -, -, -, f0, f1, g0, g1, r0, r1⟩ := FB.out w4 (HB3.out.trans (hb4.mono HB3.out.size))
            have R0 := Lib.hid r0; have R1 := Lib.hid r1
            clear ho hb4 r0 r1
            go_wp2_with fail
            have r0 := R0.out; have r1 := R1.out
            refine bodyPost_ret (by simp [results, Tryz.results51, go_sem, r0, r1]; try rfl) rfl ?_
            exact ChainsAns.none_ (c := 4) rfl (B4.out.setCell (by simp) _ |>.setCell (by simp) _)
  · rw [chainsF_no hf]
    have HW2 := Lib.hid (HW.out _ 2 B1.out (by omega))
    rw [hf] at HW2
    clear hf HW
    go_enter Tryz.func51, Tryz.ntmps51
    go_wp2_with fail
    refine HW2.out.mono ?_
    rintro e w2 ⟨ad, c, he, ho, hb2⟩
    replace he : e = .returned (.tuple #[.slice ad 0 c, .iface 56 (.int .i64 4)]) := he
    subst he
    have B2 := Lib.hid (bstep B1.out hb2)
    obtain ⟨-, -, -, -, f0, f1, g0, g1, r0, r1⟩ := FB.out w2 hb2
    have R0 := Lib.hid r0; have R1 := Lib.hid r1
    clear ho hb2 HW2 FB r0 r1
    go_wp2_with fail
    have r0 := R0.out; have r1 := R1.out
    refine bodyPost_ret (by simp [results, Tryz.results51, go_sem, r0, r1]; try rfl) rfl ?_
    exact ChainsAns.none_ rfl (B2.out.setCell (by simp) _ |>.setCell (by simp) _)
end Go.Proofs.YtnaejlfjlennhaaGreatDoor
