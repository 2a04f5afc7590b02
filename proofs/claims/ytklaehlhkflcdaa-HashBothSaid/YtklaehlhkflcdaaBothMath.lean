/- Layer 7: a table of the second kind that was made of names, and what it tells. Nothing of the program is named. -/
import Derived.Test.YtklaehlhkflcdaaBloomS
namespace Go.Proofs.Ytklaehlhkflcdaa
set_option linter.unusedVariables false
set_option linter.unusedSimpArgs false

/-! ### Names by their buckets -/
def groupF (H : ByteArray → Nat) (names : List ByteArray) (n : Nat) : List ByteArray := (List.range n).flatMap fun b => names.filter fun t => decide (H t = b)
theorem groupF_succ (H : ByteArray → Nat) (names : List ByteArray) (n : Nat) : groupF H names (n + 1) = groupF H names n ++ names.filter fun t => decide (H t = n) := by
  simp [groupF, List.range_succ]
theorem groupF_mem {H : ByteArray → Nat} {names : List ByteArray} {n : Nat} {t : ByteArray} (h : t ∈ groupF H names n) : t ∈ names ∧ H t < n := by
  obtain ⟨b, hb, ht⟩ := List.mem_flatMap.1 h
  have h1 := List.mem_filter.1 ht
  have h2 := of_decide_eq_true h1.2
  exact ⟨h1.1, by rw [h2]; exact List.mem_range.1 hb⟩
theorem groupF_sorted (H : ByteArray → Nat) (names : List ByteArray) (n : Nat) : (groupF H names n).Pairwise fun x y => H x ≤ H y := by
  induction n with
  | zero => exact List.Pairwise.nil
  | succ n ih =>
    rw [groupF_succ, List.pairwise_append]
    refine ⟨ih, ?_, fun x hx y hy => ?_⟩
    · rw [List.pairwise_iff_forall_sublist]
      intro x y hxy
      have hx := of_decide_eq_true (List.mem_filter.1 (hxy.subset (by simp : x ∈ [x, y]))).2
      have hy := of_decide_eq_true (List.mem_filter.1 (hxy.subset (by simp : y ∈ [x, y]))).2
      omega
    · have h1 := (groupF_mem hx).2
      have h2 := of_decide_eq_true (List.mem_filter.1 hy).2
      omega
theorem filter_split (H : ByteArray → Nat) (names : List ByteArray) (n : Nat) : (names.filter fun t => decide (H t < n + 1)).length = (names.filter fun t => decide (H t < n)).length + (names.filter fun t => decide (H t = n)).length := by
  induction names with
  | nil => rfl
  | cons t l ih =>
    simp only [List.filter_cons]
    by_cases h1 : H t < n
    · rw [if_pos (decide_eq_true (by omega)), if_pos (decide_eq_true h1), if_neg (by simp; omega)]
      simp only [List.length_cons, ih]
      omega
    · by_cases h2 : H t = n
      · rw [if_pos (decide_eq_true (by omega)), if_neg (by simp; omega), if_pos (decide_eq_true h2)]
        simp only [List.length_cons, ih]
        omega
      · rw [if_neg (by simp; omega), if_neg (by simp; omega), if_neg (by simp; omega), ih]
theorem groupF_len (H : ByteArray → Nat) (names : List ByteArray) (n : Nat) : (groupF H names n).length = (names.filter fun t => decide (H t < n)).length := by
  induction n with
  | zero => rw [List.filter_eq_nil_iff.2 (by simp)]; rfl
  | succ n ih => rw [groupF_succ, List.length_append, ih, filter_split]
theorem groupF_length {H : ByteArray → Nat} {names : List ByteArray} {n : Nat} (h : ∀ t ∈ names, H t < n) : (groupF H names n).length = names.length := by
  rw [groupF_len, List.filter_eq_self.2 (fun t ht => decide_eq_true (h t ht))]

/-! ### The three arrays, when those below s were laid -/
def blAt (hk : Nat → Nat) (sh j : Nat) : Nat → Nat
  | 0 => 0
  | s + 1 => if s = 0 then blAt hk sh j s else if hk s / 64 % 4 = j then blAt hk sh j s ||| 2 ^ (hk s % 64) ||| 2 ^ (hk s / 2 ^ sh % 64) else blAt hk sh j s
def fiAt (hb : Nat → Nat) (b : Nat) : Nat → Nat
  | 0 => 0
  | s + 1 => if s = 0 then fiAt hb b s else if fiAt hb b s = 0 ∧ hb s = b then s else fiAt hb b s
def chW (hk hb : Nat → Nat) (N x : Nat) : Nat := hk x / 2 * 2 + (if x = N - 1 ∨ ¬ hb (x + 1) = hb x then 1 else 0)
theorem blAt_one (hk : Nat → Nat) (sh j : Nat) : blAt hk sh j 1 = 0 := rfl
theorem fiAt_one (hb : Nat → Nat) (b : Nat) : fiAt hb b 1 = 0 := rfl
theorem blAt_lt (hk : Nat → Nat) (sh j : Nat) : ∀ s, blAt hk sh j s < 18446744073709551616
  | 0 => by show 0 < _; omega
  | s + 1 => by
    have h := blAt_lt hk sh j s
    rw [blAt]
    split
    · exact h
    · split
      · have e : (18446744073709551616 : Nat) = 2 ^ 64 := by decide
        rw [e] at h ⊢
        refine Nat.or_lt_two_pow (Nat.or_lt_two_pow h ?_) ?_
        · exact Nat.pow_lt_pow_right (by omega) (Nat.mod_lt _ (by omega))
        · exact Nat.pow_lt_pow_right (by omega) (Nat.mod_lt _ (by omega))
      · exact h
theorem fiAt_lt (hb : Nat → Nat) (b : Nat) : ∀ s, fiAt hb b s = 0 ∨ (0 < fiAt hb b s ∧ fiAt hb b s < s ∧ hb (fiAt hb b s) = b)
  | 0 => .inl rfl
  | s + 1 => by
    rw [fiAt]
    split
    · rename_i h
      subst h
      exact .inl rfl
    · split
      · rename_i h0 h1
        exact .inr ⟨by omega, by omega, h1.2⟩
      · rcases fiAt_lt hb b s with h | ⟨h1, h2, h3⟩
        · exact .inl h
        · exact .inr ⟨h1, by omega, h3⟩
/-- none of the bucket stands ahead of its first one -/
theorem fiAt_first (hb : Nat → Nat) (b : Nat) : ∀ s x, 0 < x → x < s → hb x = b → 0 < fiAt hb b s ∧ fiAt hb b s ≤ x
  | s + 1, x, h0, hx, hxb => by
    rw [fiAt, if_neg (by omega)]
    by_cases h1 : fiAt hb b s = 0
    · by_cases h2 : hb s = b
      · rw [if_pos ⟨h1, h2⟩]
        refine ⟨by omega, ?_⟩
        rcases Nat.lt_or_ge x s with h3 | h3
        · have := (fiAt_first hb b s x h0 h3 hxb).1; omega
        · omega
      · rw [if_neg (fun h => h2 h.2)]
        rcases Nat.lt_or_ge x s with h3 | h3
        · have := (fiAt_first hb b s x h0 h3 hxb).1; omega
        · have : x = s := by omega
          subst this
          exact absurd hxb h2
    · rw [if_neg (fun h => h1 h.1)]
      rcases Nat.lt_or_ge x s with h3 | h3
      · exact fiAt_first hb b s x h0 h3 hxb
      · rcases fiAt_lt hb b s with h4 | h4
        · exact absurd h4 h1
        · omega
theorem blAt_bit {hk : Nat → Nat} {sh j e : Nat} : ∀ s x, 0 < x → x < s → hk x / 64 % 4 = j → (e = hk x % 64 ∨ e = hk x / 2 ^ sh % 64) → (blAt hk sh j s).testBit e = true
  | s + 1, x, h0, hx, hj, he => by
    rw [blAt, if_neg (by omega)]
    rcases Nat.lt_or_ge x s with h3 | h3
    · have h := blAt_bit s x h0 h3 hj he
      split
      · rw [Nat.testBit_or, Nat.testBit_or, h]; rfl
      · exact h
    · have : x = s := by omega
      subst this
      rw [if_pos hj, Nat.testBit_or, Nat.testBit_or, Nat.testBit_two_pow, Nat.testBit_two_pow]
      rcases he with rfl | rfl <;> simp

/-! ### The words -/
def bloomW (hk : Nat → Nat) (sh N m : Nat) : List Nat := (List.range m).flatMap fun j => [blAt hk sh j N % 4294967296, blAt hk sh j N / 4294967296]
def bothW (hk hb : Nat → Nat) (n N sh : Nat) : List Nat :=
  [n, 1, 4, sh] ++ bloomW hk sh N 4 ++ (List.range n).map (fun b => fiAt hb b N) ++ (List.range (N - 1)).map (fun x => chW hk hb N (x + 1))
theorem bloomW_succ (hk : Nat → Nat) (sh N m : Nat) : bloomW hk sh N (m + 1) = bloomW hk sh N m ++ [blAt hk sh m N % 4294967296, blAt hk sh m N / 4294967296] := by
  simp [bloomW, List.range_succ]
theorem bloomWords_len (hk : Nat → Nat) (sh N : Nat) : ∀ m, (bloomW hk sh N m).length = 2 * m
  | 0 => rfl
  | m + 1 => by rw [bloomW_succ, List.length_append, bloomWords_len hk sh N m]; simp; omega
theorem bothW_length (hk hb : Nat → Nat) (n N sh : Nat) : (bothW hk hb n N sh).length = 12 + n + (N - 1) := by
  unfold bothW
  simp only [List.length_append, bloomWords_len, List.length_map, List.length_range, List.length_cons, List.length_nil]
theorem chW_lt {hk hb : Nat → Nat} {N x : Nat} (h : hk x < 4294967296) : chW hk hb N x < 4294967296 := by
  unfold chW
  split <;> omega
theorem bothW_lt {hk hb : Nat → Nat} {n N sh : Nat} (hn : n < 4294967296) (hN : N < 4294967296) (hs : sh < 4294967296) (h : ∀ x, hk x < 4294967296) : ∀ v ∈ bothW hk hb n N sh, v < 4294967296 := by
  intro v hv
  unfold bothW at hv
  rcases List.mem_append.1 hv with hv | hv
  · rcases List.mem_append.1 hv with hv | hv
    · rcases List.mem_append.1 hv with hv | hv
      · simp only [List.mem_cons, List.not_mem_nil, or_false] at hv
        omega
      · obtain ⟨j, -, hj⟩ := List.mem_flatMap.1 hv
        have := blAt_lt hk sh j N
        simp only [List.mem_cons, List.not_mem_nil, or_false] at hj
        omega
    · obtain ⟨b, -, rfl⟩ := List.mem_map.1 hv
      rcases fiAt_lt hb b N with h1 | h1 <;> omega
  · obtain ⟨x, -, rfl⟩ := List.mem_map.1 hv
    exact chW_lt (h _)
theorem bothW_bloom {hk hb : Nat → Nat} {n N sh j : Nat} (hj : j < 4) : (bothW hk hb n N sh)[4 + 2 * j]? = some (blAt hk sh j N % 4294967296) ∧ (bothW hk hb n N sh)[4 + 2 * j + 1]? = some (blAt hk sh j N / 4294967296) := by
  unfold bothW
  match j, hj with
  | 0, _ => exact ⟨rfl, rfl⟩
  | 1, _ => exact ⟨rfl, rfl⟩
  | 2, _ => exact ⟨rfl, rfl⟩
  | 3, _ => exact ⟨rfl, rfl⟩
theorem bothW_first {hk hb : Nat → Nat} {n N sh b : Nat} (h : b < n) : (bothW hk hb n N sh)[12 + b]? = some (fiAt hb b N) := by
  unfold bothW
  rw [List.getElem?_append_left (by simp [bloomWords_len]; omega), List.getElem?_append_right (by simp [bloomWords_len])]
  simp [bloomWords_len, h]
theorem bothW_chain {hk hb : Nat → Nat} {n N sh x : Nat} (h : x < N - 1) : (bothW hk hb n N sh)[12 + n + x]? = some (chW hk hb N (x + 1)) := by
  unfold bothW
  rw [List.getElem?_append_right (by simp [bloomWords_len]; omega)]
  have e : 12 + n + x - ([n, 1, 4, sh] ++ bloomW hk sh N 4 ++ (List.range n).map (fun b => fiAt hb b N)).length = x := by
    simp only [List.length_append, bloomWords_len, List.length_map, List.length_range, List.length_cons, List.length_nil]; omega
  rw [e]
  simp [h]
end Go.Proofs.Ytklaehlhkflcdaa
