/- Layer 9: addresses packed, as lists; what is packed comes back. Nothing of the program is named. -/
import Derived.Test.YtbmfjchpfhealaaRelsNum
namespace Go.Proofs.Ytbmfjchpfhealaa
open Go.RowKit
set_option linter.unusedVariables false
set_option linter.unusedSimpArgs false

/-- is x one of the 63 addresses from N on? -/
def fits (N x : Nat) : Prop := N ≤ x ∧ (x - N) % 8 = 0 ∧ x - N < 504
instance (N x : Nat) : Decidable (fits N x) := by unfold fits; infer_instance

def spanK (N : Nat) : List Nat → Nat
  | [] => 0
  | x :: xs => if fits N x then spanK N xs + 1 else 0
theorem spanK_le (N : Nat) (xs : List Nat) : spanK N xs ≤ xs.length := by
  induction xs with
  | nil => simp [spanK]
  | cons x xs ih => unfold spanK; split <;> simp <;> omega
theorem spanK_eq (N : Nat) (xs : List Nat) (k : Nat) (hk : k ≤ xs.length) (h : ∀ j, j < k → fits N (xs.getD j 0)) (hn : k = xs.length ∨ ¬ fits N (xs.getD k 0)) : spanK N xs = k := by
  induction xs generalizing k with
  | nil => simp at hk; subst hk; rfl
  | cons x xs ih =>
    cases k with
    | zero =>
      rcases hn with h0 | h0
      · simp at h0
      · have : ¬ fits N x := by simpa using h0
        simp [spanK, this]
    | succ k =>
      have hx : fits N x := by simpa using h 0 (by omega)
      rw [spanK, if_pos hx, ih k (by simp at hk; omega) (fun j hj => by simpa using h (j + 1) (by omega)) (by simpa using hn)]

theorem spanK_fits (N : Nat) (xs : List Nat) : ∀ x ∈ xs.take (spanK N xs), fits N x := by
  induction xs with
  | nil => simp
  | cons x xs ih =>
    unfold spanK
    split
    · rename_i h
      intro y hy
      rw [List.take_succ_cons] at hy
      rcases List.mem_cons.1 hy with rfl | hy
      · exact h
      · exact ih y hy
    · simp

def bitOf (N y : Nat) : Nat := 2 ^ ((y - N) / 8 + 1)
def wordOf (N : Nat) (ys : List Nat) : Nat := 1 + (ys.map (bitOf N)).sum
theorem wordOf_nil (N : Nat) : wordOf N [] = 1 := rfl
theorem wordOf_snoc (N : Nat) (ys : List Nat) (y : Nat) : wordOf N (ys ++ [y]) = wordOf N ys + bitOf N y := by
  simp [wordOf, Nat.add_assoc]

def packW : Option Nat → List Nat → List Nat
  | none, [] => []
  | none, x :: xs => x :: packW (some (x + 8)) xs
  | some N, xs => if h : spanK N xs = 0 then packW none xs else wordOf N (xs.take (spanK N xs)) :: packW (some (N + 504)) (xs.drop (spanK N xs))
termination_by o xs => (xs.length, if o.isSome then 1 else 0)
decreasing_by
  · simp_wf
    exact Prod.Lex.left _ _ (by omega)
  · simp_wf
    exact Prod.Lex.right _ (by simp)
  · simp_wf
    have := spanK_le N xs
    exact Prod.Lex.left _ _ (by omega)
theorem packW_nil : packW none [] = [] := by rw [packW]
theorem packW_cons (x : Nat) (xs : List Nat) : packW none (x :: xs) = x :: packW (some (x + 8)) xs := by rw [packW]
theorem packW_stop {N : Nat} {xs : List Nat} (h : spanK N xs = 0) : packW (some N) xs = packW none xs := by rw [packW, dif_pos h]
theorem packW_word {N : Nat} {xs : List Nat} {k : Nat} (h : spanK N xs = k) (hk : k ≠ 0) : packW (some N) xs = wordOf N (xs.take k) :: packW (some (N + 504)) (xs.drop k) := by
  subst h
  rw [packW, dif_neg hk]

theorem packW_length (o : Option Nat) (xs : List Nat) : (packW o xs).length ≤ xs.length := by
  induction o, xs using packW.induct with
  | case1 => rw [packW_nil]; simp
  | case2 x xs ih => rw [packW_cons]; simp; omega
  | case3 N xs h ih => rw [packW_stop h]; exact ih
  | case4 N xs h ih =>
    rw [packW_word rfl h]
    have := spanK_le N xs
    simp only [List.length_cons, List.length_drop] at *
    omega

/-- all even, each greater than the one ahead of it: up to k -/
def okTo (ys : List Nat) (k : Nat) : Prop := ∀ i, i < k → ys.getD i 0 % 2 = 0 ∧ (0 < i → ys.getD (i - 1) 0 < ys.getD i 0)

open Classical in
noncomputable def packF (ys : List Nat) : Nat × List Nat := if okTo ys ys.length then (if 16384 < ys.length then (2, []) else (0, packW none ys)) else (3, [])
theorem packF_bad {ys : List Nat} (i : Nat) (hi : i < ys.length) (h : ¬ (ys.getD i 0 % 2 = 0 ∧ (0 < i → ys.getD (i - 1) 0 < ys.getD i 0))) : packF ys = (3, []) := by
  rw [packF, if_neg (fun hok => h (hok i hi))]
theorem packF_long {ys : List Nat} (h : okTo ys ys.length) (h2 : 16384 < ys.length) : packF ys = (2, []) := by rw [packF, if_pos h, if_pos h2]
theorem packF_yes {ys : List Nat} (h : okTo ys ys.length) (h2 : ¬ 16384 < ys.length) : packF ys = (0, packW none ys) := by rw [packF, if_pos h, if_neg h2]

/-! what is packed comes back -/
theorem bitsK_same {v v' nx k : Nat} (h : ∀ i, i < k → v.testBit (i + 1) = v'.testBit (i + 1)) : bitsK v nx k = bitsK v' nx k := by
  induction k with
  | zero => rfl
  | succ k ih => rw [bitsK_succ, bitsK_succ, ih (fun i hi => h i (by omega)), h k (by omega)]
theorem bitsK_stop {v nx e : Nat} (h : v < 2 ^ (e + 1)) (d : Nat) : bitsK v nx (e + d) = bitsK v nx e := by
  induction d with
  | zero => rfl
  | succ d ih =>
    rw [← Nat.add_assoc, bitsK_no, ih]
    exact Nat.testBit_lt_two_pow (Nat.lt_of_lt_of_le h (Nat.pow_le_pow_right (by omega) (by omega)))

/-- rising numbers that fit: their word, read again -/
theorem word_back (N : Nat) (ys : List Nat) (hf : ∀ y ∈ ys, fits N y ∧ y < 18446744073709551616) (hp : ys.Pairwise (· < ·)) :
    (∀ e, (∀ y ∈ ys, y < N + 8 * e) → wordOf N ys < 2 ^ (e + 1)) ∧ bitsK (wordOf N ys) (N % 18446744073709551616) 63 = ys := by
  induction ys using snocInd with
  | nil =>
    refine ⟨fun e _ => ?_, ?_⟩
    · rw [wordOf_nil]
      exact Nat.one_lt_two_pow (by omega)
    · rw [wordOf_nil]
      have := bitsK_stop (v := 1) (nx := N % 18446744073709551616) (e := 0) (by decide) 63
      rw [Nat.zero_add] at this
      rw [this]
      rfl
  | snoc ys y ih =>
    rw [List.pairwise_append] at hp
    obtain ⟨hp1, -, hlt⟩ := hp
    obtain ⟨ih1, ih2⟩ := ih (fun z hz => hf z (by simp [hz])) hp1
    obtain ⟨⟨hy1, hy2, hy3⟩, hy4⟩ := hf y (by simp)
    have hlt' : ∀ z ∈ ys, z < y := fun z hz => hlt z hz y (by simp)
    obtain ⟨e, he⟩ : ∃ e, y = N + 8 * e := ⟨(y - N) / 8, by omega⟩
    have hbe : bitOf N y = 2 ^ (e + 1) := by unfold bitOf; rw [show (y - N) / 8 = e from by omega]
    have hw := ih1 e (fun z hz => by have := hlt' z hz; omega)
    rw [wordOf_snoc, hbe]
    refine ⟨fun e' h' => ?_, ?_⟩
    · have := h' y (by simp)
      have h2 : 2 ^ (e + 1 + 1) ≤ 2 ^ (e' + 1) := Nat.pow_le_pow_right (by omega) (by omega)
      rw [Nat.pow_succ 2 (e + 1)] at h2
      omega
    · have b1 : ∀ i, i < e → (wordOf N ys + 2 ^ (e + 1)).testBit (i + 1) = (wordOf N ys).testBit (i + 1) := fun i hi => by
        rw [Nat.add_comm, Nat.testBit_two_pow_add_gt (by omega)]
      have b2 : (wordOf N ys + 2 ^ (e + 1)).testBit (e + 1) = true := by
        rw [Nat.add_comm, Nat.testBit_two_pow_add_eq, Nat.testBit_lt_two_pow hw]
        rfl
      have b3 : wordOf N ys + 2 ^ (e + 1) < 2 ^ (e + 1 + 1) := by rw [Nat.pow_succ 2 (e + 1)]; omega
      have s1 := bitsK_stop (nx := N % 18446744073709551616) b3 (62 - e)
      rw [show e + 1 + (62 - e) = 63 from by omega, bitsK_yes b2, bitsK_same b1] at s1
      have s2 := bitsK_stop (nx := N % 18446744073709551616) hw (63 - e)
      rw [show e + (63 - e) = 63 from by omega, ih2] at s2
      rw [s1, ← s2, he]
      congr 2
      omega

theorem word_odd (N : Nat) (ys : List Nat) : ¬ wordOf N ys % 2 = 0 := by
  induction ys using snocInd with
  | nil => rw [wordOf_nil]; decide
  | snoc ys y ih =>
    rw [wordOf_snoc, bitOf, Nat.pow_succ]
    omega

theorem word_two (N : Nat) (ys : List Nat) (h : 0 < ys.length) : wordOf N ys ≠ 1 := by
  obtain ⟨y, hy⟩ := List.exists_mem_of_length_pos h
  have : 0 < bitOf N y := Nat.two_pow_pos _
  have h2 : ∀ zs : List Nat, y ∈ zs → 0 < (zs.map (bitOf N)).sum := by
    intro zs hz
    induction zs with
    | nil => cases hz
    | cons z zs ih =>
      rw [List.map_cons, List.sum_cons]
      rcases List.mem_cons.1 hz with rfl | hz
      · omega
      · have := ih hz; omega
  have := h2 ys hy
  unfold wordOf
  omega

theorem or_pow (v j : Nat) (hv : v < 2 ^ j) (hj : j < 64) : bits .or .u64 (v : Int) ((2 ^ j : Nat) : Int) = ((v + 2 ^ j : Nat) : Int) := by
  have hp : 2 ^ j < 18446744073709551616 := by
    rw [show (18446744073709551616 : Nat) = 2 ^ 64 from rfl]
    exact Nat.pow_lt_pow_right (by omega) hj
  have := Nat.two_pow_add_eq_or_of_lt hv 1
  rw [Nat.mul_one] at this
  rw [u64_or_nat v (2 ^ j) (by omega) hp, Nat.or_comm, ← this, Nat.add_comm]
theorem or_shl (v e : Nat) (hv : v < 2 ^ (e + 1)) (he : e < 63) : bits .or .u64 (v : Int) (IntKind.u64.wrap ((2 : Int) * 2 ^ e)) = ((v + 2 ^ (e + 1) : Nat) : Int) := by
  rw [shl_wrap e he, or_pow v (e + 1) hv (by omega)]

theorem okTo_lt {ys : List Nat} (h : okTo ys ys.length) {i j : Nat} (hij : i < j) (hj : j < ys.length) : ys.getD i 0 < ys.getD j 0 := by
  have h1 : ∀ d, i + d + 1 < ys.length → ys.getD i 0 < ys.getD (i + d + 1) 0 := by
    intro d
    induction d with
    | zero => intro hi; exact (h (i + 1) hi).2 (by omega)
    | succ d ih =>
      intro hi
      have h1 := ih (by omega)
      have h2 := (h (i + d + 1 + 1) hi).2 (by omega)
      rw [show i + d + 1 + 1 - 1 = i + d + 1 from by omega] at h2
      rw [show i + (d + 1) + 1 = i + d + 1 + 1 from by omega]
      omega
  have := h1 (j - i - 1) (by omega)
  rwa [show i + (j - i - 1) + 1 = j from by omega] at this

theorem pack_back (o : Option Nat) (ys : List Nat) (he : ∀ y ∈ ys, y % 2 = 0 ∧ y < 18446744073709551616) (hp : ys.Pairwise (· < ·)) (told : List Nat) (nx : Nat) (hn : ∀ N, o = some N → nx = N % 18446744073709551616) :
    ((packW o ys).foldl unStep (told, nx)).1 = told ++ ys := by
  induction o, ys using packW.induct generalizing told nx with
  | case1 => rw [packW_nil]; simp
  | case2 x xs ih =>
    rw [packW_cons, List.foldl_cons, unStep, if_pos (he x (by simp)).1, ih (fun y hy => he y (by simp [hy])) (List.pairwise_cons.1 hp).2 _ _ (fun N h => by cases h; rfl)]
    simp
  | case3 N xs h ih => rw [packW_stop h, ih he hp _ _ (fun N h => by cases h)]
  | case4 N xs h ih =>
    rw [packW_word rfl h, List.foldl_cons, unStep, if_neg (word_odd _ _), ih (fun y hy => he y (List.mem_of_mem_drop hy)) (hp.sublist (List.drop_sublist _ _)) _ _ (fun M hM => by cases hM; rw [hn N rfl]; omega)]
    rw [hn N rfl, (word_back N (xs.take (spanK N xs)) (fun y hy => ⟨spanK_fits N xs y hy, (he y (List.mem_of_mem_take hy)).2⟩) (hp.sublist (List.take_sublist _ _))).2, List.append_assoc, List.take_append_drop]

theorem okTo_pair {ys : List Nat} (h : okTo ys ys.length) : ys.Pairwise (· < ·) := by
  have key : ∀ d i, i + d + 1 < ys.length → ys.getD i 0 < ys.getD (i + d + 1) 0 := by
    intro d
    induction d with
    | zero => intro i hi; exact (h (i + 1) hi).2 (by omega)
    | succ d ih =>
      intro i hi
      have h1 := ih i (by omega)
      have h2 := (h (i + d + 1 + 1) hi).2 (by omega)
      rw [show i + d + 1 + 1 - 1 = i + d + 1 from by omega] at h2
      rw [show i + (d + 1) + 1 = i + d + 1 + 1 from by omega]
      omega
  rw [List.pairwise_iff_getElem]
  intro i j hi hj hij
  have := key (j - i - 1) i (by omega)
  rw [show i + (j - i - 1) + 1 = j from by omega, getD_getElem hi, getD_getElem hj] at this
  exact this
theorem okTo_even {ys : List Nat} (h : okTo ys ys.length) : ∀ y ∈ ys, y % 2 = 0 := by
  intro y hy
  obtain ⟨i, hi, rfl⟩ := List.mem_iff_getElem.1 hy
  have := (h i hi).1
  rwa [getD_getElem hi] at this

/-- what a word's loop carries: so many from k on fit, and v is their word -/
structure Run (ys : List Nat) (N k k4 v : Nat) : Prop where
  word : v = wordOf N ((ys.drop k).take (k4 - k))
  fit : ∀ j, j < k4 - k → fits N ((ys.drop k).getD j 0)

theorem drop_getD (ys : List Nat) (k j : Nat) : (ys.drop k).getD j 0 = ys.getD (k + j) 0 := by simp [List.getD, List.getElem?_drop]

theorem Run.start (ys : List Nat) (N k : Nat) : Run ys N k k 1 := ⟨by simp [wordOf_nil], fun j hj => by omega⟩
theorem Run.next {ys : List Nat} {N k k4 v x : Nat} (h : Run ys N k k4 v) (ho : okTo ys ys.length) (hb : ∀ y ∈ ys, y < 18446744073709551616) (hk : k ≤ k4) (hl : k4 < ys.length) (hx : ys.getD k4 0 = x) {e : Nat} (he : x = N + 8 * e) (he2 : e < 63) :
    v < 2 ^ (e + 1) ∧ v + 2 ^ (e + 1) < 18446744073709551616 ∧ Run ys N k (k4 + 1) (v + 2 ^ (e + 1)) := by
  have hfx : fits N (ys.getD k4 0) := by unfold fits; omega
  have hw : v < 2 ^ (e + 1) := by
    rw [h.word]
    refine (word_back N _ ?_ ?_).1 e ?_
    · intro y hy
      obtain ⟨j, hj, rfl⟩ := List.mem_iff_getElem.1 hy
      simp only [List.length_take, List.length_drop] at hj
      have := h.fit j (by omega)
      rw [drop_getD, getD_getElem (by omega)] at this
      refine ⟨by simpa using this, ?_⟩
      exact hb _ (List.mem_of_mem_drop (List.mem_of_mem_take hy))
    · exact (okTo_pair ho).sublist ((List.take_sublist _ _).trans (List.drop_sublist _ _))
    · intro y hy
      obtain ⟨j, hj, rfl⟩ := List.mem_iff_getElem.1 hy
      simp only [List.length_take, List.length_drop] at hj
      have := okTo_lt ho (show k + j < k4 from by omega) hl
      rw [getD_getElem (by omega), hx] at this
      simp
      omega
  refine ⟨hw, ?_, ?_, ?_⟩
  · have : 2 ^ (e + 1) ≤ 2 ^ 63 := Nat.pow_le_pow_right (by omega) (by omega)
    have e63 : (2 : Nat) ^ 63 = 9223372036854775808 := by decide
    omega
  · have hd : k4 - k < (ys.drop k).length := by simp; omega
    rw [show k4 + 1 - k = k4 - k + 1 from by omega, List.take_succ_eq_append_getElem hd, wordOf_snoc, ← h.word]
    congr 1
    have : (ys.drop k)[k4 - k] = x := by
      rw [← getD_getElem hd, drop_getD, show k + (k4 - k) = k4 from by omega, hx]
    rw [this, bitOf, he, show N + 8 * e - N = 8 * e from by omega, Nat.mul_div_cancel_left _ (by omega)]
  · intro j hj
    by_cases hjk : j = k4 - k
    · rw [hjk, drop_getD, show k + (k4 - k) = k4 from by omega]
      exact hfx
    · exact h.fit j (by omega)
theorem Run.stop {ys : List Nat} {N k k4 v : Nat} (h : Run ys N k k4 v) (hk : k ≤ k4) (hl : k4 ≤ ys.length) (hn : k4 = ys.length ∨ ¬ fits N (ys.getD k4 0)) : spanK N (ys.drop k) = k4 - k := by
  refine spanK_eq N (ys.drop k) (k4 - k) (by simp; omega) h.fit ?_
  rcases hn with rfl | hn
  · left; simp
  · right
    rw [drop_getD, show k + (k4 - k) = k4 from by omega]
    exact hn
/-- the run is over, and nothing was in it -/
theorem Run.none {ys : List Nat} {N k v : Nat} (h : Run ys N k k v) (hl : k ≤ ys.length) (hn : k = ys.length ∨ ¬ fits N (ys.getD k 0)) {o : List Nat} (hr : packW none ys = o ++ packW (some N) (ys.drop k)) : v = 1 ∧ packW Option.none ys = o ++ packW Option.none (ys.drop k) := by
  refine ⟨by rw [h.word]; simp [wordOf_nil], ?_⟩
  rw [hr, packW_stop (by rw [h.stop (Nat.le_refl _) hl hn]; omega)]
theorem Run.some {ys : List Nat} {N k k4 v : Nat} (h : Run ys N k k4 v) (hk : k < k4) (hl : k4 ≤ ys.length) (hn : k4 = ys.length ∨ ¬ fits N (ys.getD k4 0)) {o : List Nat} (hr : packW Option.none ys = o ++ packW (Option.some N) (ys.drop k)) :
    v ≠ 1 ∧ packW Option.none ys = (o ++ [v]) ++ packW (Option.some (N + 504)) (ys.drop k4) ∧ N ≤ ys.getD (k4 - 1) 0 ∧ ys.getD (k4 - 1) 0 < N + 504 := by
  refine ⟨by rw [h.word]; exact word_two _ _ (by simp; omega), ?_, ?_⟩
  · rw [hr, packW_word (h.stop (by omega) hl hn) (by omega), ← h.word, List.drop_drop, show k + (k4 - k) = k4 from by omega, List.append_assoc]
    rfl
  · have := h.fit (k4 - k - 1) (by omega)
    rw [drop_getD, show k + (k4 - k - 1) = k4 - 1 from by omega] at this
    unfold fits at this
    omega

theorem back {ys : List Nat} (h : okTo ys ys.length) (hl : ¬ 16384 < ys.length) (hb : ∀ y ∈ ys, y < 18446744073709551616) : unF (packW none ys) = (0, ys) := by
  have hr : (unRun (packW none ys)).1 = ys := by
    have := pack_back none ys (fun y hy => ⟨okTo_even h y hy, hb y hy⟩) (okTo_pair h) [] 0 (fun N h => by cases h)
    simpa [unRun] using this
  rw [unF_yes]
  · rw [hr]
  · cases ys with
    | nil => rw [packW_nil]; decide
    | cons y ys =>
      rw [packW_cons]
      have := okTo_even h y (by simp)
      simp
      omega
  · rw [hr]; omega
end Go.Proofs.Ytbmfjchpfhealaa
