/- Layer 7: what is read of a table of the second kind that was made of names. Nothing of the program is named. -/
import Derived.Test.YtklaehlhkflcdaaBothMath
namespace Go.Proofs.Ytklaehlhkflcdaa
set_option linter.unusedVariables false
set_option linter.unusedSimpArgs false

theorem numOf_append (x y : List Nat) : numOf (x ++ y) = numOf x + 256 ^ x.length * numOf y := by
  induction x with
  | nil => simp [numOf]
  | cons a x ih =>
    rw [List.cons_append]
    simp only [numOf, ih, List.length_cons, Nat.pow_succ]
    rw [Nat.mul_add]
    rw [Nat.add_assoc, ← Nat.mul_assoc, Nat.mul_comm 256 (256 ^ x.length)]
theorem four_drop (W : List Nat) (i : Nat) (hi : i ≤ W.length) : (fourF W).drop (4 * i) = fourF (W.drop i) := by
  conv => lhs; rw [← List.take_append_drop i W, fourF_append]
  rw [List.drop_append_of_le_length (by rw [fourF_length, List.length_take]; omega), List.drop_of_length_le (by rw [fourF_length, List.length_take]; omega)]
  rfl
/-- eight bytes are two words -/
theorem eight_two {W : List Nat} (h : ∀ v ∈ W, v < 4294967296) {i a b : Nat} (h1 : W[i]? = some a) (h2 : W[i + 1]? = some b) : numOf (((fourF W).drop (4 * i)).take 8) = a + 4294967296 * b := by
  obtain ⟨l1, e1⟩ := List.getElem?_eq_some_iff.1 h1
  obtain ⟨l2, e2⟩ := List.getElem?_eq_some_iff.1 h2
  rw [four_drop _ _ (by omega), List.drop_eq_getElem_cons l1, List.drop_eq_getElem_cons l2, e1, e2]
  have e : (fourF (a :: b :: W.drop (i + 1 + 1))).take 8 = dig4 a ++ dig4 b := rfl
  have ha : a < 4294967296 := by rw [← e1]; exact h _ (List.getElem_mem _)
  have hb : b < 4294967296 := by rw [← e2]; exact h _ (List.getElem_mem _)
  rw [e, numOf_append, numOf_dig4 ha, numOf_dig4 hb]
  have e3 : (dig4 a).length = 4 := rfl
  rw [e3]
def fileP (S : Nat) : List PT := [⟨1, 0, 0, 256, S, 0, 0⟩]
theorem offF_file {S addr size : Nat} (h : 256 ≤ addr) (h2 : addr + size ≤ 256 + S) (hS : S ≤ 1000000) : offF (fileP S) addr size = (addr - 256, 0) := by
  change offF [⟨1, 0, 0, 256, S, 0, 0⟩] addr size = (addr - 256, 0)
  unfold offF
  rw [if_pos ⟨rfl, h, by simp; omega, by simp; omega⟩]
  simp only [Nat.zero_add]
  rw [if_pos (by omega)]
section
variable {hk hb : Nat → Nat} {n N sh : Nat}
theorem both_take {S k : Nat} (hn0 : 0 < n) (hn : n ≤ 4096) (hN : N ≤ 4096) (hs : sh < 32) (hlt : ∀ x, hk x < 4294967296) (hS : S = 4 * (12 + n + (N - 1))) :
    sliceF (fourF (bothW hk hb n N sh)) (fileP S) 256 (48 + 4 * n) = ((fourF (bothW hk hb n N sh)).take (48 + 4 * n), 0) := by
  have hl := bothW_length hk hb n N sh
  exact sliceF_yes (offF_file (by omega) (by omega) (by omega)) (Nat.zero_le _) (by rw [fourF_length]; omega)
/-- the table as it is read -/
def bothT (hk hb : Nat → Nat) (n N sh : Nat) : BT := ⟨1, sh, (List.range 4).map fun j => blAt hk sh j N, (List.range n).map fun b => fiAt hb b N, 304 + 4 * n⟩
theorem both_read {S : Nat} (hn0 : 0 < n) (hn : n ≤ 4096) (hN : N ≤ 4096) (hs : sh < 32) (hlt : ∀ x, hk x < 4294967296) (hS : S = 4 * (12 + n + (N - 1))) :
    bloomF (fourF (bothW hk hb n N sh)) (fileP S) 256 = (bothT hk hb n N sh, 0) := by
  have hl := bothW_length hk hb n N sh
  have hw := bothW_lt (hk := hk) (hb := hb) (n := n) (N := N) (sh := sh) (by omega) (by omega) (by omega) hlt
  have h4 : wordsF (fourF (bothW hk hb n N sh)) (fileP S) 256 4 = ([n, 1, 4, sh], 0) := by
    have := words_made hw (S := S) (by rw [hl]; exact hS) (k := 4) (by omega)
    rw [show fileP S = [⟨1, 0, 0, 256, S, 0, 0⟩] from rfl, this]
    rfl
  have hall := both_take (hk := hk) (hb := hb) (n := n) (N := N) (sh := sh) (S := S) (k := 0) hn0 hn hN hs hlt hS
  have hsz : 16 + 8 * 4 + 4 * n = 48 + 4 * n := by omega
  have hd : ((fourF (bothW hk hb n N sh)).take (48 + 4 * n)).drop (16 + 8 * 4) = fourF ((List.range n).map fun b => fiAt hb b N) := by
    rw [show 48 + 4 * n = 4 * (12 + n) from by omega, fourF_take _ _ (by omega), show 16 + 8 * 4 = 4 * 12 from rfl, four_drop _ _ (by rw [List.length_take]; omega)]
    congr 1
    apply List.ext_getElem?
    intro b
    rw [List.getElem?_drop]
    by_cases h : b < n
    · rw [List.getElem?_take_of_lt (by omega), bothW_first h]
      simp [h]
    · rw [List.getElem?_eq_none (by rw [List.length_take]; omega), List.getElem?_eq_none (by simp; omega)]
  have hfl : ∀ v ∈ (List.range n).map fun b => fiAt hb b N, v < 4294967296 := by
    intro v hv
    obtain ⟨b, -, rfl⟩ := List.mem_map.1 hv
    rcases fiAt_lt hb b N with h1 | h1 <;> omega
  rw [bloomF_yes h4 (by rw [ones_four]; simp; omega) (by omega) (by rw [hsz]; exact hall)]
  · unfold bloomT bothT
    rw [hd, split_four hfl]
    congr 1
    simp only [BT.mk.injEq, true_and]
    refine ⟨?_, by omega⟩
    apply List.map_congr_left
    intro j hj
    have hj4 := List.mem_range.1 hj
    obtain ⟨b1, b2⟩ := bothW_bloom (hk := hk) (hb := hb) (n := n) (N := N) (sh := sh) hj4
    unfold eightAt
    rw [show 16 + 8 * j = 4 * (4 + 2 * j) from by omega]
    have h8 : ((((fourF (bothW hk hb n N sh)).take (48 + 4 * n)).drop (4 * (4 + 2 * j))).take 8) = ((fourF (bothW hk hb n N sh)).drop (4 * (4 + 2 * j))).take 8 := by
      rw [List.drop_take, List.take_take, show min 8 (48 + 4 * n - 4 * (4 + 2 * j)) = 8 from by omega]
    rw [h8, eight_two hw b1 b2]
    omega
  · rw [hd, split_four hfl, List.any_eq_false]
    intro v hv
    obtain ⟨b, -, rfl⟩ := List.mem_map.1 hv
    simp only [lowB, Bool.and_eq_true, decide_eq_true_eq, not_and]
    omega
/-- a chain word -/
theorem both_link {S i : Nat} (hn0 : 0 < n) (hn : n ≤ 4096) (hN : N ≤ 4096) (hs : sh < 32) (hlt : ∀ x, hk x < 4294967296) (hS : S = 4 * (12 + n + (N - 1))) (h0 : 0 < i) (hi : i < N) :
    linkF (fourF (bothW hk hb n N sh)) (fileP S) (bothT hk hb n N sh) i = (chW hk hb N i, 0) := by
  have hl := bothW_length hk hb n N sh
  have hw := bothW_lt (hk := hk) (hb := hb) (n := n) (N := N) (sh := sh) (by omega) (by omega) (by omega) hlt
  have ha : linkAt (bothT hk hb n N sh) i = 304 + 4 * n + 4 * (i - 1) := by
    unfold linkAt bothT
    simp only
    omega
  unfold linkF
  rw [ha, wordF_yes (offF_file (by omega) (by omega) (by omega)) (by rw [fourF_length]; omega) (by rw [fourF_length]; omega)]
  have e : 304 + 4 * n + 4 * (i - 1) - 256 = 4 * (12 + n + (i - 1)) := by omega
  rw [e]
  have hq := quad_four hw (i := 12 + n + (i - 1)) (by omega)
  unfold quadAt at hq
  rw [hq]
  have hc := bothW_chain (hk := hk) (hb := hb) (n := n) (N := N) (sh := sh) (x := i - 1) (by omega)
  rw [List.getElem?_eq_getElem (by omega), Option.some.injEq] at hc
  rw [hc, show i - 1 + 1 = i from by omega]
theorem chW_odd {x : Nat} : (chW hk hb N x % 2 = 1) ↔ (x = N - 1 ∨ ¬ hb (x + 1) = hb x) := by
  unfold chW
  by_cases h : x = N - 1 ∨ ¬ hb (x + 1) = hb x
  · rw [if_pos h]; simp only [h, iff_true]; omega
  · rw [if_neg h]; simp only [h, iff_false]; omega
theorem chW_half {x : Nat} : chW hk hb N x / 2 = hk x / 2 := by
  unfold chW
  split <;> omega

/-- standing by their buckets -/
def Grouped (hb : Nat → Nat) (N : Nat) : Prop := ∀ x y, 0 < x → x ≤ y → y < N → hb x ≤ hb y

theorem count_go {S : Nat} (hn0 : 0 < n) (hn : n ≤ 4096) (hN : N ≤ 4096) (hs : sh < 32) (hlt : ∀ x, hk x < 4294967296) (hS : S = 4 * (12 + n + (N - 1))) :
    ∀ (f i : Nat), 0 < i → i < N → N - i ≤ f → (∀ x, i ≤ x → x + 1 < N → hb (x + 1) = hb x) → countGo (fourF (bothW hk hb n N sh)) (fileP S) (bothT hk hb n N sh) f i = (N, 0)
  | 0, i, h0, hi, hf, hsame => by omega
  | f + 1, i, h0, hi, hf, hsame => by
    have hk1 := both_link (hk := hk) (hb := hb) hn0 hn hN hs hlt hS h0 hi
    by_cases h : i = N - 1
    · rw [countGo_end (by rw [hk1]) (by rw [hk1]; exact chW_odd.2 (.inl h))]
      have : i + 1 = N := by omega
      rw [this]
    · rw [countGo_next (by rw [hk1]) (by rw [hk1]; intro h2; rcases chW_odd.1 h2 with h3 | h3; exact h h3; exact h3 (hsame i (Nat.le_refl _) (by omega)))]
      exact count_go hn0 hn hN hs hlt hS f (i + 1) (by omega) (by omega) (by omega) (fun x hx hx2 => hsame x (by omega) hx2)
theorem maxF_ge {l : List Nat} {x : Nat} (h : x ∈ l) : x ≤ maxF l := by
  induction l using snocInd with
  | nil => cases h
  | snoc l y ih =>
    rw [maxF_snoc]
    show x ≤ max (maxF l) y
    rcases List.mem_append.1 h with h | h
    · have := ih h; omega
    · simp only [List.mem_singleton] at h
      omega
theorem maxF_mem {l : List Nat} (h : ¬ maxF l = 0) : maxF l ∈ l := by
  induction l using snocInd with
  | nil => exact absurd rfl h
  | snoc l y ih =>
    rw [maxF_snoc] at h ⊢
    change ¬ max (maxF l) y = 0 at h
    show max (maxF l) y ∈ _
    rcases Nat.lt_or_ge (maxF l) y with h1 | h1
    · rw [Nat.max_eq_right (by omega)]
      simp
    · rw [Nat.max_eq_left h1] at h ⊢
      exact List.mem_append_left _ (ih h)
theorem both_count {S : Nat} (hn0 : 0 < n) (hn : n ≤ 4096) (hN0 : 0 < N) (hN : N ≤ 4096) (hs : sh < 32) (hlt : ∀ x, hk x < 4294967296) (hbn : ∀ x, hb x < n) (hG : Grouped hb N) (hS : S = 4 * (12 + n + (N - 1))) :
    bcountF (fourF (bothW hk hb n N sh)) (fileP S) (bothT hk hb n N sh) = (N, 0) := by
  unfold bcountF
  by_cases h : maxF (bothT hk hb n N sh).buckets = 0
  · rw [if_pos h]
    by_cases h1 : N = 1
    · subst h1; rfl
    · exfalso
      have h2 := (fiAt_first hb (hb 1) N 1 (by omega) (by omega) rfl).1
      have h3 : fiAt hb (hb 1) N ≤ maxF (bothT hk hb n N sh).buckets := maxF_ge (List.mem_map.2 ⟨hb 1, List.mem_range.2 (hbn 1), rfl⟩)
      omega
  · rw [if_neg h]
    have hm := maxF_mem h
    obtain ⟨b, -, hbe⟩ := List.mem_map.1 hm
    have hge : ∀ b, b < n → fiAt hb b N ≤ maxF (bothT hk hb n N sh).buckets := fun b hb0 => maxF_ge (List.mem_map.2 ⟨b, List.mem_range.2 hb0, rfl⟩)
    generalize maxF (bothT hk hb n N sh).buckets = m at *
    obtain ⟨h1, h2, h3⟩ := (fiAt_lt hb b N).resolve_left (by omega)
    rw [hbe] at h1 h2 h3
    refine count_go hn0 hn hN hs hlt hS _ m h1 h2 (by omega) (fun x hx hx2 => ?_)
    rcases Nat.lt_or_ge (hb x) (hb (x + 1)) with h4 | h4
    · exfalso
      have h5 := fiAt_first hb (hb (x + 1)) N (x + 1) (by omega) hx2 rfl
      have h6 := hge _ (hbn (x + 1))
      obtain ⟨-, h8, h9⟩ := (fiAt_lt hb (hb (x + 1)) N).resolve_left (by omega)
      have h7 := hG (fiAt hb (hb (x + 1)) N) x h5.1 (by omega) (by omega)
      omega
    · have := hG x (x + 1) (by omega) (by omega) hx2
      omega

theorem look_go {S : Nat} {all : List ByteArray} {name : ByteArray} {k b : Nat} (hn0 : 0 < n) (hn : n ≤ 4096) (hN : N ≤ 4096) (hNa : all.length = N) (hs : sh < 32) (hlt : ∀ x, hk x < 4294967296) (hG : Grouped hb N) (hS : S = 4 * (12 + n + (N - 1)))
    (hkn : ∀ x, x < N → all.getD x .empty = name → hk x = k ∧ hb x = b) :
    ∀ (f i : Nat) (told : List Nat), 0 < i → i < N → hb i = b → N - i ≤ f → blookGo (fourF (bothW hk hb n N sh)) (fileP S) (bothT hk hb n N sh) all name k f i told = (told ++ wantF all name (i - 1), 0)
  | 0, i, told, h0, hi, hib, hf => by omega
  | f + 1, i, told, h0, hi, hib, hf => by
    have hk1 := both_link (hk := hk) (hb := hb) hn0 hn hN hs hlt hS h0 hi
    have hw := wantF_step (all := all) (name := name) (s := i - 1) (by omega)
    rw [show i - 1 + 1 = i from by omega] at hw
    have hcond : ((linkF (fourF (bothW hk hb n N sh)) (fileP S) (bothT hk hb n N sh) i).1 / 2 = k / 2 ∧ all.getD i .empty = name) ↔ all.getD i .empty = name := by
      rw [hk1]
      simp only [chW_half]
      constructor
      · exact fun h => h.2
      · intro h
        exact ⟨by rw [(hkn i hi h).1], h⟩
    by_cases h : i = N - 1 ∨ ¬ hb (i + 1) = hb i
    · rw [blookGo_end (by rw [hk1]) (by rw [hk1]; exact chW_odd.2 h), hw]
      have hrest : wantF all name i = [] := by
        unfold wantF
        rw [List.filter_eq_nil_iff]
        intro x hx
        obtain ⟨q, hq, rfl⟩ := List.mem_range'.1 hx
        simp only [decide_eq_true_eq]
        intro hnm
        have h2 := (hkn _ (by omega) hnm).2
        rcases h with h | h
        · omega
        · have h3 := hG i (i + 1) h0 (by omega) (by omega)
          have h4 := hG (i + 1) (i + 1 + 1 * q) (by omega) (by omega) (by omega)
          omega
      rw [hrest, List.append_nil]
      by_cases h5 : all.getD i .empty = name
      · rw [if_pos (hcond.2 h5), if_pos h5]
      · rw [if_neg (fun h6 => h5 h6.2), if_neg h5, List.append_nil]
    · have h6 : ¬ i = N - 1 ∧ hb (i + 1) = hb i := ⟨fun e => h (.inl e), Decidable.byContradiction fun e => h (.inr e)⟩
      rw [blookGo_next (by rw [hk1]) (by rw [hk1]; intro h2; exact h (chW_odd.1 h2))]
      rw [look_go hn0 hn hN hNa hs hlt hG hS hkn f (i + 1) _ (by omega) (by omega) (by rw [h6.2, hib]) (by omega), hw]
      rw [show i + 1 - 1 = i from by omega]
      by_cases h5 : all.getD i .empty = name
      · rw [if_pos (hcond.2 h5), if_pos h5, List.append_assoc]
      · rw [if_neg (fun h6 => h5 h6.2), if_neg h5, List.nil_append]
theorem want_none {all : List ByteArray} {name : ByteArray} (h : ∀ x, 0 < x → x < all.length → ¬ all.getD x .empty = name) : wantF all name 0 = [] := by
  unfold wantF
  rw [List.filter_eq_nil_iff]
  intro x hx
  obtain ⟨q, hq, rfl⟩ := List.mem_range'.1 hx
  simpa using h _ (by omega) (by omega)
theorem want_skip {all : List ByteArray} {name : ByteArray} : ∀ (m : Nat), m < all.length → (∀ x, 0 < x → x ≤ m → ¬ all.getD x .empty = name) → wantF all name 0 = wantF all name m
  | 0, _, _ => rfl
  | m + 1, hm, h => by
    rw [want_skip m (by omega) (fun x h0 hx => h x h0 (by omega)), wantF_step (by omega), if_neg (h (m + 1) (by omega) (by omega)), List.nil_append]
theorem bit_of (x e : Nat) : (x / 2 ^ e % 2 = 1) ↔ x.testBit e = true := by
  rw [Nat.testBit_eq_decide_div_mod_eq, decide_eq_true_eq]
theorem both_look {S : Nat} {all : List ByteArray} {name : ByteArray} {k : Nat} (hn0 : 0 < n) (hn : n ≤ 4096) (hN : N ≤ 4096) (hNa : all.length = N) (hs : sh < 32) (hlt : ∀ x, hk x < 4294967296) (hbk : ∀ x, hb x = hk x % n) (hG : Grouped hb N) (hS : S = 4 * (12 + n + (N - 1)))
    (hkn : ∀ x, x < N → all.getD x .empty = name → hk x = k) :
    blookF (fourF (bothW hk hb n N sh)) (fileP S) (bothT hk hb n N sh) all name k = (wantF all name 0, 0) := by
  have hkn' : ∀ x, x < N → all.getD x .empty = name → hk x = k ∧ hb x = k % n := fun x hx h => ⟨hkn x hx h, by rw [hbk, hkn x hx h]⟩
  unfold blookF
  have hbl : (bothT hk hb n N sh).buckets.length = n := by simp [bothT]
  have hi0 : (bothT hk hb n N sh).buckets.getD (k % n) 0 = fiAt hb (k % n) N := by simp [bothT, List.getD, Nat.mod_lt _ hn0]
  rw [hbl, hi0]
  by_cases h1 : fiAt hb (k % n) N = 0
  · rw [if_pos (.inl h1), want_none]
    intro x h0 hx hnm
    have := (fiAt_first hb (k % n) N x h0 (by omega) (hkn' x (by omega) hnm).2).1
    omega
  · obtain ⟨f1, f2, f3⟩ := (fiAt_lt hb (k % n) N).resolve_left h1
    cases h2 : mayF (bothT hk hb n N sh) k with
    | false =>
      rw [if_pos (.inr rfl), want_none]
      intro x h0 hx hnm
      have hx2 : x < N := by omega
      have hkx := hkn x hx2 hnm
      have hlen : (bothT hk hb n N sh).bloom.length = 4 := rfl
      have hg : (bothT hk hb n N sh).bloom.getD (k / 64 % 4) 0 = blAt hk sh (k / 64 % 4) N := by
        have : k / 64 % 4 < 4 := Nat.mod_lt _ (by omega)
        simp [bothT, List.getD, this]
      have e1 := blAt_bit (hk := hk) (sh := sh) (j := k / 64 % 4) (e := k % 64) N x h0 hx2 (by rw [hkx]) (.inl (by rw [hkx]))
      have e2 := blAt_bit (hk := hk) (sh := sh) (j := k / 64 % 4) (e := k / 2 ^ sh % 64) N x h0 hx2 (by rw [hkx]) (.inr (by rw [hkx]))
      unfold mayF at h2
      rw [hlen, hg, decide_eq_true ((bit_of _ _).2 e1), Bool.true_and] at h2
      have e3 : (bothT hk hb n N sh).shift = sh := rfl
      rw [e3, decide_eq_true ((bit_of _ _).2 e2)] at h2
      cases h2
    | true =>
      rw [if_neg (by simp [h1]), hNa, look_go hn0 hn hN hNa hs hlt hG hS hkn' _ _ _ f1 f2 f3 (by omega), List.nil_append]
      congr 1
      symm
      refine want_skip _ (by omega) (fun x h0 hx hnm => ?_)
      have := (fiAt_first hb (k % n) N x h0 (by omega) (hkn' x (by omega) hnm).2).2
      omega
end
end Go.Proofs.Ytklaehlhkflcdaa
