/- How many bits a number has, as math/bits reckons it: plain numbers, nothing of the program. -/
import Derived.Laws.BitsAllLaws
namespace Go.Proofs.YtmjfkcclhbpclaaDoor.Pop

def fromB : List Nat → Nat
  | [] => 0
  | b :: t => b + 256 * fromB t

theorem and_step (a c A C : Nat) (ha : a < 256) (hc : c < 256) : (a + 256 * A) &&& (c + 256 * C) = (a &&& c) + 256 * (A &&& C) := by
  have h1 : a + 256 * A = 256 * A + a := by omega
  have h2 : c + 256 * C = 256 * C + c := by omega
  have h3 : (a &&& c) < 256 := Nat.lt_of_le_of_lt Nat.and_le_left ha
  rw [h1, h2, Nat.add_comm (a &&& c)]
  apply Nat.eq_of_testBit_eq
  intro i
  rw [Nat.testBit_and, show (256 : Nat) = 2 ^ 8 from rfl, Nat.testBit_two_pow_mul_add _ ha, Nat.testBit_two_pow_mul_add _ hc, Nat.testBit_two_pow_mul_add _ h3]
  split <;> simp [Nat.testBit_and]

theorem half_mask : ∀ r : Fin 256, ∀ b : Fin 2, (r.val / 2 + 128 * b.val) &&& 85 = r.val / 2 &&& 85 := by decide +kernel
theorem quarter_mask : ∀ r : Fin 256, ∀ b : Fin 4, (r.val / 4 + 64 * b.val) &&& 51 = r.val / 4 &&& 51 := by decide +kernel

def All (n : Nat) (l : List Nat) : Prop := ∀ x ∈ l, x < n
theorem All.head {n x : Nat} {l : List Nat} (h : All n (x :: l)) : x < n := h x (by simp)
theorem All.tail {n x : Nat} {l : List Nat} (h : All n (x :: l)) : All n l := fun y hy => h y (by simp [hy])

theorem and_mask (c : Nat) (hc : c < 256) (l : List Nat) (h : All 256 l) : fromB l &&& fromB (List.replicate l.length c) = fromB (l.map (· &&& c)) := by
  induction l with
  | nil => simp [fromB]
  | cons r t ih =>
    simp only [List.length_cons, List.replicate_succ, fromB, List.map_cons]
    rw [and_step r c _ _ h.head hc, ih h.tail]

theorem half (l : List Nat) (h : All 256 l) : fromB l / 2 &&& fromB (List.replicate l.length 85) = fromB (l.map fun r => r / 2 &&& 85) := by
  induction l with
  | nil => rfl
  | cons r t ih =>
    simp only [List.length_cons, List.replicate_succ, fromB, List.map_cons]
    have hr := h.head
    have e : (r + 256 * fromB t) / 2 = (r / 2 + 128 * (fromB t % 2)) + 256 * (fromB t / 2) := by omega
    rw [e, and_step _ 85 _ _ (by omega) (by omega), ih h.tail]
    have := half_mask ⟨r, hr⟩ ⟨fromB t % 2, by omega⟩
    simp only at this
    rw [this]

theorem quarter (l : List Nat) (h : All 256 l) : fromB l / 4 &&& fromB (List.replicate l.length 51) = fromB (l.map fun r => r / 4 &&& 51) := by
  induction l with
  | nil => rfl
  | cons r t ih =>
    simp only [List.length_cons, List.replicate_succ, fromB, List.map_cons]
    have hr := h.head
    have e : (r + 256 * fromB t) / 4 = (r / 4 + 64 * (fromB t % 4)) + 256 * (fromB t / 4) := by omega
    rw [e, and_step _ 51 _ _ (by omega) (by omega), ih h.tail]
    have := quarter_mask ⟨r, hr⟩ ⟨fromB t % 4, by omega⟩
    simp only at this
    rw [this]

theorem add_map (f g : Nat → Nat) (l : List Nat) : fromB (l.map f) + fromB (l.map g) = fromB (l.map fun r => f r + g r) := by
  induction l with
  | nil => rfl
  | cons r t ih => simp only [List.map_cons, fromB]; omega

/-- nibbles of at most 4 -/
def Nib (r : Nat) : Prop := r / 16 ≤ 4 ∧ r % 16 ≤ 4

theorem fromB_mod16 (l : List Nat) (h : ∀ r ∈ l, Nib r) : fromB l % 16 ≤ 4 := by
  cases l with
  | nil => simp [fromB]
  | cons r t => have := (h r (by simp)).2; simp only [fromB]; omega

theorem nib_mask : ∀ r : Fin 256, r.val &&& 15 = r.val % 16 := by decide +kernel

theorem nibbles (l : List Nat) (h : ∀ r ∈ l, Nib r) : (fromB l / 16 + fromB l) &&& fromB (List.replicate l.length 15) = fromB (l.map fun r => (r / 16 + r) % 16) := by
  induction l with
  | nil => rfl
  | cons r t ih =>
    simp only [List.length_cons, List.replicate_succ, fromB, List.map_cons]
    have hr := h r (by simp)
    have ht : ∀ x ∈ t, Nib x := fun x hx => h x (by simp [hx])
    have hm := fromB_mod16 t ht
    unfold Nib at hr
    have e : (r + 256 * fromB t) / 16 + (r + 256 * fromB t) = (r / 16 + r + 16 * (fromB t % 16)) + 256 * (fromB t / 16 + fromB t) := by omega
    rw [e, and_step _ 15 _ _ (by omega) (by omega), ih ht]
    have := nib_mask ⟨r / 16 + r + 16 * (fromB t % 16), by omega⟩
    simp only at this
    rw [this]
    congr 1
    omega

def s1 (r : Nat) : Nat := (r / 2 &&& 85) + (r &&& 85)
def s2 (r : Nat) : Nat := (r / 4 &&& 51) + (r &&& 51)
def s3 (r : Nat) : Nat := (r / 16 + r) % 16
def p8 (r : Nat) : Nat := s3 (s2 (s1 r))

theorem s1_lt : ∀ r : Fin 256, s1 r.val < 256 := by decide +kernel
theorem s2_nib : ∀ r : Fin 256, s2 (s1 r.val) / 16 ≤ 4 ∧ s2 (s1 r.val) % 16 ≤ 4 := by decide +kernel
theorem p8_le : ∀ r : Fin 256, p8 r.val ≤ 8 := by decide +kernel
theorem p8_zero : ∀ r : Fin 256, p8 r.val = 0 → r.val = 0 := by decide +kernel
theorem p8_one : ∀ r : Fin 256, p8 r.val = 1 → ∃ i : Fin 8, r.val = 2 ^ i.val := by decide +kernel

/-- the sums that math/bits.OnesCount64 makes -/
def w1 (x : Nat) : Nat := (x / 2 &&& 6148914691236517205) + (x &&& 6148914691236517205)
def w2 (x : Nat) : Nat := (x / 4 &&& 3689348814741910323) + (x &&& 3689348814741910323)
def w3 (x : Nat) : Nat := (x / 16 + x) &&& 1085102592571150095
def w4 (x : Nat) : Nat := x + x / 256
def w5 (x : Nat) : Nat := x + x / 65536
def w6 (x : Nat) : Nat := x + x / 4294967296

theorem split8 (x : Nat) (h : x < 18446744073709551616) : ∃ l : List Nat, l.length = 8 ∧ All 256 l ∧ x = fromB l := by
  refine ⟨[x % 256, x / 256 % 256, x / 65536 % 256, x / 16777216 % 256, x / 4294967296 % 256, x / 1099511627776 % 256, x / 281474976710656 % 256, x / 72057594037927936 % 256], rfl, ?_, ?_⟩
  · intro y hy; simp only [List.mem_cons, List.not_mem_nil, or_false] at hy; omega
  · simp only [fromB]; omega

theorem all_map {f : Nat → Nat} {n m : Nat} {l : List Nat} (h : All n l) (hf : ∀ r, r < n → f r < m) : All m (l.map f) := by
  intro y hy; obtain ⟨r, hr, rfl⟩ := List.mem_map.1 hy; exact hf r (h r hr)

theorem w1_eq (l : List Nat) (hl : l.length = 8) (h : All 256 l) : w1 (fromB l) = fromB (l.map s1) := by
  have a := half l h
  have b := and_mask 85 (by omega) l h
  rw [hl] at a b
  have e : fromB (List.replicate 8 85) = 6148914691236517205 := by decide +kernel
  rw [e] at a b
  unfold w1
  rw [a, b, add_map]
  rfl

theorem w2_eq (l : List Nat) (hl : l.length = 8) (h : All 256 l) : w2 (fromB l) = fromB (l.map s2) := by
  have a := quarter l h
  have b := and_mask 51 (by omega) l h
  rw [hl] at a b
  have e : fromB (List.replicate 8 51) = 3689348814741910323 := by decide +kernel
  rw [e] at a b
  unfold w2
  rw [a, b, add_map]
  rfl

theorem w3_eq (l : List Nat) (hl : l.length = 8) (h : ∀ r ∈ l, Nib r) : w3 (fromB l) = fromB (l.map s3) := by
  have a := nibbles l h
  rw [hl] at a
  have e : fromB (List.replicate 8 15) = 1085102592571150095 := by decide +kernel
  rw [e] at a
  unfold w3
  rw [a]
  rfl

def pop (x : Nat) : Nat := w6 (w5 (w4 (w3 (w2 (w1 x))))) % 128

theorem divq {y n : Nat} (q r : Nat) (hr : r < n) (h : y = r + n * q) : y / n = q := by
  rw [h, Nat.add_mul_div_left _ _ (by omega), Nat.div_eq_of_lt hr]; omega

theorem tail8 (l : List Nat) (hl : l.length = 8) (h : All 9 l) : w6 (w5 (w4 (fromB l))) % 128 = l.sum ∧ w6 (w5 (w4 (fromB l))) < 1000000000000000000 := by
  match l, hl with
  | [a, b, c, d, e, f, g, k], _ =>
    have ha := h a (by simp); have hb := h b (by simp); have hc := h c (by simp); have hd := h d (by simp)
    have he := h e (by simp); have hf := h f (by simp); have hg := h g (by simp); have hk := h k (by simp)
    clear h
    have e4 : w4 (fromB [a, b, c, d, e, f, g, k]) = (a + b) + 256 * (b + c) + 65536 * (c + d) + 16777216 * (d + e) + 4294967296 * (e + f) + 1099511627776 * (f + g) + 281474976710656 * (g + k) + 72057594037927936 * k := by
      have q : fromB [a, b, c, d, e, f, g, k] / 256 = b + 256 * c + 65536 * d + 16777216 * e + 4294967296 * f + 1099511627776 * g + 281474976710656 * k := divq _ a (by omega) (by simp only [fromB]; omega)
      simp only [w4, q]; simp only [fromB]; clear q; omega
    have e5 : w5 (w4 (fromB [a, b, c, d, e, f, g, k])) = (a + b + c + d) + 256 * (b + c + d + e) + 65536 * (c + d + e + f) + 16777216 * (d + e + f + g) + 4294967296 * (e + f + g + k) + 1099511627776 * (f + g + k) + 281474976710656 * (g + k) + 72057594037927936 * k := by
      have q : w4 (fromB [a, b, c, d, e, f, g, k]) / 65536 = (c + d) + 256 * (d + e) + 65536 * (e + f) + 16777216 * (f + g) + 4294967296 * (g + k) + 1099511627776 * k := divq _ ((a + b) + 256 * (b + c)) (by clear e4; omega) (by rw [e4]; clear e4; omega)
      simp only [w5, q]; rw [e4]; clear q e4; omega
    have e6 : w6 (w5 (w4 (fromB [a, b, c, d, e, f, g, k]))) = (a + b + c + d + e + f + g + k) + 256 * (b + c + d + e + f + g + k) + 65536 * (c + d + e + f + g + k) + 16777216 * (d + e + f + g + k) + 4294967296 * (e + f + g + k) + 1099511627776 * (f + g + k) + 281474976710656 * (g + k) + 72057594037927936 * k := by
      have q : w5 (w4 (fromB [a, b, c, d, e, f, g, k])) / 4294967296 = (e + f + g + k) + 256 * (f + g + k) + 65536 * (g + k) + 16777216 * k := divq _ ((a + b + c + d) + 256 * (b + c + d + e) + 65536 * (c + d + e + f) + 16777216 * (d + e + f + g)) (by clear e4 e5; omega) (by rw [e5]; clear e5 e4; omega)
      simp only [w6, q]; rw [e5]; clear q e5 e4; omega
    rw [e6]
    clear e4 e5 e6
    simp only [List.sum_cons, List.sum_nil]
    constructor
    · have : ∀ S X : Nat, S < 128 → (S + 128 * X) % 128 = S := fun S X h => by omega
      have q := this (a + b + c + d + e + f + g + k) (2 * (b + c + d + e + f + g + k) + 512 * (c + d + e + f + g + k) + 131072 * (d + e + f + g + k) + 33554432 * (e + f + g + k) + 8589934592 * (f + g + k) + 2199023255552 * (g + k) + 562949953421312 * k) (by omega)
      rw [show (a + b + c + d + e + f + g + k) + 256 * (b + c + d + e + f + g + k) + 65536 * (c + d + e + f + g + k) + 16777216 * (d + e + f + g + k) + 4294967296 * (e + f + g + k) + 1099511627776 * (f + g + k) + 281474976710656 * (g + k) + 72057594037927936 * k = (a + b + c + d + e + f + g + k) + 128 * (2 * (b + c + d + e + f + g + k) + 512 * (c + d + e + f + g + k) + 131072 * (d + e + f + g + k) + 33554432 * (e + f + g + k) + 8589934592 * (f + g + k) + 2199023255552 * (g + k) + 562949953421312 * k) from by clear q this; omega, q]
      clear q this
      omega
    · omega

theorem most (n : Nat) (l : List Nat) (hl : l.length = 8) (h : All (n + 1) l) : fromB l ≤ n * 72340172838076673 := by
  match l, hl with
  | [a, b, c, d, e, f, g, k], _ =>
    have ha := h a (by simp); have hb := h b (by simp); have hc := h c (by simp); have hd := h d (by simp)
    have he := h e (by simp); have hf := h f (by simp); have hg := h g (by simp); have hk := h k (by simp)
    clear h
    simp only [fromB]; omega

theorem w3_list (l : List Nat) (hl : l.length = 8) (h : All 256 l) : w3 (w2 (w1 (fromB l))) = fromB (l.map p8) ∧ All 9 (l.map p8) ∧ w1 (fromB l) = fromB (l.map s1) ∧ w2 (w1 (fromB l)) = fromB (l.map (s2 ∘ s1)) := by
  have h1 := w1_eq l hl h
  have a1 : All 256 (l.map s1) := all_map h fun r hr => s1_lt ⟨r, hr⟩
  have h2 := w2_eq (l.map s1) (by simpa using hl) a1
  have h3 := w3_eq ((l.map s1).map s2) (by simpa using hl) (by
    intro y hy
    obtain ⟨z, hz, rfl⟩ := List.mem_map.1 hy
    obtain ⟨r, hr, rfl⟩ := List.mem_map.1 hz
    exact s2_nib ⟨r, h r hr⟩)
  refine ⟨?_, all_map h fun r hr => Nat.lt_succ_of_le (p8_le ⟨r, hr⟩), h1, ?_⟩
  · rw [h1, h2, h3, List.map_map, List.map_map]; rfl
  · rw [h1, h2, List.map_map]

theorem pop_list (l : List Nat) (hl : l.length = 8) (h : All 256 l) : pop (fromB l) = (l.map p8).sum := by
  obtain ⟨e, a, -, -⟩ := w3_list l hl h
  unfold pop
  rw [e]
  exact (tail8 _ (by simpa using hl) a).1

theorem sum_zero (l : List Nat) (h : All 256 l) (hs : (l.map p8).sum = 0) : fromB l = 0 := by
  induction l with
  | nil => rfl
  | cons r t ih =>
    simp only [List.map_cons, List.sum_cons] at hs
    have h0 := p8_zero ⟨r, h.head⟩ (by simp only; omega)
    simp only at h0
    have := ih h.tail (by omega)
    simp only [fromB]; omega

theorem sum_one (l : List Nat) (h : All 256 l) (hs : (l.map p8).sum = 1) : ∃ i, i < 8 * l.length ∧ fromB l = 2 ^ i := by
  induction l with
  | nil => simp at hs
  | cons r t ih =>
    simp only [List.map_cons, List.sum_cons] at hs
    by_cases hr : p8 r = 0
    · obtain ⟨i, hi, e⟩ := ih h.tail (by omega)
      refine ⟨i + 8, by simp; omega, ?_⟩
      have h0 := p8_zero ⟨r, h.head⟩ hr
      simp only at h0
      simp only [fromB]
      rw [e, h0, Nat.pow_add]; omega
    · obtain ⟨i, e⟩ := p8_one ⟨r, h.head⟩ (by simp only; omega)
      simp only at e
      refine ⟨i.val, by simp; omega, ?_⟩
      have := sum_zero t h.tail (by omega)
      simp only [fromB]
      rw [this, e]; omega

theorem pop_one (x : Nat) (h : x < 18446744073709551616) (hp : pop x = 1) : ∃ i, i < 64 ∧ x = 2 ^ i := by
  obtain ⟨l, hl, ha, rfl⟩ := split8 x h
  rw [pop_list l hl ha] at hp
  obtain ⟨i, hi, e⟩ := sum_one l ha hp
  exact ⟨i, by omega, e⟩

theorem pop_pow : ∀ i : Fin 64, pop (2 ^ i.val) = 1 := by decide +kernel

/-- each of the sums fits into 64 bits -/
theorem bounds (x : Nat) (h : x < 18446744073709551616) : w1 x < 18446744073709551616 ∧ w2 (w1 x) < 18446744073709551616 ∧ w2 (w1 x) / 16 + w2 (w1 x) < 18446744073709551616 ∧
    w3 (w2 (w1 x)) < 1000000000000000000 ∧ w4 (w3 (w2 (w1 x))) < 1000000000000000000 ∧ w5 (w4 (w3 (w2 (w1 x)))) < 1000000000000000000 ∧ w6 (w5 (w4 (w3 (w2 (w1 x))))) < 1000000000000000000 := by
  obtain ⟨l, hl, ha, rfl⟩ := split8 x h
  obtain ⟨e3, a, e1, e2⟩ := w3_list l hl ha
  have t := (tail8 _ (by simpa using hl) a).2
  have b1 := most 255 (l.map s1) (by simpa using hl) (all_map ha fun r hr => s1_lt ⟨r, hr⟩)
  have n2 : All 69 (l.map (s2 ∘ s1)) := all_map ha fun r hr => by
    have := s2_nib ⟨r, hr⟩
    simp only at this
    show s2 (s1 r) < 69
    generalize s2 (s1 r) = q at this
    omega
  have b2 := most 68 _ (by simpa using hl) n2
  rw [e3, e2, e1]
  clear e1 e2 e3 n2 ha
  have w4le : ∀ y, y ≤ w4 y := fun y => by unfold w4; omega
  have w5le : ∀ y, y ≤ w5 y := fun y => by unfold w5; omega
  have w6le : ∀ y, y ≤ w6 y := fun y => by unfold w6; omega
  have q6 := w6le (w5 (w4 (fromB (l.map p8))))
  have q5 := w5le (w4 (fromB (l.map p8)))
  have q4 := w4le (fromB (l.map p8))
  refine ⟨by omega, by omega, by omega, by omega, by omega, by omega, by omega⟩
end Go.Proofs.YtmjfkcclhbpclaaDoor.Pop
