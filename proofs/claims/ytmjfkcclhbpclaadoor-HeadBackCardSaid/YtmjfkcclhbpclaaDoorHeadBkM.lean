/- Layer 4: a program header's numbers, where they stand in the whole file. -/
import Derived.Test.YtmjfkcclhbpclaaDoorHeadF
import Derived.Test.YtmjfkcclhbpclaaDoorHeadRPow
import Derived.Test.YtmjfkcclhbpclaaDoorHeadWrite
namespace Go.Proofs.YtmjfkcclhbpclaaDoor
open Go.RowKit
set_option linter.unusedVariables false
set_option linter.unusedSimpArgs false

theorem numF_drop {bs : List Nat} {p : Nat} (h : p ≤ bs.length) (o n : Nat) : numF (bs.drop p) o n = numF bs (p + o) n := by
  unfold numF
  have e : inB (bs.drop p).length o n = inB bs.length (p + o) n := by
    unfold inB
    rw [List.length_drop, decide_eq_decide]
    omega
  rw [e, List.drop_drop]
/-- the numbers of a program header at a place -/
def progAt (bs : List Nat) (p : Nat) : PT := ⟨numF bs p 4, numF bs (p + 4) 4, numF bs (p + 8) 8, numF bs (p + 16) 8, numF bs (p + 32) 8, numF bs (p + 40) 8, numF bs (p + 48) 8⟩
theorem progAt_eq {bs : List Nat} {p : Nat} (h : p ≤ bs.length) : progF (bs.drop p) = progAt bs p := by
  unfold progF progAt
  rw [numF_drop h, numF_drop h, numF_drop h, numF_drop h, numF_drop h, numF_drop h, numF_drop h, Nat.add_zero]
end Go.Proofs.YtmjfkcclhbpclaaDoor
/- Layer 4: what is written tells its own numbers; what is read keeps the bounds, and comes back when it is written. -/
namespace Go.Proofs.YtmjfkcclhbpclaaDoor
open Go.RowKit
set_option linter.unusedVariables false
set_option linter.unusedSimpArgs false

/-- the number that so many places tell, the lowest first -/
def numG (f : Nat → Nat) : Nat → Nat → Nat
  | _, 0 => 0
  | a, n + 1 => f a + 256 * numG f (a + 1) n
theorem numG_congr {f g : Nat → Nat} : ∀ (n a : Nat), (∀ i, a ≤ i → i < a + n → f i = g i) → numG f a n = numG g a n
  | 0, a, _ => rfl
  | n + 1, a, h => by rw [numG, numG, h a (by omega) (by omega), numG_congr n (a + 1) (fun i h1 h2 => h i (by omega) (by omega))]
theorem numOf_numG : ∀ (n a : Nat) (bs : List Nat), a + n ≤ bs.length → numOf ((bs.drop a).take n) = numG (fun i => bs.getD i 0) a n
  | 0, a, bs, _ => by rw [List.take_zero]; rfl
  | n + 1, a, bs, h => by
    rw [List.drop_eq_getElem_cons (by omega), List.take_succ_cons, numOf, numG, numOf_numG n (a + 1) bs (by omega)]
    congr 1
    show _ = bs.getD a 0
    rw [List.getD_eq_getElem?_getD, List.getElem?_eq_getElem (by omega)]
    rfl
theorem numF_numG {bs : List Nat} {a n : Nat} (h : a + n ≤ bs.length) : numF bs a n = numG (fun i => bs.getD i 0) a n := by
  unfold numF
  rw [if_pos (by unfold inB; exact decide_eq_true (by omega)), numOf_numG n a bs h]
theorem numF_same {bs cs : List Nat} {a n : Nat} (h : a + n ≤ bs.length) (h' : a + n ≤ cs.length) (he : ∀ i, a ≤ i → i < a + n → bs.getD i 0 = cs.getD i 0) : numF bs a n = numF cs a n := by
  rw [numF_numG h, numF_numG h']
  exact numG_congr n a he
theorem getD_set (xs : List Nat) (j x i : Nat) (hj : j < xs.length) : (xs.set j x).getD i 0 = if i = j then x else xs.getD i 0 := by
  rw [List.getD_eq_getElem?_getD, List.getD_eq_getElem?_getD, List.getElem?_set]
  by_cases h : j = i
  · subst h
    rw [if_pos rfl, if_pos hj, if_pos rfl]
    rfl
  · rw [if_neg h, if_neg (fun e => h e.symm)]
theorem putF_get (xs : List Nat) (p : Nat) : ∀ (n v i : Nat), p + n ≤ xs.length → (putF xs p n v).getD i 0 = if p ≤ i ∧ i < p + n then v / 256 ^ (i - p) % 256 else xs.getD i 0
  | 0, v, i, _ => by rw [putF, if_neg (by omega)]
  | n + 1, v, i, h => by
    rw [putF, getD_set _ _ _ _ (by rw [putF_len]; omega), putF_get xs p n v i (by omega)]
    by_cases h1 : i = p + n
    · rw [if_pos h1, if_pos (by omega), h1, Nat.add_sub_cancel_left]
    · rw [if_neg h1]
      by_cases h2 : p ≤ i ∧ i < p + n
      · rw [if_pos h2, if_pos (by omega)]
      · rw [if_neg h2, if_neg (by omega)]
theorem numG_digits (v : Nat) : ∀ (n a p k : Nat), a = p + k → numG (fun i => v / 256 ^ (i - p) % 256) a n = v / 256 ^ k % 256 ^ n
  | 0, a, p, k, _ => by rw [Nat.pow_zero, Nat.mod_one]; rfl
  | n + 1, a, p, k, h => by
    rw [numG, numG_digits v n (a + 1) p (k + 1) (by omega)]
    show v / 256 ^ (a - p) % 256 + _ = _
    rw [show a - p = k by omega, Nat.pow_succ 256 k, ← Nat.div_div_eq_div_mul, Nat.pow_succ 256 n, Nat.mul_comm (256 ^ n) 256]
    rw [Nat.mod_mul]
theorem num_put {xs : List Nat} {p n v : Nat} (h : p + n ≤ xs.length) (hv : v < 256 ^ n) : numF (putF xs p n v) p n = v := by
  rw [numF_numG (by rw [putF_len]; exact h)]
  rw [numG_congr (g := fun i => v / 256 ^ (i - p) % 256) n p (fun i h1 h2 => by rw [putF_get xs p n v i h, if_pos ⟨h1, h2⟩])]
  rw [numG_digits v n p p 0 (by omega), Nat.pow_zero, Nat.div_one, Nat.mod_eq_of_lt hv]
theorem num_off {xs : List Nat} {p n v a m : Nat} (h : p + n ≤ xs.length) (ha : a + m ≤ xs.length) (hd : a + m ≤ p ∨ p + n ≤ a) : numF (putF xs p n v) a m = numF xs a m := by
  refine numF_same (by rw [putF_len]; exact ha) ha (fun i h1 h2 => ?_)
  rw [putF_get xs p n v i h, if_neg (by omega)]
theorem num_put8 : ∀ (vs xs : List Nat) (p a m : Nat), p + 8 * vs.length ≤ xs.length → a + m ≤ xs.length → (a + m ≤ p ∨ p + 8 * vs.length ≤ a) → numF (put8 xs p vs) a m = numF xs a m
  | [], xs, p, a, m, _, _, _ => rfl
  | v :: vs, xs, p, a, m, h, ha, hd => by
    rw [List.length_cons] at h hd
    rw [put8, num_put8 vs _ (p + 8) a m (by rw [putF_len]; omega) (by rw [putF_len]; exact ha) (by omega), num_off (by omega) ha (by omega)]
theorem num_put8_at : ∀ (vs xs : List Nat) (p j v : Nat), p + 8 * vs.length ≤ xs.length → vs[j]? = some v → v < 18446744073709551616 → numF (put8 xs p vs) (p + 8 * j) 8 = v
  | [], xs, p, j, v, _, h, _ => by simp at h
  | x :: vs, xs, p, 0, v, h, he, hv => by
    rw [List.length_cons] at h
    simp only [List.getElem?_cons_zero, Option.some.injEq] at he
    subst he
    rw [put8, num_put8 vs _ (p + 8) (p + 8 * 0) 8 (by rw [putF_len]; omega) (by rw [putF_len]; omega) (by omega)]
    exact num_put (by omega) (by rw [show (256 : Nat) ^ 8 = 18446744073709551616 by decide]; exact hv)
  | x :: vs, xs, p, j + 1, v, h, he, hv => by
    rw [List.length_cons] at h
    simp only [List.getElem?_cons_succ] at he
    rw [put8, show p + 8 * (j + 1) = p + 8 + 8 * j by omega]
    exact num_put8_at vs _ (p + 8) j v (by rw [putF_len]; omega) he hv
theorem num_putP {xs : List Nat} {p a m : Nat} (q : PT) (h : p + 56 ≤ xs.length) (ha : a + m ≤ xs.length) (hd : a + m ≤ p ∨ p + 56 ≤ a) : numF (putP xs p q) a m = numF xs a m := by
  have hl : (valsF q).length = 6 := rfl
  unfold putP
  rw [num_put8 _ _ _ a m (by rw [putF_len, putF_len, hl]; omega) (by rw [putF_len, putF_len]; exact ha) (by rw [hl]; omega), num_off (by rw [putF_len]; omega) (by rw [putF_len]; exact ha) (by omega), num_off (by omega) ha (by omega)]
theorem prog_putP {xs : List Nat} {p : Nat} (q : PT) (hq : q.wf) (h : p + 56 ≤ xs.length) : progAt (putP xs p q) p = q := by
  obtain ⟨q0, q1, q2, q3, q4, q5, q6⟩ := hq
  have hl : (valsF q).length = 6 := rfl
  have hb : p + 8 + 8 * (valsF q).length ≤ (putF (putF xs p 4 q.ty) (p + 4) 4 q.flags).length := by rw [putF_len, putF_len, hl]; omega
  have p4 : (256 : Nat) ^ 4 = 4294967296 := by decide
  have e0 : numF (putP xs p q) p 4 = q.ty := by
    unfold putP
    rw [num_put8 _ _ _ p 4 hb (by rw [putF_len, putF_len]; omega) (by omega), num_off (by rw [putF_len]; omega) (by rw [putF_len]; omega) (by omega)]
    exact num_put (by omega) (by rw [p4]; exact q0)
  have e1 : numF (putP xs p q) (p + 4) 4 = q.flags := by
    unfold putP
    rw [num_put8 _ _ _ (p + 4) 4 hb (by rw [putF_len, putF_len]; omega) (by omega)]
    exact num_put (by rw [putF_len]; omega) (by rw [p4]; exact q1)
  have e2 : numF (putP xs p q) (p + 8) 8 = q.off := num_put8_at (valsF q) _ (p + 8) 0 _ hb rfl q2
  have e3 : numF (putP xs p q) (p + 16) 8 = q.vaddr := num_put8_at (valsF q) _ (p + 8) 1 _ hb rfl q3
  have e4 : numF (putP xs p q) (p + 32) 8 = q.filesz := num_put8_at (valsF q) _ (p + 8) 3 _ hb rfl q4
  have e5 : numF (putP xs p q) (p + 40) 8 = q.memsz := num_put8_at (valsF q) _ (p + 8) 4 _ hb rfl q5
  have e6 : numF (putP xs p q) (p + 48) 8 = q.align := num_put8_at (valsF q) _ (p + 8) 5 _ hb rfl q6
  unfold progAt
  rw [e0, e1, e2, e3, e4, e5, e6]
theorem num_putPs : ∀ (qs : List PT) (k : Nat) (xs : List Nat) (a m : Nat), 64 + 56 * (k + qs.length) ≤ xs.length → a + m ≤ 64 + 56 * k → numF (putPs xs k qs) a m = numF xs a m
  | [], k, xs, a, m, _, _ => rfl
  | q :: qs, k, xs, a, m, h, ha => by
    rw [List.length_cons] at h
    rw [putPs, num_putPs qs (k + 1) _ a m (by rw [putP_len]; omega) (by omega), num_putP q (by omega) (by omega) (by omega)]
theorem prog_putPs : ∀ (qs : List PT) (k : Nat) (xs : List Nat), (∀ q ∈ qs, q.wf) → 64 + 56 * (k + qs.length) ≤ xs.length → ∀ (j : Nat) (q : PT), qs[j]? = some q → progAt (putPs xs k qs) (64 + 56 * (k + j)) = q
  | [], k, xs, _, _, j, q, h => by simp at h
  | x :: qs, k, xs, hw, hl, 0, q, h => by
    rw [List.length_cons] at hl
    simp only [List.getElem?_cons_zero, Option.some.injEq] at h
    subst h
    have e : progAt (putPs xs k (x :: qs)) (64 + 56 * (k + 0)) = progAt (putP xs (64 + 56 * k) x) (64 + 56 * k) := by
      show progAt (putPs xs k (x :: qs)) (64 + 56 * k) = _
      unfold progAt
      have hz : 64 + 56 * (k + 1 + qs.length) ≤ (putP xs (64 + 56 * k) x).length := by rw [putP_len]; omega
      rw [putPs, num_putPs qs (k + 1) _ _ _ hz (by omega), num_putPs qs (k + 1) _ _ _ hz (by omega), num_putPs qs (k + 1) _ _ _ hz (by omega), num_putPs qs (k + 1) _ _ _ hz (by omega), num_putPs qs (k + 1) _ _ _ hz (by omega), num_putPs qs (k + 1) _ _ _ hz (by omega), num_putPs qs (k + 1) _ _ _ hz (by omega)]
    rw [e]
    exact prog_putP x (hw x (by simp)) (by omega)
  | x :: qs, k, xs, hw, hl, j + 1, q, h => by
    rw [List.length_cons] at hl
    simp only [List.getElem?_cons_succ] at h
    rw [putPs, show k + (j + 1) = k + 1 + j by omega]
    exact prog_putPs qs (k + 1) _ (fun y hy => hw y (by simp [hy])) (by rw [putP_len]; omega) j q h
theorem getD_front (xs ys : List Nat) (i : Nat) (h : i < xs.length) : (xs ++ ys).getD i 0 = xs.getD i 0 := by
  rw [List.getD_eq_getElem?_getD, List.getD_eq_getElem?_getD, List.getElem?_append_left h]
theorem num_front {xs ys : List Nat} {a n : Nat} (h : a + n ≤ xs.length) : numF (xs ++ ys) a n = numF xs a n :=
  numF_same (by rw [List.length_append]; omega) h (fun i _ h2 => getD_front xs ys i (by omega))
theorem progAt_front {xs ys : List Nat} {p : Nat} (h : p + 56 ≤ xs.length) : progAt (xs ++ ys) p = progAt xs p := by
  unfold progAt
  rw [num_front (by omega), num_front (by omega), num_front (by omega), num_front (by omega), num_front (by omega), num_front (by omega), num_front (by omega)]
/-- what is written tells its own numbers, whatever stands behind -/
structure ToldR (k e : Nat) (ps : List PT) (bs : List Nat) : Prop where
  len : 64 + 56 * ps.length ≤ bs.length
  const : constF bs fixedF = none
  kind : numF bs 16 2 = k
  entry : numF bs 24 8 = e
  begin_ : numF bs 32 8 = 64
  count : numF bs 56 2 = ps.length
  prog : ∀ (j : Nat) (q : PT), ps[j]? = some q → progAt bs (64 + 56 * j) = q
theorem write_told (k e : Nat) (ps : List PT) (rest : List Nat) (hk : k = 2 ∨ k = 3) (he : e < 18446744073709551616) (hw : ∀ q ∈ ps, q.wf) (h16 : ps.length ≤ 16) : ToldR k e ps (writeF k e ps ++ rest) := by
  have hlen := writeF_len k e ps
  have p1 : (256 : Nat) ^ 1 = 256 := by decide
  have p2 : (256 : Nat) ^ 2 = 65536 := by decide
  have p4 : (256 : Nat) ^ 4 = 4294967296 := by decide
  have p8 : (256 : Nat) ^ 8 = 18446744073709551616 := by decide
  obtain ⟨Z, hZ⟩ : ∃ Z, List.replicate (64 + 56 * ps.length) 0 = Z := ⟨_, rfl⟩
  have hZl : Z.length = 64 + 56 * ps.length := by rw [← hZ, List.length_replicate]
  have hF : writeF k e ps = putPs (putF (putF (putF (putF (fixPut Z fixedF) 16 2 k) 24 8 e) 32 8 64) 56 2 ps.length) 0 ps := by unfold writeF; rw [hZ]
  have low : ∀ a m, a + m ≤ 64 → numF (writeF k e ps ++ rest) a m = numF (putF (putF (putF (putF (fixPut Z fixedF) 16 2 k) 24 8 e) 32 8 64) 56 2 ps.length) a m := fun a m h => by
    rw [num_front (by omega), hF, num_putPs ps 0 _ a m (by rw [putF_len, putF_len, putF_len, putF_len, fixPut_len, hZl]; omega) (by omega)]
  have hfl : (fixPut Z fixedF).length = 64 + 56 * ps.length := by rw [fixPut_len, hZl]
  have fixlow : ∀ a m, a + m ≤ 64 → (a + m ≤ 16 ∨ 18 ≤ a) → (a + m ≤ 24 ∨ 32 ≤ a) → (a + m ≤ 32 ∨ 40 ≤ a) → (a + m ≤ 56 ∨ 58 ≤ a) → numF (writeF k e ps ++ rest) a m = numF (fixPut Z fixedF) a m := fun a m h h1 h2 h3 h4 => by
    rw [low a m h, num_off (by rw [putF_len, putF_len, putF_len, hfl]; omega) (by rw [putF_len, putF_len, putF_len, hfl]; omega) (by omega), num_off (by rw [putF_len, putF_len, hfl]; omega) (by rw [putF_len, putF_len, hfl]; omega) (by omega), num_off (by rw [putF_len, hfl]; omega) (by rw [putF_len, hfl]; omega) (by omega), num_off (by rw [hfl]; omega) (by rw [hfl]; omega) (by omega)]
  have hkind : numF (writeF k e ps ++ rest) 16 2 = k := by
    rw [low 16 2 (by omega), num_off (by rw [putF_len, putF_len, putF_len, hfl]; omega) (by rw [putF_len, putF_len, putF_len, hfl]; omega) (by omega), num_off (by rw [putF_len, putF_len, hfl]; omega) (by rw [putF_len, putF_len, hfl]; omega) (by omega), num_off (by rw [putF_len, hfl]; omega) (by rw [putF_len, hfl]; omega) (by omega)]
    exact num_put (by rw [hfl]; omega) (by omega)
  have hen : numF (writeF k e ps ++ rest) 24 8 = e := by
    rw [low 24 8 (by omega), num_off (by rw [putF_len, putF_len, putF_len, hfl]; omega) (by rw [putF_len, putF_len, putF_len, hfl]; omega) (by omega), num_off (by rw [putF_len, putF_len, hfl]; omega) (by rw [putF_len, putF_len, hfl]; omega) (by omega)]
    exact num_put (by rw [putF_len, hfl]; omega) (by omega)
  have hbe : numF (writeF k e ps ++ rest) 32 8 = 64 := by
    rw [low 32 8 (by omega), num_off (by rw [putF_len, putF_len, putF_len, hfl]; omega) (by rw [putF_len, putF_len, putF_len, hfl]; omega) (by omega)]
    exact num_put (by rw [putF_len, putF_len, hfl]; omega) (by omega)
  have hco : numF (writeF k e ps ++ rest) 56 2 = ps.length := by
    rw [low 56 2 (by omega)]
    exact num_put (by rw [putF_len, putF_len, putF_len, hfl]; omega) (by omega)
  have hfix : ∀ a n x, (∃ l1 y l2, fixedF = l1 ++ (a, n, x, y) :: l2 ∧ ∀ q ∈ l2, a + n ≤ q.1 ∨ q.1 + q.2.1 ≤ a) → a + n ≤ 64 → x < 256 ^ n → numF (fixPut Z fixedF) a n = x := by
    have step : ∀ (l : List (Nat × Nat × Nat × Nat)) (xs : List Nat) (a n : Nat), (∀ q ∈ l, q.1 + q.2.1 ≤ xs.length) → a + n ≤ xs.length → (∀ q ∈ l, a + n ≤ q.1 ∨ q.1 + q.2.1 ≤ a) → numF (fixPut xs l) a n = numF xs a n := by
      intro l
      induction l with
      | nil => intros; rfl
      | cons q l ih =>
        obtain ⟨b, m, x, y⟩ := q
        intro xs a n h1 h2 h3
        rw [fixPut, ih _ _ _ (fun q hq => by rw [putF_len]; exact h1 q (by simp [hq])) (by rw [putF_len]; exact h2) (fun q hq => h3 q (by simp [hq]))]
        exact num_off (h1 (b, m, x, y) (by simp)) h2 (h3 (b, m, x, y) (by simp))
    have app : ∀ (l1 l2 : List (Nat × Nat × Nat × Nat)) (xs : List Nat), fixPut xs (l1 ++ l2) = fixPut (fixPut xs l1) l2 := by
      intro l1
      induction l1 with
      | nil => intros; rfl
      | cons q l1 ih => obtain ⟨b, m, x, y⟩ := q; intro l2 xs; rw [List.cons_append, fixPut, fixPut, ih]
    rintro a n x ⟨l1, y, l2, hl, hd⟩ ha hx
    have room : ∀ q ∈ fixedF, q.1 + q.2.1 ≤ 64 := by decide
    rw [hl, app, fixPut, step l2 _ a n (fun q hq => by rw [putF_len, fixPut_len, hZl]; have := room q (by rw [hl]; simp [hq]); omega) (by rw [putF_len, fixPut_len, hZl]; omega) hd]
    exact num_put (by rw [fixPut_len, hZl]; omega) hx
  have c0 := hfix 0 1 127 ⟨[], _, _, rfl, by decide⟩ (by decide) (by decide)
  have c1 := hfix 1 1 69 ⟨fixedF.take 1, _, _, rfl, by decide⟩ (by decide) (by decide)
  have c2 := hfix 2 1 76 ⟨fixedF.take 2, _, _, rfl, by decide⟩ (by decide) (by decide)
  have c3 := hfix 3 1 70 ⟨fixedF.take 3, _, _, rfl, by decide⟩ (by decide) (by decide)
  have c4 := hfix 4 1 2 ⟨fixedF.take 4, _, _, rfl, by decide⟩ (by decide) (by decide)
  have c5 := hfix 5 1 1 ⟨fixedF.take 5, _, _, rfl, by decide⟩ (by decide) (by decide)
  have c6 := hfix 6 1 1 ⟨fixedF.take 6, _, _, rfl, by decide⟩ (by decide) (by decide)
  have c7 := hfix 7 1 0 ⟨fixedF.take 7, _, _, rfl, by decide⟩ (by decide) (by decide)
  have c9 := hfix 18 2 62 ⟨fixedF.take 9, _, _, rfl, by decide⟩ (by decide) (by decide)
  have c10 := hfix 20 4 1 ⟨fixedF.take 10, _, _, rfl, by decide⟩ (by decide) (by decide)
  have c11 := hfix 52 2 64 ⟨fixedF.take 11, _, _, rfl, by decide⟩ (by decide) (by decide)
  have c12 := hfix 54 2 56 ⟨fixedF.take 12, _, _, rfl, by decide⟩ (by decide) (by decide)
  refine ⟨by rw [List.length_append, hlen]; omega, ?_, hkind, hen, hbe, hco, fun j q h => ?_⟩
  · unfold fixedF
    simp only [constF]
    rw [fixlow 0 1 (by omega) (by omega) (by omega) (by omega) (by omega), c0, fixlow 1 1 (by omega) (by omega) (by omega) (by omega) (by omega), c1, fixlow 2 1 (by omega) (by omega) (by omega) (by omega) (by omega), c2, fixlow 3 1 (by omega) (by omega) (by omega) (by omega) (by omega), c3, fixlow 4 1 (by omega) (by omega) (by omega) (by omega) (by omega), c4, fixlow 5 1 (by omega) (by omega) (by omega) (by omega) (by omega), c5, fixlow 6 1 (by omega) (by omega) (by omega) (by omega) (by omega), c6, fixlow 7 1 (by omega) (by omega) (by omega) (by omega) (by omega), c7, hkind, fixlow 18 2 (by omega) (by omega) (by omega) (by omega) (by omega), c9, fixlow 20 4 (by omega) (by omega) (by omega) (by omega) (by omega), c10, fixlow 52 2 (by omega) (by omega) (by omega) (by omega) (by omega), c11, fixlow 54 2 (by omega) (by omega) (by omega) (by omega) (by omega), c12]
    simp only [true_or, if_true]
    rw [if_pos hk]
  · have hj := (List.getElem?_eq_some_iff.1 h).1
    rw [progAt_front (by omega), hF]
    have := prog_putPs ps 0 (putF (putF (putF (putF (fixPut Z fixedF) 16 2 k) 24 8 e) 32 8 64) 56 2 ps.length) hw (by rw [putF_len, putF_len, putF_len, putF_len, hfl]; omega) j q h
    rw [Nat.zero_add] at this
    exact this
theorem take_snocQ {α : Type} {ps : List α} {k : Nat} {q : α} (h : ps[k]? = some q) : ps.take k ++ [q] = ps.take (k + 1) := by
  rw [List.take_add_one, h]
  rfl
theorem told_progs {k e : Nat} {ps : List PT} {bs : List Nat} (h : ToldR k e ps bs) : ∀ (g j : Nat), j + g = ps.length → (∃ x, progsF bs 64 g j (ps.take j) = .error x ∧ ∃ i q, ps[i]? = some q ∧ oneF bs.length (ps.take i) q (64 + 56 * i) = some x) ∨ progsF bs 64 g j (ps.take j) = .ok ps
  | 0, j, hj => .inr (by rw [progsF, List.take_of_length_le (by omega)])
  | g + 1, j, hj => by
    have hlt : j < ps.length := by omega
    obtain ⟨q, hq⟩ : ∃ q, ps[j]? = some q := ⟨ps[j], List.getElem?_eq_getElem hlt⟩
    have hp : 64 + 56 * j ≤ bs.length := by have := h.len; omega
    have hpr := h.prog j q hq
    rw [← progAt_eq hp] at hpr
    rw [progsF, hpr]
    cases ho : oneF bs.length (ps.take j) q (64 + 56 * j) with
    | some x => exact .inl ⟨x, rfl, j, q, hq, ho⟩
    | none =>
      simp only []
      rw [take_snocQ hq]
      exact told_progs h g (j + 1) (by omega)
/-- what is written is read as it was, or not at all -/
theorem told_read {k e : Nat} {ps : List PT} {bs : List Nat} (h : ToldR k e ps bs) {r : HT} (hr : readF bs = .ok r) : r = ⟨k, e, ps⟩ := by
  unfold readF at hr
  split at hr
  · cases hr
  · split at hr
    · cases hr
    · rw [h.const, h.kind, h.entry, h.begin_, h.count] at hr
      simp only [] at hr
      cases hw : whereF bs with
      | some x => rw [hw] at hr; cases hr
      | none =>
        rw [hw] at hr
        simp only [] at hr
        rcases told_progs h ps.length 0 (by omega) with ⟨x, hx, -⟩ | hx
        · rw [List.take_zero] at hx
          rw [hx] at hr
          cases hr
        · rw [List.take_zero] at hx
          rw [hx] at hr
          simp only [] at hr
          cases hl : lastF ps with
          | none => rw [hl] at hr; cases hr
          | some q =>
            rw [hl] at hr
            simp only [Except.ok.injEq] at hr
            exact hr.symm
/-- what a file that is read keeps -/
structure KeptR (n : Nat) (r : HT) : Prop where
  kind : r.kind = 2 ∨ r.kind = 3
  entry : r.entry < 18446744073709551616
  some_ : 0 < r.ps.length
  most : r.ps.length ≤ 16
  wf : ∀ q ∈ r.ps, q.wf
  load : ∃ q, lastF r.ps = some q
  one : ∀ (i : Nat) (q : PT), r.ps[i]? = some q → ∀ at_, rOneF n (r.ps.take i) q at_ = none
theorem rOne_any {n : Nat} {ps : List PT} {q : PT} {at_ : Nat} (h : rOneF n ps q at_ = none) (n' at' : Nat) (hn : n ≤ n') : rOneF n' ps q at' = none := by
  unfold rOneF at h ⊢
  have hin : (isOf q [1, 2, 3, 4, 7] && !inB n q.off q.filesz) = false → (isOf q [1, 2, 3, 4, 7] && !inB n' q.off q.filesz) = false := fun hx => by
    by_cases hi : isOf q [1, 2, 3, 4, 7] = true
    · rw [hi] at hx ⊢
      have h1 : inB n q.off q.filesz = true := by cases hb : inB n q.off q.filesz <;> rw [hb] at hx <;> first | rfl | cases hx
      have h2 : q.off ≤ n ∧ q.filesz ≤ n - q.off := of_decide_eq_true h1
      have h3 : inB n' q.off q.filesz = true := decide_eq_true (by omega)
      rw [h3]
      rfl
    · rw [Bool.eq_false_iff.2 hi]
      rfl
  by_cases h1 : (isOf q [2, 3, 7, 1685382482, 1685382481] && ps.any (fun p => p.ty == q.ty)) = true
  · rw [if_pos h1] at h; cases h
  rw [if_neg h1] at h ⊢
  by_cases h2 : (isOf q [1, 2, 3, 4, 7] && !inB n q.off q.filesz) = true
  · rw [if_pos h2] at h; cases h
  rw [if_neg h2] at h
  rw [if_neg (by rw [hin (Bool.eq_false_iff.2 h2)]; decide)]
  by_cases h3 : (isOf q [1, 2, 7, 1685382482] && !inB 140737488355328 q.vaddr q.memsz) = true
  · rw [if_pos h3] at h; cases h
  rw [if_neg h3] at h ⊢
  by_cases h4 : (decide (q.ty ≠ 1) && decide (q.ty ≠ 7)) = true
  · rw [if_pos h4]
  rw [if_neg h4] at h ⊢
  by_cases h5 : decide (q.memsz < q.filesz) = true
  · rw [if_pos h5] at h; cases h
  rw [if_neg h5] at h ⊢
  by_cases h6 : (!powerF q.align && (decide (q.ty ≠ 7) || decide (q.align ≠ 0))) = true
  · rw [if_pos h6] at h; cases h
  rw [if_neg h6] at h ⊢
  by_cases h7 : decide (q.ty = 7) = true
  · rw [if_pos h7]
  rw [if_neg h7] at h ⊢
  by_cases h8 : decide (q.memsz = 0) = true
  · rw [if_pos h8] at h; cases h
  rw [if_neg h8] at h ⊢
  by_cases h9 : decide (q.align < 4096) = true
  · rw [if_pos h9] at h; cases h
  rw [if_neg h9] at h ⊢
  by_cases h10 : (decide (q.off % q.align ≠ q.vaddr % q.align) || decide (q.vaddr / 4096 * 4096 < rend ps)) = true
  · rw [if_pos h10] at h; cases h
  rw [if_neg h10]
theorem progs_kept {bs : List Nat} (hb : ∀ x ∈ bs, x < 256) (from_ : Nat) : ∀ (g k : Nat) (ps rs : List PT), (∀ q ∈ ps, q.wf) → (∀ (i : Nat) (q : PT), ps[i]? = some q → ∀ at_, rOneF bs.length (ps.take i) q at_ = none) → progsF bs from_ g k ps = .ok rs → rs.length = ps.length + g ∧ (∀ q ∈ rs, q.wf) ∧ (∀ (i : Nat) (q : PT), rs[i]? = some q → ∀ at_, rOneF bs.length (rs.take i) q at_ = none)
  | 0, k, ps, rs, hw, h1, h => by
    rw [progsF] at h
    injection h with h
    subst h
    exact ⟨rfl, hw, h1⟩
  | g + 1, k, ps, rs, hw, h1, h => by
    rw [progsF] at h
    obtain ⟨p, hp⟩ : ∃ p, progF (bs.drop (from_ + 56 * k)) = p := ⟨_, rfl⟩
    have hpw : p.wf := by rw [← hp]; exact progF_wf (fun x hx => hb x (List.mem_of_mem_drop hx))
    rw [hp] at h
    cases ho : oneF bs.length ps p (from_ + 56 * k) with
    | some x => rw [ho] at h; cases h
    | none =>
      rw [ho] at h
      simp only [] at h
      rw [← rOne_one _ _ _ _ hw] at ho
      obtain ⟨r1, r2, r3⟩ := progs_kept hb from_ g (k + 1) (ps ++ [p]) rs (fun q hq => by
        rcases List.mem_append.1 hq with hq | hq
        · exact hw q hq
        · rw [List.mem_singleton] at hq; rw [hq]; exact hpw) (fun i q hq at_ => by
        by_cases hi : i < ps.length
        · rw [List.getElem?_append_left hi] at hq
          rw [List.take_append_of_le_length (by omega)]
          exact h1 i q hq at_
        · have hi2 := (List.getElem?_eq_some_iff.1 hq).1
          rw [List.length_append] at hi2
          simp only [List.length_cons, List.length_nil] at hi2
          have hie : i = ps.length := by omega
          subst hie
          rw [List.getElem?_append_right (by omega), Nat.sub_self] at hq
          simp only [List.getElem?_cons_zero, Option.some.injEq] at hq
          subst hq
          rw [List.take_append_of_le_length (by omega), List.take_of_length_le (by omega)]
          exact rOne_any ho _ _ (Nat.le_refl _)) h
      refine ⟨?_, r2, r3⟩
      rw [r1, List.length_append]
      simp only [List.length_cons, List.length_nil]
      omega
theorem const_each {bs : List Nat} : ∀ (l : List (Nat × Nat × Nat × Nat)), constF bs l = none → ∀ q ∈ l, numF bs q.1 q.2.1 = q.2.2.1 ∨ numF bs q.1 q.2.1 = q.2.2.2
  | [], _, q, hq => by simp at hq
  | (a, n, x, y) :: l, h, q, hq => by
    rw [constF] at h
    split at h
    · rename_i hx
      rcases List.mem_cons.1 hq with rfl | hq
      · exact hx
      · exact const_each l h q hq
    · cases h
theorem read_kept {bs : List Nat} (hb : ∀ x ∈ bs, x < 256) {r : HT} (hr : readF bs = .ok r) : KeptR bs.length r := by
  unfold readF at hr
  split at hr
  · cases hr
  · split at hr
    · cases hr
    · cases hc : constF bs fixedF with
      | some x => rw [hc] at hr; cases hr
      | none =>
        rw [hc] at hr
        simp only [] at hr
        have hkind : numF bs 16 2 = 2 ∨ numF bs 16 2 = 3 := by
          exact const_each fixedF hc (16, 2, 2, 3) (by decide)
        cases hw : whereF bs with
        | some x => rw [hw] at hr; cases hr
        | none =>
          rw [hw] at hr
          simp only [] at hr
          cases hp : progsF bs (numF bs 32 8) (numF bs 56 2) 0 [] with
          | error x => rw [hp] at hr; cases hr
          | ok ps =>
            rw [hp] at hr
            simp only [] at hr
            cases hl : lastF ps with
            | none => rw [hl] at hr; cases hr
            | some q =>
              rw [hl] at hr
              simp only [Except.ok.injEq] at hr
              subst hr
              obtain ⟨r1, r2, r3⟩ := progs_kept hb _ _ 0 [] ps (by simp) (by simp) hp
              have h56 : 0 < numF bs 56 2 ∧ numF bs 56 2 ≤ 16 := by
                unfold whereF unF at hw
                by_cases a1 : 0 < numF bs 56 2
                · by_cases a2 : numF bs 56 2 ≤ 16
                  · exact ⟨a1, a2⟩
                  · rw [if_pos (decide_eq_true a1), if_neg (by simpa using a2)] at hw
                    cases hw
                · rw [if_neg (by simpa using a1)] at hw
                  cases hw
              rw [List.length_nil, Nat.zero_add] at r1
              have he := numF_lt hb 24 8
              rw [show (256 : Nat) ^ 8 = 18446744073709551616 by decide] at he
              exact ⟨hkind, he, by show 0 < ps.length; omega, by show ps.length ≤ 16; omega, r2, ⟨q, hl⟩, r3⟩
/-- what was read comes back when it is written, whatever stands behind -/
theorem kept_back {n : Nat} {r : HT} (h : KeptR n r) {bs : List Nat} (ht : ToldR r.kind r.entry r.ps bs) (hn : n ≤ bs.length) : readF bs = if 1048576 < bs.length then .error (.code 2) else .ok r := by
  unfold readF
  by_cases h1 : 1048576 < bs.length
  · rw [if_pos h1, if_pos h1]
  · have hlen := ht.len
    rw [if_neg h1, if_neg h1, if_neg (by omega), ht.const, ht.kind, ht.entry, ht.begin_, ht.count]
    have hwh : whereF bs = none := by
      unfold whereF unF
      rw [ht.count, ht.begin_, if_pos (decide_eq_true h.some_), if_pos (decide_eq_true h.most), if_pos (by unfold inB; exact decide_eq_true (by omega))]
      rfl
    rw [hwh]
    simp only []
    rcases told_progs ht r.ps.length 0 (by omega) with ⟨x, hx, i, q, hq, ho⟩ | hx
    · rw [← rOne_one _ _ _ _ (fun p hp => h.wf p (List.mem_of_mem_take hp)), rOne_any (h.one i q hq 0) bs.length _ hn] at ho
      cases ho
    · rw [List.take_zero] at hx
      rw [hx]
      simp only []
      obtain ⟨q, hq⟩ := h.load
      rw [hq]
/-- the end of what was mapped before, in pages -/
def endP (ps : List PT) : Nat := rend ps / 4096
theorem kept_load {n : Nat} {r : HT} (h : KeptR n r) {i : Nat} {q : PT} (hq : r.ps[i]? = some q) (ht : q.ty = 1) : endP (r.ps.take i) ≤ q.vaddr / 4096 ∧ q.off + q.filesz ≤ n ∧ q.filesz ≤ q.memsz ∧ q.vaddr + q.memsz ≤ 140737488355328 ∧ endP (r.ps.take (i + 1)) = (q.vaddr + q.memsz + 4095) / 4096 := by
  have ho := h.one i q hq 0
  have hs : endP (r.ps.take (i + 1)) = (q.vaddr + q.memsz + 4095) % 18446744073709551616 / 4096 := by
    unfold endP
    rw [← take_snocQ hq, rend_snoc, if_pos ht]
    omega
  unfold endP at *
  unfold rOneF at ho
  have i1 : isOf q [1, 2, 3, 4, 7] = true := by unfold isOf; rw [ht]; rfl
  have i2 : isOf q [1, 2, 7, 1685382482] = true := by unfold isOf; rw [ht]; rfl
  rw [i1, i2] at ho
  simp only [Bool.true_and] at ho
  split at ho
  · cases ho
  split at ho
  · cases ho
  split at ho
  · cases ho
  split at ho
  · rename_i h4; rw [ht] at h4; cases h4
  split at ho
  · cases ho
  split at ho
  · cases ho
  split at ho
  · rename_i h4; rw [ht] at h4; cases h4
  split at ho
  · cases ho
  split at ho
  · cases ho
  split at ho
  · cases ho
  rename_i g1 g2 g3 g4 g5 g6 g7 g8 g9 g10
  have hin : q.off ≤ n ∧ q.filesz ≤ n - q.off := by simpa [inB] using g2
  have hin2 : q.vaddr ≤ 140737488355328 ∧ q.memsz ≤ 140737488355328 - q.vaddr := by simpa [inB] using g3
  have hin3 : q.filesz ≤ q.memsz := by simpa using g5
  have hin4 : rend (r.ps.take i) ≤ q.vaddr / 4096 * 4096 := by
    simp only [Bool.or_eq_true, decide_eq_true_eq, not_or] at g10
    omega
  refine ⟨by omega, by omega, hin3, by omega, by rw [hs]; omega⟩
theorem kept_other {n : Nat} {r : HT} (h : KeptR n r) {i : Nat} {q : PT} (hq : r.ps[i]? = some q) (ht : q.ty ≠ 1) : endP (r.ps.take (i + 1)) = endP (r.ps.take i) := by
  unfold endP
  rw [← take_snocQ hq, rend_snoc, if_neg ht]
end Go.Proofs.YtmjfkcclhbpclaaDoor
