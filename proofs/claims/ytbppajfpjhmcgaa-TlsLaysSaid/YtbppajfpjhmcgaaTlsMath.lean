/- Layer 18: where modules lie: what is true of it. -/
import Derived.Test.YtbppajfpjhmcgaaTlsLay
namespace Go.Proofs.Ytbppajfpjhmcgaa
open Go.RowKit
set_option linter.unusedVariables false
set_option linter.unusedSimpArgs false

theorem modF_some {m : Md} {x y : Nat} (h : modF m x = some y) : Pop.pop (max 1 m.al) = 1 ∧ max 1 m.al ≤ 4096 ∧ m.size ≤ 1048576 ∧ y ≤ 1048576 ∧ y % max 1 m.al = 0 ∧ x + m.size ≤ y ∧ y < x + m.size + max 1 m.al := by
  unfold modF at h
  by_cases h1 : Pop.pop (max 1 m.al) ≠ 1 ∨ 4096 < max 1 m.al ∨ m.size < m.il ∨ 1048576 < m.size
  · rw [if_pos h1] at h; cases h
  · rw [if_neg h1] at h
    have hA : 1 ≤ max 1 m.al := Nat.le_max_left _ _
    obtain ⟨A, hAe⟩ : ∃ A, max 1 m.al = A := ⟨_, rfl⟩
    rw [hAe] at h h1 hA ⊢
    obtain ⟨z, hz⟩ : ∃ z, x + m.size = z := ⟨_, rfl⟩
    rw [hz] at h ⊢
    obtain ⟨q, hq⟩ : ∃ q, (z + (A - 1)) / A = q := ⟨_, rfl⟩
    rw [hq] at h
    have h3 := Nat.div_add_mod (z + (A - 1)) A
    have h4 := Nat.mod_lt (z + (A - 1)) (show A > 0 by omega)
    rw [hq, Nat.mul_comm] at h3
    by_cases h2 : 1048576 < q * A
    · rw [if_pos h2] at h; cases h
    · rw [if_neg h2] at h
      obtain rfl := Option.some.inj h
      refine ⟨by omega, by omega, by omega, by omega, Nat.mul_mod_left _ _, by omega, by omega⟩
theorem lay_cons {m : Md} {r : List Md} {x mo : Nat} {t : List Nat × Nat × Nat} (h : layF (m :: r) x mo = some t) : ∃ y ys last most, modF m x = some y ∧ layF r y (max mo (max 1 m.al)) = some (ys, last, most) ∧ t = (y :: ys, last, most) := by
  rw [layF] at h
  cases hm : modF m x with
  | none => rw [hm] at h; cases h
  | some y =>
    rw [hm] at h
    simp only at h
    cases hr : layF r y (max mo (max 1 m.al)) with
    | none => rw [hr] at h; cases h
    | some t' =>
      obtain ⟨ys, last, most⟩ := t'
      rw [hr] at h
      exact ⟨y, ys, last, most, rfl, hr, (Option.some.inj h).symm⟩
theorem lay_length : ∀ {l : List Md} {x mo : Nat} {ys : List Nat} {last most : Nat}, layF l x mo = some (ys, last, most) → ys.length = l.length
  | [], x, mo, ys, last, most, h => by
    simp only [layF, Option.some.injEq, Prod.mk.injEq] at h
    rw [← h.1]; rfl
  | m :: r, x, mo, ys, last, most, h => by
    obtain ⟨y, ys', last', most', -, h2, h3⟩ := lay_cons h
    simp only [Prod.mk.injEq] at h3
    rw [h3.1, List.length_cons, List.length_cons, lay_length h2]
theorem lay_last : ∀ {l : List Md} {x mo : Nat} {ys : List Nat} {last most : Nat}, layF l x mo = some (ys, last, most) → last = (x :: ys).getD l.length 0
  | [], x, mo, ys, last, most, h => by
    simp only [layF, Option.some.injEq, Prod.mk.injEq] at h
    rw [← h.2.1]; rfl
  | m :: r, x, mo, ys, last, most, h => by
    obtain ⟨y, ys', last', most', -, h2, h3⟩ := lay_cons h
    simp only [Prod.mk.injEq] at h3
    obtain ⟨rfl, rfl, rfl⟩ := h3
    rw [lay_last h2]
    rfl
theorem max_pow (i j : Nat) : ∃ k, max (2 ^ i) (2 ^ j) = 2 ^ k ∧ i ≤ k ∧ j ≤ k := by
  by_cases h : i ≤ j
  · exact ⟨j, Nat.max_eq_right (Nat.pow_le_pow_right (by omega) h), h, Nat.le_refl _⟩
  · exact ⟨i, Nat.max_eq_left (Nat.pow_le_pow_right (by omega) (by omega)), Nat.le_refl _, by omega⟩
theorem mod_pow {i j : Nat} (h : i ≤ j) : 2 ^ j % 2 ^ i = 0 := Nat.mod_eq_zero_of_dvd (Nat.pow_dvd_pow 2 h)
/-- the greatest alignment is a power of two, no less than what it began as, and than each module's -/
theorem lay_most : ∀ {l : List Md} {x : Nat} {ys : List Nat} {last most i : Nat}, layF l x (2 ^ i) = some (ys, last, most) → ∃ j, most = 2 ^ j ∧ i ≤ j ∧ ∀ m ∈ l, ∃ k, max 1 m.al = 2 ^ k ∧ k ≤ j
  | [], x, ys, last, most, i, h => by
    simp only [layF, Option.some.injEq, Prod.mk.injEq] at h
    exact ⟨i, h.2.2.symm, Nat.le_refl _, fun m hm => by cases hm⟩
  | m :: r, x, ys, last, most, i, h => by
    obtain ⟨y, ys', last', most', h1, h2, h3⟩ := lay_cons h
    simp only [Prod.mk.injEq] at h3
    obtain ⟨rfl, rfl, rfl⟩ := h3
    obtain ⟨h4, h5, -⟩ := modF_some h1
    obtain ⟨k, -, hk⟩ := pow_of (by omega) h4
    obtain ⟨k', hk', ha, hb⟩ := max_pow i k
    rw [hk, hk'] at h2
    obtain ⟨j, e, hj, hall⟩ := lay_most h2
    refine ⟨j, e, by omega, fun m' hm' => ?_⟩
    rcases List.mem_cons.1 hm' with rfl | hm'
    · exact ⟨k, hk, by omega⟩
    · exact hall m' hm'
/-- each module's offset -/
theorem lay_at : ∀ {l : List Md} {x mo : Nat} {ys : List Nat} {last most : Nat}, layF l x mo = some (ys, last, most) → x ≤ 1048576 → ∀ k (hk : k < l.length), ∃ y, ys[k]? = some y ∧ y % max 1 l[k].al = 0 ∧ (x :: ys).getD k 0 + l[k].size ≤ y ∧ y < (x :: ys).getD k 0 + l[k].size + max 1 l[k].al ∧ max 1 l[k].al ≤ 4096 ∧ l[k].size ≤ 1048576 ∧ y ≤ 1048576 ∧ (x :: ys).getD k 0 ≤ 1048576
  | [], x, mo, ys, last, most, h, _, k, hk => absurd hk (by simp)
  | m :: r, x, mo, ys, last, most, h, hx, k, hk => by
    obtain ⟨y, ys', last', most', h1, h2, h3⟩ := lay_cons h
    simp only [Prod.mk.injEq] at h3
    obtain ⟨rfl, rfl, rfl⟩ := h3
    obtain ⟨h4, h5, h6, h7, h8, h9, h10⟩ := modF_some h1
    cases k with
    | zero => exact ⟨y, rfl, h8, h9, h10, h5, h6, h7, hx⟩
    | succ k =>
      obtain ⟨y', g1, g2, g3, g4, g5, g6, g7, g8⟩ := lay_at h2 h7 k (by simpa using hk)
      exact ⟨y', by simpa using g1, g2, g3, g4, g5, g6, g7, g8⟩
/-- what lies ahead lies the same without what comes behind -/
theorem lay_take : ∀ {l : List Md} {x mo : Nat} {ys : List Nat} {last most : Nat}, layF l x mo = some (ys, last, most) → ∀ k, ∃ a b, layF (l.take k) x mo = some (ys.take k, a, b)
  | [], x, mo, ys, last, most, h, k => by
    simp only [layF, Option.some.injEq, Prod.mk.injEq] at h
    obtain ⟨rfl, rfl, rfl⟩ := h
    exact ⟨x, mo, by simp [layF]⟩
  | m :: r, x, mo, ys, last, most, h, 0 => ⟨x, mo, by simp [layF]⟩
  | m :: r, x, mo, ys, last, most, h, k + 1 => by
    obtain ⟨y, ys', last', most', h1, h2, h3⟩ := lay_cons h
    simp only [Prod.mk.injEq] at h3
    obtain ⟨rfl, rfl, rfl⟩ := h3
    obtain ⟨a, b, h4⟩ := lay_take h2 k
    refine ⟨a, b, ?_⟩
    rw [List.take_succ_cons, layF, h1]
    simp only [h4, Option.map_some, List.take_succ_cons]
end Go.Proofs.Ytbppajfpjhmcgaa
