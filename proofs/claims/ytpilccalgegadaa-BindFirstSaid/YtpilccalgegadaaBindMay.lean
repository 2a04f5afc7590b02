/- Layer 17: whether a symbol may be bound, of whatever symbol. -/
import Derived.Test.YtpilccalgegadaaKit
namespace Go.Proofs.Ytpilccalgegadaa
open Go.RowKit
set_option linter.unusedVariables false
set_option linter.unusedSimpArgs false

/-- of the kinds that may be bound -/
def kindF (ty : Int) : Bool := ty == 0 || ty == 1 || ty == 2 || ty == 6 || ty == 10
def bindF (bi ty vi se va : Int) : Bool := kindF ty && ((ty == 6 || se == 65521 || va != 0) && se != 0 && (bi == 1 || bi == 2) && (vi == 0 || vi == 3))

set_option maxRecDepth 100000 in
set_option maxHeartbeats 16000000 in
theorem mayBind_no (name : ByteArray) (bi ty vi se va sz : Int) (w : World) (h : kindF ty = false) :
    Calls Try.prog 12 #[.agg #[.string name, .int .i64 bi, .int .i64 ty, .int .i64 vi, .int .i64 se, .int .u64 va, .int .u64 sz]] w fun e w' => e = .returned (.bool false) ∧ Below w.heap.size w w' := by
  have HB : Hid (Below w.heap.size w (w.alloc (.cells #[.string name, .int .i64 bi, .int .i64 ty, .int .i64 vi, .int .i64 se, .int .u64 va, .int .u64 sz] 62))) := Lib.hid ((Below.refl _ _).alloc (Nat.le_refl _) _)
  simp only [kindF, Bool.or_eq_false_iff] at h
  obtain ⟨⟨⟨⟨t0, t1⟩, t2⟩, t6⟩, t10⟩ := h
  go_enter Try.func12, Try.ntmps12
  go_wp2_with fail
  go_ret
  exact ⟨rfl, HB.out⟩

set_option maxRecDepth 100000 in
set_option maxHeartbeats 16000000 in
theorem mayBind_off (name : ByteArray) (bi ty vi se va sz : Int) (w : World) (hk : ty = 0 ∨ ty = 1 ∨ ty = 2 ∨ ty = 10) (e1 : (se == 65521) = false) (e2 : (va != 0) = false) :
    Calls Try.prog 12 #[.agg #[.string name, .int .i64 bi, .int .i64 ty, .int .i64 vi, .int .i64 se, .int .u64 va, .int .u64 sz]] w fun e w' => e = .returned (.bool false) ∧ Below w.heap.size w w' := by
  have HB : Hid (Below w.heap.size w (w.alloc (.cells #[.string name, .int .i64 bi, .int .i64 ty, .int .i64 vi, .int .i64 se, .int .u64 va, .int .u64 sz] 62))) := Lib.hid ((Below.refl _ _).alloc (Nat.le_refl _) _)
  go_enter Try.func12, Try.ntmps12
  rcases hk with rfl | rfl | rfl | rfl
  all_goals
    go_wp2_with fail
    go_ret
    exact ⟨rfl, HB.out⟩

set_option maxRecDepth 100000 in
set_option maxHeartbeats 16000000 in
theorem mayBind_on (name : ByteArray) (bi ty vi se va sz : Int) (w : World) (hk : ty = 6 ∨ ((ty = 0 ∨ ty = 1 ∨ ty = 2 ∨ ty = 10) ∧ ((se == 65521) = true ∨ ((se == 65521) = false ∧ (va != 0) = true)))) :
    Calls Try.prog 12 #[.agg #[.string name, .int .i64 bi, .int .i64 ty, .int .i64 vi, .int .i64 se, .int .u64 va, .int .u64 sz]] w fun e w' => e = .returned (.bool (se != 0 && (bi == 1 || bi == 2) && (vi == 0 || vi == 3))) ∧ Below w.heap.size w w' := by
  have HB : Hid (Below w.heap.size w (w.alloc (.cells #[.string name, .int .i64 bi, .int .i64 ty, .int .i64 vi, .int .i64 se, .int .u64 va, .int .u64 sz] 62))) := Lib.hid ((Below.refl _ _).alloc (Nat.le_refl _) _)
  obtain ⟨q3, e3⟩ : ∃ b, (se != 0) = b := ⟨_, rfl⟩
  obtain ⟨q4, e4⟩ : ∃ b, (bi == 1) = b := ⟨_, rfl⟩
  obtain ⟨q5, e5⟩ : ∃ b, (bi == 2) = b := ⟨_, rfl⟩
  obtain ⟨q6, e6⟩ : ∃ b, (vi == 0) = b := ⟨_, rfl⟩
  obtain ⟨q7, e7⟩ : ∃ b, (vi == 3) = b := ⟨_, rfl⟩
  rw [e3, e4, e5, e6, e7]
  obtain ⟨R, hR⟩ : ∃ R : Bool, (q3 && (q4 || q5) && (q6 || q7)) = R := ⟨_, rfl⟩
  rw [hR]
  have HR := Lib.hid hR
  clear hR
  have hq : q3 = false ∨ (q3 = true ∧ q4 = false ∧ q5 = false) ∨ (q3 = true ∧ q4 = true ∧ q6 = true) ∨ (q3 = true ∧ q4 = true ∧ q6 = false ∧ q7 = true) ∨ (q3 = true ∧ q4 = true ∧ q6 = false ∧ q7 = false) ∨ (q3 = true ∧ q4 = false ∧ q5 = true ∧ q6 = true) ∨ (q3 = true ∧ q4 = false ∧ q5 = true ∧ q6 = false ∧ q7 = true) ∨ (q3 = true ∧ q4 = false ∧ q5 = true ∧ q6 = false ∧ q7 = false) := by
    cases q3 <;> cases q4 <;> cases q5 <;> cases q6 <;> cases q7 <;> simp
  go_enter Try.func12, Try.ntmps12
  rcases hk with rfl | ⟨rfl | rfl | rfl | rfl, e1 | ⟨e1, e2⟩⟩
  all_goals
    rcases hq with rfl | ⟨rfl, rfl, rfl⟩ | ⟨rfl, rfl, rfl⟩ | ⟨rfl, rfl, rfl, rfl⟩ | ⟨rfl, rfl, rfl, rfl⟩ | ⟨rfl, rfl, rfl, rfl⟩ | ⟨rfl, rfl, rfl, rfl, rfl⟩ | ⟨rfl, rfl, rfl, rfl, rfl⟩
  all_goals
    go_wp2_with fail
    go_ret
    exact ⟨by rw [← HR.out]; simp, HB.out⟩

theorem mayBind_any (name : ByteArray) (bi ty vi se va sz : Int) (w : World) :
    Calls Try.prog 12 #[.agg #[.string name, .int .i64 bi, .int .i64 ty, .int .i64 vi, .int .i64 se, .int .u64 va, .int .u64 sz]] w fun e w' => e = .returned (.bool (bindF bi ty vi se va)) ∧ Below w.heap.size w w' := by
  by_cases h : kindF ty = true
  · have hk : ty = 6 ∨ (ty = 0 ∨ ty = 1 ∨ ty = 2 ∨ ty = 10) := by
      simp only [kindF, Bool.or_eq_true, beq_iff_eq] at h
      omega
    by_cases h6 : ty = 6
    · rw [show bindF bi ty vi se va = (se != 0 && (bi == 1 || bi == 2) && (vi == 0 || vi == 3)) by unfold bindF; rw [h, h6]; simp]
      exact mayBind_on name bi ty vi se va sz w (.inl h6)
    · have hk2 := hk.resolve_left h6
      have h6b : (ty == 6) = false := beq_eq_false_iff_ne.2 h6
      by_cases h1 : (se == 65521) = true
      · rw [show bindF bi ty vi se va = (se != 0 && (bi == 1 || bi == 2) && (vi == 0 || vi == 3)) by unfold bindF; rw [h, h1]; simp]
        exact mayBind_on name bi ty vi se va sz w (.inr ⟨hk2, .inl h1⟩)
      · have h1' : (se == 65521) = false := by simpa using h1
        by_cases h2 : (va != 0) = true
        · rw [show bindF bi ty vi se va = (se != 0 && (bi == 1 || bi == 2) && (vi == 0 || vi == 3)) by unfold bindF; rw [h, h2]; simp]
          exact mayBind_on name bi ty vi se va sz w (.inr ⟨hk2, .inr ⟨h1', h2⟩⟩)
        · have h2' : (va != 0) = false := by simpa using h2
          rw [show bindF bi ty vi se va = false by unfold bindF; rw [h, h6b, h1', h2']; simp]
          exact mayBind_off name bi ty vi se va sz w hk2 h1' h2'
  · have h' : kindF ty = false := by simpa using h
    rw [show bindF bi ty vi se va = false by unfold bindF; rw [h']; simp]
    exact mayBind_no name bi ty vi se va sz w h'
end Go.Proofs.Ytpilccalgegadaa
