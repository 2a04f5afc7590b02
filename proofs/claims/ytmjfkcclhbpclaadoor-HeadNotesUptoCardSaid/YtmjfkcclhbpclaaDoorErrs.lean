/- What the errors of package api are as values, and that their numbers are told (shacklelaw00.Code). -/
import Derived.Test.YtmjfkcclhbpclaaDoorBase
import Derived.LaidEql
namespace Go.Proofs.YtmjfkcclhbpclaaDoor
open Go.RowKit

/-- An error that is a Code of api itself; 0: none. -/
def errV (n : Int) : Value := if n = 0 then .nilIface else .iface 38 (.int .i64 n)

theorem run_equalIn_iface_int {P : Program} (w : World) (d : Nat) {ti tn : TypeId} {ms : Array (String × TypeId)} {i : TypeInfo} {k : IntKind} (a b : Int)
    (hi : P.underlying ti = some (.interface ms)) (hn : P.underlying tn = some (.int k)) (hinfo : P.info? tn = some i) (hcomp : i.comparable = true) :
    (Op.equalIn (d + 2) ti (.iface tn (.int k a)) (.iface tn (.int k b))).run P w = .ok (a == b) w := by
  simp [Op.equalIn, run_underlying hi, run_underlying hn, typeInfo, hinfo, hcomp]

theorem run_eql_iface_int {P : Program} (w : World) {ti tn : TypeId} {ms : Array (String × TypeId)} {i : TypeInfo} {k : IntKind} (a b : Int)
    (hi : P.underlying ti = some (.interface ms)) (hn : P.underlying tn = some (.int k)) (hinfo : P.info? tn = some i) (hcomp : i.comparable = true) :
    (binOp .eql ti (.iface tn (.int k a)) (.iface tn (.int k b))).run P w = .ok (.bool (a == b)) w := by
  simp only [binOp]
  simp [Op.equal, Op.maxDepth, run_equalIn_iface_int w 9998 a b hi hn hinfo hcomp]

theorem codeInfo : (Tryd.prog.info? 38).map (·.comparable) = some true := by kernel_rfl

theorem run_eql_code (a b : Int) : ∀ w, (binOp .eql 29 (.iface 38 (.int .i64 a)) (.iface 38 (.int .i64 b))).run Tryd.prog w = .ok (.bool (a == b)) w := by
  intro w
  obtain ⟨i, hi, hc⟩ := Option.map_eq_some_iff.1 codeInfo
  exact run_eql_iface_int w a b Tryd.underlying29 Tryd.underlying38 hi hc

theorem run_neq_iface_int {P : Program} (w : World) {ti tn : TypeId} {ms : Array (String × TypeId)} {i : TypeInfo} {k : IntKind} (a b : Int)
    (hi : P.underlying ti = some (.interface ms)) (hn : P.underlying tn = some (.int k)) (hinfo : P.info? tn = some i) (hcomp : i.comparable = true) :
    (binOp .neq ti (.iface tn (.int k a)) (.iface tn (.int k b))).run P w = .ok (.bool (a != b)) w := by
  simp only [binOp]
  simp [Op.equal, Op.maxDepth, run_equalIn_iface_int w 9998 a b hi hn hinfo hcomp]
  cases h : (a == b) <;> simp [bne, h]
theorem run_neq_code (a b : Int) : ∀ w, (binOp .neq 29 (.iface 38 (.int .i64 a)) (.iface 38 (.int .i64 b))).run Tryd.prog w = .ok (.bool (a != b)) w := by
  intro w
  obtain ⟨i, hi, hc⟩ := Option.map_eq_some_iff.1 codeInfo
  exact run_neq_iface_int w a b Tryd.underlying29 Tryd.underlying38 hi hc


set_option maxHeartbeats 1000000 in
theorem further_code (n : Nat) (w : World) (h : n < 15) :
    Calls Tryd.prog 55 #[.iface 38 (.int .i64 ((n : Int) + 16))] w fun e w' => e = .returned (.int .i64 ((n : Int) + 16)) ∧ w = w' := by
  have he := run_eql_code
  match n, h with
  | 0, _ | 1, _ | 2, _ | 3, _ | 4, _ | 5, _ | 6, _ | 7, _ | 8, _ | 9, _ | 10, _ | 11, _ | 12, _ | 13, _ | 14, _ =>
    go_enter Tryd.func55, Tryd.ntmps55
    go_wp2
    go_ret
    exact ⟨rfl, rfl⟩

set_option maxHeartbeats 4000000 in
theorem code_near (n : Nat) (w : World) (h : n < 15) :
    Calls Tryd.prog 34 #[.iface 38 (.int .i64 ((n : Int) + 1))] w fun e w' => e = .returned (.int .i64 ((n : Int) + 1)) ∧ w = w' := by
  have he := run_eql_code
  match n, h with
  | 0, _ | 1, _ | 2, _ | 3, _ | 4, _ | 5, _ | 6, _ | 7, _ | 8, _ | 9, _ | 10, _ | 11, _ | 12, _ | 13, _ | 14, _ =>
    go_enter Tryd.func34, Tryd.ntmps34
    go_wp2
    go_ret
    exact ⟨rfl, rfl⟩

set_option maxHeartbeats 4000000 in
theorem code_far (n : Nat) (w : World) (h : n < 15) :
    Calls Tryd.prog 34 #[.iface 38 (.int .i64 ((n : Int) + 16))] w fun e w' => e = .returned (.int .i64 ((n : Int) + 16)) ∧ w = w' := by
  have he := run_eql_code
  have hf := Lib.hid (further_code n w h)
  have hn : (0 : Int) ≤ (n : Int) := by omega
  have h1 : ∀ k : Int, k < 16 → ((n : Int) + 16 == k) = false := fun k hk => by rw [beq_eq_false_iff_ne]; omega
  have a1 := h1 1 (by omega); have a2 := h1 2 (by omega); have a3 := h1 3 (by omega); have a4 := h1 4 (by omega); have a5 := h1 5 (by omega)
  have a6 := h1 6 (by omega); have a7 := h1 7 (by omega); have a8 := h1 8 (by omega); have a9 := h1 9 (by omega); have a10 := h1 10 (by omega)
  have a11 := h1 11 (by omega); have a12 := h1 12 (by omega); have a13 := h1 13 (by omega); have a14 := h1 14 (by omega); have a15 := h1 15 (by omega)
  clear h1
  go_enter Tryd.func34, Tryd.ntmps34
  go_wp2_with (go_at_call 55; refine (Hid.out hf).mono ?_; rintro e w' ⟨rfl, rfl⟩)
  go_ret
  exact ⟨rfl, rfl⟩

theorem code_nil (w : World) :
    Calls Tryd.prog 34 #[.nilIface] w fun e w' => e = .returned (.int .i64 0) ∧ w = w' := by
  go_enter Tryd.func34, Tryd.ntmps34
  go_wp2
  go_ret
  exact ⟨rfl, rfl⟩

theorem code_any (n : Int) (w : World) (h0 : 0 ≤ n) (h : n ≤ 30) :
    Calls Tryd.prog 34 #[errV n] w fun e w' => e = .returned (.int .i64 n) ∧ w = w' := by
  unfold errV
  by_cases h1 : n = 0
  · subst h1; simpa using code_nil w
  · rw [if_neg h1]
    by_cases h2 : n < 16
    · have := code_near (n - 1).toNat w (by omega)
      rw [show (((n - 1).toNat : Nat) : Int) + 1 = n from by omega] at this
      exact this
    · have := code_far (n - 16).toNat w (by omega)
      rw [show (((n - 16).toNat : Nat) : Int) + 16 = n from by omega] at this
      exact this

end Go.Proofs.YtmjfkcclhbpclaaDoor
