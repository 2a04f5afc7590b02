/- Layer 1: a number read out of bytes. -/
import Derived.Test.YtmjfkcclhbpclaaDoorHSpan
namespace Go.Proofs.YtmjfkcclhbpclaaDoor
open Go.RowKit
set_option linter.unusedVariables false
set_option linter.unusedSimpArgs false

/-- the number that bytes are, the lowest first -/
def leval : List Int → Int
  | [] => 0
  | b :: t => b + 256 * leval t

theorem leval_snoc (xs : List Int) (b : Int) : leval (xs ++ [b]) = leval xs + b * 2 ^ (8 * xs.length) := by
  induction xs with
  | nil => simp [leval]
  | cons x xs ih =>
    simp only [List.cons_append, leval, ih, List.length_cons]
    rw [show 8 * (xs.length + 1) = 8 * xs.length + 8 from by omega, Int.pow_add]
    generalize (2 : Int) ^ (8 * xs.length) = p
    simp only [Int.mul_add]
    rw [show (2 : Int) ^ 8 = 256 from rfl]
    have : 256 * (b * p) = b * (p * 256) := by rw [← Int.mul_assoc, Int.mul_comm 256 b, Int.mul_assoc, Int.mul_comm 256 p]
    omega

theorem leval_bounds (xs : List Int) (h : Bytes xs) : 0 ≤ leval xs ∧ leval xs < 2 ^ (8 * xs.length) := by
  induction xs with
  | nil => simp [leval]
  | cons x xs ih =>
    have hx := h x (by simp)
    have := ih (fun y hy => h y (by simp [hy]))
    simp only [leval, List.length_cons]
    rw [show 8 * (xs.length + 1) = 8 * xs.length + 8 from by omega, Int.pow_add, show (2 : Int) ^ 8 = 256 from rfl]
    generalize (2 : Int) ^ (8 * xs.length) = p at *
    omega

theorem take_snoc (xs : List Int) (k : Nat) (h : k < xs.length) : xs.take (k + 1) = xs.take k ++ [xs[k]] := List.take_succ_eq_append_getElem h

theorem pow_le64 (j : Nat) (h : j ≤ 8) : (2 : Int) ^ (8 * j) ≤ 18446744073709551616 := by
  match j, h with
  | 0, _ | 1, _ | 2, _ | 3, _ | 4, _ | 5, _ | 6, _ | 7, _ | 8, _ => decide

/-- one round of Get: the byte's bits stand above all that was read -/
theorem or_step (t c : Int) (k : Nat) (hk : k < 8) (ht0 : 0 ≤ t) (ht : t < 2 ^ (8 * k)) (hc0 : 0 ≤ c) (hc : c < 256) :
    IntKind.u64.wrap (c * 2 ^ (8 * k)) = c * 2 ^ (8 * k) ∧ bits .or .u64 t (c * 2 ^ (8 * k)) = t + c * 2 ^ (8 * k) := by
  have hp := pow_le64 (k + 1) (by omega)
  rw [show 8 * (k + 1) = 8 * k + 8 from by omega, Int.pow_add, show (2 : Int) ^ 8 = 256 from rfl] at hp
  have e2 : (2 : Int) ^ (8 * k) = ((2 ^ (8 * k) : Nat) : Int) := by simp
  obtain ⟨T, rfl⟩ := Int.eq_ofNat_of_zero_le ht0
  obtain ⟨C, rfl⟩ := Int.eq_ofNat_of_zero_le hc0
  have hm : (C : Int) * 2 ^ (8 * k) = ((2 ^ (8 * k) * C : Nat) : Int) := by push_cast; rw [Int.mul_comm]
  have hb : 2 ^ (8 * k) * C < 18446744073709551616 := by
    have h1 : 2 ^ (8 * k) * C ≤ 2 ^ (8 * k) * 255 := Nat.mul_le_mul_left _ (by omega)
    rw [e2] at hp
    have : (1 : Nat) ≤ 2 ^ (8 * k) := Nat.one_le_two_pow
    omega
  rw [hm]
  refine ⟨by rw [IntKind.wrap_u64]; omega, ?_⟩
  have hT : T < 2 ^ (8 * k) := by rw [e2] at ht; omega
  have hT2 : T < 18446744073709551616 := by rw [e2] at hp; omega
  rw [u64_or_nat T _ hT2 hb, Nat.or_comm, nat_join (8 * k) _ T (by simp) hT]
  omega

set_option maxHeartbeats 1000000 in
theorem get_yes (a : Option Addr) (cap : Nat) (xs : List Int) (off n : Nat) (w : World) (h : Row .u8 w a xs) (hby : Bytes xs) (hl : xs.length ≤ 140737488351232) (hn : a = none → xs.length = 0 ∧ cap = 0) (hc : xs.length ≤ cap)
    (hw : wide n = true) (h1 : off ≤ xs.length) (h2 : n ≤ xs.length - off) :
    Calls Tryd.prog 68 #[.slice a xs.length cap, .int .u64 off, .int .i64 n] w fun e w' => e = .returned (.tuple #[.int .u64 (leval (cutOf xs off n)), .nilIface]) ∧ Below w.heap.size w w' := by
  have hg := Lib.hid (greatest_any (n : Int) w)
  rw [hw] at hg
  have hcut := Lib.hid (cut_yes a cap xs off n w h hl hn hc h1 h2)
  have hn8 : n ≤ 8 := by simp [wide] at hw; omega
  have hcb : Bytes (cutOf xs off n) := fun y hy => hby y (List.mem_of_mem_drop (List.mem_of_mem_take hy))
  have hcl := cutOf_length (off := off) h2
  have HW := Lib.hid hw; clear hw h hn hby
  generalize cutOf xs off n = ys at *
  have HL := Lib.hid hcl; clear hcl
  have HB := Lib.hid hcb; clear hcb
  go_enter Tryd.func68, Tryd.ntmps68
  go_wp2_with (first
    | (go_at_call 84; refine (Hid.out hg).mono ?_; rintro e w' ⟨rfl, rfl⟩)
    | (go_at_call 29; refine (Hid.out hcut).mono ?_; rintro e w1 ⟨v, rfl, ho, hb⟩; obtain ⟨hlen, a', c', rfl, hr, -⟩ := own_row ho; have HR := Lib.hid hr; have HLL := Lib.hid hlen; clear hr hlen ho))
  have hyl : ys.length ≤ 8 := by have := HL.out; omega
  go_loop [12, 36] (fun v i => ∃ (k : Nat) (t : Int), k ≤ ys.length ∧ i = .int .i64 k ∧ v = .int .u64 t ∧ Hid (t = leval (ys.take k))) (fun _ i => ys.length - (intOf i).toNat)
  case atStart => exact ⟨0, 0, Nat.zero_le _, rfl, rfl, Lib.hid (by simp [leval])⟩
  case round =>
    obtain ⟨k, t, hk, rfl, rfl, ht⟩ := hrel
    by_cases hlt : k < ys.length
    · obtain ⟨b, o, rfl, hck⟩ := HR.out k hlt
      have hm := HB.out ys[k] (List.getElem_mem hlt)
      obtain ⟨m1, m2⟩ := hm
      have hbd := leval_bounds (ys.take k) (fun y hy => HB.out y (List.mem_of_mem_take hy))
      rw [← ht.out, show (ys.take k).length = k from by simp; omega] at hbd
      obtain ⟨w1e, w2e⟩ := or_step t ys[k] k (by omega) hbd.1 hbd.2 m1 m2
      have HS := Lib.hid (show leval (ys.take (k + 1)) = t + ys[k] * 2 ^ (8 * k) from by
        rw [take_snoc ys k hlt, leval_snoc, ht.out]; simp [show min k ys.length = k from by omega])
      clear hbd
      go_wp2
      go_round
      case rel => exact ⟨k + 1, _, by omega, by go_num, rfl, Lib.hid HS.out.symm⟩
      case measure => simp [intOf]; omega
    · have hk' : k = ys.length := by omega
      have HK := Lib.hid hk'; clear hk'
      go_wp2
      go_ret2
      exact ⟨ret2 (vint (by rw [ht.out, HK.out, List.take_length])) rfl, hb⟩

theorem get_width (a : Option Addr) (cap len : Nat) (off n : Int) (w : World) (hw : wide n = false) :
    Calls Tryd.prog 68 #[.slice a len cap, .int .u64 off, .int .i64 n] w fun e w' => e = .returned (.tuple #[.int .u64 0, errV 1]) ∧ w = w' := by
  have hg := Lib.hid (greatest_any n w)
  rw [hw] at hg
  clear hw
  go_enter Tryd.func68, Tryd.ntmps68
  go_wp2_with (first
    | (go_at_call 84; refine (Hid.out hg).mono ?_; rintro e w' ⟨rfl, rfl⟩))
  go_ret2
  exact ⟨ret2 rfl rfl, rfl⟩

theorem get_range (a : Option Addr) (cap : Nat) (xs : List Int) (off n : Nat) (w : World) (hl : xs.length ≤ 140737488351232) (ho : off < 18446744073709551616)
    (hw : wide n = true) (h1 : ¬ (off ≤ xs.length ∧ n ≤ xs.length - off)) :
    Calls Tryd.prog 68 #[.slice a xs.length cap, .int .u64 off, .int .i64 n] w fun e w' => e = .returned (.tuple #[.int .u64 0, spotV w]) ∧ spotW w off 4 = w' := by
  have hg := Lib.hid (greatest_any (n : Int) w)
  rw [hw] at hg
  have hn8 : n ≤ 8 := by simp [wide] at hw; omega
  have hcut := Lib.hid (cut_no a cap xs off n w hl ho (by omega) h1)
  unfold spotV at hcut
  clear hw h1
  go_enter Tryd.func68, Tryd.ntmps68
  go_wp2_with (first
    | (go_at_call 84; refine (Hid.out hg).mono ?_; rintro e w' ⟨rfl, rfl⟩)
    | (go_at_call 29; refine (Hid.out hcut).mono ?_; rintro e w' ⟨rfl, rfl⟩))
  go_ret2
  exact ⟨ret2 rfl rfl, rfl⟩
end Go.Proofs.YtmjfkcclhbpclaaDoor
