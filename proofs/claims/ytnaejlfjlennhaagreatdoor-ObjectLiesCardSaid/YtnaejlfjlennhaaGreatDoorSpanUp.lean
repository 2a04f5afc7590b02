/- Layer 1, the functions on numbers: sums, products, widths. -/
import Derived.Test.YtnaejlfjlennhaaGreatDoorErrs
import Derived.Test.YtnaejlfjlennhaaGreatDoorLittle
import Derived.Test.YtnaejlfjlennhaaGreatDoorShelf
import Derived.BigQuiet
import Derived.Deep.QuietTactic
import Derived.Laws.BitsAllLaws
namespace Go.Proofs.YtnaejlfjlennhaaGreatDoor
open Go.RowKit

def sumF (xs : List Int) : Int × Bool := if xs.sum < M64 then (xs.sum, true) else (0, false)
def over (b : Bool) : Int := if b then 0 else 28
theorem over_yes : over true = 0 := rfl
theorem over_no : over false = 28 := rfl
theorem sumF_yes {xs : List Int} (h : xs.sum < M64) : sumF xs = (xs.sum, true) := if_pos h
theorem sumF_no {xs : List Int} (h : ¬ xs.sum < M64) : sumF xs = (0, false) := if_neg h










































theorem add64 (x y c : Int) (hx : 0 ≤ x) (hy : 0 ≤ y) (hc0 : 0 ≤ c) (hc : c ≤ 1) (w : World) :
    (callFunc 100 #[.int .u64 x, .int .u64 y, .int .u64 c]).run Tryz.prog w = .ok (.value (.tuple #[.int .u64 ((x + y + c) % 18446744073709551616), .int .u64 ((x + y + c) / 18446744073709551616)])) w := by
  rw [run_callFunc_extern Tryz.func100 (by kernel_rfl) (by kernel_rfl) (by kernel_rfl) (e := add64Entry) (by kernel_rfl), run_add64 x y c hx hy hc0 hc]
  rfl
theorem add64_fits (x y : Int) (hx : 0 ≤ x) (hy : 0 ≤ y) (h : x + y < M64) (w : World) :
    (callFunc 100 #[.int .u64 x, .int .u64 y, .int .u64 0]).run Tryz.prog w = .ok (.value (.tuple #[.int .u64 (x + y), .int .u64 0])) w := by
  rw [M64_eq] at h
  rw [add64 x y 0 hx hy (by omega) (by omega) w, show (x + y + 0) % 18446744073709551616 = x + y from by omega, show (x + y + 0) / 18446744073709551616 = 0 from by omega]
theorem add64_over (x y : Int) (hx : 0 ≤ x) (hy : 0 ≤ y) (hx' : x < M64) (hy' : y < M64) (h : ¬ x + y < M64) (w : World) :
    (callFunc 100 #[.int .u64 x, .int .u64 y, .int .u64 0]).run Tryz.prog w = .ok (.value (.tuple #[.int .u64 (x + y - M64), .int .u64 1])) w := by
  rw [M64_eq] at *
  rw [add64 x y 0 hx hy (by omega) (by omega) w, show (x + y + 0) % 18446744073709551616 = x + y - (18446744073709551615 + 1) from by omega, show (x + y + 0) / 18446744073709551616 = 1 from by omega]

set_option maxHeartbeats 400000 in
theorem sum_any (a : Option Addr) (cap : Nat) (xs : List Int) (w : World) (h : Row .u64 w a xs) (hx : U64s xs) (hl : xs.length ≤ maxLen) :
    Calls Tryz.prog 74 #[.slice a xs.length cap] w fun e w' => e = .returned (.tuple #[.int .u64 (sumF xs).1, errV (over (sumF xs).2)]) ∧ w = w' := by
  unfold maxLen at hl
  have HX := Lib.hid hx; clear hx
  have HC := Lib.hid h; clear h
  go_enter Tryz.func74, Tryz.ntmps74
  go_wp2
  go_loop [4, 11] (fun s i => ∃ (k : Nat) (t : Int), k ≤ xs.length ∧ i = .int .i64 k ∧ s = .int .u64 t ∧ Hid (t = (xs.take k).sum) ∧ 0 ≤ t ∧ t ≤ 18446744073709551615) (fun _ i => xs.length - (intOf i).toNat)
  case atStart => exact ⟨0, 0, Nat.zero_le _, rfl, rfl, Lib.hid (by simp), by omega, by omega⟩
  case round =>
    obtain ⟨k, t, hk, rfl, rfl, ht, ht0, ht1⟩ := hrel
    by_cases hlt : k < xs.length
    · obtain ⟨b, off, rfl, hck⟩ := HC.out k hlt
      have hm := HX.out xs[k] (List.getElem_mem hlt)
      rw [M64_eq] at hm
      obtain ⟨h1, h2⟩ := hm
      have HS := Lib.hid (take_succ_sum xs k hlt)
      by_cases h3 : t + xs[k] < M64
      · have ha := add64_fits t xs[k] ht0 h1 h3
        have H3 := Lib.hid h3; clear h3
        go_wp2
        go_round
        case rel => exact ⟨k + 1, t + xs[k], by omega, by go_num, by go_num, Lib.hid (by rw [HS.out, ht.out]), by omega, by have := H3.out; rw [M64_eq] at this; omega⟩
        case measure => simp [intOf]; omega
      · have ha := add64_over t xs[k] ht0 h1 (by rw [M64_eq]; omega) (by rw [M64_eq]; omega) h3
        have H3 := Lib.hid h3; clear h3
        go_wp2
        go_ret2
        have h4 : ¬ xs.sum < M64 := by
          have := sum_take_le xs (k + 1) HX.out
          have := HS.out
          have := ht.out
          have := H3.out
          omega
        rw [sumF_no h4]
        exact ⟨ret2 rfl rfl, rfl⟩
    · have hk' : k = xs.length := by omega
      have HK := Lib.hid hk'; clear hk'
      go_wp2
      go_ret2
      have e : t = xs.sum := by rw [ht.out, HK.out, List.take_length]
      have h3 : xs.sum < M64 := by rw [← e, M64_eq]; omega
      rw [sumF_yes h3]
      exact ⟨ret2 (vint e) rfl, rfl⟩
end Go.Proofs.YtnaejlfjlennhaaGreatDoor
/- Layer 1, the functions on bytes that only read (beside the kit of lists): widths, whether bytes lie within others, copies of them. -/
namespace Go.Proofs.YtnaejlfjlennhaaGreatDoor
open Go.RowKit
set_option linter.unusedVariables false
set_option linter.unusedSimpArgs false

/-- what an owned row of numbers says to whoever reads it -/
theorem own_row {w : World} {B : Nat} {T : TypeId} {k : IntKind} {v : Value} {n : Nat} {xs : List Int} (h : w.ownsRow B T 1 v n (xs.map (Value.int k))) :
    n = xs.length ∧ ∃ a cap, v = .slice a xs.length cap ∧ Row k w a xs ∧ xs.length ≤ cap ∧ (∀ b, a = some b → B ≤ b.block ∧ b.block < w.heap.size) := by
  have hl : n = xs.length := by have := h.1; simp at this; omega
  refine ⟨hl, ?_⟩
  subst hl
  obtain ⟨h1, h2⟩ := h
  rcases h2 with ⟨rfl, h0⟩ | ⟨g, cap, cur, rfl, hB, hg, hc, hm, hs, hx⟩
  · exact ⟨none, 0, by rw [h0], fun i hi => by omega, by omega, fun b hb => by cases hb⟩
  · refine ⟨some ⟨g, 0, none⟩, cap, rfl, ?_, hc, ?_⟩
    · intro i hi
      have hown : w.ownsRow B T 1 (.slice (some ⟨g, 0, none⟩) xs.length cap) xs.length (xs.map (Value.int k)) := ⟨h1, .inr ⟨g, cap, cur, rfl, hB, hg, hc, hm, hs, hx⟩⟩
      refine ⟨g, 0, rfl, ?_⟩
      rw [Nat.zero_add, hown.cellAt i (by omega)]
      simp [hi]
    · intro b hb
      simp only [Option.some.injEq] at hb
      subst hb
      exact ⟨hB, lt_of_block hg⟩

def inB (size off n : Nat) : Bool := decide (off ≤ size ∧ n ≤ size - off)
theorem inB_yes {size off n : Nat} (h : off ≤ size) (h' : n ≤ size - off) : inB size off n = true := by simp [inB, h, h']
theorem inB_no {size off n : Nat} (h : ¬ (off ≤ size ∧ n ≤ size - off)) : inB size off n = false := by simp only [inB, h, decide_false]

theorem in_any (size off n : Nat) (w : World) (h0 : size < 18446744073709551616) (h1 : off < 18446744073709551616) (h2 : n < 18446744073709551616) :
    Calls Tryz.prog 69 #[.int .u64 size, .int .u64 off, .int .u64 n] w fun e w' => e = .returned (.bool (inB size off n)) ∧ w = w' := by
  by_cases h : off ≤ size
  · by_cases h' : n ≤ size - off
    · rw [inB_yes h h']
      have h3 : (n : Int) ≤ (size : Int) - (off : Int) := by omega
      go_enter Tryz.func69, Tryz.ntmps69
      go_wp2
      go_ret
      exact ⟨rfl, rfl⟩
    · rw [inB_no (fun q => h' q.2)]
      have h3 : decide ((n : Int) ≤ (size : Int) - (off : Int)) = false := by rw [decide_eq_false_iff_not]; omega
      go_enter Tryz.func69, Tryz.ntmps69
      go_wp2
      go_ret
      exact ⟨rfl, rfl⟩
  · rw [inB_no (fun q => h q.1)]
    have h3 : (size : Int) < (off : Int) := by omega
    go_enter Tryz.func69, Tryz.ntmps69
    go_wp2
    go_ret
    exact ⟨rfl, rfl⟩


/-- may a number have so many bytes? -/
def wide (n : Int) : Bool := decide (n = 1 ∨ n = 2 ∨ n = 4 ∨ n = 8)
theorem wide_cases {n : Int} : (n = 1 ∨ n = 2 ∨ n = 4 ∨ n = 8) ∨ (¬ n = 1 ∧ ¬ n = 2 ∧ ¬ n = 4 ∧ ¬ n = 8) := by omega
def most (n : Int) : Int := if n = 8 then 18446744073709551615 else if n = 4 then 4294967295 else if n = 2 then 65535 else if n = 1 then 255 else 0
























theorem greatest_any (n : Int) (w : World) :
    Calls Tryz.prog 97 #[.int .i64 n] w fun e w' => e = .returned (.tuple #[.int .u64 (most n), .bool (wide n)]) ∧ w = w' := by
  rcases wide_cases (n := n) with (rfl | rfl | rfl | rfl) | ⟨h1, h2, h4, h8⟩
  · go_enter Tryz.func97, Tryz.ntmps97
    go_wp2; go_ret2; exact ⟨rfl, rfl⟩
  · go_enter Tryz.func97, Tryz.ntmps97
    go_wp2; go_ret2; exact ⟨rfl, rfl⟩
  · go_enter Tryz.func97, Tryz.ntmps97
    go_wp2; go_ret2; exact ⟨rfl, rfl⟩
  · go_enter Tryz.func97, Tryz.ntmps97
    go_wp2; go_ret2; exact ⟨rfl, rfl⟩
  · have hw : wide n = false := by simp [wide, h1, h2, h4, h8]
    have hm : most n = 0 := by simp [most, h1, h2, h4, h8]
    rw [hw, hm]
    have b1 : (n == 1) = false := by rw [beq_eq_false_iff_ne]; exact h1
    have b2 : (n == 2) = false := by rw [beq_eq_false_iff_ne]; exact h2
    have b4 : (n == 4) = false := by rw [beq_eq_false_iff_ne]; exact h4
    have b8 : (n == 8) = false := by rw [beq_eq_false_iff_ne]; exact h8
    clear h1 h2 h4 h8 hw hm
    go_enter Tryz.func97, Tryz.ntmps97
    go_wp2; go_ret2; exact ⟨rfl, rfl⟩

theorem Row.drop {k : IntKind} {w : World} {b off : Nat} {xs : List Int} (h : Row k w (some ⟨b, off, none⟩) xs) (o : Nat) : Row k w (some ⟨b, off + o, none⟩) (xs.drop o) := by
  intro i hi
  simp only [List.length_drop] at hi
  obtain ⟨b', off', e, hc⟩ := h (o + i) (by omega)
  simp only [Option.some.injEq, Addr.mk.injEq, and_true] at e
  obtain ⟨rfl, rfl⟩ := e
  refine ⟨b, off + o, rfl, ?_⟩
  rw [Nat.add_assoc, hc]
  simp [List.getD]

theorem Row.take {k : IntKind} {w : World} {a : Option Addr} {xs : List Int} (h : Row k w a xs) (n : Nat) : Row k w a (xs.take n) := by
  intro i hi
  simp only [List.length_take] at hi
  obtain ⟨b, off, rfl, hc⟩ := h i (by omega)
  refine ⟨b, off, rfl, ?_⟩
  rw [hc]
  simp [List.getD, List.getElem?_take, show i < n from by omega]

/-- bytes.Clone, of whatever slice -/
theorem clone_any (a : Option Addr) (n cap : Nat) (xs : List Int) (w : World) (hx : xs.length = n) (h : Row .u8 w a xs) (hl : n ≤ 140737488355328) (hn : a = none → n = 0 ∧ cap = 0) :
    Calls Tryz.prog 9 #[.slice a n cap] w fun e w' => ∃ v, e = .returned v ∧ w'.ownsRow w.heap.size 5 1 v n (xs.map (Value.int .u8)) ∧ Below w.heap.size w w' := by
  subst hx
  cases a with
  | none =>
    obtain ⟨h0, rfl⟩ := hn rfl
    obtain rfl : xs = [] := List.length_eq_zero_iff.1 h0
    refine (Tryz.bytes_Clone_nil 0 0 w).mono ?_
    rintro e w' ⟨rfl, rfl⟩
    exact ⟨_, rfl, World.ownsRow_nil _ _ _ _, Below.refl _ _⟩
  | some a =>
    refine (Tryz.bytes_Clone_at a xs.length cap xs w rfl hl ?_).mono ?_
    · intro i hi
      obtain ⟨b, off, e, hc⟩ := h i hi
      simp only [Option.some.injEq] at e
      subst e
      rw [WideShapes.add_plain]
      exact hc
    · rintro e w' ⟨v, rfl, ho, -, hb⟩
      exact ⟨v, rfl, ho, hb⟩

/-- the world behind a new Spot -/
def spotW (w : World) (off code : Int) : World := w.alloc (.cells #[.int .u64 off, errV code] 73)
def spotV (w : World) : Value := .iface 68 (.pointer (some ⟨w.heap.size, 0, none⟩))


set_option maxHeartbeats 400000 in
theorem cut_yes (a : Option Addr) (cap : Nat) (xs : List Int) (off n : Nat) (w : World) (h : Row .u8 w a xs) (hl : xs.length ≤ 140737488351232) (hn : a = none → xs.length = 0 ∧ cap = 0) (hc : xs.length ≤ cap)
    (h1 : off ≤ xs.length) (h2 : n ≤ xs.length - off) :
    Calls Tryz.prog 98 #[.slice a xs.length cap, .int .u64 off, .int .u64 n] w fun e w' => ∃ v, e = .returned (.tuple #[v, .nilIface]) ∧ w'.ownsRow w.heap.size 5 1 v n ((cutOf xs off n).map (Value.int .u8)) ∧ Below w.heap.size w w' := by
  have hin := Lib.hid (in_any xs.length off n w (by omega) (by omega) (by omega))
  rw [inB_yes h1 h2] at hin
  have h3 : (off : Int) + (n : Int) ≤ (xs.length : Int) := by omega
  by_cases hco : cap = off
  · obtain rfl : n = 0 := by omega
    have hcl := Lib.hid (clone_any a 0 0 [] w rfl (fun i hi => by simp at hi) (by omega) (fun e => ⟨rfl, rfl⟩))
    have e0 : cutOf xs off 0 = [] := by simp [cutOf]
    rw [e0]
    clear h hn e0
    subst hco
    go_enter Tryz.func98, Tryz.ntmps98
    go_wp2_with (first
      | (go_at_call 69; refine (Hid.out hin).mono ?_; rintro e w' ⟨rfl, rfl⟩)
      | (go_at_call 9; refine (Hid.out hcl).mono ?_; rintro e w' ⟨v, rfl, ho, hb⟩))
    go_ret2
    exact ⟨v, rfl, ho, hb⟩
  · have hcl := Lib.hid (clone_any (a.map (·.add off)) n (cap - off) (cutOf xs off n) w (cutOf_length h2) (h.cut off n) (by omega) (fun e => by
      have := hn (by simpa using e)
      omega))
    clear h hn
    go_enter Tryz.func98, Tryz.ntmps98
    go_wp2_with (first
      | (go_at_call 69; refine (Hid.out hin).mono ?_; rintro e w' ⟨rfl, rfl⟩)
      | (go_at_call 9; refine (Hid.out hcl).mono ?_; rintro e w' ⟨v, rfl, ho, hb⟩))
    go_ret2
    exact ⟨v, rfl, ho, hb⟩

set_option maxHeartbeats 400000 in
theorem cut_no (a : Option Addr) (cap : Nat) (xs : List Int) (off n : Nat) (w : World) (hl : xs.length ≤ 140737488351232) (ho : off < 18446744073709551616) (hn : n < 18446744073709551616)
    (h1 : ¬ (off ≤ xs.length ∧ n ≤ xs.length - off)) :
    Calls Tryz.prog 98 #[.slice a xs.length cap, .int .u64 off, .int .u64 n] w fun e w' => e = .returned (.tuple #[.slice none 0 0, spotV w]) ∧ spotW w off 4 = w' := by
  have hin := Lib.hid (in_any xs.length off n w (by omega) (by omega) (by omega))
  rw [inB_no h1] at hin
  clear h1
  go_enter Tryz.func98, Tryz.ntmps98
  go_wp2_with (first
    | (go_at_call 69; refine (Hid.out hin).mono ?_; rintro e w' ⟨rfl, rfl⟩))
  go_ret2
  exact ⟨rfl, rfl⟩

end Go.Proofs.YtnaejlfjlennhaaGreatDoor
/- Layer 1: a number read out of bytes. -/
namespace Go.Proofs.YtnaejlfjlennhaaGreatDoor
open Go.RowKit
set_option linter.unusedVariables false
set_option linter.unusedSimpArgs false

/-- the number that bytes are, the lowest first -/
def leval : List Int → Int
  | [] => 0
  | b :: t => b + 256 * leval t

theorem leval_snoc (xs : List Int) (b : Int) : leval (xs ++ [b]) = leval xs + b * 2 ^ (8 * xs.length) := by
  induction xs with
  | nil => simp [leval]
  | cons x xs ih =>
    simp only [List.cons_append, leval, ih, List.length_cons]
    rw [show 8 * (xs.length + 1) = 8 * xs.length + 8 from by omega, Int.pow_add]
    generalize (2 : Int) ^ (8 * xs.length) = p
    simp only [Int.mul_add]
    rw [show (2 : Int) ^ 8 = 256 from rfl]
    have : 256 * (b * p) = b * (p * 256) := by rw [← Int.mul_assoc, Int.mul_comm 256 b, Int.mul_assoc, Int.mul_comm 256 p]
    omega

theorem leval_bounds (xs : List Int) (h : Bytes xs) : 0 ≤ leval xs ∧ leval xs < 2 ^ (8 * xs.length) := by
  induction xs with
  | nil => simp [leval]
  | cons x xs ih =>
    have hx := h x (by simp)
    have := ih (fun y hy => h y (by simp [hy]))
    simp only [leval, List.length_cons]
    rw [show 8 * (xs.length + 1) = 8 * xs.length + 8 from by omega, Int.pow_add, show (2 : Int) ^ 8 = 256 from rfl]
    generalize (2 : Int) ^ (8 * xs.length) = p at *
    omega

theorem take_snoc (xs : List Int) (k : Nat) (h : k < xs.length) : xs.take (k + 1) = xs.take k ++ [xs[k]] := List.take_succ_eq_append_getElem h

theorem pow_le64 (j : Nat) (h : j ≤ 8) : (2 : Int) ^ (8 * j) ≤ 18446744073709551616 := by
  match j, h with
  | 0, _ | 1, _ | 2, _ | 3, _ | 4, _ | 5, _ | 6, _ | 7, _ | 8, _ => decide

/-- one round of Get: the byte's bits stand above all that was read -/
theorem or_step (t c : Int) (k : Nat) (hk : k < 8) (ht0 : 0 ≤ t) (ht : t < 2 ^ (8 * k)) (hc0 : 0 ≤ c) (hc : c < 256) :
    IntKind.u64.wrap (c * 2 ^ (8 * k)) = c * 2 ^ (8 * k) ∧ bits .or .u64 t (c * 2 ^ (8 * k)) = t + c * 2 ^ (8 * k) := by
  have hp := pow_le64 (k + 1) (by omega)
  rw [show 8 * (k + 1) = 8 * k + 8 from by omega, Int.pow_add, show (2 : Int) ^ 8 = 256 from rfl] at hp
  have e2 : (2 : Int) ^ (8 * k) = ((2 ^ (8 * k) : Nat) : Int) := by simp
  obtain ⟨T, rfl⟩ := Int.eq_ofNat_of_zero_le ht0
  obtain ⟨C, rfl⟩ := Int.eq_ofNat_of_zero_le hc0
  have hm : (C : Int) * 2 ^ (8 * k) = ((2 ^ (8 * k) * C : Nat) : Int) := by push_cast; rw [Int.mul_comm]
  have hb : 2 ^ (8 * k) * C < 18446744073709551616 := by
    have h1 : 2 ^ (8 * k) * C ≤ 2 ^ (8 * k) * 255 := Nat.mul_le_mul_left _ (by omega)
    rw [e2] at hp
    have : (1 : Nat) ≤ 2 ^ (8 * k) := Nat.one_le_two_pow
    omega
  rw [hm]
  refine ⟨by rw [IntKind.wrap_u64]; omega, ?_⟩
  have hT : T < 2 ^ (8 * k) := by rw [e2] at ht; omega
  have hT2 : T < 18446744073709551616 := by rw [e2] at hp; omega
  rw [u64_or_nat T _ hT2 hb, Nat.or_comm, nat_join (8 * k) _ T (by simp) hT]
  omega

set_option maxHeartbeats 1000000 in
theorem get_yes (a : Option Addr) (cap : Nat) (xs : List Int) (off n : Nat) (w : World) (h : Row .u8 w a xs) (hby : Bytes xs) (hl : xs.length ≤ 140737488351232) (hn : a = none → xs.length = 0 ∧ cap = 0) (hc : xs.length ≤ cap)
    (hw : wide n = true) (h1 : off ≤ xs.length) (h2 : n ≤ xs.length - off) :
    Calls Tryz.prog 67 #[.slice a xs.length cap, .int .u64 off, .int .i64 n] w fun e w' => e = .returned (.tuple #[.int .u64 (leval (cutOf xs off n)), .nilIface]) ∧ Below w.heap.size w w' := by
  have hg := Lib.hid (greatest_any (n : Int) w)
  rw [hw] at hg
  have hcut := Lib.hid (cut_yes a cap xs off n w h hl hn hc h1 h2)
  have hn8 : n ≤ 8 := by simp [wide] at hw; omega
  have hcb : Bytes (cutOf xs off n) := fun y hy => hby y (List.mem_of_mem_drop (List.mem_of_mem_take hy))
  have hcl := cutOf_length (off := off) h2
  have HW := Lib.hid hw; clear hw h hn hby
  generalize cutOf xs off n = ys at *
  have HL := Lib.hid hcl; clear hcl
  have HB := Lib.hid hcb; clear hcb
  go_enter Tryz.func67, Tryz.ntmps67
  go_wp2_with (first
    | (go_at_call 97; refine (Hid.out hg).mono ?_; rintro e w' ⟨rfl, rfl⟩)
    | (go_at_call 98; refine (Hid.out hcut).mono ?_; rintro e w1 ⟨v, rfl, ho, hb⟩; obtain ⟨hlen, a', c', rfl, hr, -⟩ := own_row ho; have HR := Lib.hid hr; have HLL := Lib.hid hlen; clear hr hlen ho))
  have hyl : ys.length ≤ 8 := by have := HL.out; omega
  go_loop [12, 36] (fun v i => ∃ (k : Nat) (t : Int), k ≤ ys.length ∧ i = .int .i64 k ∧ v = .int .u64 t ∧ Hid (t = leval (ys.take k))) (fun _ i => ys.length - (intOf i).toNat)
  case atStart => exact ⟨0, 0, Nat.zero_le _, rfl, rfl, Lib.hid (by simp [leval])⟩
  case round =>
    obtain ⟨k, t, hk, rfl, rfl, ht⟩ := hrel
    by_cases hlt : k < ys.length
    · obtain ⟨b, o, rfl, hck⟩ := HR.out k hlt
      have hm := HB.out ys[k] (List.getElem_mem hlt)
      obtain ⟨m1, m2⟩ := hm
      have hbd := leval_bounds (ys.take k) (fun y hy => HB.out y (List.mem_of_mem_take hy))
      rw [← ht.out, show (ys.take k).length = k from by simp; omega] at hbd
      obtain ⟨w1e, w2e⟩ := or_step t ys[k] k (by omega) hbd.1 hbd.2 m1 m2
      have HS := Lib.hid (show leval (ys.take (k + 1)) = t + ys[k] * 2 ^ (8 * k) from by
        rw [take_snoc ys k hlt, leval_snoc, ht.out]; simp [show min k ys.length = k from by omega])
      clear hbd
      go_wp2
      go_round
      case rel => exact ⟨k + 1, _, by omega, by go_num, rfl, Lib.hid HS.out.symm⟩
      case measure => simp [intOf]; omega
    · have hk' : k = ys.length := by omega
      have HK := Lib.hid hk'; clear hk'
      go_wp2
      go_ret2
      exact ⟨ret2 (vint (by rw [ht.out, HK.out, List.take_length])) rfl, hb⟩

theorem get_width (a : Option Addr) (cap len : Nat) (off n : Int) (w : World) (hw : wide n = false) :
    Calls Tryz.prog 67 #[.slice a len cap, .int .u64 off, .int .i64 n] w fun e w' => e = .returned (.tuple #[.int .u64 0, errV 1]) ∧ w = w' := by
  have hg := Lib.hid (greatest_any n w)
  rw [hw] at hg
  clear hw
  go_enter Tryz.func67, Tryz.ntmps67
  go_wp2_with (first
    | (go_at_call 97; refine (Hid.out hg).mono ?_; rintro e w' ⟨rfl, rfl⟩))
  go_ret2
  exact ⟨ret2 rfl rfl, rfl⟩

theorem get_range (a : Option Addr) (cap : Nat) (xs : List Int) (off n : Nat) (w : World) (hl : xs.length ≤ 140737488351232) (ho : off < 18446744073709551616)
    (hw : wide n = true) (h1 : ¬ (off ≤ xs.length ∧ n ≤ xs.length - off)) :
    Calls Tryz.prog 67 #[.slice a xs.length cap, .int .u64 off, .int .i64 n] w fun e w' => e = .returned (.tuple #[.int .u64 0, spotV w]) ∧ spotW w off 4 = w' := by
  have hg := Lib.hid (greatest_any (n : Int) w)
  rw [hw] at hg
  have hn8 : n ≤ 8 := by simp [wide] at hw; omega
  have hcut := Lib.hid (cut_no a cap xs off n w hl ho (by omega) h1)
  unfold spotV at hcut
  clear hw h1
  go_enter Tryz.func67, Tryz.ntmps67
  go_wp2_with (first
    | (go_at_call 97; refine (Hid.out hg).mono ?_; rintro e w' ⟨rfl, rfl⟩)
    | (go_at_call 98; refine (Hid.out hcut).mono ?_; rintro e w' ⟨rfl, rfl⟩))
  go_ret2
  exact ⟨ret2 rfl rfl, rfl⟩
end Go.Proofs.YtnaejlfjlennhaaGreatDoor
/- How many bits a number has, as math/bits reckons it: plain numbers, nothing of the program. -/
namespace Go.Proofs.YtnaejlfjlennhaaGreatDoor.Pop

def fromB : List Nat → Nat
  | [] => 0
  | b :: t => b + 256 * fromB t

theorem and_step (a c A C : Nat) (ha : a < 256) (hc : c < 256) : (a + 256 * A) &&& (c + 256 * C) = (a &&& c) + 256 * (A &&& C) := by
  have h1 : a + 256 * A = 256 * A + a := by omega
  have h2 : c + 256 * C = 256 * C + c := by omega
  have h3 : (a &&& c) < 256 := Nat.lt_of_le_of_lt Nat.and_le_left ha
  rw [h1, h2, Nat.add_comm (a &&& c)]
  apply Nat.eq_of_testBit_eq
  intro i
  rw [Nat.testBit_and, show (256 : Nat) = 2 ^ 8 from rfl, Nat.testBit_two_pow_mul_add _ ha, Nat.testBit_two_pow_mul_add _ hc, Nat.testBit_two_pow_mul_add _ h3]
  split <;> simp [Nat.testBit_and]

theorem half_mask : ∀ r : Fin 256, ∀ b : Fin 2, (r.val / 2 + 128 * b.val) &&& 85 = r.val / 2 &&& 85 := by decide +kernel
theorem quarter_mask : ∀ r : Fin 256, ∀ b : Fin 4, (r.val / 4 + 64 * b.val) &&& 51 = r.val / 4 &&& 51 := by decide +kernel

def All (n : Nat) (l : List Nat) : Prop := ∀ x ∈ l, x < n
theorem All.head {n x : Nat} {l : List Nat} (h : All n (x :: l)) : x < n := h x (by simp)
theorem All.tail {n x : Nat} {l : List Nat} (h : All n (x :: l)) : All n l := fun y hy => h y (by simp [hy])

theorem and_mask (c : Nat) (hc : c < 256) (l : List Nat) (h : All 256 l) : fromB l &&& fromB (List.replicate l.length c) = fromB (l.map (· &&& c)) := by
  induction l with
  | nil => simp [fromB]
  | cons r t ih =>
    simp only [List.length_cons, List.replicate_succ, fromB, List.map_cons]
    rw [and_step r c _ _ h.head hc, ih h.tail]

theorem half (l : List Nat) (h : All 256 l) : fromB l / 2 &&& fromB (List.replicate l.length 85) = fromB (l.map fun r => r / 2 &&& 85) := by
  induction l with
  | nil => rfl
  | cons r t ih =>
    simp only [List.length_cons, List.replicate_succ, fromB, List.map_cons]
    have hr := h.head
    have e : (r + 256 * fromB t) / 2 = (r / 2 + 128 * (fromB t % 2)) + 256 * (fromB t / 2) := by omega
    rw [e, and_step _ 85 _ _ (by omega) (by omega), ih h.tail]
    have := half_mask ⟨r, hr⟩ ⟨fromB t % 2, by omega⟩
    simp only at this
    rw [this]

theorem quarter (l : List Nat) (h : All 256 l) : fromB l / 4 &&& fromB (List.replicate l.length 51) = fromB (l.map fun r => r / 4 &&& 51) := by
  induction l with
  | nil => rfl
  | cons r t ih =>
    simp only [List.length_cons, List.replicate_succ, fromB, List.map_cons]
    have hr := h.head
    have e : (r + 256 * fromB t) / 4 = (r / 4 + 64 * (fromB t % 4)) + 256 * (fromB t / 4) := by omega
    rw [e, and_step _ 51 _ _ (by omega) (by omega), ih h.tail]
    have := quarter_mask ⟨r, hr⟩ ⟨fromB t % 4, by omega⟩
    simp only at this
    rw [this]

theorem add_map (f g : Nat → Nat) (l : List Nat) : fromB (l.map f) + fromB (l.map g) = fromB (l.map fun r => f r + g r) := by
  induction l with
  | nil => rfl
  | cons r t ih => simp only [List.map_cons, fromB]; omega

/-- nibbles of at most 4 -/
def Nib (r : Nat) : Prop := r / 16 ≤ 4 ∧ r % 16 ≤ 4

theorem fromB_mod16 (l : List Nat) (h : ∀ r ∈ l, Nib r) : fromB l % 16 ≤ 4 := by
  cases l with
  | nil => simp [fromB]
  | cons r t => have := (h r (by simp)).2; simp only [fromB]; omega

theorem nib_mask : ∀ r : Fin 256, r.val &&& 15 = r.val % 16 := by decide +kernel

theorem nibbles (l : List Nat) (h : ∀ r ∈ l, Nib r) : (fromB l / 16 + fromB l) &&& fromB (List.replicate l.length 15) = fromB (l.map fun r => (r / 16 + r) % 16) := by
  induction l with
  | nil => rfl
  | cons r t ih =>
    simp only [List.length_cons, List.replicate_succ, fromB, List.map_cons]
    have hr := h r (by simp)
    have ht : ∀ x ∈ t, Nib x := fun x hx => h x (by simp [hx])
    have hm := fromB_mod16 t ht
    unfold Nib at hr
    have e : (r + 256 * fromB t) / 16 + (r + 256 * fromB t) = (r / 16 + r + 16 * (fromB t % 16)) + 256 * (fromB t / 16 + fromB t) := by omega
    rw [e, and_step _ 15 _ _ (by omega) (by omega), ih ht]
    have := nib_mask ⟨r / 16 + r + 16 * (fromB t % 16), by omega⟩
    simp only at this
    rw [this]
    congr 1
    omega

def s1 (r : Nat) : Nat := (r / 2 &&& 85) + (r &&& 85)
def s2 (r : Nat) : Nat := (r / 4 &&& 51) + (r &&& 51)
def s3 (r : Nat) : Nat := (r / 16 + r) % 16
def p8 (r : Nat) : Nat := s3 (s2 (s1 r))

theorem s1_lt : ∀ r : Fin 256, s1 r.val < 256 := by decide +kernel
theorem s2_nib : ∀ r : Fin 256, s2 (s1 r.val) / 16 ≤ 4 ∧ s2 (s1 r.val) % 16 ≤ 4 := by decide +kernel
theorem p8_le : ∀ r : Fin 256, p8 r.val ≤ 8 := by decide +kernel
theorem p8_zero : ∀ r : Fin 256, p8 r.val = 0 → r.val = 0 := by decide +kernel
theorem p8_one : ∀ r : Fin 256, p8 r.val = 1 → ∃ i : Fin 8, r.val = 2 ^ i.val := by decide +kernel

/-- the sums that math/bits.OnesCount64 makes -/
def w1 (x : Nat) : Nat := (x / 2 &&& 6148914691236517205) + (x &&& 6148914691236517205)
def w2 (x : Nat) : Nat := (x / 4 &&& 3689348814741910323) + (x &&& 3689348814741910323)
def w3 (x : Nat) : Nat := (x / 16 + x) &&& 1085102592571150095
def w4 (x : Nat) : Nat := x + x / 256
def w5 (x : Nat) : Nat := x + x / 65536
def w6 (x : Nat) : Nat := x + x / 4294967296

theorem split8 (x : Nat) (h : x < 18446744073709551616) : ∃ l : List Nat, l.length = 8 ∧ All 256 l ∧ x = fromB l := by
  refine ⟨[x % 256, x / 256 % 256, x / 65536 % 256, x / 16777216 % 256, x / 4294967296 % 256, x / 1099511627776 % 256, x / 281474976710656 % 256, x / 72057594037927936 % 256], rfl, ?_, ?_⟩
  · intro y hy; simp only [List.mem_cons, List.not_mem_nil, or_false] at hy; omega
  · simp only [fromB]; omega

theorem all_map {f : Nat → Nat} {n m : Nat} {l : List Nat} (h : All n l) (hf : ∀ r, r < n → f r < m) : All m (l.map f) := by
  intro y hy; obtain ⟨r, hr, rfl⟩ := List.mem_map.1 hy; exact hf r (h r hr)

theorem w1_eq (l : List Nat) (hl : l.length = 8) (h : All 256 l) : w1 (fromB l) = fromB (l.map s1) := by
  have a := half l h
  have b := and_mask 85 (by omega) l h
  rw [hl] at a b
  have e : fromB (List.replicate 8 85) = 6148914691236517205 := by decide +kernel
  rw [e] at a b
  unfold w1
  rw [a, b, add_map]
  rfl

theorem w2_eq (l : List Nat) (hl : l.length = 8) (h : All 256 l) : w2 (fromB l) = fromB (l.map s2) := by
  have a := quarter l h
  have b := and_mask 51 (by omega) l h
  rw [hl] at a b
  have e : fromB (List.replicate 8 51) = 3689348814741910323 := by decide +kernel
  rw [e] at a b
  unfold w2
  rw [a, b, add_map]
  rfl

theorem w3_eq (l : List Nat) (hl : l.length = 8) (h : ∀ r ∈ l, Nib r) : w3 (fromB l) = fromB (l.map s3) := by
  have a := nibbles l h
  rw [hl] at a
  have e : fromB (List.replicate 8 15) = 1085102592571150095 := by decide +kernel
  rw [e] at a
  unfold w3
  rw [a]
  rfl

def pop (x : Nat) : Nat := w6 (w5 (w4 (w3 (w2 (w1 x))))) % 128

theorem divq {y n : Nat} (q r : Nat) (hr : r < n) (h : y = r + n * q) : y / n = q := by
  rw [h, Nat.add_mul_div_left _ _ (by omega), Nat.div_eq_of_lt hr]; omega

theorem tail8 (l : List Nat) (hl : l.length = 8) (h : All 9 l) : w6 (w5 (w4 (fromB l))) % 128 = l.sum ∧ w6 (w5 (w4 (fromB l))) < 1000000000000000000 := by
  match l, hl with
  | [a, b, c, d, e, f, g, k], _ =>
    have ha := h a (by simp); have hb := h b (by simp); have hc := h c (by simp); have hd := h d (by simp)
    have he := h e (by simp); have hf := h f (by simp); have hg := h g (by simp); have hk := h k (by simp)
    clear h
    have e4 : w4 (fromB [a, b, c, d, e, f, g, k]) = (a + b) + 256 * (b + c) + 65536 * (c + d) + 16777216 * (d + e) + 4294967296 * (e + f) + 1099511627776 * (f + g) + 281474976710656 * (g + k) + 72057594037927936 * k := by
      have q : fromB [a, b, c, d, e, f, g, k] / 256 = b + 256 * c + 65536 * d + 16777216 * e + 4294967296 * f + 1099511627776 * g + 281474976710656 * k := divq _ a (by omega) (by simp only [fromB]; omega)
      simp only [w4, q]; simp only [fromB]; clear q; omega
    have e5 : w5 (w4 (fromB [a, b, c, d, e, f, g, k])) = (a + b + c + d) + 256 * (b + c + d + e) + 65536 * (c + d + e + f) + 16777216 * (d + e + f + g) + 4294967296 * (e + f + g + k) + 1099511627776 * (f + g + k) + 281474976710656 * (g + k) + 72057594037927936 * k := by
      have q : w4 (fromB [a, b, c, d, e, f, g, k]) / 65536 = (c + d) + 256 * (d + e) + 65536 * (e + f) + 16777216 * (f + g) + 4294967296 * (g + k) + 1099511627776 * k := divq _ ((a + b) + 256 * (b + c)) (by clear e4; omega) (by rw [e4]; clear e4; omega)
      simp only [w5, q]; rw [e4]; clear q e4; omega
    have e6 : w6 (w5 (w4 (fromB [a, b, c, d, e, f, g, k]))) = (a + b + c + d + e + f + g + k) + 256 * (b + c + d + e + f + g + k) + 65536 * (c + d + e + f + g + k) + 16777216 * (d + e + f + g + k) + 4294967296 * (e + f + g + k) + 1099511627776 * (f + g + k) + 281474976710656 * (g + k) + 72057594037927936 * k := by
      have q : w5 (w4 (fromB [a, b, c, d, e, f, g, k])) / 4294967296 = (e + f + g + k) + 256 * (f + g + k) + 65536 * (g + k) + 16777216 * k := divq _ ((a + b + c + d) + 256 * (b + c + d + e) + 65536 * (c + d + e + f) + 16777216 * (d + e + f + g)) (by clear e4 e5; omega) (by rw [e5]; clear e5 e4; omega)
      simp only [w6, q]; rw [e5]; clear q e5 e4; omega
    rw [e6]
    clear e4 e5 e6
    simp only [List.sum_cons, List.sum_nil]
    constructor
    · have : ∀ S X : Nat, S < 128 → (S + 128 * X) % 128 = S := fun S X h => by omega
      have q := this (a + b + c + d + e + f + g + k) (2 * (b + c + d + e + f + g + k) + 512 * (c + d + e + f + g + k) + 131072 * (d + e + f + g + k) + 33554432 * (e + f + g + k) + 8589934592 * (f + g + k) + 2199023255552 * (g + k) + 562949953421312 * k) (by omega)
      rw [show (a + b + c + d + e + f + g + k) + 256 * (b + c + d + e + f + g + k) + 65536 * (c + d + e + f + g + k) + 16777216 * (d + e + f + g + k) + 4294967296 * (e + f + g + k) + 1099511627776 * (f + g + k) + 281474976710656 * (g + k) + 72057594037927936 * k = (a + b + c + d + e + f + g + k) + 128 * (2 * (b + c + d + e + f + g + k) + 512 * (c + d + e + f + g + k) + 131072 * (d + e + f + g + k) + 33554432 * (e + f + g + k) + 8589934592 * (f + g + k) + 2199023255552 * (g + k) + 562949953421312 * k) from by clear q this; omega, q]
      clear q this
      omega
    · omega

theorem most (n : Nat) (l : List Nat) (hl : l.length = 8) (h : All (n + 1) l) : fromB l ≤ n * 72340172838076673 := by
  match l, hl with
  | [a, b, c, d, e, f, g, k], _ =>
    have ha := h a (by simp); have hb := h b (by simp); have hc := h c (by simp); have hd := h d (by simp)
    have he := h e (by simp); have hf := h f (by simp); have hg := h g (by simp); have hk := h k (by simp)
    clear h
    simp only [fromB]; omega

theorem w3_list (l : List Nat) (hl : l.length = 8) (h : All 256 l) : w3 (w2 (w1 (fromB l))) = fromB (l.map p8) ∧ All 9 (l.map p8) ∧ w1 (fromB l) = fromB (l.map s1) ∧ w2 (w1 (fromB l)) = fromB (l.map (s2 ∘ s1)) := by
  have h1 := w1_eq l hl h
  have a1 : All 256 (l.map s1) := all_map h fun r hr => s1_lt ⟨r, hr⟩
  have h2 := w2_eq (l.map s1) (by simpa using hl) a1
  have h3 := w3_eq ((l.map s1).map s2) (by simpa using hl) (by
    intro y hy
    obtain ⟨z, hz, rfl⟩ := List.mem_map.1 hy
    obtain ⟨r, hr, rfl⟩ := List.mem_map.1 hz
    exact s2_nib ⟨r, h r hr⟩)
  refine ⟨?_, all_map h fun r hr => Nat.lt_succ_of_le (p8_le ⟨r, hr⟩), h1, ?_⟩
  · rw [h1, h2, h3, List.map_map, List.map_map]; rfl
  · rw [h1, h2, List.map_map]

theorem pop_list (l : List Nat) (hl : l.length = 8) (h : All 256 l) : pop (fromB l) = (l.map p8).sum := by
  obtain ⟨e, a, -, -⟩ := w3_list l hl h
  unfold pop
  rw [e]
  exact (tail8 _ (by simpa using hl) a).1

theorem sum_zero (l : List Nat) (h : All 256 l) (hs : (l.map p8).sum = 0) : fromB l = 0 := by
  induction l with
  | nil => rfl
  | cons r t ih =>
    simp only [List.map_cons, List.sum_cons] at hs
    have h0 := p8_zero ⟨r, h.head⟩ (by simp only; omega)
    simp only at h0
    have := ih h.tail (by omega)
    simp only [fromB]; omega

theorem sum_one (l : List Nat) (h : All 256 l) (hs : (l.map p8).sum = 1) : ∃ i, i < 8 * l.length ∧ fromB l = 2 ^ i := by
  induction l with
  | nil => simp at hs
  | cons r t ih =>
    simp only [List.map_cons, List.sum_cons] at hs
    by_cases hr : p8 r = 0
    · obtain ⟨i, hi, e⟩ := ih h.tail (by omega)
      refine ⟨i + 8, by simp; omega, ?_⟩
      have h0 := p8_zero ⟨r, h.head⟩ hr
      simp only at h0
      simp only [fromB]
      rw [e, h0, Nat.pow_add]; omega
    · obtain ⟨i, e⟩ := p8_one ⟨r, h.head⟩ (by simp only; omega)
      simp only at e
      refine ⟨i.val, by simp; omega, ?_⟩
      have := sum_zero t h.tail (by omega)
      simp only [fromB]
      rw [this, e]; omega

theorem pop_one (x : Nat) (h : x < 18446744073709551616) (hp : pop x = 1) : ∃ i, i < 64 ∧ x = 2 ^ i := by
  obtain ⟨l, hl, ha, rfl⟩ := split8 x h
  rw [pop_list l hl ha] at hp
  obtain ⟨i, hi, e⟩ := sum_one l ha hp
  exact ⟨i, by omega, e⟩

theorem pop_pow : ∀ i : Fin 64, pop (2 ^ i.val) = 1 := by decide +kernel

/-- each of the sums fits into 64 bits -/
theorem bounds (x : Nat) (h : x < 18446744073709551616) : w1 x < 18446744073709551616 ∧ w2 (w1 x) < 18446744073709551616 ∧ w2 (w1 x) / 16 + w2 (w1 x) < 18446744073709551616 ∧
    w3 (w2 (w1 x)) < 1000000000000000000 ∧ w4 (w3 (w2 (w1 x))) < 1000000000000000000 ∧ w5 (w4 (w3 (w2 (w1 x)))) < 1000000000000000000 ∧ w6 (w5 (w4 (w3 (w2 (w1 x))))) < 1000000000000000000 := by
  obtain ⟨l, hl, ha, rfl⟩ := split8 x h
  obtain ⟨e3, a, e1, e2⟩ := w3_list l hl ha
  have t := (tail8 _ (by simpa using hl) a).2
  have b1 := most 255 (l.map s1) (by simpa using hl) (all_map ha fun r hr => s1_lt ⟨r, hr⟩)
  have n2 : All 69 (l.map (s2 ∘ s1)) := all_map ha fun r hr => by
    have := s2_nib ⟨r, hr⟩
    simp only at this
    show s2 (s1 r) < 69
    generalize s2 (s1 r) = q at this
    omega
  have b2 := most 68 _ (by simpa using hl) n2
  rw [e3, e2, e1]
  clear e1 e2 e3 n2 ha
  have w4le : ∀ y, y ≤ w4 y := fun y => by unfold w4; omega
  have w5le : ∀ y, y ≤ w5 y := fun y => by unfold w5; omega
  have w6le : ∀ y, y ≤ w6 y := fun y => by unfold w6; omega
  have q6 := w6le (w5 (w4 (fromB (l.map p8))))
  have q5 := w5le (w4 (fromB (l.map p8)))
  have q4 := w4le (fromB (l.map p8))
  refine ⟨by omega, by omega, by omega, by omega, by omega, by omega, by omega⟩
end Go.Proofs.YtnaejlfjlennhaaGreatDoor.Pop
/- Layer 1: how many bits are set (math/bits.OnesCount64); a number brought up to a multiple of a power of two. -/



namespace Go.Proofs.YtnaejlfjlennhaaGreatDoor
open Go.RowKit
set_option linter.unusedVariables false
set_option linter.unusedSimpArgs false

theorem and64 (a b : Nat) (ha : a < 18446744073709551616) (hb : b < 18446744073709551616) {c d : Int} (hc : c = (a : Int)) (hd : d = (b : Int)) : bits .and .u64 c d = ((a &&& b : Nat) : Int) := by
  rw [hc, hd]; exact u64_and_nat a b ha hb

theorem ones_core (x a1 a2 b1 b2 c : Nat) (w : World) (hx : x < 18446744073709551616)
    (e1 : bits .and .u64 ((x : Int) / 2) 6148914691236517205 = (a1 : Int)) (e2 : bits .and .u64 (x : Int) 6148914691236517205 = (a2 : Int)) (ha : (a1 : Int) + (a2 : Int) ≤ 18446744073709551615)
    (e3 : bits .and .u64 (((a1 : Int) + (a2 : Int)) / 4) 3689348814741910323 = (b1 : Int)) (e4 : bits .and .u64 ((a1 : Int) + (a2 : Int)) 3689348814741910323 = (b2 : Int)) (hb : ((b1 : Int) + (b2 : Int)) / 16 + ((b1 : Int) + (b2 : Int)) ≤ 18446744073709551615)
    (e5 : bits .and .u64 (((b1 : Int) + (b2 : Int)) / 16 + ((b1 : Int) + (b2 : Int))) 1085102592571150095 = (c : Int))
    (hc : (c : Int) ≤ 1000000000000000000) (hd : (c : Int) + (c : Int) / 256 ≤ 1000000000000000000) (he : (c : Int) + (c : Int) / 256 + ((c : Int) + (c : Int) / 256) / 65536 ≤ 1000000000000000000)
    (hf : (c : Int) + (c : Int) / 256 + ((c : Int) + (c : Int) / 256) / 65536 + ((c : Int) + (c : Int) / 256 + ((c : Int) + (c : Int) / 256) / 65536) / 4294967296 ≤ 1000000000000000000) :
    Calls Tryz.prog 76 #[.int .u64 x] w fun e w' => e = .returned (.int .i64 (bits .and .i64 ((c : Int) + (c : Int) / 256 + ((c : Int) + (c : Int) / 256) / 65536 + ((c : Int) + (c : Int) / 256 + ((c : Int) + (c : Int) / 256) / 65536) / 4294967296) 127)) ∧ w = w' := by
  go_enter Tryz.func76, Tryz.ntmps76
  go_wp2
  go_ret
  exact ⟨rfl, rfl⟩

set_option maxHeartbeats 1000000 in
theorem ones (x : Nat) (w : World) (hx : x < 18446744073709551616) :
    Calls Tryz.prog 76 #[.int .u64 x] w fun e w' => e = .returned (.int .i64 (Pop.pop x)) ∧ w = w' := by
  obtain ⟨q1, q2, q3, q4, q5, q6, q7⟩ := Pop.bounds x hx
  have r2 : Pop.w2 (Pop.w1 x) ≤ Pop.w2 (Pop.w1 x) / 16 + Pop.w2 (Pop.w1 x) := by omega
  refine (ones_core x (x / 2 &&& 6148914691236517205) (x &&& 6148914691236517205) (Pop.w1 x / 4 &&& 3689348814741910323) (Pop.w1 x &&& 3689348814741910323) (Pop.w3 (Pop.w2 (Pop.w1 x))) w hx
    (and64 _ _ (by omega) (by omega) (by omega) rfl) (and64 _ _ hx (by omega) rfl rfl) ?_ ?_ ?_ ?_ ?_ ?_ ?_ ?_ ?_).mono ?_
  · have : Pop.w1 x = (x / 2 &&& 6148914691236517205) + (x &&& 6148914691236517205) := rfl
    omega
  · exact and64 _ _ (by omega) (by omega) (by have : Pop.w1 x = (x / 2 &&& 6148914691236517205) + (x &&& 6148914691236517205) := rfl; omega) rfl
  · exact and64 _ _ q1 (by omega) (by have : Pop.w1 x = (x / 2 &&& 6148914691236517205) + (x &&& 6148914691236517205) := rfl; omega) rfl
  · have : Pop.w2 (Pop.w1 x) = (Pop.w1 x / 4 &&& 3689348814741910323) + (Pop.w1 x &&& 3689348814741910323) := rfl
    omega
  · exact and64 _ _ q3 (by omega) (by have : Pop.w2 (Pop.w1 x) = (Pop.w1 x / 4 &&& 3689348814741910323) + (Pop.w1 x &&& 3689348814741910323) := rfl; omega) rfl
  · omega
  · have : Pop.w4 (Pop.w3 (Pop.w2 (Pop.w1 x))) = Pop.w3 (Pop.w2 (Pop.w1 x)) + Pop.w3 (Pop.w2 (Pop.w1 x)) / 256 := rfl
    omega
  · have h4 : Pop.w4 (Pop.w3 (Pop.w2 (Pop.w1 x))) = Pop.w3 (Pop.w2 (Pop.w1 x)) + Pop.w3 (Pop.w2 (Pop.w1 x)) / 256 := rfl
    have h5 : Pop.w5 (Pop.w4 (Pop.w3 (Pop.w2 (Pop.w1 x)))) = Pop.w4 (Pop.w3 (Pop.w2 (Pop.w1 x))) + Pop.w4 (Pop.w3 (Pop.w2 (Pop.w1 x))) / 65536 := rfl
    omega
  · have h4 : Pop.w4 (Pop.w3 (Pop.w2 (Pop.w1 x))) = Pop.w3 (Pop.w2 (Pop.w1 x)) + Pop.w3 (Pop.w2 (Pop.w1 x)) / 256 := rfl
    have h5 : Pop.w5 (Pop.w4 (Pop.w3 (Pop.w2 (Pop.w1 x)))) = Pop.w4 (Pop.w3 (Pop.w2 (Pop.w1 x))) + Pop.w4 (Pop.w3 (Pop.w2 (Pop.w1 x))) / 65536 := rfl
    have h6 : Pop.w6 (Pop.w5 (Pop.w4 (Pop.w3 (Pop.w2 (Pop.w1 x))))) = Pop.w5 (Pop.w4 (Pop.w3 (Pop.w2 (Pop.w1 x)))) + Pop.w5 (Pop.w4 (Pop.w3 (Pop.w2 (Pop.w1 x)))) / 4294967296 := rfl
    omega
  · rintro e w' ⟨rfl, rfl⟩
    refine ⟨ret1 (vint ?_), rfl⟩
    rw [i64_and127]
    have h4 : Pop.w4 (Pop.w3 (Pop.w2 (Pop.w1 x))) = Pop.w3 (Pop.w2 (Pop.w1 x)) + Pop.w3 (Pop.w2 (Pop.w1 x)) / 256 := rfl
    have h5 : Pop.w5 (Pop.w4 (Pop.w3 (Pop.w2 (Pop.w1 x)))) = Pop.w4 (Pop.w3 (Pop.w2 (Pop.w1 x))) + Pop.w4 (Pop.w3 (Pop.w2 (Pop.w1 x))) / 65536 := rfl
    have h6 : Pop.w6 (Pop.w5 (Pop.w4 (Pop.w3 (Pop.w2 (Pop.w1 x))))) = Pop.w5 (Pop.w4 (Pop.w3 (Pop.w2 (Pop.w1 x)))) + Pop.w5 (Pop.w4 (Pop.w3 (Pop.w2 (Pop.w1 x)))) / 4294967296 := rfl
    unfold Pop.pop
    rw [h6, h5, h4]
    omega

def timesF (a b : Int) : Int × Bool := if a * b < M64 then (a * b, true) else (0, false)
theorem timesF_yes {a b : Int} (h : a * b < M64) : timesF a b = (a * b, true) := if_pos h
theorem timesF_no {a b : Int} (h : ¬ a * b < M64) : timesF a b = (0, false) := if_neg h

















































































/-- a number brought up, and the error's number -/
def upF (a to : Nat) : Int × Int :=
  if Pop.pop to ≠ 1 then (0, 1) else if a + (to - 1) < 18446744073709551616 then ((((a + (to - 1)) / to * to : Nat) : Int), 0) else (0, 28)

theorem pow_of {to : Nat} (h : to < 18446744073709551616) (hp : Pop.pop to = 1) : ∃ i, i < 64 ∧ to = 2 ^ i := Pop.pop_one to h hp

theorem andNot_pow (x i : Nat) (hx : x < 18446744073709551616) (hi : i < 64) : x &&& (18446744073709551615 - (2 ^ i - 1)) = x / 2 ^ i * 2 ^ i := by
  have h64 : (18446744073709551616 : Nat) = 2 ^ 64 := rfl
  have e : 18446744073709551615 - (2 ^ i - 1) = 2 ^ i * (2 ^ (64 - i) - 1) := by
    have : 2 ^ i * 2 ^ (64 - i) = 18446744073709551616 := by rw [← Nat.pow_add, show i + (64 - i) = 64 from by omega]
    have h1 : 1 ≤ 2 ^ i := Nat.one_le_two_pow
    rw [Nat.mul_sub, this]; omega
  rw [e]
  apply Nat.eq_of_testBit_eq
  intro j
  rw [Nat.testBit_and, Nat.mul_comm (x / 2 ^ i), Nat.testBit_two_pow_mul, Nat.testBit_two_pow_mul, Nat.testBit_two_pow_sub_one, Nat.testBit_div_two_pow]
  by_cases hj : i ≤ j
  · by_cases hk : j - i < 64 - i
    · simp [hj, hk, show j - i + i = j from by omega]
    · have : x.testBit j = false := Nat.testBit_lt_two_pow (Nat.lt_of_lt_of_le (by rw [← h64]; exact hx) (Nat.pow_le_pow_right (by omega) (by omega)))
      simp [hj, hk, this, show j - i + i = j from by omega]
  · simp [hj]

theorem up_bits (a to i : Nat) (hs : a + (to - 1) < 18446744073709551616) (h1 : 1 ≤ to) (hi : i < 64) (hi2 : to = 2 ^ i) :
    bits .andNot .u64 ((a : Int) + ((to : Int) - 1)) ((to : Int) - 1) = (((a + (to - 1)) / to * to : Nat) : Int) := by
  have c1 : (a : Int) + ((to : Int) - 1) = ((a + (to - 1) : Nat) : Int) := by omega
  have c2 : (to : Int) - 1 = ((to - 1 : Nat) : Int) := by omega
  have h2 : to - 1 < 18446744073709551616 := by omega
  rw [c1, c2]
  have h := u64_andNot_nat (a + (to - 1)) (to - 1) hs h2
  rw [h]
  generalize a + (to - 1) = s at *
  clear c1 c2 h h2 h1
  subst hi2
  rw [andNot_pow s i hs hi]

theorem two_rows (x y : Int) (hx : 0 ≤ x ∧ x < M64) (hy : 0 ≤ y ∧ y < M64) : U64s [x, y] := by
  intro z hz
  simp only [List.mem_cons, List.not_mem_nil, or_false] at hz
  rcases hz with rfl | rfl
  · exact hx
  · exact hy

theorem sum_two (x y : Int) : [x, y].sum = x + y := by simp

set_option maxHeartbeats 400000 in
theorem up_any (a to : Nat) (w : World) (ha : a < 18446744073709551616) (hto : to < 18446744073709551616) :
    Calls Tryz.prog 101 #[.int .u64 a, .int .u64 to] w fun e w' => e = .returned (.tuple #[.int .u64 (upF a to).1, errV (upF a to).2]) ∧ Below w.heap.size w w' := by
  have hone := Lib.hid (ones to w hto)
  by_cases hp : Pop.pop to = 1
  · obtain ⟨i, hi, hi2⟩ := pow_of hto hp
    have h1 : 1 ≤ to := by rw [hi2]; exact Nat.one_le_two_pow
    rw [hp] at hone
    have hsum := Lib.hid (fun (w1 : World) (h : Row .u64 w1 (some ⟨w.heap.size, 0, none⟩) [(a : Int), (to : Int) - 1]) =>
      sum_any (some ⟨w.heap.size, 0, none⟩) 2 [(a : Int), (to : Int) - 1] w1 h (two_rows _ _ (by rw [M64_eq]; omega) (by rw [M64_eq]; omega)) (by unfold maxLen; simp))
    by_cases hs : a + (to - 1) < 18446744073709551616
    · have e1 : upF a to = ((((a + (to - 1)) / to * to : Nat) : Int), 0) := by unfold upF; rw [if_neg (by omega), if_pos hs]
      have e2 : sumF [(a : Int), (to : Int) - 1] = ((a : Int) + ((to : Int) - 1), true) := by
        have hq := sum_two (a : Int) ((to : Int) - 1)
        rw [sumF_yes (by rw [hq, M64_eq]; omega), hq]
      have e3 := up_bits a to i hs h1 hi hi2
      rw [e1]
      rw [e2] at hsum
      clear hp e1 e2 hs hi2
      have he : errV (over true) = .nilIface := rfl
      have E3 := Lib.hid e3; clear e3
      go_enter Tryz.func101, Tryz.ntmps101
      go_wp2_with (first
        | (go_at_call 76; refine (Hid.out hone).mono ?_; rintro e w' ⟨rfl, rfl⟩)
        | (go_at_call 74; refine (Hid.out hsum _ ?_).mono ?_; rotate_left; rintro e w' ⟨rfl, rfl⟩))
      · go_ret2
        exact ⟨ret2 (vint E3.out) rfl, by go_grown⟩
      · exact Row.new _ _ [_, _] _
    · have e1 : upF a to = (0, 28) := by unfold upF; rw [if_neg (by omega), if_neg hs]
      have e2 : sumF [(a : Int), (to : Int) - 1] = (0, false) := by
        have hq := sum_two (a : Int) ((to : Int) - 1)
        rw [sumF_no (by rw [hq, M64_eq]; omega)]
      rw [e1]
      rw [e2] at hsum
      clear hp e1 e2 hs hi2
      have he : errV (over false) = .iface 56 (.int .i64 28) := rfl
      go_enter Tryz.func101, Tryz.ntmps101
      go_wp2_with (first
        | (go_at_call 76; refine (Hid.out hone).mono ?_; rintro e w' ⟨rfl, rfl⟩)
        | (go_at_call 74; refine (Hid.out hsum _ ?_).mono ?_; rotate_left; rintro e w' ⟨rfl, rfl⟩))
      · go_ret2
        exact ⟨ret2 rfl rfl, by go_grown⟩
      · exact Row.new _ _ [_, _] _
  · have e1 : upF a to = (0, 1) := by unfold upF; rw [if_pos hp]
    rw [e1]
    have hp' : ((Pop.pop to : Nat) : Int) ≠ 1 := by omega
    have h2 : (((Pop.pop to : Nat) : Int) == 1) = false := by rw [beq_eq_false_iff_ne]; exact hp'
    generalize ((Pop.pop to : Nat) : Int) = q at *
    clear hp hp' e1
    go_enter Tryz.func101, Tryz.ntmps101
    go_wp2_with (go_at_call 76; refine (Hid.out hone).mono ?_; rintro e w' ⟨rfl, rfl⟩)
    go_ret2
    exact ⟨ret2 rfl rfl, by go_grown⟩






































































































































end Go.Proofs.YtnaejlfjlennhaaGreatDoor
