/- Layer 1, the functions on bytes that only read (beside the kit of lists): widths, whether bytes lie within others, copies of them. -/
import Derived.Test.YtmjfkcclhbpclaaDoorSpanNum
import Derived.Test.YtmjfkcclhbpclaaDoorKit
import Derived.Test.YtmjfkcclhbpclaaDoorShelf
import Derived.BigQuiet
import Derived.Deep.QuietTactic
namespace Go.Proofs.YtmjfkcclhbpclaaDoor
open Go.RowKit
set_option linter.unusedVariables false
set_option linter.unusedSimpArgs false

/-- what an owned row of numbers says to whoever reads it -/
theorem own_row {w : World} {B : Nat} {T : TypeId} {k : IntKind} {v : Value} {n : Nat} {xs : List Int} (h : w.ownsRow B T 1 v n (xs.map (Value.int k))) :
    n = xs.length ∧ ∃ a cap, v = .slice a xs.length cap ∧ Row k w a xs ∧ xs.length ≤ cap ∧ (∀ b, a = some b → B ≤ b.block ∧ b.block < w.heap.size) := by
  have hl : n = xs.length := by have := h.1; simp at this; omega
  refine ⟨hl, ?_⟩
  subst hl
  obtain ⟨h1, h2⟩ := h
  rcases h2 with ⟨rfl, h0⟩ | ⟨g, cap, cur, rfl, hB, hg, hc, hm, hs, hx⟩
  · exact ⟨none, 0, by rw [h0], fun i hi => by omega, by omega, fun b hb => by cases hb⟩
  · refine ⟨some ⟨g, 0, none⟩, cap, rfl, ?_, hc, ?_⟩
    · intro i hi
      have hown : w.ownsRow B T 1 (.slice (some ⟨g, 0, none⟩) xs.length cap) xs.length (xs.map (Value.int k)) := ⟨h1, .inr ⟨g, cap, cur, rfl, hB, hg, hc, hm, hs, hx⟩⟩
      refine ⟨g, 0, rfl, ?_⟩
      rw [Nat.zero_add, hown.cellAt i (by omega)]
      simp [hi]
    · intro b hb
      simp only [Option.some.injEq] at hb
      subst hb
      exact ⟨hB, lt_of_block hg⟩

def inB (size off n : Nat) : Bool := decide (off ≤ size ∧ n ≤ size - off)
theorem inB_yes {size off n : Nat} (h : off ≤ size) (h' : n ≤ size - off) : inB size off n = true := by simp [inB, h, h']
theorem inB_no {size off n : Nat} (h : ¬ (off ≤ size ∧ n ≤ size - off)) : inB size off n = false := by simp only [inB, h, decide_false]

theorem in_any (size off n : Nat) (w : World) (h0 : size < 18446744073709551616) (h1 : off < 18446744073709551616) (h2 : n < 18446744073709551616) :
    Calls Tryd.prog 35 #[.int .u64 size, .int .u64 off, .int .u64 n] w fun e w' => e = .returned (.bool (inB size off n)) ∧ w = w' := by
  by_cases h : off ≤ size
  · by_cases h' : n ≤ size - off
    · rw [inB_yes h h']
      have h3 : (n : Int) ≤ (size : Int) - (off : Int) := by omega
      go_enter Tryd.func35, Tryd.ntmps35
      go_wp2
      go_ret
      exact ⟨rfl, rfl⟩
    · rw [inB_no (fun q => h' q.2)]
      have h3 : decide ((n : Int) ≤ (size : Int) - (off : Int)) = false := by rw [decide_eq_false_iff_not]; omega
      go_enter Tryd.func35, Tryd.ntmps35
      go_wp2
      go_ret
      exact ⟨rfl, rfl⟩
  · rw [inB_no (fun q => h q.1)]
    have h3 : (size : Int) < (off : Int) := by omega
    go_enter Tryd.func35, Tryd.ntmps35
    go_wp2
    go_ret
    exact ⟨rfl, rfl⟩

theorem refIn (size off n : Nat) (w : World) (h0 : size < 18446744073709551616) (h1 : off < 18446744073709551616) (h2 : n < 18446744073709551616) : Calls Tryd.prog 37 #[.int .u64 size, .int .u64 off, .int .u64 n] w fun e w' => e = .returned (.bool (inB size off n)) ∧ w = w' := by
  by_cases h : off ≤ size
  · by_cases h' : n ≤ size - off
    · rw [inB_yes h h']; have h3 : (n : Int) ≤ (size : Int) - (off : Int) := by omega
      go_enter Tryd.func37, Tryd.ntmps37
      go_wp2; go_ret; exact ⟨rfl, rfl⟩
    · rw [inB_no (fun q => h' q.2)]; have h3 : decide ((n : Int) ≤ (size : Int) - (off : Int)) = false := by rw [decide_eq_false_iff_not]; omega
      go_enter Tryd.func37, Tryd.ntmps37
      go_wp2; go_ret; exact ⟨rfl, rfl⟩
  · rw [inB_no (fun q => h q.1)]; have h3 : (size : Int) < (off : Int) := by omega
    go_enter Tryd.func37, Tryd.ntmps37
    go_wp2; go_ret; exact ⟨rfl, rfl⟩

/-- may a number have so many bytes? -/
def wide (n : Int) : Bool := decide (n = 1 ∨ n = 2 ∨ n = 4 ∨ n = 8)
theorem wide_cases {n : Int} : (n = 1 ∨ n = 2 ∨ n = 4 ∨ n = 8) ∨ (¬ n = 1 ∧ ¬ n = 2 ∧ ¬ n = 4 ∧ ¬ n = 8) := by omega
def most (n : Int) : Int := if n = 8 then 18446744073709551615 else if n = 4 then 4294967295 else if n = 2 then 65535 else if n = 1 then 255 else 0

theorem widths_any (n : Int) (w : World) :
    Calls Tryd.prog 81 #[.int .i64 n] w fun e w' => e = .returned (.bool (wide n)) ∧ w = w' := by
  rcases wide_cases (n := n) with (rfl | rfl | rfl | rfl) | ⟨h1, h2, h4, h8⟩
  · go_enter Tryd.func81, Tryd.ntmps81
    go_wp2; go_ret; exact ⟨rfl, rfl⟩
  · go_enter Tryd.func81, Tryd.ntmps81
    go_wp2; go_ret; exact ⟨rfl, rfl⟩
  · go_enter Tryd.func81, Tryd.ntmps81
    go_wp2; go_ret; exact ⟨rfl, rfl⟩
  · go_enter Tryd.func81, Tryd.ntmps81
    go_wp2; go_ret; exact ⟨rfl, rfl⟩
  · have hw : wide n = false := by simp [wide, h1, h2, h4, h8]
    rw [hw]
    have b1 : (n == 1) = false := by rw [beq_eq_false_iff_ne]; exact h1
    have b2 : (n == 2) = false := by rw [beq_eq_false_iff_ne]; exact h2
    have b4 : (n == 4) = false := by rw [beq_eq_false_iff_ne]; exact h4
    have b8 : (n == 8) = false := by rw [beq_eq_false_iff_ne]; exact h8
    clear h1 h2 h4 h8 hw
    go_enter Tryd.func81, Tryd.ntmps81
    go_wp2; go_ret; exact ⟨rfl, rfl⟩

theorem greatest_any (n : Int) (w : World) :
    Calls Tryd.prog 84 #[.int .i64 n] w fun e w' => e = .returned (.tuple #[.int .u64 (most n), .bool (wide n)]) ∧ w = w' := by
  rcases wide_cases (n := n) with (rfl | rfl | rfl | rfl) | ⟨h1, h2, h4, h8⟩
  · go_enter Tryd.func84, Tryd.ntmps84
    go_wp2; go_ret2; exact ⟨rfl, rfl⟩
  · go_enter Tryd.func84, Tryd.ntmps84
    go_wp2; go_ret2; exact ⟨rfl, rfl⟩
  · go_enter Tryd.func84, Tryd.ntmps84
    go_wp2; go_ret2; exact ⟨rfl, rfl⟩
  · go_enter Tryd.func84, Tryd.ntmps84
    go_wp2; go_ret2; exact ⟨rfl, rfl⟩
  · have hw : wide n = false := by simp [wide, h1, h2, h4, h8]
    have hm : most n = 0 := by simp [most, h1, h2, h4, h8]
    rw [hw, hm]
    have b1 : (n == 1) = false := by rw [beq_eq_false_iff_ne]; exact h1
    have b2 : (n == 2) = false := by rw [beq_eq_false_iff_ne]; exact h2
    have b4 : (n == 4) = false := by rw [beq_eq_false_iff_ne]; exact h4
    have b8 : (n == 8) = false := by rw [beq_eq_false_iff_ne]; exact h8
    clear h1 h2 h4 h8 hw hm
    go_enter Tryd.func84, Tryd.ntmps84
    go_wp2; go_ret2; exact ⟨rfl, rfl⟩

theorem Row.drop {k : IntKind} {w : World} {b off : Nat} {xs : List Int} (h : Row k w (some ⟨b, off, none⟩) xs) (o : Nat) : Row k w (some ⟨b, off + o, none⟩) (xs.drop o) := by
  intro i hi
  simp only [List.length_drop] at hi
  obtain ⟨b', off', e, hc⟩ := h (o + i) (by omega)
  simp only [Option.some.injEq, Addr.mk.injEq, and_true] at e
  obtain ⟨rfl, rfl⟩ := e
  refine ⟨b, off + o, rfl, ?_⟩
  rw [Nat.add_assoc, hc]
  simp [List.getD]

theorem Row.take {k : IntKind} {w : World} {a : Option Addr} {xs : List Int} (h : Row k w a xs) (n : Nat) : Row k w a (xs.take n) := by
  intro i hi
  simp only [List.length_take] at hi
  obtain ⟨b, off, rfl, hc⟩ := h i (by omega)
  refine ⟨b, off, rfl, ?_⟩
  rw [hc]
  simp [List.getD, List.getElem?_take, show i < n from by omega]

/-- bytes.Clone, of whatever slice -/
theorem clone_any (a : Option Addr) (n cap : Nat) (xs : List Int) (w : World) (hx : xs.length = n) (h : Row .u8 w a xs) (hl : n ≤ 140737488355328) (hn : a = none → n = 0 ∧ cap = 0) :
    Calls Tryd.prog 53 #[.slice a n cap] w fun e w' => ∃ v, e = .returned v ∧ w'.ownsRow w.heap.size 5 1 v n (xs.map (Value.int .u8)) ∧ Below w.heap.size w w' := by
  subst hx
  cases a with
  | none =>
    obtain ⟨h0, rfl⟩ := hn rfl
    obtain rfl : xs = [] := List.length_eq_zero_iff.1 h0
    refine (Tryd.bytes_Clone_nil 0 0 w).mono ?_
    rintro e w' ⟨rfl, rfl⟩
    exact ⟨_, rfl, World.ownsRow_nil _ _ _ _, Below.refl _ _⟩
  | some a =>
    refine (Tryd.bytes_Clone_at a xs.length cap xs w rfl hl ?_).mono ?_
    · intro i hi
      obtain ⟨b, off, e, hc⟩ := h i hi
      simp only [Option.some.injEq] at e
      subst e
      rw [WideShapes.add_plain]
      exact hc
    · rintro e w' ⟨v, rfl, ho, -, hb⟩
      exact ⟨v, rfl, ho, hb⟩

/-- the world behind a new Spot -/
def spotW (w : World) (off code : Int) : World := w.alloc (.cells #[.int .u64 off, errV code] 95)
def spotV (w : World) : Value := .iface 90 (.pointer (some ⟨w.heap.size, 0, none⟩))

set_option maxHeartbeats 400000 in
theorem cut_yes (a : Option Addr) (cap : Nat) (xs : List Int) (off n : Nat) (w : World) (h : Row .u8 w a xs) (hl : xs.length ≤ 140737488351232) (hn : a = none → xs.length = 0 ∧ cap = 0) (hc : xs.length ≤ cap)
    (h1 : off ≤ xs.length) (h2 : n ≤ xs.length - off) :
    Calls Tryd.prog 29 #[.slice a xs.length cap, .int .u64 off, .int .u64 n] w fun e w' => ∃ v, e = .returned (.tuple #[v, .nilIface]) ∧ w'.ownsRow w.heap.size 5 1 v n ((cutOf xs off n).map (Value.int .u8)) ∧ Below w.heap.size w w' := by
  have hin := Lib.hid (in_any xs.length off n w (by omega) (by omega) (by omega))
  rw [inB_yes h1 h2] at hin
  have h3 : (off : Int) + (n : Int) ≤ (xs.length : Int) := by omega
  by_cases hco : cap = off
  · obtain rfl : n = 0 := by omega
    have hcl := Lib.hid (clone_any a 0 0 [] w rfl (fun i hi => by simp at hi) (by omega) (fun e => ⟨rfl, rfl⟩))
    have e0 : cutOf xs off 0 = [] := by simp [cutOf]
    rw [e0]
    clear h hn e0
    subst hco
    go_enter Tryd.func29, Tryd.ntmps29
    go_wp2_with (first
      | (go_at_call 35; refine (Hid.out hin).mono ?_; rintro e w' ⟨rfl, rfl⟩)
      | (go_at_call 53; refine (Hid.out hcl).mono ?_; rintro e w' ⟨v, rfl, ho, hb⟩))
    go_ret2
    exact ⟨v, rfl, ho, hb⟩
  · have hcl := Lib.hid (clone_any (a.map (·.add off)) n (cap - off) (cutOf xs off n) w (cutOf_length h2) (h.cut off n) (by omega) (fun e => by
      have := hn (by simpa using e)
      omega))
    clear h hn
    go_enter Tryd.func29, Tryd.ntmps29
    go_wp2_with (first
      | (go_at_call 35; refine (Hid.out hin).mono ?_; rintro e w' ⟨rfl, rfl⟩)
      | (go_at_call 53; refine (Hid.out hcl).mono ?_; rintro e w' ⟨v, rfl, ho, hb⟩))
    go_ret2
    exact ⟨v, rfl, ho, hb⟩

set_option maxHeartbeats 400000 in
theorem cut_no (a : Option Addr) (cap : Nat) (xs : List Int) (off n : Nat) (w : World) (hl : xs.length ≤ 140737488351232) (ho : off < 18446744073709551616) (hn : n < 18446744073709551616)
    (h1 : ¬ (off ≤ xs.length ∧ n ≤ xs.length - off)) :
    Calls Tryd.prog 29 #[.slice a xs.length cap, .int .u64 off, .int .u64 n] w fun e w' => e = .returned (.tuple #[.slice none 0 0, spotV w]) ∧ spotW w off 4 = w' := by
  have hin := Lib.hid (in_any xs.length off n w (by omega) (by omega) (by omega))
  rw [inB_no h1] at hin
  clear h1
  go_enter Tryd.func29, Tryd.ntmps29
  go_wp2_with (first
    | (go_at_call 35; refine (Hid.out hin).mono ?_; rintro e w' ⟨rfl, rfl⟩))
  go_ret2
  exact ⟨rfl, rfl⟩
end Go.Proofs.YtmjfkcclhbpclaaDoor
