/- Layer 6: a string of a table, the program's answer and the document's. -/
import Derived.Test.YtikpkblemegggaaTextKit
namespace Go.Proofs.Ytikpkblemegggaa
open Go.RowKit
set_option linter.unusedVariables false
set_option linter.unusedSimpArgs false

theorem symText_range (a : Option Addr) (cap len : Nat) (off : Nat) (w : World) (hl : len ≤ 140737488351232) (ho : off < 18446744073709551616) (h1 : ¬ off < len) :
    Calls Try.prog 52 #[.slice a len cap, .int .u64 off] w fun e w' => e = .returned (.tuple #[.string ⟨#[]⟩, errV 4]) ∧ w = w' := by
  have h2 : (len : Int) ≤ (off : Int) := by omega
  go_enter Try.func52, Try.ntmps52
  go_wp2
  go_ret2
  exact ⟨ret2 rfl rfl, rfl⟩

set_option maxRecDepth 100000 in
set_option maxHeartbeats 1000000 in
theorem symText_open (a : Option Addr) (cap : Nat) (xs : List Int) (off : Nat) (w : World) (h : Row .u8 w a xs) (hby : Bytes xs) (hl : xs.length ≤ 140737488351232) (hc : xs.length ≤ cap) (ho : off < 18446744073709551616) (h1 : off < xs.length) (hk : Lib.indexByte (Lib.bytesOf (xs.drop off)) 0 = -1) :
    Calls Try.prog 52 #[.slice a xs.length cap, .int .u64 off] w fun e w' => e = .returned (.tuple #[.string ⟨#[]⟩, errV 4]) ∧ w = w' := by
  obtain ⟨b, o, rfl⟩ := h.there (by omega)
  have hib := Lib.hid (Try.bytes_IndexByte b (o + off) (xs.length - off) (cap - off) (xs.drop off) 0 w (by simp) (fun i hi => by
    obtain ⟨b', o', e, hc⟩ := h (off + i) (by omega)
    simp only [Option.some.injEq, Addr.mk.injEq, and_true] at e
    obtain ⟨rfl, rfl⟩ := e
    rw [Nat.add_assoc, hc]
    simp [List.getD]))
  rw [show (0 : Int).toNat.toUInt8 = 0 from rfl, hk] at hib
  have hne : ¬ cap = off := by omega
  clear hk h
  go_enter Try.func52, Try.ntmps52
  go_wp2_with (first
    | (go_at_call 53; refine (Hid.out hib).mono ?_; rintro e w' ⟨rfl, rfl⟩))
  go_ret2
  exact ⟨ret2 rfl rfl, rfl⟩

set_option maxRecDepth 100000 in
set_option maxHeartbeats 1000000 in
theorem symText_long (a : Option Addr) (cap : Nat) (xs : List Int) (off : Nat) (w : World) (h : Row .u8 w a xs) (hby : Bytes xs) (hl : xs.length ≤ 140737488351232) (hc : xs.length ≤ cap) (ho : off < 18446744073709551616) (h1 : off < xs.length) (k : Nat) (hk : Lib.indexByte (Lib.bytesOf (xs.drop off)) 0 = (k : Int)) (hk3 : 255 < k) :
    Calls Try.prog 52 #[.slice a xs.length cap, .int .u64 off] w fun e w' => e = .returned (.tuple #[.string ⟨#[]⟩, errV 2]) ∧ w = w' := by
  obtain ⟨b, o, rfl⟩ := h.there (by omega)
  have hib := Lib.hid (Try.bytes_IndexByte b (o + off) (xs.length - off) (cap - off) (xs.drop off) 0 w (by simp) (fun i hi => by
    obtain ⟨b', o', e, hc⟩ := h (off + i) (by omega)
    simp only [Option.some.injEq, Addr.mk.injEq, and_true] at e
    obtain ⟨rfl, rfl⟩ := e
    rw [Nat.add_assoc, hc]
    simp [List.getD]))
  rw [show (0 : Int).toNat.toUInt8 = 0 from rfl, hk] at hib
  have hne : ¬ cap = off := by omega
  obtain ⟨hk2, -, -⟩ := first_zero hby off k hk
  clear hk h
  go_enter Try.func52, Try.ntmps52
  go_wp2_with (first
    | (go_at_call 53; refine (Hid.out hib).mono ?_; rintro e w' ⟨rfl, rfl⟩))
  go_ret2
  exact ⟨ret2 rfl rfl, rfl⟩

set_option maxRecDepth 100000 in
set_option maxHeartbeats 1000000 in
theorem symText_yes (a : Option Addr) (cap : Nat) (xs : List Int) (off : Nat) (w : World) (h : Row .u8 w a xs) (hby : Bytes xs) (hl : xs.length ≤ 140737488351232) (hc : xs.length ≤ cap) (ho : off < 18446744073709551616) (h1 : off < xs.length) (k : Nat) (hk : Lib.indexByte (Lib.bytesOf (xs.drop off)) 0 = (k : Int)) (hk3 : k ≤ 255) :
    Calls Try.prog 52 #[.slice a xs.length cap, .int .u64 off] w fun e w' => e = .returned (.tuple #[.string ⟨(Lib.bytesOf (cutOf xs off k)).toArray⟩, errV 0]) ∧ w = w' := by
  obtain ⟨b, o, rfl⟩ := h.there (by omega)
  have hib := Lib.hid (Try.bytes_IndexByte b (o + off) (xs.length - off) (cap - off) (xs.drop off) 0 w (by simp) (fun i hi => by
    obtain ⟨b', o', e, hc⟩ := h (off + i) (by omega)
    simp only [Option.some.injEq, Addr.mk.injEq, and_true] at e
    obtain ⟨rfl, rfl⟩ := e
    rw [Nat.add_assoc, hc]
    simp [List.getD]))
  rw [show (0 : Int).toNat.toUInt8 = 0 from rfl, hk] at hib
  have hne : ¬ cap = off := by omega
  obtain ⟨hk2, -, -⟩ := first_zero hby off k hk
  have hcv := conv_bytes w b (o + off) (cap - off) (cutOf xs off k) k (cutOf_length (by omega)) (fun i hi => by
    obtain ⟨b', o', e, hc⟩ := h.cut off k i (by rw [cutOf_length (by omega)]; exact hi)
    simp only [Option.map_some, Option.some.injEq, WideShapes.add_plain, Addr.mk.injEq, and_true] at e
    obtain ⟨rfl, rfl⟩ := e
    exact hc)
  clear hk h
  go_enter Try.func52, Try.ntmps52
  go_wp2_with (first
    | (go_at_call 53; refine (Hid.out hib).mono ?_; rintro e w' ⟨rfl, rfl⟩))
  go_ret2
  exact ⟨ret2 rfl rfl, rfl⟩


theorem refText_range (a : Option Addr) (cap len : Nat) (off : Nat) (w : World) (hl : len ≤ 140737488351232) (ho : off < 18446744073709551616) (h1 : ¬ off < len) :
    Calls Try.prog 42 #[.slice a len cap, .int .u64 off] w fun e w' => e = .returned (.tuple #[.string ⟨#[]⟩, .int .i64 4]) ∧ w = w' := by
  have h2 : (len : Int) ≤ (off : Int) := by omega
  go_enter Try.func42, Try.ntmps42
  go_wp2
  go_ret2
  exact ⟨rfl, rfl⟩

set_option maxRecDepth 100000 in
set_option maxHeartbeats 1000000 in
theorem refText_yes (a : Option Addr) (cap : Nat) (xs : List Int) (off : Nat) (w : World) (h : Row .u8 w a xs) (hby : Bytes xs) (hl : xs.length ≤ 140737488351232) (hc : xs.length ≤ cap)
    (k : Nat) (hk : Lib.indexByte (Lib.bytesOf (xs.drop off)) 0 = (k : Int)) (hk3 : k ≤ 255) :
    Calls Try.prog 42 #[.slice a xs.length cap, .int .u64 off] w fun e w' => e = .returned (.tuple #[.string ⟨(Lib.bytesOf (cutOf xs off k)).toArray⟩, .int .i64 0]) ∧ w = w' := by
  obtain ⟨hk2, hz, hnz⟩ := first_zero hby off k hk
  obtain ⟨b, o, rfl⟩ := h.there (by omega)
  have hne : ¬ cap = off := by omega
  have hcv := conv_bytes w b (o + off) (cap - off) (cutOf xs off k) k (cutOf_length (by omega)) (fun i hi => by
    obtain ⟨b', o', e, hc⟩ := h.cut off k i (by rw [cutOf_length (by omega)]; exact hi)
    simp only [Option.map_some, Option.some.injEq, WideShapes.add_plain, Addr.mk.injEq, and_true] at e
    obtain ⟨rfl, rfl⟩ := e
    exact hc)
  have HC := Lib.hid h
  have HNZ := Lib.hid hnz
  have HZ := Lib.hid hz
  clear hk h hnz hz
  go_enter Try.func42, Try.ntmps42
  go_wp2
  go_loop [6] (fun i => ∃ j : Nat, j ≤ k ∧ i = .int .u64 ((off : Int) + (j : Int))) (fun i => off + k - (intOf i).toNat)
  case atStart => exact ⟨0, Nat.zero_le _, by simp⟩
  case round =>
    obtain ⟨j, hj, rfl⟩ := hrel
    obtain ⟨b', o', e, hck⟩ := HC.out (off + j) (by omega)
    simp only [Option.some.injEq, Addr.mk.injEq, and_true] at e
    obtain ⟨rfl, rfl⟩ := e
    by_cases hlt : j < k
    · have hx : (xs.getD (off + j) 0 != 0) = true := by rw [bne_iff_ne]; exact HNZ.out j hlt
      generalize xs.getD (off + j) 0 = x at *
      go_wp2
      go_round
      case rel => exact ⟨j + 1, by omega, by go_num⟩
      case measure => simp [intOf]; omega
    · obtain rfl : j = k := by omega
      have hx : (xs.getD (off + j) 0 != 0) = false := by rw [bne_eq_false_iff_eq]; exact HZ.out
      generalize xs.getD (off + j) 0 = x at *
      go_wp2
      go_ret2
      exact ⟨rfl, rfl⟩

set_option maxRecDepth 100000 in
set_option maxHeartbeats 1000000 in
theorem refText_long (a : Option Addr) (cap : Nat) (xs : List Int) (off : Nat) (w : World) (h : Row .u8 w a xs) (hby : Bytes xs) (hl : xs.length ≤ 140737488351232) (hc : xs.length ≤ cap)
    (k : Nat) (hk : Lib.indexByte (Lib.bytesOf (xs.drop off)) 0 = (k : Int)) (hk3 : 255 < k) :
    Calls Try.prog 42 #[.slice a xs.length cap, .int .u64 off] w fun e w' => e = .returned (.tuple #[.string ⟨#[]⟩, .int .i64 2]) ∧ w = w' := by
  obtain ⟨hk2, hz, hnz⟩ := first_zero hby off k hk
  obtain ⟨b, o, rfl⟩ := h.there (by omega)
  have hne : ¬ cap = off := by omega
  have HC := Lib.hid h
  have HNZ := Lib.hid hnz
  have HZ := Lib.hid hz
  clear hk h hnz hz
  go_enter Try.func42, Try.ntmps42
  go_wp2
  go_loop [6] (fun i => ∃ j : Nat, j ≤ k ∧ i = .int .u64 ((off : Int) + (j : Int))) (fun i => off + k - (intOf i).toNat)
  case atStart => exact ⟨0, Nat.zero_le _, by simp⟩
  case round =>
    obtain ⟨j, hj, rfl⟩ := hrel
    obtain ⟨b', o', e, hck⟩ := HC.out (off + j) (by omega)
    simp only [Option.some.injEq, Addr.mk.injEq, and_true] at e
    obtain ⟨rfl, rfl⟩ := e
    by_cases hlt : j < k
    · have hx : (xs.getD (off + j) 0 != 0) = true := by rw [bne_iff_ne]; exact HNZ.out j hlt
      generalize xs.getD (off + j) 0 = x at *
      go_wp2
      go_round
      case rel => exact ⟨j + 1, by omega, by go_num⟩
      case measure => simp [intOf]; omega
    · obtain rfl : j = k := by omega
      have hx : (xs.getD (off + j) 0 != 0) = false := by rw [bne_eq_false_iff_eq]; exact HZ.out
      generalize xs.getD (off + j) 0 = x at *
      go_wp2
      go_ret2
      exact ⟨rfl, rfl⟩

set_option maxRecDepth 100000 in
set_option maxHeartbeats 1000000 in
theorem refText_open (a : Option Addr) (cap : Nat) (xs : List Int) (off : Nat) (w : World) (h : Row .u8 w a xs) (hby : Bytes xs) (hl : xs.length ≤ 140737488351232)
    (h1 : off < xs.length) (hk : Lib.indexByte (Lib.bytesOf (xs.drop off)) 0 = -1) :
    Calls Try.prog 42 #[.slice a xs.length cap, .int .u64 off] w fun e w' => e = .returned (.tuple #[.string ⟨#[]⟩, .int .i64 4]) ∧ w = w' := by
  have hnz := no_zero hby off hk
  have HC := Lib.hid h
  have HNZ := Lib.hid hnz
  clear hk h hnz
  go_enter Try.func42, Try.ntmps42
  go_wp2
  go_loop [6] (fun i => ∃ j : Nat, off + j ≤ xs.length ∧ i = .int .u64 ((off : Int) + (j : Int))) (fun i => xs.length - (intOf i).toNat)
  case atStart => exact ⟨0, by omega, by simp⟩
  case round =>
    obtain ⟨j, hj, rfl⟩ := hrel
    by_cases hlt : off + j < xs.length
    · obtain ⟨b, o, rfl, hck⟩ := HC.out (off + j) hlt
      have hx : (xs.getD (off + j) 0 != 0) = true := by rw [bne_iff_ne]; exact HNZ.out j hlt
      generalize xs.getD (off + j) 0 = x at *
      go_wp2
      go_round
      case rel => exact ⟨j + 1, by omega, by go_num⟩
      case measure => simp [intOf]; omega
    · have hq : ((off : Int) + (j : Int) == (xs.length : Int)) = true := by rw [beq_iff_eq]; omega
      go_wp2
      go_ret2
      exact ⟨rfl, rfl⟩

end Go.Proofs.Ytikpkblemegggaa
