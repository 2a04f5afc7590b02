/- Layer 1, the document's own answer on a text. -/
import Derived.Test.YtmjfkcclhbpclaaDoorHText
import Derived.Lib.IndexLaws
namespace Go.Proofs.YtmjfkcclhbpclaaDoor
open Go.RowKit
set_option linter.unusedVariables false
set_option linter.unusedSimpArgs false

theorem byte_zero {xs : List Int} (hb : Bytes xs) (i : Nat) (h : i < xs.length) : ((Lib.bytesOf xs)[i]? = some 0) ↔ xs.getD i 0 = 0 := by
  have hx := hb xs[i] (List.getElem_mem h)
  simp only [Lib.bytesOf, List.getElem?_map, List.getElem?_eq_getElem h, Option.map_some, Option.some.injEq, List.getD, Option.getD_some]
  obtain ⟨x, hx'⟩ := Int.eq_ofNat_of_zero_le hx.1
  rw [hx'] at hx ⊢
  constructor
  · intro e
    have := congrArg UInt8.toNat e
    simp at this
    omega
  · intro e
    have : x = 0 := by omega
    subst this
    rfl

theorem first_zero {xs : List Int} (hb : Bytes xs) (off k : Nat) (h : Lib.indexByte (Lib.bytesOf (xs.drop off)) 0 = (k : Int)) : off + k < xs.length ∧ xs.getD (off + k) 0 = 0 ∧ ∀ j, j < k → xs.getD (off + j) 0 ≠ 0 := by
  obtain ⟨h1, h2⟩ := Lib.indexByte_some h
  have hbd : Bytes (xs.drop off) := fun y hy => hb y (List.mem_of_mem_drop hy)
  have hl : k < (xs.drop off).length := by
    have := (List.getElem?_eq_some_iff.1 h1).1
    simpa [Lib.bytesOf] using this
  have hd : ∀ j, j < (xs.drop off).length → (xs.drop off).getD j 0 = xs.getD (off + j) 0 := by
    intro j hj
    simp [List.getD, List.getElem?_drop]
  have hl2 : off + k < xs.length := by simp at hl; omega
  refine ⟨hl2, ?_, fun j hj => ?_⟩
  · rw [← hd k hl]
    exact (byte_zero hbd k hl).1 h1
  · rw [← hd j (by omega)]
    exact fun e => h2 j hj ((byte_zero hbd j (by omega)).2 e)

theorem no_zero {xs : List Int} (hb : Bytes xs) (off : Nat) (h : Lib.indexByte (Lib.bytesOf (xs.drop off)) 0 = -1) : ∀ j, off + j < xs.length → xs.getD (off + j) 0 ≠ 0 := by
  intro j hj
  have hbd : Bytes (xs.drop off) := fun y hy => hb y (List.mem_of_mem_drop hy)
  have hl : j < (xs.drop off).length := by simp; omega
  have hd : (xs.drop off).getD j 0 = xs.getD (off + j) 0 := by simp [List.getD, List.getElem?_drop]
  rw [← hd]
  exact fun e => Lib.indexByte_none h j ((byte_zero hbd j hl).2 e)

theorem refText_range (a : Option Addr) (cap len : Nat) (off : Nat) (w : World) (hl : len ≤ 140737488351232) (ho : off < 18446744073709551616) (h1 : ¬ off < len) :
    Calls Tryd.prog 33 #[.slice a len cap, .int .u64 off] w fun e w' => e = .returned (.tuple #[.string ⟨#[]⟩, .int .i64 4]) ∧ w = w' := by
  have h2 : (len : Int) ≤ (off : Int) := by omega
  go_enter Tryd.func33, Tryd.ntmps33
  go_wp2
  go_ret2
  exact ⟨rfl, rfl⟩

set_option maxRecDepth 100000 in
set_option maxHeartbeats 1000000 in
theorem refText_yes (a : Option Addr) (cap : Nat) (xs : List Int) (off : Nat) (w : World) (h : Row .u8 w a xs) (hby : Bytes xs) (hl : xs.length ≤ 140737488351232) (hc : xs.length ≤ cap)
    (k : Nat) (hk : Lib.indexByte (Lib.bytesOf (xs.drop off)) 0 = (k : Int)) :
    Calls Tryd.prog 33 #[.slice a xs.length cap, .int .u64 off] w fun e w' => e = .returned (.tuple #[.string ⟨(Lib.bytesOf (cutOf xs off k)).toArray⟩, .int .i64 0]) ∧ w = w' := by
  obtain ⟨hk2, hz, hnz⟩ := first_zero hby off k hk
  obtain ⟨b, o, rfl⟩ := h.there (by omega)
  have hne : ¬ cap = off := by omega
  have hcv := conv_bytes w b (o + off) (cap - off) (cutOf xs off k) k (cutOf_length (by omega)) (fun i hi => by
    obtain ⟨b', o', e, hc⟩ := h.cut off k i (by rw [cutOf_length (by omega)]; exact hi)
    simp only [Option.map_some, Option.some.injEq, WideShapes.add_plain, Addr.mk.injEq, and_true] at e
    obtain ⟨rfl, rfl⟩ := e
    exact hc)
  have HC := Lib.hid h
  have HNZ := Lib.hid hnz
  have HZ := Lib.hid hz
  clear hk h hnz hz
  go_enter Tryd.func33, Tryd.ntmps33
  go_wp2
  go_loop [6] (fun i => ∃ j : Nat, j ≤ k ∧ i = .int .i64 ((off : Int) + (j : Int))) (fun i => off + k - (intOf i).toNat)
  case atStart => exact ⟨0, Nat.zero_le _, by simp⟩
  case round =>
    obtain ⟨j, hj, rfl⟩ := hrel
    obtain ⟨b', o', e, hck⟩ := HC.out (off + j) (by omega)
    simp only [Option.some.injEq, Addr.mk.injEq, and_true] at e
    obtain ⟨rfl, rfl⟩ := e
    by_cases hlt : j < k
    · have hx : (xs.getD (off + j) 0 == 0) = false := by rw [beq_eq_false_iff_ne]; exact HNZ.out j hlt
      generalize xs.getD (off + j) 0 = x at *
      go_wp2
      go_round
      case rel => exact ⟨j + 1, by omega, by go_num⟩
      case measure => simp [intOf]; omega
    · obtain rfl : j = k := by omega
      have hx : (xs.getD (off + j) 0 == 0) = true := by rw [beq_iff_eq]; exact HZ.out
      generalize xs.getD (off + j) 0 = x at *
      go_wp2
      go_ret2
      exact ⟨rfl, rfl⟩

set_option maxRecDepth 100000 in
set_option maxHeartbeats 1000000 in
theorem refText_open (a : Option Addr) (cap : Nat) (xs : List Int) (off : Nat) (w : World) (h : Row .u8 w a xs) (hby : Bytes xs) (hl : xs.length ≤ 140737488351232)
    (h1 : off < xs.length) (hk : Lib.indexByte (Lib.bytesOf (xs.drop off)) 0 = -1) :
    Calls Tryd.prog 33 #[.slice a xs.length cap, .int .u64 off] w fun e w' => e = .returned (.tuple #[.string ⟨#[]⟩, .int .i64 29]) ∧ w = w' := by
  have hnz := no_zero hby off hk
  have HC := Lib.hid h
  have HNZ := Lib.hid hnz
  clear hk h hnz
  go_enter Tryd.func33, Tryd.ntmps33
  go_wp2
  go_loop [6] (fun i => ∃ j : Nat, off + j ≤ xs.length ∧ i = .int .i64 ((off : Int) + (j : Int))) (fun i => xs.length - (intOf i).toNat)
  case atStart => exact ⟨0, by omega, by simp⟩
  case round =>
    obtain ⟨j, hj, rfl⟩ := hrel
    by_cases hlt : off + j < xs.length
    · obtain ⟨b, o, rfl, hck⟩ := HC.out (off + j) hlt
      have hx : (xs.getD (off + j) 0 == 0) = false := by rw [beq_eq_false_iff_ne]; exact HNZ.out j hlt
      generalize xs.getD (off + j) 0 = x at *
      go_wp2
      go_round
      case rel => exact ⟨j + 1, by omega, by go_num⟩
      case measure => simp [intOf]; omega
    · go_wp2
      go_ret2
      exact ⟨rfl, rfl⟩
end Go.Proofs.YtmjfkcclhbpclaaDoor
