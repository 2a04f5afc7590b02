/- Layer 5, the document's own answer: numbers in bytes, and the bytes of a file at an address. -/
import Derived.Test.YtaedeaefoeeidaaDynRef
import Derived.Test.YtaedeaefoeeidaaDynSlice
namespace Go.Proofs.Ytaedeaefoeeidaa
open Go.RowKit
set_option linter.unusedVariables false
set_option linter.unusedSimpArgs false

theorem num_drop {bs : List Nat} {i : Nat} (h : i < bs.length) : numOf (bs.drop i) = bs.getD i 0 + 256 * numOf (bs.drop (i + 1)) := by
  rw [List.drop_eq_getElem_cons h, numOf, getD_getElem h]
theorem num_drop_lt {bs : List Nat} (hb : ∀ b ∈ bs, b < 256) (hl : bs.length ≤ 8) (i : Nat) (hi : i < bs.length) : 256 * numOf (bs.drop (i + 1)) + bs.getD i 0 < 18446744073709551616 := by
  have h1 := numOf_lt (bs.drop i) (fun x hx => hb x (List.mem_of_mem_drop hx))
  rw [num_drop hi] at h1
  have h2 : (256 : Nat) ^ (bs.drop i).length ≤ 256 ^ 8 := Nat.pow_le_pow_right (by omega) (by simp; omega)
  have h5 : (256 : Nat) ^ 8 = 18446744073709551616 := by decide
  omega

set_option maxHeartbeats 1000000 in
theorem refNumber_any (a : Option Addr) (cap : Nat) (bs : List Nat) (w : World) (h : BRow w a bs) (hl : bs.length ≤ 8) :
    Calls Try.prog 39 #[.slice a bs.length cap] w fun e w' => e = .returned (.int .u64 ((numOf bs : Nat) : Int)) ∧ w = w' := by
  have H := Lib.hid h
  have HL := Lib.hid (num_drop_lt h.2 hl)
  clear h
  go_enter Try.func39, Try.ntmps39
  go_wp2
  go_loopg [3, 4] bs.length (fun g v i wr => g ≤ bs.length ∧ i = .int .i64 ((g : Int) - 1) ∧ v = .int .u64 ((numOf (bs.drop g) : Nat) : Int) ∧ w = wr)
  case atStart => exact ⟨Nat.le_refl _, rfl, by rw [List.drop_length]; rfl, rfl⟩
  case round =>
    obtain ⟨hg, rfl, rfl, rfl⟩ := hrel
    cases gk with
    | zero =>
      rw [List.drop_zero]
      go_wp2
      go_ret
      exact ⟨rfl, rfl⟩
    | succ g =>
      obtain ⟨b, off, rfl, -, hc, hb⟩ := H.out.at (i := g) (by omega)
      have hlt := HL.out g (by omega)
      have HE := Lib.hid (num_drop (bs := bs) (i := g) (by omega))
      have e0 : ((g + 1 : Nat) : Int) - 1 = (g : Int) := by omega
      rw [e0]
      generalize bs.getD g 0 = x at *
      generalize numOf (bs.drop (g + 1)) = v at *
      have hlt2 : (256 : Int) * (v : Int) + (x : Int) < 18446744073709551616 := by omega
      have hlt3 : (256 : Int) * (v : Int) < 18446744073709551616 := by omega
      clear hlt
      go_wp2
      go_roundg g
      case measure => omega
      case rel => exact ⟨by omega, by go_num, by rw [HE.out]; exact vint (by omega), rfl⟩

theorem refCut_any (a : Option Addr) (cap : Nat) (bs : List Nat) (off size : Nat) (w : World) (hb : BRow w a bs) (hbl : bs.length ≤ 140737488351232) (hbc : bs.length ≤ cap) (hbn : a = none → bs.length = 0 ∧ cap = 0) (ho : off < 18446744073709551616) (hs : size < 18446744073709551616) (hin : off ≤ bs.length ∧ size ≤ bs.length - off) :
    Calls Try.prog 33 #[.slice a bs.length cap, .int .u64 off, .int .u64 size] w fun e w' => (∃ ad c, e = .returned (.tuple #[.slice ad size c, .bool true]) ∧ BRow w ad ((bs.drop off).take size) ∧ size ≤ c ∧ (ad = none → size = 0 ∧ c = 0)) ∧ w = w' := by
  obtain ⟨h1, h2⟩ := hin
  have hcase : ¬ cap = off ∨ cap = off := by omega
  have HB := Lib.hid hb
  have HN := Lib.hid hbn
  clear hb hbn
  rcases hcase with hco | hco
  · have hos : off + size - off = size := by omega
    go_enter Try.func33, Try.ntmps33
    go_wp2
    go_ret2
    refine ⟨⟨a.map (·.add off), cap - off, ?_, HB.out.cut off size, by omega, ?_⟩, by first | rfl | trivial⟩
    · refine ret2 ?_ rfl
      show Value.slice _ (off + size - off) _ = _
      rw [hos]
    · intro hn
      have : a = none := by cases a with
        | none => rfl
        | some x => simp at hn
      obtain ⟨h3, h4⟩ := HN.out this
      omega
  · subst hco
    have h0 : size = 0 := by omega
    subst h0
    go_enter Try.func33, Try.ntmps33
    go_wp2
    go_ret2
    exact ⟨⟨a, 0, rfl, ⟨fun i hi => by simp [toI] at hi, fun b hb => by simp at hb⟩, Nat.le_refl _, fun _ => by simp⟩, by first | rfl | trivial⟩
theorem refCut_out (a : Option Addr) (cap : Nat) (bs : List Nat) (off size : Nat) (w : World) (hbl : bs.length ≤ 140737488351232) (ho : off < 18446744073709551616) (hs : size < 18446744073709551616) (hin : ¬ (off ≤ bs.length ∧ size ≤ bs.length - off)) :
    Calls Try.prog 33 #[.slice a bs.length cap, .int .u64 off, .int .u64 size] w fun e w' => e = .returned (.tuple #[.slice none 0 0, .bool false]) ∧ w = w' := by
  by_cases h1 : off ≤ bs.length
  · have h2 : bs.length - off < size := by omega
    have h3 : ((bs.length : Int) - (off : Int)) < (size : Int) := by omega
    go_enter Try.func33, Try.ntmps33
    go_wp2
    go_ret2
    exact ⟨rfl, rfl⟩
  · have h3 : (bs.length : Int) < (off : Int) := by omega
    go_enter Try.func33, Try.ntmps33
    go_wp2
    go_ret2
    exact ⟨rfl, rfl⟩
end Go.Proofs.Ytaedeaefoeeidaa
