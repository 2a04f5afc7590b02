/- Layer 6: the strings and symbols of a file: what they are, as lists; a string, the program's answer and the document's. -/
import Derived.Test.YtikpkblemegggaaSymText
import Derived.Test.YtikpkblemegggaaDynSlice
namespace Go.Proofs.Ytikpkblemegggaa
open Go.RowKit
set_option linter.unusedVariables false
set_option linter.unusedSimpArgs false

/-- the text at a place; an error's number behind -/
def textF (s : List Nat) (off : Nat) : ByteArray × Nat :=
  if off < s.length then
    (if Lib.indexByte (Lib.bytesOf ((toI s).drop off)) 0 < 0 then (⟨#[]⟩, 4)
    else if 255 < Lib.indexByte (Lib.bytesOf ((toI s).drop off)) 0 then (⟨#[]⟩, 2)
    else (⟨(Lib.bytesOf (cutOf (toI s) off (Lib.indexByte (Lib.bytesOf ((toI s).drop off)) 0).toNat)).toArray⟩, 0))
  else (⟨#[]⟩, 4)
theorem textF_code (s : List Nat) (off : Nat) : (textF s off).2 = 0 ∨ textF s off = (⟨#[]⟩, 4) ∨ textF s off = (⟨#[]⟩, 2) := by
  unfold textF
  split
  · split
    · right; left; rfl
    · split
      · right; right; rfl
      · left; rfl
  · right; left; rfl
theorem toI_bytes {s : List Nat} (h : ∀ b ∈ s, b < 256) : Bytes (toI s) := by
  intro x hx
  obtain ⟨y, hy, rfl⟩ := List.mem_map.1 hx
  have := h y hy
  omega
theorem indexByte_cases (l : List UInt8) : Lib.indexByte l 0 = -1 ∨ ∃ k : Nat, Lib.indexByte l 0 = (k : Int) := by
  by_cases h : Lib.indexByte l 0 < 0
  · left
    have := Lib.indexByte_ge l 0
    omega
  · right
    exact ⟨(Lib.indexByte l 0).toNat, by omega⟩

theorem symText_any (a : Option Addr) (cap : Nat) (s : List Nat) (off : Nat) (w : World) (h : BRow w a s) (hl : s.length ≤ 140737488351232) (hc : s.length ≤ cap) (ho : off < 18446744073709551616) :
    Calls Try.prog 52 #[.slice a s.length cap, .int .u64 off] w fun e w' => e = .returned (.tuple #[.string (textF s off).1, errV ((textF s off).2 : Int)]) ∧ w = w' := by
  have hb := toI_bytes h.2
  have hlen := toI_length s
  unfold textF
  by_cases h1 : off < s.length
  · rw [if_pos h1]
    rcases indexByte_cases (Lib.bytesOf ((toI s).drop off)) with hk | ⟨k, hk⟩
    · rw [hk, if_pos (by omega)]
      have := symText_open a cap (toI s) off w h.1 hb (by omega) (by omega) ho (by omega) hk
      rw [hlen] at this
      exact this
    · rw [hk, if_neg (by omega)]
      by_cases h3 : 255 < k
      · rw [if_pos (by omega)]
        have := symText_long a cap (toI s) off w h.1 hb (by omega) (by omega) ho (by omega) k hk h3
        rw [hlen] at this
        exact this
      · rw [if_neg (by omega)]
        have := symText_yes a cap (toI s) off w h.1 hb (by omega) (by omega) ho (by omega) k hk (by omega)
        rw [hlen] at this
        exact this
  · rw [if_neg h1]
    exact symText_range a cap s.length off w hl ho h1


theorem refText_any (a : Option Addr) (cap : Nat) (s : List Nat) (off : Nat) (w : World) (h : BRow w a s) (hl : s.length ≤ 140737488351232) (hc : s.length ≤ cap) (ho : off < 18446744073709551616) :
    Calls Try.prog 42 #[.slice a s.length cap, .int .u64 off] w fun e w' => e = .returned (.tuple #[.string (textF s off).1, .int .i64 ((textF s off).2 : Int)]) ∧ w = w' := by
  have hb := toI_bytes h.2
  have hlen := toI_length s
  unfold textF
  by_cases h1 : off < s.length
  · rw [if_pos h1]
    rcases indexByte_cases (Lib.bytesOf ((toI s).drop off)) with hk | ⟨k, hk⟩
    · rw [hk, if_pos (by omega)]
      have := refText_open a cap (toI s) off w h.1 hb (by omega) (by omega) hk
      rw [hlen] at this
      exact this
    · rw [hk, if_neg (by omega)]
      by_cases h3 : 255 < k
      · rw [if_pos (by omega)]
        have := refText_long a cap (toI s) off w h.1 hb (by omega) (by omega) k hk h3
        rw [hlen] at this
        exact this
      · rw [if_neg (by omega)]
        have := refText_yes a cap (toI s) off w h.1 hb (by omega) (by omega) k hk (by omega)
        rw [hlen] at this
        exact this
  · rw [if_neg h1]
    exact refText_range a cap s.length off w hl ho h1


/-- is a symbol's type one that may be? -/
def typedB (k : Nat) : Bool := k == 0 || k == 1 || k == 2 || k == 3 || k == 4 || k == 6 || k == 10












/-- a symbol without a name, and without anything else -/
def symZero : List Value := [.string .empty, .int .i64 0, .int .i64 0, .int .i64 0, .int .i64 0, .int .u64 0, .int .u64 0]
/-- what 24 bytes tell of a symbol whose name is known -/
def symCells (nm : ByteArray) (bs : List Nat) : List Value :=
  [.string nm, .int .i64 ((bs.getD 4 0 / 16 : Nat) : Int), .int .i64 ((bs.getD 4 0 % 16 : Nat) : Int), .int .i64 ((bs.getD 5 0 % 4 : Nat) : Int),
    .int .i64 ((numOf ((bs.drop 6).take 2) : Nat) : Int), .int .u64 ((numOf ((bs.drop 8).take 8) : Nat) : Int), .int .u64 ((numOf ((bs.drop 16).take 8) : Nat) : Int)]
/-- is what they tell one that may be? -/
def symOk (bs : List Nat) : Bool := decide (bs.getD 4 0 / 16 ≤ 2) && typedB (bs.getD 4 0 % 16)
/-- the symbol that 24 bytes tell; an error's number behind -/
def symF (s bs : List Nat) : List Value × Nat :=
  if (textF s (numOf (bs.take 4))).2 = 0 then (if symOk bs then (symCells (textF s (numOf (bs.take 4))).1 bs, 0) else (symZero, 3)) else (symZero, (textF s (numOf (bs.take 4))).2)
end Go.Proofs.Ytikpkblemegggaa
