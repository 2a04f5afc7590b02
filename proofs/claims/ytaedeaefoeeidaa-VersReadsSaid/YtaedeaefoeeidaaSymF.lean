/- Texts in bytes: the first byte 0, and what lies ahead of it. Nothing of the program is named but []byte and string. -/
import Derived.Test.YtaedeaefoeeidaaErrs
import Derived.Test.YtaedeaefoeeidaaKit1
import Derived.Test.YtaedeaefoeeidaaShelf
import Derived.Lib.IndexLaws
import Derived.Test.YtaedeaefoeeidaaDynSlice
namespace Go.Proofs.Ytaedeaefoeeidaa
open Go.RowKit
set_option linter.unusedVariables false
set_option linter.unusedSimpArgs false

theorem fold_push (ns : List Int) (r : ByteArray) : ns.foldl (fun r n => r.push (UInt8.ofNat n.toNat)) r = ⟨r.data ++ (Lib.bytesOf ns).toArray⟩ := by
  induction ns generalizing r with
  | nil => simp [Lib.bytesOf]
  | cons n ns ih =>
    rw [List.foldl_cons, ih]
    simp [Lib.bytesOf, ByteArray.push]

/-- string(b): a text of the slice's bytes -/
theorem conv_bytes (w : World) (b o c : Nat) (ns : List Int) (n : Nat) (hl : ns.length = n) (hc : ∀ i, i < n → w.cell? ⟨b, o + i, none⟩ = some (.int .u8 (ns.getD i 0))) :
    (convert 22 9 (.slice (some ⟨b, o, none⟩) n c)).run Try.prog w = .ok (.string ⟨(Lib.bytesOf ns).toArray⟩) w := by
  rw [run_convert_bytes_string w 22 9 5 _ _ _ Try.underlying22 Try.underlying5 Try.underlying9]
  have h := run_firstCells_some (P := Try.prog) w 1 n ⟨b, o, none⟩ n c (ns.map (Value.int .u8)) (by simp [hl]) (by
    intro j u hj
    rw [WideShapes.add_plain]
    have hjn : j < ns.length := by
      have := (List.getElem?_eq_some_iff.1 hj).1
      simpa using this
    rw [hc j (by omega)]
    rw [List.getElem?_map, List.getElem?_eq_getElem hjn] at hj
    simp only [Option.map_some, Option.some.injEq] at hj
    rw [← hj]
    simp [List.getD, List.getElem?_eq_getElem hjn])
  simp only [Builtin.firstCells, Nat.mul_one] at h
  rw [run_bytesToString w ⟨b, o, none⟩ n c ns h, fold_push]
  simp

theorem byte_zero {xs : List Int} (hb : Bytes xs) (i : Nat) (h : i < xs.length) : ((Lib.bytesOf xs)[i]? = some 0) ↔ xs.getD i 0 = 0 := by
  have hx := hb xs[i] (List.getElem_mem h)
  simp only [Lib.bytesOf, List.getElem?_map, List.getElem?_eq_getElem h, Option.map_some, Option.some.injEq, List.getD, Option.getD_some]
  obtain ⟨x, hx'⟩ := Int.eq_ofNat_of_zero_le hx.1
  rw [hx'] at hx ⊢
  constructor
  · intro e
    have := congrArg UInt8.toNat e
    simp at this
    omega
  · intro e
    have : x = 0 := by omega
    subst this
    rfl

theorem first_zero {xs : List Int} (hb : Bytes xs) (off k : Nat) (h : Lib.indexByte (Lib.bytesOf (xs.drop off)) 0 = (k : Int)) : off + k < xs.length ∧ xs.getD (off + k) 0 = 0 ∧ ∀ j, j < k → xs.getD (off + j) 0 ≠ 0 := by
  obtain ⟨h1, h2⟩ := Lib.indexByte_some h
  have hbd : Bytes (xs.drop off) := fun y hy => hb y (List.mem_of_mem_drop hy)
  have hl : k < (xs.drop off).length := by
    have := (List.getElem?_eq_some_iff.1 h1).1
    simpa [Lib.bytesOf] using this
  have hd : ∀ j, j < (xs.drop off).length → (xs.drop off).getD j 0 = xs.getD (off + j) 0 := by
    intro j hj
    simp [List.getD, List.getElem?_drop]
  have hl2 : off + k < xs.length := by simp at hl; omega
  refine ⟨hl2, ?_, fun j hj => ?_⟩
  · rw [← hd k hl]
    exact (byte_zero hbd k hl).1 h1
  · rw [← hd j (by omega)]
    exact fun e => h2 j hj ((byte_zero hbd j (by omega)).2 e)

theorem no_zero {xs : List Int} (hb : Bytes xs) (off : Nat) (h : Lib.indexByte (Lib.bytesOf (xs.drop off)) 0 = -1) : ∀ j, off + j < xs.length → xs.getD (off + j) 0 ≠ 0 := by
  intro j hj
  have hbd : Bytes (xs.drop off) := fun y hy => hb y (List.mem_of_mem_drop hy)
  have hl : j < (xs.drop off).length := by simp; omega
  have hd : (xs.drop off).getD j 0 = xs.getD (off + j) 0 := by simp [List.getD, List.getElem?_drop]
  rw [← hd]
  exact fun e => Lib.indexByte_none h j ((byte_zero hbd j hl).2 e)

end Go.Proofs.Ytaedeaefoeeidaa
/- Layer 6: a string of a table, the program's answer and the document's. -/
namespace Go.Proofs.Ytaedeaefoeeidaa
open Go.RowKit
set_option linter.unusedVariables false
set_option linter.unusedSimpArgs false

theorem symText_range (a : Option Addr) (cap len : Nat) (off : Nat) (w : World) (hl : len ≤ 140737488351232) (ho : off < 18446744073709551616) (h1 : ¬ off < len) :
    Calls Try.prog 48 #[.slice a len cap, .int .u64 off] w fun e w' => e = .returned (.tuple #[.string ⟨#[]⟩, errV 4]) ∧ w = w' := by
  have h2 : (len : Int) ≤ (off : Int) := by omega
  go_enter Try.func48, Try.ntmps48
  go_wp2
  go_ret2
  exact ⟨ret2 rfl rfl, rfl⟩

set_option maxRecDepth 100000 in
set_option maxHeartbeats 1000000 in
theorem symText_open (a : Option Addr) (cap : Nat) (xs : List Int) (off : Nat) (w : World) (h : Row .u8 w a xs) (hby : Bytes xs) (hl : xs.length ≤ 140737488351232) (hc : xs.length ≤ cap) (ho : off < 18446744073709551616) (h1 : off < xs.length) (hk : Lib.indexByte (Lib.bytesOf (xs.drop off)) 0 = -1) :
    Calls Try.prog 48 #[.slice a xs.length cap, .int .u64 off] w fun e w' => e = .returned (.tuple #[.string ⟨#[]⟩, errV 4]) ∧ w = w' := by
  obtain ⟨b, o, rfl⟩ := h.there (by omega)
  have hib := Lib.hid (Try.bytes_IndexByte b (o + off) (xs.length - off) (cap - off) (xs.drop off) 0 w (by simp) (fun i hi => by
    obtain ⟨b', o', e, hc⟩ := h (off + i) (by omega)
    simp only [Option.some.injEq, Addr.mk.injEq, and_true] at e
    obtain ⟨rfl, rfl⟩ := e
    rw [Nat.add_assoc, hc]
    simp [List.getD]))
  rw [show (0 : Int).toNat.toUInt8 = 0 from rfl, hk] at hib
  have hne : ¬ cap = off := by omega
  clear hk h
  go_enter Try.func48, Try.ntmps48
  go_wp2_with (first
    | (go_at_call 49; refine (Hid.out hib).mono ?_; rintro e w' ⟨rfl, rfl⟩))
  go_ret2
  exact ⟨ret2 rfl rfl, rfl⟩

set_option maxRecDepth 100000 in
set_option maxHeartbeats 1000000 in
theorem symText_long (a : Option Addr) (cap : Nat) (xs : List Int) (off : Nat) (w : World) (h : Row .u8 w a xs) (hby : Bytes xs) (hl : xs.length ≤ 140737488351232) (hc : xs.length ≤ cap) (ho : off < 18446744073709551616) (h1 : off < xs.length) (k : Nat) (hk : Lib.indexByte (Lib.bytesOf (xs.drop off)) 0 = (k : Int)) (hk3 : 255 < k) :
    Calls Try.prog 48 #[.slice a xs.length cap, .int .u64 off] w fun e w' => e = .returned (.tuple #[.string ⟨#[]⟩, errV 2]) ∧ w = w' := by
  obtain ⟨b, o, rfl⟩ := h.there (by omega)
  have hib := Lib.hid (Try.bytes_IndexByte b (o + off) (xs.length - off) (cap - off) (xs.drop off) 0 w (by simp) (fun i hi => by
    obtain ⟨b', o', e, hc⟩ := h (off + i) (by omega)
    simp only [Option.some.injEq, Addr.mk.injEq, and_true] at e
    obtain ⟨rfl, rfl⟩ := e
    rw [Nat.add_assoc, hc]
    simp [List.getD]))
  rw [show (0 : Int).toNat.toUInt8 = 0 from rfl, hk] at hib
  have hne : ¬ cap = off := by omega
  obtain ⟨hk2, -, -⟩ := first_zero hby off k hk
  clear hk h
  go_enter Try.func48, Try.ntmps48
  go_wp2_with (first
    | (go_at_call 49; refine (Hid.out hib).mono ?_; rintro e w' ⟨rfl, rfl⟩))
  go_ret2
  exact ⟨ret2 rfl rfl, rfl⟩

set_option maxRecDepth 100000 in
set_option maxHeartbeats 1000000 in
theorem symText_yes (a : Option Addr) (cap : Nat) (xs : List Int) (off : Nat) (w : World) (h : Row .u8 w a xs) (hby : Bytes xs) (hl : xs.length ≤ 140737488351232) (hc : xs.length ≤ cap) (ho : off < 18446744073709551616) (h1 : off < xs.length) (k : Nat) (hk : Lib.indexByte (Lib.bytesOf (xs.drop off)) 0 = (k : Int)) (hk3 : k ≤ 255) :
    Calls Try.prog 48 #[.slice a xs.length cap, .int .u64 off] w fun e w' => e = .returned (.tuple #[.string ⟨(Lib.bytesOf (cutOf xs off k)).toArray⟩, errV 0]) ∧ w = w' := by
  obtain ⟨b, o, rfl⟩ := h.there (by omega)
  have hib := Lib.hid (Try.bytes_IndexByte b (o + off) (xs.length - off) (cap - off) (xs.drop off) 0 w (by simp) (fun i hi => by
    obtain ⟨b', o', e, hc⟩ := h (off + i) (by omega)
    simp only [Option.some.injEq, Addr.mk.injEq, and_true] at e
    obtain ⟨rfl, rfl⟩ := e
    rw [Nat.add_assoc, hc]
    simp [List.getD]))
  rw [show (0 : Int).toNat.toUInt8 = 0 from rfl, hk] at hib
  have hne : ¬ cap = off := by omega
  obtain ⟨hk2, -, -⟩ := first_zero hby off k hk
  have hcv := conv_bytes w b (o + off) (cap - off) (cutOf xs off k) k (cutOf_length (by omega)) (fun i hi => by
    obtain ⟨b', o', e, hc⟩ := h.cut off k i (by rw [cutOf_length (by omega)]; exact hi)
    simp only [Option.map_some, Option.some.injEq, WideShapes.add_plain, Addr.mk.injEq, and_true] at e
    obtain ⟨rfl, rfl⟩ := e
    exact hc)
  clear hk h
  go_enter Try.func48, Try.ntmps48
  go_wp2_with (first
    | (go_at_call 49; refine (Hid.out hib).mono ?_; rintro e w' ⟨rfl, rfl⟩))
  go_ret2
  exact ⟨ret2 rfl rfl, rfl⟩


theorem refText_range (a : Option Addr) (cap len : Nat) (off : Nat) (w : World) (hl : len ≤ 140737488351232) (ho : off < 18446744073709551616) (h1 : ¬ off < len) :
    Calls Try.prog 37 #[.slice a len cap, .int .u64 off] w fun e w' => e = .returned (.tuple #[.string ⟨#[]⟩, .int .i64 4]) ∧ w = w' := by
  have h2 : (len : Int) ≤ (off : Int) := by omega
  go_enter Try.func37, Try.ntmps37
  go_wp2
  go_ret2
  exact ⟨rfl, rfl⟩

set_option maxRecDepth 100000 in
set_option maxHeartbeats 1000000 in
theorem refText_yes (a : Option Addr) (cap : Nat) (xs : List Int) (off : Nat) (w : World) (h : Row .u8 w a xs) (hby : Bytes xs) (hl : xs.length ≤ 140737488351232) (hc : xs.length ≤ cap)
    (k : Nat) (hk : Lib.indexByte (Lib.bytesOf (xs.drop off)) 0 = (k : Int)) (hk3 : k ≤ 255) :
    Calls Try.prog 37 #[.slice a xs.length cap, .int .u64 off] w fun e w' => e = .returned (.tuple #[.string ⟨(Lib.bytesOf (cutOf xs off k)).toArray⟩, .int .i64 0]) ∧ w = w' := by
  obtain ⟨hk2, hz, hnz⟩ := first_zero hby off k hk
  obtain ⟨b, o, rfl⟩ := h.there (by omega)
  have hne : ¬ cap = off := by omega
  have hcv := conv_bytes w b (o + off) (cap - off) (cutOf xs off k) k (cutOf_length (by omega)) (fun i hi => by
    obtain ⟨b', o', e, hc⟩ := h.cut off k i (by rw [cutOf_length (by omega)]; exact hi)
    simp only [Option.map_some, Option.some.injEq, WideShapes.add_plain, Addr.mk.injEq, and_true] at e
    obtain ⟨rfl, rfl⟩ := e
    exact hc)
  have HC := Lib.hid h
  have HNZ := Lib.hid hnz
  have HZ := Lib.hid hz
  clear hk h hnz hz
  go_enter Try.func37, Try.ntmps37
  go_wp2
  go_loop [6] (fun i => ∃ j : Nat, j ≤ k ∧ i = .int .u64 ((off : Int) + (j : Int))) (fun i => off + k - (intOf i).toNat)
  case atStart => exact ⟨0, Nat.zero_le _, by simp⟩
  case round =>
    obtain ⟨j, hj, rfl⟩ := hrel
    obtain ⟨b', o', e, hck⟩ := HC.out (off + j) (by omega)
    simp only [Option.some.injEq, Addr.mk.injEq, and_true] at e
    obtain ⟨rfl, rfl⟩ := e
    by_cases hlt : j < k
    · have hx : (xs.getD (off + j) 0 != 0) = true := by rw [bne_iff_ne]; exact HNZ.out j hlt
      generalize xs.getD (off + j) 0 = x at *
      go_wp2
      go_round
      case rel => exact ⟨j + 1, by omega, by go_num⟩
      case measure => simp [intOf]; omega
    · obtain rfl : j = k := by omega
      have hx : (xs.getD (off + j) 0 != 0) = false := by rw [bne_eq_false_iff_eq]; exact HZ.out
      generalize xs.getD (off + j) 0 = x at *
      go_wp2
      go_ret2
      exact ⟨rfl, rfl⟩

set_option maxRecDepth 100000 in
set_option maxHeartbeats 1000000 in
theorem refText_long (a : Option Addr) (cap : Nat) (xs : List Int) (off : Nat) (w : World) (h : Row .u8 w a xs) (hby : Bytes xs) (hl : xs.length ≤ 140737488351232) (hc : xs.length ≤ cap)
    (k : Nat) (hk : Lib.indexByte (Lib.bytesOf (xs.drop off)) 0 = (k : Int)) (hk3 : 255 < k) :
    Calls Try.prog 37 #[.slice a xs.length cap, .int .u64 off] w fun e w' => e = .returned (.tuple #[.string ⟨#[]⟩, .int .i64 2]) ∧ w = w' := by
  obtain ⟨hk2, hz, hnz⟩ := first_zero hby off k hk
  obtain ⟨b, o, rfl⟩ := h.there (by omega)
  have hne : ¬ cap = off := by omega
  have HC := Lib.hid h
  have HNZ := Lib.hid hnz
  have HZ := Lib.hid hz
  clear hk h hnz hz
  go_enter Try.func37, Try.ntmps37
  go_wp2
  go_loop [6] (fun i => ∃ j : Nat, j ≤ k ∧ i = .int .u64 ((off : Int) + (j : Int))) (fun i => off + k - (intOf i).toNat)
  case atStart => exact ⟨0, Nat.zero_le _, by simp⟩
  case round =>
    obtain ⟨j, hj, rfl⟩ := hrel
    obtain ⟨b', o', e, hck⟩ := HC.out (off + j) (by omega)
    simp only [Option.some.injEq, Addr.mk.injEq, and_true] at e
    obtain ⟨rfl, rfl⟩ := e
    by_cases hlt : j < k
    · have hx : (xs.getD (off + j) 0 != 0) = true := by rw [bne_iff_ne]; exact HNZ.out j hlt
      generalize xs.getD (off + j) 0 = x at *
      go_wp2
      go_round
      case rel => exact ⟨j + 1, by omega, by go_num⟩
      case measure => simp [intOf]; omega
    · obtain rfl : j = k := by omega
      have hx : (xs.getD (off + j) 0 != 0) = false := by rw [bne_eq_false_iff_eq]; exact HZ.out
      generalize xs.getD (off + j) 0 = x at *
      go_wp2
      go_ret2
      exact ⟨rfl, rfl⟩

set_option maxRecDepth 100000 in
set_option maxHeartbeats 1000000 in
theorem refText_open (a : Option Addr) (cap : Nat) (xs : List Int) (off : Nat) (w : World) (h : Row .u8 w a xs) (hby : Bytes xs) (hl : xs.length ≤ 140737488351232)
    (h1 : off < xs.length) (hk : Lib.indexByte (Lib.bytesOf (xs.drop off)) 0 = -1) :
    Calls Try.prog 37 #[.slice a xs.length cap, .int .u64 off] w fun e w' => e = .returned (.tuple #[.string ⟨#[]⟩, .int .i64 4]) ∧ w = w' := by
  have hnz := no_zero hby off hk
  have HC := Lib.hid h
  have HNZ := Lib.hid hnz
  clear hk h hnz
  go_enter Try.func37, Try.ntmps37
  go_wp2
  go_loop [6] (fun i => ∃ j : Nat, off + j ≤ xs.length ∧ i = .int .u64 ((off : Int) + (j : Int))) (fun i => xs.length - (intOf i).toNat)
  case atStart => exact ⟨0, by omega, by simp⟩
  case round =>
    obtain ⟨j, hj, rfl⟩ := hrel
    by_cases hlt : off + j < xs.length
    · obtain ⟨b, o, rfl, hck⟩ := HC.out (off + j) hlt
      have hx : (xs.getD (off + j) 0 != 0) = true := by rw [bne_iff_ne]; exact HNZ.out j hlt
      generalize xs.getD (off + j) 0 = x at *
      go_wp2
      go_round
      case rel => exact ⟨j + 1, by omega, by go_num⟩
      case measure => simp [intOf]; omega
    · have hq : ((off : Int) + (j : Int) == (xs.length : Int)) = true := by rw [beq_iff_eq]; omega
      go_wp2
      go_ret2
      exact ⟨rfl, rfl⟩

end Go.Proofs.Ytaedeaefoeeidaa
/- Layer 6: the strings and symbols of a file: what they are, as lists; a string, the program's answer and the document's. -/
namespace Go.Proofs.Ytaedeaefoeeidaa
open Go.RowKit
set_option linter.unusedVariables false
set_option linter.unusedSimpArgs false

/-- the text at a place; an error's number behind -/
def textF (s : List Nat) (off : Nat) : ByteArray × Nat :=
  if off < s.length then
    (if Lib.indexByte (Lib.bytesOf ((toI s).drop off)) 0 < 0 then (⟨#[]⟩, 4)
    else if 255 < Lib.indexByte (Lib.bytesOf ((toI s).drop off)) 0 then (⟨#[]⟩, 2)
    else (⟨(Lib.bytesOf (cutOf (toI s) off (Lib.indexByte (Lib.bytesOf ((toI s).drop off)) 0).toNat)).toArray⟩, 0))
  else (⟨#[]⟩, 4)
theorem textF_code (s : List Nat) (off : Nat) : (textF s off).2 = 0 ∨ textF s off = (⟨#[]⟩, 4) ∨ textF s off = (⟨#[]⟩, 2) := by
  unfold textF
  split
  · split
    · right; left; rfl
    · split
      · right; right; rfl
      · left; rfl
  · right; left; rfl
theorem toI_bytes {s : List Nat} (h : ∀ b ∈ s, b < 256) : Bytes (toI s) := by
  intro x hx
  obtain ⟨y, hy, rfl⟩ := List.mem_map.1 hx
  have := h y hy
  omega
theorem indexByte_cases (l : List UInt8) : Lib.indexByte l 0 = -1 ∨ ∃ k : Nat, Lib.indexByte l 0 = (k : Int) := by
  by_cases h : Lib.indexByte l 0 < 0
  · left
    have := Lib.indexByte_ge l 0
    omega
  · right
    exact ⟨(Lib.indexByte l 0).toNat, by omega⟩

theorem symText_any (a : Option Addr) (cap : Nat) (s : List Nat) (off : Nat) (w : World) (h : BRow w a s) (hl : s.length ≤ 140737488351232) (hc : s.length ≤ cap) (ho : off < 18446744073709551616) :
    Calls Try.prog 48 #[.slice a s.length cap, .int .u64 off] w fun e w' => e = .returned (.tuple #[.string (textF s off).1, errV ((textF s off).2 : Int)]) ∧ w = w' := by
  have hb := toI_bytes h.2
  have hlen := toI_length s
  unfold textF
  by_cases h1 : off < s.length
  · rw [if_pos h1]
    rcases indexByte_cases (Lib.bytesOf ((toI s).drop off)) with hk | ⟨k, hk⟩
    · rw [hk, if_pos (by omega)]
      have := symText_open a cap (toI s) off w h.1 hb (by omega) (by omega) ho (by omega) hk
      rw [hlen] at this
      exact this
    · rw [hk, if_neg (by omega)]
      by_cases h3 : 255 < k
      · rw [if_pos (by omega)]
        have := symText_long a cap (toI s) off w h.1 hb (by omega) (by omega) ho (by omega) k hk h3
        rw [hlen] at this
        exact this
      · rw [if_neg (by omega)]
        have := symText_yes a cap (toI s) off w h.1 hb (by omega) (by omega) ho (by omega) k hk (by omega)
        rw [hlen] at this
        exact this
  · rw [if_neg h1]
    exact symText_range a cap s.length off w hl ho h1


theorem refText_any (a : Option Addr) (cap : Nat) (s : List Nat) (off : Nat) (w : World) (h : BRow w a s) (hl : s.length ≤ 140737488351232) (hc : s.length ≤ cap) (ho : off < 18446744073709551616) :
    Calls Try.prog 37 #[.slice a s.length cap, .int .u64 off] w fun e w' => e = .returned (.tuple #[.string (textF s off).1, .int .i64 ((textF s off).2 : Int)]) ∧ w = w' := by
  have hb := toI_bytes h.2
  have hlen := toI_length s
  unfold textF
  by_cases h1 : off < s.length
  · rw [if_pos h1]
    rcases indexByte_cases (Lib.bytesOf ((toI s).drop off)) with hk | ⟨k, hk⟩
    · rw [hk, if_pos (by omega)]
      have := refText_open a cap (toI s) off w h.1 hb (by omega) (by omega) hk
      rw [hlen] at this
      exact this
    · rw [hk, if_neg (by omega)]
      by_cases h3 : 255 < k
      · rw [if_pos (by omega)]
        have := refText_long a cap (toI s) off w h.1 hb (by omega) (by omega) k hk h3
        rw [hlen] at this
        exact this
      · rw [if_neg (by omega)]
        have := refText_yes a cap (toI s) off w h.1 hb (by omega) (by omega) k hk (by omega)
        rw [hlen] at this
        exact this
  · rw [if_neg h1]
    exact refText_range a cap s.length off w hl ho h1


/-- is a symbol's type one that may be? -/
def typedB (k : Nat) : Bool := k == 0 || k == 1 || k == 2 || k == 3 || k == 4 || k == 6 || k == 10












/-- a symbol without a name, and without anything else -/
def symZero : List Value := [.string .empty, .int .i64 0, .int .i64 0, .int .i64 0, .int .i64 0, .int .u64 0, .int .u64 0]
/-- what 24 bytes tell of a symbol whose name is known -/
def symCells (nm : ByteArray) (bs : List Nat) : List Value :=
  [.string nm, .int .i64 ((bs.getD 4 0 / 16 : Nat) : Int), .int .i64 ((bs.getD 4 0 % 16 : Nat) : Int), .int .i64 ((bs.getD 5 0 % 4 : Nat) : Int),
    .int .i64 ((numOf ((bs.drop 6).take 2) : Nat) : Int), .int .u64 ((numOf ((bs.drop 8).take 8) : Nat) : Int), .int .u64 ((numOf ((bs.drop 16).take 8) : Nat) : Int)]
/-- is what they tell one that may be? -/
def symOk (bs : List Nat) : Bool := decide (bs.getD 4 0 / 16 ≤ 2) && typedB (bs.getD 4 0 % 16)
/-- the symbol that 24 bytes tell; an error's number behind -/
def symF (s bs : List Nat) : List Value × Nat :=
  if (textF s (numOf (bs.take 4))).2 = 0 then (if symOk bs then (symCells (textF s (numOf (bs.take 4))).1 bs, 0) else (symZero, 3)) else (symZero, (textF s (numOf (bs.take 4))).2)
end Go.Proofs.Ytaedeaefoeeidaa
