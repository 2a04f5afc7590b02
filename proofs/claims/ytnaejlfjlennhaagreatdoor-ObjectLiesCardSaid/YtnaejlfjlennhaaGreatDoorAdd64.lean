/- Texts in bytes: the first byte 0, and what lies ahead of it. Nothing of the program is named but []byte and string. -/
import Derived.Test.YtnaejlfjlennhaaGreatDoorErrs
import Derived.Test.YtnaejlfjlennhaaGreatDoorLittle
import Derived.Test.YtnaejlfjlennhaaGreatDoorShelf
import Derived.Lib.IndexLaws
namespace Go.Proofs.YtnaejlfjlennhaaGreatDoor
open Go.RowKit
set_option linter.unusedVariables false
set_option linter.unusedSimpArgs false

theorem fold_push (ns : List Int) (r : ByteArray) : ns.foldl (fun r n => r.push (UInt8.ofNat n.toNat)) r = ⟨r.data ++ (Lib.bytesOf ns).toArray⟩ := by
  induction ns generalizing r with
  | nil => simp [Lib.bytesOf]
  | cons n ns ih =>
    rw [List.foldl_cons, ih]
    simp [Lib.bytesOf, ByteArray.push]

/-- string(b): a text of the slice's bytes -/
theorem conv_bytes (w : World) (b o c : Nat) (ns : List Int) (n : Nat) (hl : ns.length = n) (hc : ∀ i, i < n → w.cell? ⟨b, o + i, none⟩ = some (.int .u8 (ns.getD i 0))) :
    (convert 22 9 (.slice (some ⟨b, o, none⟩) n c)).run Tryz.prog w = .ok (.string ⟨(Lib.bytesOf ns).toArray⟩) w := by
  rw [run_convert_bytes_string w 22 9 5 _ _ _ Tryz.underlying22 Tryz.underlying5 Tryz.underlying9]
  have h := run_firstCells_some (P := Tryz.prog) w 1 n ⟨b, o, none⟩ n c (ns.map (Value.int .u8)) (by simp [hl]) (by
    intro j u hj
    rw [WideShapes.add_plain]
    have hjn : j < ns.length := by
      have := (List.getElem?_eq_some_iff.1 hj).1
      simpa using this
    rw [hc j (by omega)]
    rw [List.getElem?_map, List.getElem?_eq_getElem hjn] at hj
    simp only [Option.map_some, Option.some.injEq] at hj
    rw [← hj]
    simp [List.getD, List.getElem?_eq_getElem hjn])
  simp only [Builtin.firstCells, Nat.mul_one] at h
  rw [run_bytesToString w ⟨b, o, none⟩ n c ns h, fold_push]
  simp

theorem byte_zero {xs : List Int} (hb : Bytes xs) (i : Nat) (h : i < xs.length) : ((Lib.bytesOf xs)[i]? = some 0) ↔ xs.getD i 0 = 0 := by
  have hx := hb xs[i] (List.getElem_mem h)
  simp only [Lib.bytesOf, List.getElem?_map, List.getElem?_eq_getElem h, Option.map_some, Option.some.injEq, List.getD, Option.getD_some]
  obtain ⟨x, hx'⟩ := Int.eq_ofNat_of_zero_le hx.1
  rw [hx'] at hx ⊢
  constructor
  · intro e
    have := congrArg UInt8.toNat e
    simp at this
    omega
  · intro e
    have : x = 0 := by omega
    subst this
    rfl

theorem first_zero {xs : List Int} (hb : Bytes xs) (off k : Nat) (h : Lib.indexByte (Lib.bytesOf (xs.drop off)) 0 = (k : Int)) : off + k < xs.length ∧ xs.getD (off + k) 0 = 0 ∧ ∀ j, j < k → xs.getD (off + j) 0 ≠ 0 := by
  obtain ⟨h1, h2⟩ := Lib.indexByte_some h
  have hbd : Bytes (xs.drop off) := fun y hy => hb y (List.mem_of_mem_drop hy)
  have hl : k < (xs.drop off).length := by
    have := (List.getElem?_eq_some_iff.1 h1).1
    simpa [Lib.bytesOf] using this
  have hd : ∀ j, j < (xs.drop off).length → (xs.drop off).getD j 0 = xs.getD (off + j) 0 := by
    intro j hj
    simp [List.getD, List.getElem?_drop]
  have hl2 : off + k < xs.length := by simp at hl; omega
  refine ⟨hl2, ?_, fun j hj => ?_⟩
  · rw [← hd k hl]
    exact (byte_zero hbd k hl).1 h1
  · rw [← hd j (by omega)]
    exact fun e => h2 j hj ((byte_zero hbd j (by omega)).2 e)

theorem no_zero {xs : List Int} (hb : Bytes xs) (off : Nat) (h : Lib.indexByte (Lib.bytesOf (xs.drop off)) 0 = -1) : ∀ j, off + j < xs.length → xs.getD (off + j) 0 ≠ 0 := by
  intro j hj
  have hbd : Bytes (xs.drop off) := fun y hy => hb y (List.mem_of_mem_drop hy)
  have hl : j < (xs.drop off).length := by simp; omega
  have hd : (xs.drop off).getD j 0 = xs.getD (off + j) 0 := by simp [List.getD, List.getElem?_drop]
  rw [← hd]
  exact fun e => Lib.indexByte_none h j ((byte_zero hbd j hl).2 e)

end Go.Proofs.YtnaejlfjlennhaaGreatDoor
/- Layer 6: a string of a table, the program's answer and the document's. -/
namespace Go.Proofs.YtnaejlfjlennhaaGreatDoor
open Go.RowKit
set_option linter.unusedVariables false
set_option linter.unusedSimpArgs false

theorem symText_range (a : Option Addr) (cap len : Nat) (off : Nat) (w : World) (hl : len ≤ 140737488351232) (ho : off < 18446744073709551616) (h1 : ¬ off < len) :
    Calls Tryz.prog 58 #[.slice a len cap, .int .u64 off] w fun e w' => e = .returned (.tuple #[.string ⟨#[]⟩, errV 4]) ∧ w = w' := by
  have h2 : (len : Int) ≤ (off : Int) := by omega
  go_enter Tryz.func58, Tryz.ntmps58
  go_wp2
  go_ret2
  exact ⟨ret2 rfl rfl, rfl⟩

set_option maxRecDepth 100000 in
set_option maxHeartbeats 1000000 in
theorem symText_open (a : Option Addr) (cap : Nat) (xs : List Int) (off : Nat) (w : World) (h : Row .u8 w a xs) (hby : Bytes xs) (hl : xs.length ≤ 140737488351232) (hc : xs.length ≤ cap) (ho : off < 18446744073709551616) (h1 : off < xs.length) (hk : Lib.indexByte (Lib.bytesOf (xs.drop off)) 0 = -1) :
    Calls Tryz.prog 58 #[.slice a xs.length cap, .int .u64 off] w fun e w' => e = .returned (.tuple #[.string ⟨#[]⟩, errV 4]) ∧ w = w' := by
  obtain ⟨b, o, rfl⟩ := h.there (by omega)
  have hib := Lib.hid (Tryz.bytes_IndexByte b (o + off) (xs.length - off) (cap - off) (xs.drop off) 0 w (by simp) (fun i hi => by
    obtain ⟨b', o', e, hc⟩ := h (off + i) (by omega)
    simp only [Option.some.injEq, Addr.mk.injEq, and_true] at e
    obtain ⟨rfl, rfl⟩ := e
    rw [Nat.add_assoc, hc]
    simp [List.getD]))
  rw [show (0 : Int).toNat.toUInt8 = 0 from rfl, hk] at hib
  have hne : ¬ cap = off := by omega
  clear hk h
  go_enter Tryz.func58, Tryz.ntmps58
  go_wp2_with (first
    | (go_at_call 90; refine (Hid.out hib).mono ?_; rintro e w' ⟨rfl, rfl⟩))
  go_ret2
  exact ⟨ret2 rfl rfl, rfl⟩

set_option maxRecDepth 100000 in
set_option maxHeartbeats 1000000 in
theorem symText_long (a : Option Addr) (cap : Nat) (xs : List Int) (off : Nat) (w : World) (h : Row .u8 w a xs) (hby : Bytes xs) (hl : xs.length ≤ 140737488351232) (hc : xs.length ≤ cap) (ho : off < 18446744073709551616) (h1 : off < xs.length) (k : Nat) (hk : Lib.indexByte (Lib.bytesOf (xs.drop off)) 0 = (k : Int)) (hk3 : 255 < k) :
    Calls Tryz.prog 58 #[.slice a xs.length cap, .int .u64 off] w fun e w' => e = .returned (.tuple #[.string ⟨#[]⟩, errV 2]) ∧ w = w' := by
  obtain ⟨b, o, rfl⟩ := h.there (by omega)
  have hib := Lib.hid (Tryz.bytes_IndexByte b (o + off) (xs.length - off) (cap - off) (xs.drop off) 0 w (by simp) (fun i hi => by
    obtain ⟨b', o', e, hc⟩ := h (off + i) (by omega)
    simp only [Option.some.injEq, Addr.mk.injEq, and_true] at e
    obtain ⟨rfl, rfl⟩ := e
    rw [Nat.add_assoc, hc]
    simp [List.getD]))
  rw [show (0 : Int).toNat.toUInt8 = 0 from rfl, hk] at hib
  have hne : ¬ cap = off := by omega
  obtain ⟨hk2, -, -⟩ := first_zero hby off k hk
  clear hk h
  go_enter Tryz.func58, Tryz.ntmps58
  go_wp2_with (first
    | (go_at_call 90; refine (Hid.out hib).mono ?_; rintro e w' ⟨rfl, rfl⟩))
  go_ret2
  exact ⟨ret2 rfl rfl, rfl⟩

set_option maxRecDepth 100000 in
set_option maxHeartbeats 1000000 in
theorem symText_yes (a : Option Addr) (cap : Nat) (xs : List Int) (off : Nat) (w : World) (h : Row .u8 w a xs) (hby : Bytes xs) (hl : xs.length ≤ 140737488351232) (hc : xs.length ≤ cap) (ho : off < 18446744073709551616) (h1 : off < xs.length) (k : Nat) (hk : Lib.indexByte (Lib.bytesOf (xs.drop off)) 0 = (k : Int)) (hk3 : k ≤ 255) :
    Calls Tryz.prog 58 #[.slice a xs.length cap, .int .u64 off] w fun e w' => e = .returned (.tuple #[.string ⟨(Lib.bytesOf (cutOf xs off k)).toArray⟩, errV 0]) ∧ w = w' := by
  obtain ⟨b, o, rfl⟩ := h.there (by omega)
  have hib := Lib.hid (Tryz.bytes_IndexByte b (o + off) (xs.length - off) (cap - off) (xs.drop off) 0 w (by simp) (fun i hi => by
    obtain ⟨b', o', e, hc⟩ := h (off + i) (by omega)
    simp only [Option.some.injEq, Addr.mk.injEq, and_true] at e
    obtain ⟨rfl, rfl⟩ := e
    rw [Nat.add_assoc, hc]
    simp [List.getD]))
  rw [show (0 : Int).toNat.toUInt8 = 0 from rfl, hk] at hib
  have hne : ¬ cap = off := by omega
  obtain ⟨hk2, -, -⟩ := first_zero hby off k hk
  have hcv := conv_bytes w b (o + off) (cap - off) (cutOf xs off k) k (cutOf_length (by omega)) (fun i hi => by
    obtain ⟨b', o', e, hc⟩ := h.cut off k i (by rw [cutOf_length (by omega)]; exact hi)
    simp only [Option.map_some, Option.some.injEq, WideShapes.add_plain, Addr.mk.injEq, and_true] at e
    obtain ⟨rfl, rfl⟩ := e
    exact hc)
  clear hk h
  go_enter Tryz.func58, Tryz.ntmps58
  go_wp2_with (first
    | (go_at_call 90; refine (Hid.out hib).mono ?_; rintro e w' ⟨rfl, rfl⟩))
  go_ret2
  exact ⟨ret2 rfl rfl, rfl⟩

















































































































end Go.Proofs.YtnaejlfjlennhaaGreatDoor
/- bits.Add64. -/
namespace Go.Proofs.YtnaejlfjlennhaaGreatDoor
open Go.RowKit

theorem add64v (x y c : Int) (hx : 0 ≤ x) (hy : 0 ≤ y) (hc0 : 0 ≤ c) (hc : c ≤ 1) (w : World) :
    (callFunc 100 #[.int .u64 x, .int .u64 y, .int .u64 c]).run Tryz.prog w = .ok (.value (.tuple #[.int .u64 ((x + y + c) % 18446744073709551616), .int .u64 ((x + y + c) / 18446744073709551616)])) w := by
  rw [run_callFunc_extern Tryz.func100 (by kernel_rfl) (by kernel_rfl) (by kernel_rfl) (e := add64Entry) (by kernel_rfl), run_add64 x y c hx hy hc0 hc]
  rfl
theorem add64v_fits (x y : Int) (hx : 0 ≤ x) (hy : 0 ≤ y) (h : x + y < M64) (w : World) :
    (callFunc 100 #[.int .u64 x, .int .u64 y, .int .u64 0]).run Tryz.prog w = .ok (.value (.tuple #[.int .u64 (x + y), .int .u64 0])) w := by
  rw [M64_eq] at h
  rw [add64v x y 0 hx hy (by omega) (by omega) w, show (x + y + 0) % 18446744073709551616 = x + y from by omega, show (x + y + 0) / 18446744073709551616 = 0 from by omega]
theorem add64v_over (x y : Int) (hx : 0 ≤ x) (hy : 0 ≤ y) (hx' : x < M64) (hy' : y < M64) (h : ¬ x + y < M64) (w : World) :
    (callFunc 100 #[.int .u64 x, .int .u64 y, .int .u64 0]).run Tryz.prog w = .ok (.value (.tuple #[.int .u64 (x + y - M64), .int .u64 1])) w := by
  rw [M64_eq] at *
  rw [add64v x y 0 hx hy (by omega) (by omega) w, show (x + y + 0) % 18446744073709551616 = x + y - (18446744073709551615 + 1) from by omega, show (x + y + 0) / 18446744073709551616 = 1 from by omega]

end Go.Proofs.YtnaejlfjlennhaaGreatDoor
