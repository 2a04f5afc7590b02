/- Layer 1: a text that ends with a byte 0. -/
import Derived.Test.YtmjfkcclhbpclaaDoorHGet
namespace Go.Proofs.YtmjfkcclhbpclaaDoor
open Go.RowKit
set_option linter.unusedVariables false
set_option linter.unusedSimpArgs false

theorem fold_push (ns : List Int) (r : ByteArray) : ns.foldl (fun r n => r.push (UInt8.ofNat n.toNat)) r = ⟨r.data ++ (Lib.bytesOf ns).toArray⟩ := by
  induction ns generalizing r with
  | nil => simp [Lib.bytesOf]
  | cons n ns ih =>
    rw [List.foldl_cons, ih]
    simp [Lib.bytesOf, ByteArray.push]

/-- string(b): a text of the slice's bytes -/
theorem conv_bytes (w : World) (b o c : Nat) (ns : List Int) (n : Nat) (hl : ns.length = n) (hc : ∀ i, i < n → w.cell? ⟨b, o + i, none⟩ = some (.int .u8 (ns.getD i 0))) :
    (convert 26 9 (.slice (some ⟨b, o, none⟩) n c)).run Tryd.prog w = .ok (.string ⟨(Lib.bytesOf ns).toArray⟩) w := by
  rw [run_convert_bytes_string w 26 9 5 _ _ _ Tryd.underlying26 Tryd.underlying5 Tryd.underlying9]
  have h := run_firstCells_some (P := Tryd.prog) w 1 n ⟨b, o, none⟩ n c (ns.map (Value.int .u8)) (by simp [hl]) (by
    intro j u hj
    rw [WideShapes.add_plain]
    have hjn : j < ns.length := by
      have := (List.getElem?_eq_some_iff.1 hj).1
      simpa using this
    rw [hc j (by omega)]
    rw [List.getElem?_map, List.getElem?_eq_getElem hjn] at hj
    simp only [Option.map_some, Option.some.injEq] at hj
    rw [← hj]
    simp [List.getD, List.getElem?_eq_getElem hjn])
  simp only [Builtin.firstCells, Nat.mul_one] at h
  rw [run_bytesToString w ⟨b, o, none⟩ n c ns h, fold_push]
  simp

set_option maxRecDepth 100000 in
set_option maxHeartbeats 1000000 in
theorem text_any (a : Option Addr) (cap : Nat) (xs : List Int) (off : Nat) (w : World) (h : Row .u8 w a xs) (hby : Bytes xs) (hl : xs.length ≤ 140737488351232) (hc : xs.length ≤ cap) (ho : off < 18446744073709551616)
    (b o : Nat) (ha : a = some ⟨b, o, none⟩) (h1 : off < xs.length) (k : Nat) (hk : Lib.indexByte (Lib.bytesOf (xs.drop off)) 0 = (k : Int)) (hk2 : off + k < xs.length) :
    Calls Tryd.prog 30 #[.slice a xs.length cap, .int .u64 off] w fun e w' => e = .returned (.tuple #[.string ⟨(Lib.bytesOf (cutOf xs off k)).toArray⟩, .nilIface]) ∧ Below w.heap.size w w' := by
  subst ha
  have hib := Lib.hid (Tryd.bytes_IndexByte b (o + off) (xs.length - off) (cap - off) (xs.drop off) 0 w (by simp) (fun i hi => by
    obtain ⟨b', o', e, hc⟩ := h (off + i) (by omega)
    simp only [Option.some.injEq, Addr.mk.injEq, and_true] at e
    obtain ⟨rfl, rfl⟩ := e
    rw [Nat.add_assoc, hc]
    simp [List.getD]))
  rw [show (0 : Int).toNat.toUInt8 = 0 from rfl, hk] at hib
  have hne : ¬ cap = off := by omega
  have hcv := conv_bytes w b (o + off) (cap - off) (cutOf xs off k) k (cutOf_length (by omega)) (fun i hi => by
    obtain ⟨b', o', e, hc⟩ := h.cut off k i (by rw [cutOf_length (by omega)]; exact hi)
    simp only [Option.map_some, Option.some.injEq, WideShapes.add_plain, Addr.mk.injEq, and_true] at e
    obtain ⟨rfl, rfl⟩ := e
    exact hc)
  clear hk h
  go_enter Tryd.func30, Tryd.ntmps30
  go_wp2_with (first
    | (go_at_call 54; refine (Hid.out hib).mono ?_; rintro e w' ⟨rfl, rfl⟩))
  go_ret2
  exact ⟨rfl, Below.refl _ _⟩

theorem text_range (a : Option Addr) (cap len : Nat) (off : Nat) (w : World) (hl : len ≤ 140737488351232) (ho : off < 18446744073709551616) (h1 : ¬ off < len) :
    Calls Tryd.prog 30 #[.slice a len cap, .int .u64 off] w fun e w' => e = .returned (.tuple #[.string ⟨#[]⟩, spotV w]) ∧ spotW w off 4 = w' := by
  have h2 : (len : Int) ≤ (off : Int) := by omega
  go_enter Tryd.func30, Tryd.ntmps30
  go_wp2
  go_ret2
  exact ⟨ret2 rfl rfl, rfl⟩

set_option maxRecDepth 100000 in
set_option maxHeartbeats 1000000 in
theorem text_open (a : Option Addr) (cap : Nat) (xs : List Int) (off : Nat) (w : World) (h : Row .u8 w a xs) (hby : Bytes xs) (hl : xs.length ≤ 140737488351232) (hc : xs.length ≤ cap) (ho : off < 18446744073709551616)
    (b o : Nat) (ha : a = some ⟨b, o, none⟩) (h1 : off < xs.length) (hk : Lib.indexByte (Lib.bytesOf (xs.drop off)) 0 = -1) :
    Calls Tryd.prog 30 #[.slice a xs.length cap, .int .u64 off] w fun e w' => e = .returned (.tuple #[.string ⟨#[]⟩, spotV w]) ∧ spotW w off 29 = w' := by
  subst ha
  have hib := Lib.hid (Tryd.bytes_IndexByte b (o + off) (xs.length - off) (cap - off) (xs.drop off) 0 w (by simp) (fun i hi => by
    obtain ⟨b', o', e, hc⟩ := h (off + i) (by omega)
    simp only [Option.some.injEq, Addr.mk.injEq, and_true] at e
    obtain ⟨rfl, rfl⟩ := e
    rw [Nat.add_assoc, hc]
    simp [List.getD]))
  rw [show (0 : Int).toNat.toUInt8 = 0 from rfl, hk] at hib
  have hne : ¬ cap = off := by omega
  clear hk h
  go_enter Tryd.func30, Tryd.ntmps30
  go_wp2_with (first
    | (go_at_call 54; refine (Hid.out hib).mono ?_; rintro e w' ⟨rfl, rfl⟩))
  go_ret2
  exact ⟨ret2 rfl rfl, rfl⟩
end Go.Proofs.YtmjfkcclhbpclaaDoor
