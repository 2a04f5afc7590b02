/- Texts in bytes: the first byte 0, and what lies ahead of it. Nothing of the program is named but []byte and string. -/
import Derived.Test.YtikpkblemegggaaErrs
import Derived.Test.YtikpkblemegggaaKit
import Derived.Test.YtikpkblemegggaaShelf
import Derived.Lib.IndexLaws
namespace Go.Proofs.Ytikpkblemegggaa
open Go.RowKit
set_option linter.unusedVariables false
set_option linter.unusedSimpArgs false

theorem fold_push (ns : List Int) (r : ByteArray) : ns.foldl (fun r n => r.push (UInt8.ofNat n.toNat)) r = ⟨r.data ++ (Lib.bytesOf ns).toArray⟩ := by
  induction ns generalizing r with
  | nil => simp [Lib.bytesOf]
  | cons n ns ih =>
    rw [List.foldl_cons, ih]
    simp [Lib.bytesOf, ByteArray.push]

/-- string(b): a text of the slice's bytes -/
theorem conv_bytes (w : World) (b o c : Nat) (ns : List Int) (n : Nat) (hl : ns.length = n) (hc : ∀ i, i < n → w.cell? ⟨b, o + i, none⟩ = some (.int .u8 (ns.getD i 0))) :
    (convert 22 9 (.slice (some ⟨b, o, none⟩) n c)).run Try.prog w = .ok (.string ⟨(Lib.bytesOf ns).toArray⟩) w := by
  rw [run_convert_bytes_string w 22 9 5 _ _ _ Try.underlying22 Try.underlying5 Try.underlying9]
  have h := run_firstCells_some (P := Try.prog) w 1 n ⟨b, o, none⟩ n c (ns.map (Value.int .u8)) (by simp [hl]) (by
    intro j u hj
    rw [WideShapes.add_plain]
    have hjn : j < ns.length := by
      have := (List.getElem?_eq_some_iff.1 hj).1
      simpa using this
    rw [hc j (by omega)]
    rw [List.getElem?_map, List.getElem?_eq_getElem hjn] at hj
    simp only [Option.map_some, Option.some.injEq] at hj
    rw [← hj]
    simp [List.getD, List.getElem?_eq_getElem hjn])
  simp only [Builtin.firstCells, Nat.mul_one] at h
  rw [run_bytesToString w ⟨b, o, none⟩ n c ns h, fold_push]
  simp

theorem byte_zero {xs : List Int} (hb : Bytes xs) (i : Nat) (h : i < xs.length) : ((Lib.bytesOf xs)[i]? = some 0) ↔ xs.getD i 0 = 0 := by
  have hx := hb xs[i] (List.getElem_mem h)
  simp only [Lib.bytesOf, List.getElem?_map, List.getElem?_eq_getElem h, Option.map_some, Option.some.injEq, List.getD, Option.getD_some]
  obtain ⟨x, hx'⟩ := Int.eq_ofNat_of_zero_le hx.1
  rw [hx'] at hx ⊢
  constructor
  · intro e
    have := congrArg UInt8.toNat e
    simp at this
    omega
  · intro e
    have : x = 0 := by omega
    subst this
    rfl

theorem first_zero {xs : List Int} (hb : Bytes xs) (off k : Nat) (h : Lib.indexByte (Lib.bytesOf (xs.drop off)) 0 = (k : Int)) : off + k < xs.length ∧ xs.getD (off + k) 0 = 0 ∧ ∀ j, j < k → xs.getD (off + j) 0 ≠ 0 := by
  obtain ⟨h1, h2⟩ := Lib.indexByte_some h
  have hbd : Bytes (xs.drop off) := fun y hy => hb y (List.mem_of_mem_drop hy)
  have hl : k < (xs.drop off).length := by
    have := (List.getElem?_eq_some_iff.1 h1).1
    simpa [Lib.bytesOf] using this
  have hd : ∀ j, j < (xs.drop off).length → (xs.drop off).getD j 0 = xs.getD (off + j) 0 := by
    intro j hj
    simp [List.getD, List.getElem?_drop]
  have hl2 : off + k < xs.length := by simp at hl; omega
  refine ⟨hl2, ?_, fun j hj => ?_⟩
  · rw [← hd k hl]
    exact (byte_zero hbd k hl).1 h1
  · rw [← hd j (by omega)]
    exact fun e => h2 j hj ((byte_zero hbd j (by omega)).2 e)

theorem no_zero {xs : List Int} (hb : Bytes xs) (off : Nat) (h : Lib.indexByte (Lib.bytesOf (xs.drop off)) 0 = -1) : ∀ j, off + j < xs.length → xs.getD (off + j) 0 ≠ 0 := by
  intro j hj
  have hbd : Bytes (xs.drop off) := fun y hy => hb y (List.mem_of_mem_drop hy)
  have hl : j < (xs.drop off).length := by simp; omega
  have hd : (xs.drop off).getD j 0 = xs.getD (off + j) 0 := by simp [List.getD, List.getElem?_drop]
  rw [← hd]
  exact fun e => Lib.indexByte_none h j ((byte_zero hbd j hl).2 e)

end Go.Proofs.Ytikpkblemegggaa
