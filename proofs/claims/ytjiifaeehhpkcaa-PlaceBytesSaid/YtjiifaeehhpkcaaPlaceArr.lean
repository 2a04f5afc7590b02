/- Layer 15, PlaceBytes: rows of numbers by a function; what a program header adds. -/
import Derived.Test.YtjiifaeehhpkcaaPlaceBad
import Derived.Test.YtjiifaeehhpkcaaMakeN
import Derived.IntWalk
import Derived.Lib.Bytes
namespace Go.Proofs.Ytjiifaeehhpkcaa
open Go.RowKit
set_option linter.unusedVariables false
set_option linter.unusedSimpArgs false

theorem fold_push (ns : List Int) (r : ByteArray) : ns.foldl (fun r n => r.push (UInt8.ofNat n.toNat)) r = ⟨r.data ++ (Lib.bytesOf ns).toArray⟩ := by
  induction ns generalizing r with
  | nil => simp [Lib.bytesOf]
  | cons n ns ih =>
    rw [List.foldl_cons, ih]
    simp [Lib.bytesOf, ByteArray.push]

/-- string(b): a text of a slice's bytes -/
theorem conv_row (w : World) (a : Addr) (c n : Nat) (bs : List Nat) (hl : bs.length = n) (h : BRow w (some a) bs) : (convert 37 9 (.slice (some a) n c)).run Try.prog w = .ok (.string ⟨(Lib.bytesOf (toI bs)).toArray⟩) w := by
  subst hl
  rw [run_convert_bytes_string w 37 9 5 _ _ _ Try.underlying37 Try.underlying5 Try.underlying9]
  have hf := run_firstCells_some (P := Try.prog) w 1 bs.length a bs.length c ((toI bs).map (Value.int .u8)) (by simp [toI]) (by
    intro j u hj
    have hjn : j < bs.length := by
      have := (List.getElem?_eq_some_iff.1 hj).1
      simpa [toI] using this
    obtain ⟨b', o', e', hc⟩ := h.1 j (by rw [toI_length]; exact hjn)
    simp only [Option.some.injEq] at e'
    subst e'
    rw [WideShapes.add_plain, hc]
    rw [List.getElem?_map, List.getElem?_eq_getElem (by rw [toI_length]; exact hjn)] at hj
    simp only [Option.map_some, Option.some.injEq] at hj
    rw [← hj]
    simp [List.getD, List.getElem?_eq_getElem (show j < (toI bs).length from by rw [toI_length]; exact hjn)])
  simp only [Builtin.firstCells, Nat.mul_one] at hf
  rw [run_bytesToString w a bs.length c (toI bs) hf, fold_push]
  simp

def arr (f : Nat → Nat) (n : Nat) : List Int := toI ((List.range n).map f)
theorem arr_len (f : Nat → Nat) (n : Nat) : (arr f n).length = n := by simp [arr, toI]
theorem arr_get {f : Nat → Nat} {n j : Nat} (h : j < n) : (arr f n)[j]? = some ((f j : Nat) : Int) := by simp [arr, toI, h]
theorem arr_congr {f g : Nat → Nat} {n : Nat} (h : ∀ y, y < n → f y = g y) : arr f n = arr g n := by
  unfold arr
  rw [List.map_congr_left (fun y hy => h y (List.mem_range.1 hy))]
theorem arr_zero (n : Nat) : List.replicate n (0 : Int) = arr (fun _ => 0) n := by
  refine List.ext_getElem? (fun j => ?_)
  by_cases h : j < n
  · rw [arr_get h, List.getElem?_replicate, if_pos h]; rfl
  · rw [List.getElem?_eq_none (by simp; omega), List.getElem?_eq_none (by rw [arr_len]; omega)]
theorem arr_set {f : Nat → Nat} {n j v : Nat} (h : j < n) : (arr f n).set j (v : Int) = arr (fun y => if y = j then v else f y) n := by
  refine List.ext_getElem? (fun i => ?_)
  by_cases hi : i < n
  · rw [arr_get hi, List.getElem?_set, arr_len]
    by_cases e : j = i
    · subst e; rw [if_pos rfl, if_pos h, if_pos rfl]
    · rw [if_neg e, arr_get hi, if_neg (fun h => e h.symm)]
  · rw [List.getElem?_eq_none (by rw [List.length_set, arr_len]; omega), List.getElem?_eq_none (by rw [arr_len]; omega)]

/-- the segments that have pages -/
def segsF (ps : List PT) : List PT := pagedF (kindF 1 ps)
theorem segs_snoc (ps : List PT) (i : Nat) (hi : i < ps.length) : segsF (ps.take (i + 1)) = segsF (ps.take i) ++ (if ps[i].ty = 1 ∧ 0 < ps[i].memsz then [ps[i]] else []) := by
  unfold segsF pagedF kindF
  rw [List.take_succ_eq_append_getElem hi, List.filter_append, List.filter_append, List.filter_cons, List.filter_nil]
  congr 1
  by_cases h1 : ps[i].ty = 1
  · rw [if_pos (by simpa using h1), List.filter_cons, List.filter_nil]
    by_cases h2 : 0 < ps[i].memsz
    · rw [if_pos (by simpa [hasPages] using h2), if_pos ⟨h1, h2⟩]
    · rw [if_neg (by simpa [hasPages] using h2), if_neg (fun h => h2 h.2)]
  · rw [if_neg (by simpa using h1), if_neg (fun h => h1 h.1)]
    rfl
theorem segs_mem {ps : List PT} {p : PT} (h : p ∈ ps) (h1 : p.ty = 1) (h2 : 0 < p.memsz) : p ∈ segsF ps := by
  unfold segsF pagedF kindF
  rw [List.mem_filter, List.mem_filter]
  exact ⟨⟨h, by simpa using h1⟩, by simpa [hasPages] using h2⟩
/-- the bytes of a segment, so far -/
def byteU (bs : List Nat) (off d k : Nat) (f : Nat → Nat) : Nat → Nat := fun y => if d ≤ y ∧ y < d + k then bs.getD (off + (y - d)) 0 else f y
theorem byteU_zero (bs : List Nat) (off d : Nat) (f : Nat → Nat) : byteU bs off d 0 f = f := by
  funext y
  unfold byteU
  rw [if_neg (by omega)]
theorem byteU_succ (bs : List Nat) (off d k : Nat) (f : Nat → Nat) : (fun y => if y = d + k then bs.getD (off + k) 0 else byteU bs off d k f y) = byteU bs off d (k + 1) f := by
  funext y
  unfold byteU
  by_cases e : y = d + k
  · rw [if_pos e, if_pos (by omega)]
    congr 1
    omega
  · rw [if_neg e]
    by_cases h : d ≤ y ∧ y < d + k
    · rw [if_pos h, if_pos (by omega)]
    · rw [if_neg h, if_neg (by omega)]
/-- the pages of a segment, so far -/
def permU (K k v : Nat) (f : Nat → Nat) : Nat → Nat := fun j => if K ≤ j ∧ j < k then v else f j
theorem permU_zero (K v : Nat) (f : Nat → Nat) : permU K K v f = f := by
  funext j
  unfold permU
  rw [if_neg (by omega)]
theorem permU_succ (K k v : Nat) (f : Nat → Nat) (h : K ≤ k) : (fun j => if j = k then v else permU K k v f j) = permU K (k + 1) v f := by
  funext j
  unfold permU
  by_cases e : j = k
  · rw [if_pos e, if_pos (by omega)]
  · rw [if_neg e]
    by_cases h2 : K ≤ j ∧ j < k
    · rw [if_pos h2, if_pos (by omega)]
    · rw [if_neg h2, if_neg (by omega)]
set_option maxRecDepth 100000 in
/-- the numbers of a segment's pages -/
theorem seg_pages {bg va ms sn : Nat} (hb : bg % 4096 = 0) (h1 : bg ≤ va / 4096 * 4096) (hm : 0 < ms) (h2 : (va + ms + 4095) / 4096 * 4096 ≤ bg + sn * 4096) :
    (va / 4096 * 4096 - bg) / 4096 = (va - bg) / 4096 ∧ (va / 4096 * 4096 - bg) / 4096 + ((va + ms + 4095) / 4096 * 4096 - va / 4096 * 4096) / 4096 = (va - bg + ms - 1) / 4096 + 1 ∧ (va - bg + ms - 1) / 4096 < sn ∧ va - bg + ms ≤ sn * 4096 ∧ bg ≤ va ∧ (va - bg) / 4096 ≤ (va - bg + ms - 1) / 4096 := by
  obtain ⟨B, rfl⟩ : ∃ B, bg = 4096 * B := ⟨bg / 4096, by omega⟩
  obtain ⟨V, hV⟩ : ∃ V, va / 4096 = V := ⟨_, rfl⟩
  obtain ⟨Q, hQ⟩ : ∃ Q, (va + ms + 4095) / 4096 = Q := ⟨_, rfl⟩
  rw [hV] at h1 ⊢
  rw [hQ] at h2 ⊢
  have h3 : B ≤ V := by omega
  have h4 : Q ≤ B + sn := by omega
  have h5 : V < Q := by omega
  have h6 : va = 4096 * B + (va - 4096 * B) := by omega
  obtain ⟨D, hD⟩ : ∃ D, va - 4096 * B = D := ⟨_, rfl⟩
  rw [hD] at h6 ⊢
  have e1 : (V * 4096 - 4096 * B) / 4096 = V - B := by omega
  have e2 : D / 4096 = V - B := by omega
  have e3 : (Q * 4096 - V * 4096) / 4096 = Q - V := by omega
  have e4 : (D + ms - 1) / 4096 = Q - 1 - B := by omega
  rw [e1, e2, e3, e4]
  omega
end Go.Proofs.Ytjiifaeehhpkcaa
