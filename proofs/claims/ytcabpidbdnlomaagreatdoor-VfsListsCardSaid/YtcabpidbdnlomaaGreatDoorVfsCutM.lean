/- Layer 3 as mathematics: a text's parts, as lists of bytes; they are the parts at which slashes cut. -/
import Derived.Test.YtcabpidbdnlomaaGreatDoorVfsNewF
import Derived.Test.YtcabpidbdnlomaaGreatDoorCutF
namespace Go.Proofs.YtcabpidbdnlomaaGreatDoor
open Go.RowKit
set_option linter.unusedVariables false
set_option linter.unusedSimpArgs false

def slashP (n : Nat) : Bool := n == 47
def mkP (l : List UInt8) : ByteArray := ⟨l.toArray⟩
theorem extract_part (s : ByteArray) (a b : Nat) : s.extract a b = mkP ((s.data.toList.drop a).take (b - a)) := by
  apply ByteArray.ext
  apply Array.ext'
  simp [ByteArray.data_extract, mkP]
/-- a text's parts -/
def partsR (s : ByteArray) : List ByteArray := (cutF slashP s.data.toList).map mkP
theorem partsR_len (s : ByteArray) : (partsR s).length ≤ s.size + 1 := by
  unfold partsR cutF
  have := cutGo_len slashP s.data.toList []
  rw [List.length_map]
  simpa using this
theorem slashP_nat (b : UInt8) : slashP b.toNat = decide (b = 47) := by
  unfold slashP
  rw [Bool.eq_iff_iff, beq_iff_eq, decide_eq_true_eq]
  constructor
  · intro h; exact UInt8.toNat_inj.1 h
  · intro h; subst h; rfl

theorem cut_none {l cur : List UInt8} (h : ∀ c ∈ l, c ≠ 47) : cutGo slashP cur l = [cur ++ l] := by
  have := cutGo_skip (p := slashP) l cur [] (fun c hc => by rw [slashP_nat]; exact decide_eq_false (h c hc))
  rw [List.append_nil] at this
  rw [this, cutGo]
theorem cut_at {l cur r : List UInt8} (h : ∀ c ∈ l, c ≠ 47) : cutGo slashP cur (l ++ 47 :: r) = (cur ++ l) :: cutGo slashP [] r := by
  rw [cutGo_skip (p := slashP) l cur _ (fun c hc => by rw [slashP_nat]; exact decide_eq_false (h c hc)), cutGo, if_pos (by decide)]
theorem cut_snoc {n : List UInt8} (hn : ∀ c ∈ n, c ≠ 47) : ∀ (a cur : List UInt8), cutGo slashP cur (a ++ 47 :: n) = cutGo slashP cur a ++ [n]
  | [], cur => by
    have h1 : cutGo slashP cur ([] ++ 47 :: n) = (cur ++ []) :: cutGo slashP [] n := cut_at (fun c hc => by cases hc)
    rw [h1, cut_none hn, List.append_nil, List.nil_append]
    rfl
  | c :: a, cur => by
    rw [List.cons_append, cutGo, cutGo]
    split
    · rw [cut_snoc hn a []]; rfl
    · exact cut_snoc hn a _
theorem indexB_slash' (s : ByteArray) : Lib.indexB s slash = Lib.indexByte s.data.toList 47 := Lib.index_one _ _
theorem slashF_cut : ∀ (k : Nat) (s : ByteArray), s.size ≤ k → slashF s = partsR s
  | k, s, hk => by
    have hge := Lib.indexByte_ge s.data.toList 47
    by_cases h : Lib.indexByte s.data.toList 47 = -1
    · have h1 : slashF s = [s] := by
        unfold slashF
        exact Lib.splitB_miss _ _ _ _ (by rw [indexB_slash']; exact h)
      have h2 : ∀ c ∈ s.data.toList, c ≠ 47 := fun c hc e => by
        obtain ⟨i, hi, hh⟩ := List.getElem_of_mem hc
        exact Lib.indexByte_none h i (by rw [List.getElem?_eq_getElem hi, hh, e])
      rw [h1]
      unfold partsR cutF
      rw [cut_none h2, List.nil_append]
      rfl
    · obtain ⟨i, hi⟩ : ∃ i : Nat, Lib.indexByte s.data.toList 47 = i := ⟨(Lib.indexByte s.data.toList 47).toNat, by omega⟩
      obtain ⟨e1, e2⟩ := Lib.indexByte_some hi
      have hlt : i < s.data.toList.length := (List.getElem?_eq_some_iff.1 e1).1
      have hls : s.data.toList.length = s.size := by simp
      have hix : Lib.indexB s slash = (i : Int) := by rw [indexB_slash']; exact hi
      have hsplit : s.data.toList = s.data.toList.take i ++ 47 :: s.data.toList.drop (i + 1) := by
        have h47 : s.data.toList[i] = 47 := (List.getElem?_eq_some_iff.1 e1).2
        conv => lhs; rw [← List.take_append_drop i s.data.toList, List.drop_eq_getElem_cons hlt, h47]
      have hno : ∀ c ∈ s.data.toList.take i, c ≠ 47 := fun c hc e => by
        obtain ⟨j, hj, hh⟩ := List.getElem_of_mem hc
        rw [List.length_take] at hj
        rw [List.getElem_take] at hh
        exact e2 j (by omega) (by rw [List.getElem?_eq_getElem (by omega), hh, e])
      match k, hk with
      | 0, hk => omega
      | k + 1, hk =>
        have hrest : (s.extract (i + 1) s.size).size ≤ k := by rw [ByteArray.size_extract]; omega
        have ih := slashF_cut k _ hrest
        have e3 : slashF s = s.extract 0 i :: slashF (s.extract (i + 1) s.size) := by
          unfold slashF
          rw [Lib.countB_hit s slash i (by decide) hix, Nat.add_comm 1, Lib.splitB_hit _ _ _ _ i hix]
          rfl
        have hx0 : s.extract 0 i = mkP (s.data.toList.take i) := by
          rw [extract_part]
          simp
        have hx1 : (s.extract (i + 1) s.size).data.toList = s.data.toList.drop (i + 1) := by
          rw [extract_part]
          show ((s.data.toList.drop (i + 1)).take (s.size - (i + 1))).toArray.toList = _
          rw [List.toList_toArray]
          exact List.take_of_length_le (by rw [List.length_drop, hls]; exact Nat.le_refl _)
        rw [e3, ih, hx0]
        unfold partsR cutF
        rw [hx1]
        conv => rhs; rw [hsplit, cut_at hno, List.nil_append, List.map_cons]
end Go.Proofs.YtcabpidbdnlomaaGreatDoor
