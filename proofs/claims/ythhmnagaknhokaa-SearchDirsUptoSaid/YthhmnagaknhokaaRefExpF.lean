/- Layer 14, the document's answer: what a text's tokens are, said of the place at which they stand. -/
import Derived.Test.YthhmnagaknhokaaRefTok
import Derived.Test.YthhmnagaknhokaaTexts
namespace Go.Proofs.Ythhmnagaknhokaa
open Go.RowKit
set_option linter.unusedVariables false
set_option linter.unusedSimpArgs false

theorem own_ne {w : World} {B : Nat} {e : TypeId} {size : Nat} {v : Value} {n : Nat} {xs : List Value} (h : w.ownsRow B e size v n xs) {b : Nat} {cs : Array Value} {T : TypeId} (hb : w.heap[b]? = some (.cells cs T)) (hT : T ≠ e) : v.ownBlock ≠ some b := fun e0 => by
  rcases h.2 with ⟨h1, h2⟩ | ⟨g', c', cur, hv, -, hg', -⟩
  · rw [h1] at e0; simp [Value.ownBlock] at e0
  · rw [hv] at e0
    simp only [Value.ownBlock, Option.some.injEq] at e0
    subst e0
    rw [hb] at hg'
    simp only [Option.some.injEq, Obj.cells.injEq] at hg'
    exact hT hg'.2.1
/-- string(out), a slice of the call's own -/
theorem conv_own (w : World) (B n c : Nat) (ad : Option Addr) (l : List UInt8) (hn : l.length = n) (h : w.ownsRow B 5 1 (.slice ad n c) n (Lib.byteCells l)) : (convert 36 9 (.slice ad n c)).run Try.prog w = .ok (.string ⟨l.toArray⟩) w := by
  subst hn
  rcases h.2 with ⟨h1, h2⟩ | ⟨g, c', cur, hv, -, -⟩
  · simp only [Value.slice.injEq] at h1
    obtain ⟨rfl, h0, rfl⟩ := h1
    have h3 : l = [] := List.length_eq_zero_iff.1 h0
    subst h3
    exact run_convert_bytes_nil (P := Try.prog) w 36 5 Try.underlying36 Try.underlying5 _ _ 9 Try.underlying9
  · simp only [Value.slice.injEq] at hv
    obtain ⟨rfl, -, rfl⟩ := hv
    refine run_convert_bytes_back (P := Try.prog) w 36 9 5 _ _ l Try.underlying36 Try.underlying5 Try.underlying9 (fun j hj => ?_)
    have h4 := h.cellAt j (by omega)
    rw [WideShapes.add_plain]
    simp only [Nat.zero_add]
    rw [h4]
    simp [Lib.byteCells, hj]

theorem drop_head (s : ByteArray) (i : Nat) (hi : i < s.size) : s.data.toList.drop i = s[i] :: s.data.toList.drop (i + 1) := by
  rw [List.drop_eq_getElem_cons (by simpa using hi)]
  rfl
theorem hitB_rest (s : ByteArray) (i k : Nat) (n : ByteArray) (hi : i < s.size) (h36 : s[i] = 36) (hn : n.data.toList = nameF k) :
    Lib.hasPrefix (s.extract (i + 1) s.size).data.toList (({ data := #[123] } : ByteArray) ++ n ++ { data := #[125] }).data.toList = hitB k (s.data.toList.drop i) := by
  have e : (({ data := #[123] } : ByteArray) ++ n ++ { data := #[125] }).data.toList = [123] ++ nameF k ++ [125] := by
    rw [ByteArray.data_append, ByteArray.data_append, Array.toList_append, Array.toList_append, hn]
  rw [e, extract_drop, drop_head s i hi, h36]
  unfold hitB bracedF Lib.hasPrefix
  simp [List.isPrefixOf]
theorem hitP_rest (s : ByteArray) (i k : Nat) (n : ByteArray) (hn : n.data.toList = nameF k) :
    Lib.hasPrefix (s.extract (i + 1) s.size).data.toList n.data.toList = Lib.hasPrefix ((s.data.toList.drop i).drop 1) (nameF k) := by
  rw [hn, extract_drop, List.drop_drop]
theorem endsF_none (r : ByteArray) (m : Nat) (h : r.size = m) : endsF (r.data.toList.drop m) = true := by
  rw [List.drop_of_length_le (by have : r.data.toList.length = r.size := by simp
                                 omega)]
  rfl
theorem endsF_some (r : ByteArray) (m : Nat) (h : m < r.size) : endsF (r.data.toList.drop m) = !isW r[m] := by
  rw [drop_head r m h]
  rfl
/-- where the search for a token stands: nothing yet; or it is found -/
def Scan (l : List UInt8) (R : Nat × Nat) (g k sz wh : Nat) : Prop :=
  (k + g = 3 ∧ sz = 0 ∧ wh = 0 ∧ tokGo l g (k + 1) = R) ∨ (g = 0 ∧ k ≤ 3 ∧ R = (wh + 1, sz) ∧ 0 < sz ∧ wh < 3)
end Go.Proofs.Ythhmnagaknhokaa
