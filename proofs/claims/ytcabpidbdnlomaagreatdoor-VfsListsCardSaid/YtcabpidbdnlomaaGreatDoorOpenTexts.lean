/- How a slice of texts comes in. -/
import Derived.Test.YtcabpidbdnlomaaGreatDoorKit1
import Derived.Test.YtcabpidbdnlomaaGreatDoorOpenF
import Derived.Deep.Slices
import Derived.SizedLaws
namespace Go.Proofs.YtcabpidbdnlomaaGreatDoor
open Go.RowKit Go.WideShapes Go.Deep
set_option linter.unusedVariables false
set_option linter.unusedSimpArgs false

theorem open_texts {H : Type} {enc : TypeId × Value → H} {w : World} {base : Nat} {held : Bool} {fuel : Nat} {c : Value} {x : DataW H × List MemPlace} (h : DataW.trod enc Tryz.prog w base (fun _ => true) held fuel 23 [c] = some x) (hw : ∀ n ∈ x.1.weights Tryz.prog 23, n ≤ reachBytes) :
    ∃ (a : Option Addr) (cap : Nat) (T : List ByteArray), c = .slice a T.length cap ∧ TRow w a T ∧ (a = none → T.length = 0 ∧ cap = 0) ∧ (∀ t ∈ T, t.size ≤ 140737488351232) ∧ T.length ≤ 140737488351232 := by
  rcases open_slice_w Tryz.underlying23 h hw with rfl | ⟨ad, len, cap, n, rfl, hl, hm, hb, hx⟩
  · exact ⟨none, 0, [], rfl, (fun i hi => by simp at hi), fun _ => ⟨rfl, rfl⟩, (fun t ht => by cases ht), by simp⟩
  · have hc : Tryz.prog.cellsOf 9 = 1 := by kernel_rfl
    have hby : Tryz.prog.bytesOf 9 = 16 := by kernel_rfl
    rw [hby] at hb
    have each : ∀ i, i < len → ∃ t : ByteArray, w.cell? (ad.add i) = some (.string t) ∧ t.size ≤ reachBytes := by
      intro i hi
      obtain ⟨cs, y, h2, h3, h4⟩ := hx i (by omega)
      rw [hc, Nat.mul_one] at h2
      obtain ⟨-, hlen, h5⟩ := World.cells?_some h2
      match cs, hlen with
      | [v], _ =>
        obtain ⟨t, rfl, ht⟩ := field_string_w Tryz.underlying9 h3 (h4 hi)
        have := h5 0 (by omega)
        refine ⟨t, ?_, ht⟩
        simpa [Addr.add] using this
    obtain ⟨q, hq⟩ := choose_lt each
    refine ⟨some ad, cap, (List.range len).map q, by simp, ?_, (fun h => by cases h), ?_, by simp [reachBytes] at hb ⊢; omega⟩
    · intro i hi
      have hi' : i < len := by simpa using hi
      obtain ⟨b, off, spot⟩ := ad
      have hs : spot = none := by simpa [Addr.add] using World.cell?_spot (hq 0 (by omega)).1
      subst hs
      have h1 := (hq i hi').1
      rw [WideShapes.add_plain] at h1
      refine ⟨b, off, rfl, by simpa using World.block_lt_of_cell? w _ h1, ?_⟩
      rw [h1]
      simp [List.getD, hi']
    · intro t ht
      obtain ⟨i, hi, rfl⟩ := List.mem_map.1 ht
      have := (hq i (List.mem_range.1 hi)).2
      simpa [reachBytes] using this
end Go.Proofs.YtcabpidbdnlomaaGreatDoor
