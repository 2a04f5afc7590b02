/- Layer 15: PlaceBytes, all cases. -/
import Derived.Test.YtjiifaeehhpkcaaPlaceByW
namespace Go.Proofs.Ytjiifaeehhpkcaa
open Go.RowKit
set_option linter.unusedVariables false

theorem apart_old {w : World} {C : Array Value} {x : POb} (h : PCells w C x) : PApart (fun k => w.heap.size ≤ k) C where
  c2 := fun b o n c e hn hs => by
    obtain ⟨p, pc, e1, r1⟩ := h.head
    rw [e1] at e
    simp only [Option.some.injEq, Value.slice.injEq] at e
    obtain ⟨rfl, e2, -⟩ := e
    obtain ⟨-, b', o', e3, hlt, -⟩ := r1 0 (by omega)
    cases e3
    omega
  c53 := fun b o n c e hn hs => by
    obtain ⟨p, pc, e1, r1, -⟩ := h.bytes
    rw [e1] at e
    simp only [Option.some.injEq, Value.slice.injEq] at e
    obtain ⟨rfl, e2, -⟩ := e
    obtain ⟨b', o', e3, hc⟩ := r1.1 0 (by rw [toI_length]; omega)
    cases e3
    have : b < w.heap.size := by simpa using World.block_lt_of_cell? w _ hc
    omega
theorem walk_PlaceBytes (C : Array Value) (x : POb) (from_ : Int) (W : World) (h : PCells W C x) (hb : (Lit.int .u64 from_).wf = true) :
    Calls Try.prog 4 #[.agg C, .int .u64 from_] W fun e w' => e = .returned (.bool true) ∧ Below W.heap.size W w' := by
  obtain ⟨m, rfl, b⟩ := wf_u64_nat hb
  by_cases hP : placeF x.ty x.bs.length x.ps = 0
  · have good := fun at_ h3 h2 hq => bytes_good C x m at_ W h b (apart_old h) hP h3 h2 hq
    have full := fun at_ h3 h2 hq => bytes_bad C x m W h (fun mb S g F wx hm hc => pmap_full mb S 200 g F C x m wx hm hc b at_ hP h3 h2 hq)
    rcases (placed_of hP).kinds with h2 | h3
    · by_cases hq : spanN (segsF x.ps) ≤ 200
      · exact good (beginF (segsF x.ps)) (fun h3 => by omega) (fun _ => rfl) hq
      · exact full (beginF (segsF x.ps)) (fun h3 => by omega) (fun _ => rfl) (Nat.lt_of_not_le hq)
    · cases hf : findE (spanN (segsF x.ps)) m with
      | none => exact bytes_bad C x m W h (fun mb S g F wx hm hc => pmap_find mb S 200 g F C x m wx hm hc b hP h3 hf)
      | some at_ =>
        by_cases hq : spanN (segsF x.ps) ≤ 200
        · exact good at_ (fun _ => hf) (fun h2 => by omega) hq
        · exact full at_ (fun _ => hf) (fun h2 => by omega) (Nat.lt_of_not_le hq)
  · exact bytes_bad C x m W h (fun mb S g F wx hm hc => pmap_p mb S 200 g F C x m wx hm hc b hP)
end Go.Proofs.Ytjiifaeehhpkcaa
