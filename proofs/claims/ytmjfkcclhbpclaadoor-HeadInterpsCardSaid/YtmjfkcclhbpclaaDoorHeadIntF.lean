/- Layer 4: the law HeadInterps, as the frame asks for it. -/
import Derived.Test.YtmjfkcclhbpclaaDoorHeadIntW
import Derived.Test.YtmjfkcclhbpclaaDoorOpenHD
namespace Go.Proofs.YtmjfkcclhbpclaaDoor
open Go.RowKit Go.Maps
set_option linter.unusedVariables false
set_option linter.unusedSimpArgs false

theorem bytes_row {W : World} {a : Option Addr} {len cap : Nat} {z : List Int} (w0 : IsRow .u8 W a len cap z) : ∃ bs : List Nat, bs.length = len ∧ BRow W a bs ∧ len ≤ cap ∧ (a = none → len = 0 ∧ cap = 0) := by
  obtain ⟨xs, h1, h2, h3, h4, -, h6⟩ := w0.row
  refine ⟨xs.map Int.toNat, by simp [h1], ⟨?_, ?_⟩, h4, h6⟩
  · have : toI (xs.map Int.toNat) = xs := by
      unfold toI
      rw [List.map_map]
      conv => rhs; rw [← List.map_id xs]
      apply List.map_congr_left
      intro x hx
      have := wf_u8_bounds (h3 x hx)
      simp
      omega
    rw [this]
    exact h2
  · intro b hb
    obtain ⟨x, hx, rfl⟩ := List.mem_map.1 hb
    have := wf_u8_bounds (h3 x hx)
    omega
theorem walk_HeadInterps (a : Option Addr) (len cap : Nat) (z : List Int) (ty en : Int) (p : Option Addr) (pc : Nat) (ps : List PT) (W : World) (hg : ErrType W) (hf : FixAt W) (we : (Lit.int .u64 en).wf = true) (w0 : IsRow .u8 W a len cap z) (s0 : cap * 1 ≤ 140737488351232) (hp : PRow W p ps) (hpl : ps.length ≤ 140737488351232) :
    Calls Tryd.prog 4 #[.slice a len cap, headV ty en p ps.length pc] W fun e w' => e = .returned (.bool true) ∧ Below W.heap.size W w' := by
  obtain ⟨bs, hlen, hb, hc, hn⟩ := bytes_row w0
  obtain ⟨m, rfl, -⟩ := wf_u64_nat we
  exact interps_at ty m p ps.length pc ps a len cap bs W ⟨hb, hlen, by omega, hn, hc⟩ hp rfl hpl hg hf
end Go.Proofs.YtmjfkcclhbpclaaDoor
