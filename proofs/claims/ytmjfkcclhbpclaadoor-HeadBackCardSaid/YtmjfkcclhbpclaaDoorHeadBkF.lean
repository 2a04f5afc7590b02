/- Bytes that came in, as a row. -/
import Derived.Test.YtmjfkcclhbpclaaDoorLittle
import Derived.Test.YtmjfkcclhbpclaaDoorHeadBkW
import Derived.Test.YtmjfkcclhbpclaaDoorOpenHD
namespace Go.Proofs.YtmjfkcclhbpclaaDoor
open Go.RowKit Go.Maps
set_option linter.unusedVariables false
set_option linter.unusedSimpArgs false

theorem bytes_row {W : World} {a : Option Addr} {len cap : Nat} {z : List Int} (w0 : IsRow .u8 W a len cap z) : ∃ bs : List Nat, bs.length = len ∧ BRow W a bs ∧ len ≤ cap ∧ (a = none → len = 0 ∧ cap = 0) := by
  obtain ⟨xs, h1, h2, h3, h4, -, h6⟩ := w0.row
  refine ⟨xs.map Int.toNat, by simp [h1], ⟨?_, ?_⟩, h4, h6⟩
  · have : toI (xs.map Int.toNat) = xs := by
      unfold toI
      rw [List.map_map]
      conv => rhs; rw [← List.map_id xs]
      apply List.map_congr_left
      intro x hx
      have := wf_u8_bounds (h3 x hx)
      simp
      omega
    rw [this]
    exact h2
  · intro b hb
    obtain ⟨x, hx, rfl⟩ := List.mem_map.1 hb
    have := wf_u8_bounds (h3 x hx)
    omega
end Go.Proofs.YtmjfkcclhbpclaaDoor
/- Layer 4: the law HeadBack, as the frame asks for it. -/
namespace Go.Proofs.YtmjfkcclhbpclaaDoor
open Go.RowKit Go.Maps
set_option linter.unusedVariables false
set_option linter.unusedSimpArgs false

theorem walk_HeadBack (ty en : Int) (p : Option Addr) (pc : Nat) (ps : List PT) (a1 : Option Addr) (len1 cap1 : Nat) (z1 : List Int) (a2 : Option Addr) (len2 cap2 : Nat) (z2 : List Int) (W : World) (hg : ErrType W) (hf : FixAt W) (we : (Lit.int .u64 en).wf = true) (hp : PRow W p ps) (hpl : ps.length ≤ 140737488351232) (w1 : IsRow .u8 W a1 len1 cap1 z1) (s1 : cap1 * 1 ≤ 140737488351232) (w2 : IsRow .u8 W a2 len2 cap2 z2) (s2 : cap2 * 1 ≤ 140737488351232) :
    Calls Tryd.prog 3 #[headV ty en p ps.length pc, .slice a1 len1 cap1, .slice a2 len2 cap2] W fun e w' => e = .returned (.bool true) ∧ Below W.heap.size W w' := by
  obtain ⟨bs1, hlen1, hb1, hc1, hn1⟩ := bytes_row w1
  obtain ⟨bs2, hlen2, hb2, hc2, hn2⟩ := bytes_row w2
  obtain ⟨m, rfl, hm⟩ := wf_u64_nat we
  exact back_at ty m p ps.length pc ps a1 len1 cap1 bs1 a2 len2 cap2 bs2 W ⟨hb1, hlen1, by omega, hn1, hc1⟩ ⟨hb2, hlen2, by omega, hn2, hc2⟩ hp rfl hpl hm hg hf
end Go.Proofs.YtmjfkcclhbpclaaDoor
