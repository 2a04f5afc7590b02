/- Layer 8: the statement that no index is told twice: the whole walk. -/
import Derived.Test.YtldjjolpjekpbaaVersOnceY
namespace Go.Proofs.Ytldjjolpjekpbaa
open Go.RowKit Go.Maps
set_option linter.unusedVariables false
set_option linter.unusedSimpArgs false

theorem once_any (a : Option Addr) (cap : Nat) (bs : List Nat) (ty en : Int) (p : Option Addr) (pc : Nat) (ps : List PT) (d : DT) (n : Int) (w : World) (hb : BRow w a bs) (hbl : bs.length ≤ 140737488351232) (hbc : bs.length ≤ cap) (hbn : a = none → bs.length = 0 ∧ cap = 0)
    (h : PRow w p ps) (hl : ps.length ≤ 140737488351232) (hd : d.wf) (hn1 : -9223372036854775808 ≤ n) (hn2 : n < 9223372036854775808) :
    Calls Try.prog 3 #[.slice a bs.length cap, headV ty en p ps.length pc, .agg d.cells, .int .i64 n] w fun e w' => e = .returned (.bool true) ∧ Below w.heap.size w w' := by
  obtain ⟨h1, h2, h3⟩ := versF_once (bs := bs) (ps := ps) (d := d) (n := n) hb.2
  by_cases hc : (versF bs ps d n).2 = 0
  · cases hh : (versF bs ps d n).1.has with
    | false => exact once_no a cap bs ty en p pc ps d n w hb hbl hbc hbn h hl hd hn1 hn2 _ (Prod.ext (h2 hh) rfl)
    | true =>
      obtain ⟨q1, q2, q3, q4, q5⟩ := h3 hc hh
      exact once_yes a cap bs ty en p pc ps d n w hb hbl hbc hbn h hl hd hn1 hn2 _ (Prod.ext rfl hc) hh q3 q4 q5 q2
  · exact once_no a cap bs ty en p pc ps d n w hb hbl hbc hbn h hl hd hn1 hn2 _ (Prod.ext (h1 hc) rfl)

theorem bytes_row {W : World} {a : Option Addr} {len cap : Nat} {z : List Int} (w0 : IsRow .u8 W a len cap z) : ∃ bs : List Nat, bs.length = len ∧ BRow W a bs ∧ len ≤ cap ∧ (a = none → len = 0 ∧ cap = 0) := by
  obtain ⟨xs, h1, h2, h3, h4, -, h6⟩ := w0.row
  refine ⟨xs.map Int.toNat, by simp [h1], ⟨?_, ?_⟩, h4, h6⟩
  · have : toI (xs.map Int.toNat) = xs := by
      unfold toI
      rw [List.map_map]
      conv => rhs; rw [← List.map_id xs]
      apply List.map_congr_left
      intro x hx
      have := wf_u8_bounds (h3 x hx)
      simp
      omega
    rw [this]
    exact h2
  · intro b hb
    obtain ⟨x, hx, rfl⟩ := List.mem_map.1 hb
    have := wf_u8_bounds (h3 x hx)
    omega
theorem walk_VersOnce (a : Option Addr) (len cap : Nat) (z : List Int) (ty en : Int) (p : Option Addr) (pc : Nat) (ps : List PT) (d : DT) (n : Int) (W : World) (w0 : IsRow .u8 W a len cap z) (s0 : cap * 1 ≤ 140737488351232) (hp : PRow W p ps) (hpl : ps.length ≤ 140737488351232) (hd : d.wf) (w3 : (Lit.int .i64 n).wf = true) :
    Calls Try.prog 3 #[.slice a len cap, headV ty en p ps.length pc, .agg d.cells, .int .i64 n] W fun e w' => e = .returned (.bool true) ∧ Below W.heap.size W w' := by
  obtain ⟨bs, rfl, hb, hc, hn⟩ := bytes_row w0
  have := bounds_i64 w3
  exact once_any a cap bs ty en p pc ps d n W hb (by omega) hc hn hp hpl hd (by omega) (by omega)
end Go.Proofs.Ytldjjolpjekpbaa
