/- Layer 9: rels.Read, of a file of which the two tables alone are told. -/
import Derived.Test.YtbmfjchpfhealaaRelsList
import Derived.Test.YtbmfjchpfhealaaRelsUnpack
import Derived.Handy
namespace Go.Proofs.Ytbmfjchpfhealaa
open Go.RowKit
set_option linter.unusedVariables false
set_option linter.unusedSimpArgs false

/-- what is told of a file: where the two tables lie -/
def dynC (A S J T : Nat) : Array Value := #[.slice none 0 0, .int .u64 T, .int .u64 0, .int .u64 0, .int .u64 0, .int .u64 0, .int .u64 A, .int .u64 S, .int .u64 0, .int .u64 0, .int .u64 0,
  .int .u64 0, .int .u64 0, .int .u64 0, .bool false, .bool false, .bool false, .int .u64 J, .int .u64 0, .int .u64 0, .int .u64 0, .int .u64 0, .int .u64 0, .int .u64 0, .int .u64 0, .int .u64 0, .int .u64 0, .int .u64 0,
  .int .u64 0, .int .u64 0, .int .u64 0, .int .u64 0, .bool false, .bool false, .bool false, .bool false, .bool false]

theorem list_good (a : Option Addr) (cap : Nat) (bs : List Nat) (ty en : Int) (p : Option Addr) (pc : Nat) (ps : List PT) (addr bytes : Nat) (n : Int) (w0 w : World) (hb0 : Below w0.heap.size w0 w) (hb : BRow w a bs) (hbl : bs.length ≤ 140737488351232) (hbc : bs.length ≤ cap) (hbn : a = none → bs.length = 0 ∧ cap = 0)
    (h : PRow w p ps) (hl : ps.length ≤ 140737488351232) (ha : addr < 18446744073709551616) (hs : bytes < 18446744073709551616) (t : List Nat) (hE : entF bs ps addr bytes 24 = (t, 0)) (R : List (List Value)) (m : Nat) (hm : R.length = m) (hL : listF n t = (R, 0)) :
    Calls Try.prog 27 #[.slice a bs.length cap, headV ty en p ps.length pc, .int .u64 addr, .int .u64 bytes, .int .i64 n] w fun e w' => ∃ ad c, e = .returned (.tuple #[.slice ad m c, .nilIface]) ∧
      OwnS w' w0.heap.size 49 4 (.slice ad m c) R ∧ Below w0.heap.size w0 w' ∧ Below w.heap.size w w' := by
  subst hm
  refine (list_ok a cap bs ty en p pc ps addr bytes n w hb hbl hbc hbn h hl ha hs t hE).mono ?_
  rintro e w' ⟨ad, c, rfl, ho, hb2⟩
  rw [hL] at ho ⊢
  exact ⟨ad, c, rfl, ho.mono hb0.size, bstep hb0 hb2, hb2⟩
theorem entries_zero (a : Option Addr) (cap : Nat) (bs : List Nat) (ty en : Int) (p : Option Addr) (pc : Nat) (ps : List PT) (w0 w : World) (hb0 : Below w0.heap.size w0 w) (hb : BRow w a bs) (hbl : bs.length ≤ 140737488351232) (hbc : bs.length ≤ cap) (hbn : a = none → bs.length = 0 ∧ cap = 0)
    (h : PRow w p ps) (hl : ps.length ≤ 140737488351232) :
    Calls Try.prog 28 #[.slice a bs.length cap, headV ty en p ps.length pc, .int .u64 0, .int .u64 0, .int .u64 8] w fun e w' => ∃ ad c, e = .returned (.tuple #[.slice ad 0 c, .nilIface]) ∧
      Below w0.heap.size w0 w' ∧ Below w.heap.size w w' := by
  have hF : entF bs ps 0 0 8 = ([], 0) := by simp [entF]
  refine (entries_any a cap bs ty en p pc ps 0 0 8 w hb hbl hbc hbn h hl (by omega) (by omega) (by omega) (by omega)).mono ?_
  rintro e w' ⟨ad, c, rfl, ho, hb2⟩
  rw [hF] at ho ⊢
  exact ⟨ad, c, rfl, bstep hb0 hb2, hb2⟩
theorem unpack_none (a : Option Addr) (cap : Nat) (w0 w : World) (hb0 : Below w0.heap.size w0 w) :
    Calls Try.prog 24 #[.slice a 0 cap] w fun e w' => ∃ ad c, e = .returned (.tuple #[.slice ad 0 c, .nilIface]) ∧ Below w0.heap.size w0 w' ∧ Below w.heap.size w w' := by
  refine (unpack_nil a cap w).mono ?_
  rintro e w' ⟨v, rfl, ho, hb2⟩
  obtain ⟨ad, c, hv⟩ := ho.len_le
  rw [show unF [] = (0, []) from by decide] at hv ⊢
  exact ⟨ad, c, by rw [hv]; rfl, bstep hb0 hb2, hb2⟩

set_option maxRecDepth 100000 in
set_option maxHeartbeats 8000000 in
theorem read_two (a : Option Addr) (cap : Nat) (bs : List Nat) (ty en : Int) (p : Option Addr) (pc : Nat) (ps : List PT) (A S J T : Nat) (n : Int) (w : World) (hb : BRow w a bs) (hbl : bs.length ≤ 140737488351232) (hbc : bs.length ≤ cap) (hbn : a = none → bs.length = 0 ∧ cap = 0)
    (h : PRow w p ps) (hl : ps.length ≤ 140737488351232) (hA : A < 18446744073709551616) (hS : S < 18446744073709551616) (hJ : J < 18446744073709551616) (hT : T < 18446744073709551616)
    (t1 t2 : List Nat) (R1 R2 : List (List Value)) (m1 m2 : Nat) (hm1 : R1.length = m1) (hm2 : R2.length = m2) (hE1 : entF bs ps A S 24 = (t1, 0)) (hE2 : entF bs ps J T 24 = (t2, 0)) (hL1 : listF n t1 = (R1, 0)) (hL2 : listF n t2 = (R2, 0)) :
    Calls Try.prog 14 #[.slice a bs.length cap, headV ty en p ps.length pc, .agg (dynC A S J T), .int .i64 n] w fun e w' => ∃ ad1 c1 ad2 c2 ad3 c3, e = .returned (.tuple #[.slice ad1 m1 c1, .slice ad2 m2 c2, .slice ad3 0 c3, .nilIface]) ∧
      OwnS w' w.heap.size 49 4 (.slice ad1 m1 c1) R1 ∧ OwnS w' w.heap.size 49 4 (.slice ad2 m2 c2) R2 ∧ Below w.heap.size w w' := by
  have H1 := Lib.hid (fun (w1 : World) (hb1 : Below w.heap.size w w1) => list_good a cap bs ty en p pc ps A S n w w1 hb1 (hb.below hb1) hbl hbc hbn (h.below hb1) hl hA hS t1 hE1 R1 m1 hm1 hL1)
  have H2 := Lib.hid (fun (w1 : World) (hb1 : Below w.heap.size w w1) => list_good a cap bs ty en p pc ps J T n w w1 hb1 (hb.below hb1) hbl hbc hbn (h.below hb1) hl hJ hT t2 hE2 R2 m2 hm2 hL2)
  have H3 := Lib.hid (fun (w1 : World) (hb1 : Below w.heap.size w w1) => entries_zero a cap bs ty en p pc ps w w1 hb1 (hb.below hb1) hbl hbc hbn (h.below hb1) hl)
  clear hE1 hE2 hL1 hL2 h hb
  have B1 : Hid (Below w.heap.size w ((w.alloc (.cells #[.int .i64 ty, .int .u64 en, .slice p ps.length pc] 26)).alloc (.cells (dynC A S J T) 29))) := Lib.hid (((Below.refl _ _).alloc (Nat.le_refl _) _).alloc (by simp) _)
  have FH : Hid (∀ w1, Below ((w.alloc (.cells #[.int .i64 ty, .int .u64 en, .slice p ps.length pc] 26)).alloc (.cells (dynC A S J T) 29)).heap.size ((w.alloc (.cells #[.int .i64 ty, .int .u64 en, .slice p ps.length pc] 26)).alloc (.cells (dynC A S J T) 29)) w1 →
      w1.cell? ⟨w.heap.size, 0, none⟩ = some (.int .i64 ty) ∧ w1.cell? ⟨w.heap.size, 1, none⟩ = some (.int .u64 en) ∧ w1.cell? ⟨w.heap.size, 2, none⟩ = some (.slice p ps.length pc) ∧
      w1.cell? ⟨w.heap.size + 1, 1, none⟩ = some (.int .u64 T) ∧ w1.cell? ⟨w.heap.size + 1, 17, none⟩ = some (.int .u64 J) ∧ w1.cell? ⟨w.heap.size + 1, 23, none⟩ = some (.int .u64 0) ∧ w1.cell? ⟨w.heap.size + 1, 24, none⟩ = some (.int .u64 0)) := Lib.hid (by
    intro w1 hw1
    have e1 : ∀ j, w1.cell? ⟨w.heap.size, j, none⟩ = (w.alloc (.cells #[.int .i64 ty, .int .u64 en, .slice p ps.length pc] 26)).cell? ⟨w.heap.size, j, none⟩ := fun j => by
      rw [hw1.cell (p := ⟨w.heap.size, j, none⟩) (by simp; omega)]
      exact (Below.cell (((Below.refl _ _).alloc (Nat.le_refl _) _)) (p := ⟨w.heap.size, j, none⟩) (by simp))
    have e2 : ∀ j, w1.cell? ⟨w.heap.size + 1, j, none⟩ = (dynC A S J T)[j]? := fun j => by
      rw [hw1.cell (p := ⟨w.heap.size + 1, j, none⟩) (by simp)]
      simp
    refine ⟨?_, ?_, ?_, ?_, ?_, ?_, ?_⟩
    · rw [e1, World.cell?_alloc_new]; rfl
    · rw [e1, World.cell?_alloc_new]; rfl
    · rw [e1, World.cell?_alloc_new]; rfl
    · rw [e2]; rfl
    · rw [e2]; rfl
    · rw [e2]; rfl
    · rw [e2]; rfl)
  unfold headV at *
  unfold dynC
  go_enter Try.func14, Try.ntmps14
  go_wp2_with fail
  refine (H1.out _ B1.out).mono ?_
  rintro e w2 ⟨ad1, c1, rfl, ho1, hb2, hs2⟩
  obtain ⟨f0, f1, f2, f3, f4, f5, f6⟩ := FH.out _ hs2
  have O1 := Lib.hid ho1; have B2 := Lib.hid hb2; have S2 := Lib.hid hs2
  clear ho1 hb2 hs2
  go_wp2_with fail
  refine (H2.out _ B2.out).mono ?_
  rintro e w3 ⟨ad2, c2, rfl, ho2, hb3, hs3⟩
  clear f0 f1 f2 f3 f4 f5 f6
  obtain ⟨f0, f1, f2, f3, f4, f5, f6⟩ := FH.out _ (bstep S2.out hs3)
  have O1' := Lib.hid (O1.out.below hs3)
  have O2 := Lib.hid ho2; have B3 := Lib.hid hb3
  clear O1 S2 ho2 hb3 hs3 B2
  go_wp2_with fail
  refine (H3.out _ B3.out).mono ?_
  rintro e w4 ⟨ad3, c3, rfl, hb4, hs4⟩
  clear f0 f1 f2 f3 f4 f5 f6
  have O1 := Lib.hid (O1'.out.below hs4)
  have O2' := Lib.hid (O2.out.below hs4)
  have B4 := Lib.hid hb4
  clear O1' O2 hb4 hs4 B3 H1 H2 H3 FH
  go_wp2
  go_loopg [16, 17] 0 (fun g u i wr => u = .slice none 0 0 ∧ i = .int .i64 0 ∧ w4 = wr)
  case atStart => exact ⟨rfl, rfl, rfl⟩
  case round =>
    obtain ⟨rfl, rfl, rfl⟩ := hrel
    go_wp2_with fail
    refine (unpack_none _ _ _ _ B4.out).mono ?_
    rintro e w5 ⟨ad4, c4, rfl, hb5, hs5⟩
    have O1' := Lib.hid (O1.out.below hs5)
    have O2 := Lib.hid (O2'.out.below hs5)
    have B5 := Lib.hid hb5
    clear O1 O2' hb5 hs5 B4
    go_wp2
    go_returns
    exact ⟨ad1, c1, ad2, c2, ad4, c4, rfl, O1'.out, O2.out, B5.out⟩
end Go.Proofs.Ytbmfjchpfhealaa
