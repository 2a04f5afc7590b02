/- Layer 8: the versions of a file, whatever is asked for: the program's answer. -/
import Derived.Test.YtikpkblemegggaaVersOf
import Derived.Laws.CopyOwn
namespace Go.Proofs.Ytikpkblemegggaa
open Go.RowKit Go.Maps
set_option linter.unusedVariables false
set_option linter.unusedSimpArgs false

structure VersD where
  has : Bool
  of : List Nat
  defs : List DefD
  needs : List NeedD
def VersD.zero : VersD := ⟨false, [], [], []⟩
/-- the versions of a file; an error's number behind -/
def versF (bs : List Nat) (ps : List PT) (d : DT) (n : Int) : VersD × Nat :=
  if n < 0 then (.zero, 1) else if 4096 < n then (.zero, 2) else if d.versym = 0 then (.zero, 0)
  else if (strF bs ps d.strtab d.strsz).2 ≠ 0 then (.zero, (strF bs ps d.strtab d.strsz).2)
  else if (sliceF bs ps d.versym (2 * n.toNat)).2 ≠ 0 then (.zero, (sliceF bs ps d.versym (2 * n.toNat)).2)
  else if (defsF bs ps (strF bs ps d.strtab d.strsz).1 [] d.verdef d.verdefnum).2 ≠ 0 then (.zero, (defsF bs ps (strF bs ps d.strtab d.strsz).1 [] d.verdef d.verdefnum).2)
  else if (needsF bs ps (strF bs ps d.strtab d.strsz).1 (defsF bs ps (strF bs ps d.strtab d.strsz).1 [] d.verdef d.verdefnum).1.1 d.verneed d.verneednum).2 ≠ 0 then (.zero, (needsF bs ps (strF bs ps d.strtab d.strsz).1 (defsF bs ps (strF bs ps d.strtab d.strsz).1 [] d.verdef d.verdefnum).1.1 d.verneed d.verneednum).2)
  else if (ofF (needsF bs ps (strF bs ps d.strtab d.strsz).1 (defsF bs ps (strF bs ps d.strtab d.strsz).1 [] d.verdef d.verdefnum).1.1 d.verneed d.verneednum).1.1 (sliceF bs ps d.versym (2 * n.toNat)).1).2 ≠ 0 then (.zero, (ofF (needsF bs ps (strF bs ps d.strtab d.strsz).1 (defsF bs ps (strF bs ps d.strtab d.strsz).1 [] d.verdef d.verdefnum).1.1 d.verneed d.verneednum).1.1 (sliceF bs ps d.versym (2 * n.toNat)).1).2)
  else (⟨true, (ofF (needsF bs ps (strF bs ps d.strtab d.strsz).1 (defsF bs ps (strF bs ps d.strtab d.strsz).1 [] d.verdef d.verdefnum).1.1 d.verneed d.verneednum).1.1 (sliceF bs ps d.versym (2 * n.toNat)).1).1, (defsF bs ps (strF bs ps d.strtab d.strsz).1 [] d.verdef d.verdefnum).1.2, (needsF bs ps (strF bs ps d.strtab d.strsz).1 (defsF bs ps (strF bs ps d.strtab d.strsz).1 [] d.verdef d.verdefnum).1.1 d.verneed d.verneednum).1.2⟩, 0)

def VersAns (X : VersD × Nat) (w : World) (e : Ending) (w' : World) : Prop :=
  ∃ oa oc da dc drows na nc nrows, e = .returned (.tuple #[.agg #[.bool X.1.has, .slice oa X.1.of.length oc, .slice da X.1.defs.length dc, .slice na X.1.needs.length nc], errV (X.2 : Int)]) ∧
    OwnI w' w.heap.size 3 .i64 (.slice oa X.1.of.length oc) (toI X.1.of) ∧ OwnS w' w.heap.size 42 4 (.slice da X.1.defs.length dc) drows ∧ DefRows w' w.heap.size X.1.defs drows ∧
    OwnS w' w.heap.size 45 2 (.slice na X.1.needs.length nc) nrows ∧ NeedRows w' w.heap.size X.1.needs nrows ∧ Below w.heap.size w w'
theorem VersAns.no {w w' : World} {c : Nat} {v e1 : Value} (hb : Below w.heap.size w w') (hv : v = .agg #[.bool false, .slice none 0 0, .slice none 0 0, .slice none 0 0]) (he : e1 = errV (c : Int)) : VersAns (.zero, c) w (.returned (.tuple #[v, e1])) w' := by
  subst hv he
  exact ⟨none, 0, none, 0, [], none, 0, [], rfl, OwnI.nil _ _ _ _, OwnS.nil _ _ _ _, trivial, OwnS.nil _ _ _ _, trivial, hb⟩
theorem below_zero {w wx : World} {V : Nat} (hb : Below w.heap.size w wx) (hV : w.heap.size ≤ V) (cs : Array Value) : Below w.heap.size w (wx.setRow V cs) := below_setRow hb hV cs

set_option maxRecDepth 100000 in
set_option maxHeartbeats 8000000 in
theorem vread_small (a : Option Addr) (cap : Nat) (bs : List Nat) (ty en : Int) (p : Option Addr) (pc : Nat) (ps : List PT) (d : DT) (n : Int) (w : World) (hd : d.wf) (hn1 : -9223372036854775808 ≤ n) (hn2 : n < 9223372036854775808) (hcase : n < 0 ∨ 4096 < n ∨ d.versym = 0) :
    Calls Try.prog 7 #[.slice a bs.length cap, headV ty en p ps.length pc, .agg d.cells, .int .i64 n] w (VersAns (versF bs ps d n) w) := by
  have hD26 : d.cells[26]? = some (.int .u64 (d.versym : Int)) := rfl
  obtain ⟨X, hX⟩ : ∃ X, versF bs ps d n = X := ⟨_, rfl⟩
  have HX : Hid ((n < 0 → X = (.zero, 1)) ∧ (¬ n < 0 → 4096 < n → X = (.zero, 2)) ∧ (¬ n < 0 → ¬ 4096 < n → d.versym = 0 → X = (.zero, 0))) := Lib.hid (by
    rw [← hX]
    unfold versF
    exact ⟨fun h => by rw [if_pos h], fun h h2 => by rw [if_neg h, if_pos h2], fun h h2 h3 => by rw [if_neg h, if_neg h2, if_pos h3]⟩)
  rw [hX]
  clear hX
  have HI : Hid ((Try.prog.info? 29).map (·.size) = some d.cells.size) := Lib.hid (show _ = some 37 by kernel_rfl)
  generalize d.cells = D at *
  generalize d.versym = versym at *
  clear hd
  have B1 : Hid (Below w.heap.size w ((w.alloc (.cells #[.int .i64 ty, .int .u64 en, .slice p ps.length pc] 26)).alloc (.cells D 29))) := Lib.hid (((Below.refl _ _).alloc (Nat.le_refl _) _).alloc (by simp) _)
  have BZ : Hid (Below w.heap.size w (((w.alloc (.cells #[.int .i64 ty, .int .u64 en, .slice p ps.length pc] 26)).alloc (.cells D 29)).alloc (.cells #[.bool false, .slice none 0 0, .slice none 0 0, .slice none 0 0] 35))) := Lib.hid (B1.out.alloc B1.out.size _)
  have HV : Hid ((((w.alloc (.cells #[.int .i64 ty, .int .u64 en, .slice p ps.length pc] 26)).alloc (.cells D 29)).alloc (.cells #[.bool false, .slice none 0 0, .slice none 0 0, .slice none 0 0] 35)).heap[w.heap.size + 2]? = some (.cells #[.bool false, .slice none 0 0, .slice none 0 0, .slice none 0 0] 35)) := Lib.hid (by
    have := heap_alloc_new ((w.alloc (.cells #[.int .i64 ty, .int .u64 en, .slice p ps.length pc] 26)).alloc (.cells D 29)) (.cells #[.bool false, .slice none 0 0, .slice none 0 0, .slice none 0 0] 35)
    simpa using this)
  have c26 : (((w.alloc (.cells #[.int .i64 ty, .int .u64 en, .slice p ps.length pc] 26)).alloc (.cells D 29)).alloc (.cells #[.bool false, .slice none 0 0, .slice none 0 0, .slice none 0 0] 35)).cell? ⟨w.heap.size + 1, 26, none⟩ = some (.int .u64 (versym : Int)) := by
    have h1 : ((w.alloc (.cells #[.int .i64 ty, .int .u64 en, .slice p ps.length pc] 26)).alloc (.cells D 29)).cell? ⟨w.heap.size + 1, 26, none⟩ = some (.int .u64 (versym : Int)) := by
      have h2 := heap_alloc_new (w.alloc (.cells #[.int .i64 ty, .int .u64 en, .slice p ps.length pc] 26)) (.cells D 29)
      rw [show (w.alloc (.cells #[.int .i64 ty, .int .u64 en, .slice p ps.length pc] 26)).heap.size = w.heap.size + 1 by simp] at h2
      rw [cell_of_row _ _ 26 _ _ _ h2]
      exact hD26
    have hb3 : Below ((w.alloc (.cells #[.int .i64 ty, .int .u64 en, .slice p ps.length pc] 26)).alloc (.cells D 29)).heap.size ((w.alloc (.cells #[.int .i64 ty, .int .u64 en, .slice p ps.length pc] 26)).alloc (.cells D 29)) (((w.alloc (.cells #[.int .i64 ty, .int .u64 en, .slice p ps.length pc] 26)).alloc (.cells D 29)).alloc (.cells #[.bool false, .slice none 0 0, .slice none 0 0, .slice none 0 0] 35)) := (Below.refl _ _).alloc (Nat.le_refl _) _
    rw [hb3.cell (p := ⟨w.heap.size + 1, 26, none⟩) (by simp)]
    exact h1
  clear hD26 B1
  unfold headV
  by_cases hn : n < 0
  · have HE := Lib.hid (HX.out.1 hn)
    go_enter Try.func7, Try.ntmps7
    go_wp2_with fail
    go_returns
    rw [HE.out]
    exact VersAns.no BZ.out rfl rfl
  · by_cases hn4 : 4096 < n
    · have HE := Lib.hid (HX.out.2.1 hn hn4)
      go_enter Try.func7, Try.ntmps7
      go_wp2_with fail
      go_returns
      rw [HE.out]
      exact VersAns.no BZ.out rfl rfl
    · have h0 : versym = 0 := by omega
      have HE := Lib.hid (HX.out.2.2 hn hn4 h0)
      subst h0
      go_enter Try.func7, Try.ntmps7
      go_wp2_with fail
      go_returns
      rw [HE.out]
      exact VersAns.no BZ.out rfl rfl
end Go.Proofs.Ytikpkblemegggaa
