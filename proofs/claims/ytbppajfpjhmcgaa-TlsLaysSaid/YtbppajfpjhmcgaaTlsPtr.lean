/- tls: which threads there are, and their pointers. -/
import Derived.Test.YtbppajfpjhmcgaaTlsSt
namespace Go.Proofs.Ytbppajfpjhmcgaa
open Go.RowKit
set_option linter.unusedVariables false
set_option linter.unusedSimpArgs false

section
variable {sb st last gr : Nat} {ms : List TM} {ts : List (Nat × Nat)} {ma ta : Option Addr} {mc tc : Nat} {w : World}
theorem StAt.c0 (h : StAt w sb st last gr ms ts ma mc ta tc) : w.cell? ⟨sb, 0, none⟩ = some (.slice ma ms.length mc) := by rw [cell_of_row _ _ 0 _ _ _ h.box]; rfl
theorem StAt.c1 (h : StAt w sb st last gr ms ts ma mc ta tc) : w.cell? ⟨sb, 1, none⟩ = some (.int .i64 (st : Int)) := by rw [cell_of_row _ _ 1 _ _ _ h.box]; rfl
theorem StAt.c2 (h : StAt w sb st last gr ms ts ma mc ta tc) : w.cell? ⟨sb, 2, none⟩ = some (.int .u64 (last : Int)) := by rw [cell_of_row _ _ 2 _ _ _ h.box]; rfl
theorem StAt.c3 (h : StAt w sb st last gr ms ts ma mc ta tc) : w.cell? ⟨sb, 3, none⟩ = some (.int .u64 (gr : Int)) := by rw [cell_of_row _ _ 3 _ _ _ h.box]; rfl
theorem StAt.c4 (h : StAt w sb st last gr ms ts ma mc ta tc) : w.cell? ⟨sb, 4, none⟩ = some (.slice ta ts.length tc) := by rw [cell_of_row _ _ 4 _ _ _ h.box]; rfl
/-- a thread's row -/
theorem StAt.thr_at (h : StAt w sb st last gr ms ts ma mc ta tc) {i p g : Nat} (hi : ts[i]? = some (p, g)) : ∃ b o, ta = some ⟨b, o, none⟩ ∧ b < w.heap.size ∧ w.cell? ⟨b, o + i * 2, none⟩ = some (.int .u64 (p : Int)) ∧ w.cell? ⟨b, o + i * 2 + 1, none⟩ = some (.map (some g)) := by
  obtain ⟨hn, hr, -, -⟩ := h.thr.at
  have hlt : i < ts.length := (List.getElem?_eq_some_iff.1 hi).1
  obtain ⟨b, o, e, hb, hc⟩ := hr i (by simpa using hlt)
  have he : ts[i] = (p, g) := (List.getElem?_eq_some_iff.1 hi).2
  refine ⟨b, o, e, hb, ?_, ?_⟩
  · have := hc 0 (by omega)
    simp only [List.getElem_map, he, thrRow] at this
    simpa using this
  · have := hc 1 (by omega)
    simp only [List.getElem_map, he, thrRow] at this
    simpa using this
/-- a module's row -/
theorem StAt.mod_at (h : StAt w sb st last gr ms ts ma mc ta tc) {i : Nat} {m : TM} (hi : ms[i]? = some m) : ∃ b o, ma = some ⟨b, o, none⟩ ∧ b < w.heap.size ∧ ∀ j, j < 5 → w.cell? ⟨b, o + i * 5 + j, none⟩ = m.row[j]? := by
  obtain ⟨hn, hr, -, -⟩ := h.mods.at
  have hlt : i < ms.length := (List.getElem?_eq_some_iff.1 hi).1
  obtain ⟨b, o, e, hb, hc⟩ := hr i (by simpa using hlt)
  have he : ms[i] = m := (List.getElem?_eq_some_iff.1 hi).2
  refine ⟨b, o, e, hb, fun j hj => ?_⟩
  have := hc j hj
  simp only [List.getElem_map, he] at this
  exact this
end

theorem isThread_any (sb st last gr : Nat) (ms : List TM) (ts : List (Nat × Nat)) (ma ta : Option Addr) (mc tc i : Nat) (w : World) (h : StAt w sb st last gr ms ts ma mc ta tc) (hi : i < ts.length) (ht : ts.length ≤ 1048576) :
    Calls Try.prog 25 #[.pointer (some ⟨sb, 0, none⟩), .int .i64 (i : Int)] w fun e w' => e = .returned (.bool true) ∧ w = w' := by
  have c4 := h.c4
  generalize ts.length = n at *
  clear h
  have i0 : (0 : Int) ≤ (i : Int) := by omega
  have i1 : (i : Int) < (n : Int) := by omega
  go_enter Try.func25, Try.ntmps25
  go_wp2_with fail
  go_ret
  exact ⟨rfl, rfl⟩

theorem pointer_any (sb st last gr : Nat) (ms : List TM) (ts : List (Nat × Nat)) (ma ta : Option Addr) (mc tc i p g : Nat) (w : World) (h : StAt w sb st last gr ms ts ma mc ta tc) (hi : ts[i]? = some (p, g)) (ht : ts.length ≤ 1048576) :
    Calls Try.prog 14 #[.pointer (some ⟨sb, 0, none⟩), .int .i64 (i : Int)] w fun e w' => e = .returned (.tuple #[.int .u64 (p : Int), .nilIface]) ∧ w = w' := by
  have c4 := h.c4
  have hlt : i < ts.length := (List.getElem?_eq_some_iff.1 hi).1
  have HI := Lib.hid (isThread_any sb st last gr ms ts ma ta mc tc i w h hlt ht)
  obtain ⟨b, o, rfl, hb, q0, q1⟩ := h.thr_at hi
  clear h hi
  generalize ts.length = n at *
  have i0 : (0 : Int) ≤ (i : Int) := by omega
  have i1 : (i : Int) < (n : Int) := by omega
  go_enter Try.func14, Try.ntmps14
  go_wp2_with (go_at_call 25; refine HI.out.mono ?_; rintro e w' ⟨rfl, rfl⟩)
  go_ret2
  exact ⟨rfl, rfl⟩
end Go.Proofs.Ytbppajfpjhmcgaa
