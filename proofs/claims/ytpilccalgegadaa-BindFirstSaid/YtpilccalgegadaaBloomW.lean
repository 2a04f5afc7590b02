/- Layer 7: a word of a file, a chain word, the greatest bucket. -/
import Derived.Test.YtpilccalgegadaaBloomF
import Derived.Test.YtpilccalgegadaaOnes
namespace Go.Proofs.Ytpilccalgegadaa
open Go.RowKit
set_option linter.unusedVariables false
set_option linter.unusedSimpArgs false

def NumErr (F : Nat × Nat) (k : IntKind) (w : World) (e : Ending) (w' : World) : Prop := e = .returned (.tuple #[.int k (F.1 : Int), errV (F.2 : Int)]) ∧ Below w.heap.size w w'

set_option maxRecDepth 100000 in
set_option maxHeartbeats 4000000 in
theorem word_any (a : Option Addr) (cap : Nat) (bs : List Nat) (ty en : Int) (p : Option Addr) (pc : Nat) (ps : List PT) (addr : Nat) (w : World) (hb : BRow w a bs) (hbl : bs.length ≤ 140737488351232) (hbc : bs.length ≤ cap)
    (h : PRow w p ps) (hl : ps.length ≤ 140737488351232) (ha : addr < 18446744073709551616) :
    Calls Try.prog 36 #[fileV a bs.length cap ty en p ps.length pc, .int .u64 addr] w (NumErr (wordF bs ps addr) .u32 w) := by
  have HO := Lib.hid (fun (w1 : World) (hb1 : Below w.heap.size w w1) => offset_any ty en p pc ps addr 4 w1 (h.below hb1) hl ha (by omega))
  have HB := Lib.hid hb
  have hlt := offF_lt ps addr 4
  have B1 : Hid (Below w.heap.size w (w.alloc (.cells #[.slice a bs.length cap, .int .i64 ty, .int .u64 en, .slice p ps.length pc] 70))) := Lib.hid ((Below.refl _ _).alloc (Nat.le_refl _) _)
  clear hb h
  have FB : Hid (∀ w1, Below (w.alloc (.cells #[.slice a bs.length cap, .int .i64 ty, .int .u64 en, .slice p ps.length pc] 70)).heap.size (w.alloc (.cells #[.slice a bs.length cap, .int .i64 ty, .int .u64 en, .slice p ps.length pc] 70)) w1 → w1.cell? ⟨w.heap.size, 0, none⟩ = some (.slice a bs.length cap)) := Lib.hid (by
    intro w1 h1
    have e1 : w1.heap[w.heap.size]? = some (.cells #[.slice a bs.length cap, .int .i64 ty, .int .u64 en, .slice p ps.length pc] 70) := by
      rw [h1.block _ (by simp)]
      exact heap_alloc_new _ _
    rw [cell_of_row _ _ _ _ _ _ e1]
    rfl)
  unfold fileV headV at *
  rcases offF_code ps addr 4 with hc | hc
  · obtain ⟨o, ho⟩ : ∃ o, offF ps addr 4 = (o, 0) := ⟨(offF ps addr 4).1, by rw [← hc]⟩
    rw [ho] at HO hlt
    simp only at hlt
    by_cases h1 : o ≤ bs.length ∧ 4 ≤ bs.length - o
    · rw [wordF_yes ho h1.1 h1.2]
      obtain ⟨h1, h2⟩ := h1
      have h3 : ((bs.drop o).take 4).length = 4 := by simp; omega
      have HN := Lib.hid (fun (w1 : World) (hb1 : Below w.heap.size w w1) => by
        have := number_any (a.map (·.add o)) (cap - o) ((bs.drop o).take 4) w1 ((HB.out.below hb1).cut o 4) (by omega)
        rwa [h3] at this)
      have hq1 := numOf_lt ((bs.drop o).take 4) (fun b h => HB.out.2 b (List.mem_of_mem_drop (List.mem_of_mem_take h)))
      rw [h3] at hq1
      have hq : numOf ((bs.drop o).take 4) < 4294967296 := hq1
      have hwr : IntKind.u32.wrap ((numOf ((bs.drop o).take 4) : Nat) : Int) = ((numOf ((bs.drop o).take 4) : Nat) : Int) := by rw [IntKind.wrap_u32]; omega
      generalize numOf ((bs.drop o).take 4) = q at *
      obtain ⟨b, off, rfl, -, -, -⟩ := HB.out.at (i := o) (by omega)
      simp only [Option.map_some, WideShapes.add_plain] at HN
      have hne : ¬ cap = o := by omega
      clear hq hq1 h3 ho hc
      go_enter Try.func36, Try.ntmps36
      go_wp2_with fail
      refine (HO.out _ B1.out).mono ?_
      rintro e w2 ⟨rfl, hb2⟩
      have hf := FB.out w2 hb2
      have B2 := Lib.hid (bstep B1.out hb2)
      clear hb2 FB
      rw [errV0]
      go_wp2_with fail
      refine (HN.out w2 B2.out).mono ?_
      rintro e w3 ⟨rfl, rfl⟩
      go_wp2_with fail
      go_ret2
      exact ⟨rfl, B2.out⟩
    · rw [wordF_out ho h1]
      rcases Decidable.em (o ≤ bs.length) with h2 | h2
      · have h3 : (bs.length : Int) - (o : Int) < 4 := by omega
        clear ho hc h1
        go_enter Try.func36, Try.ntmps36
        go_wp2_with fail
        refine (HO.out _ B1.out).mono ?_
        rintro e w2 ⟨rfl, hb2⟩
        have hf := FB.out w2 hb2
        have B2 := Lib.hid (bstep B1.out hb2)
        clear hb2 FB
        rw [errV0]
        go_wp2_with fail
        go_ret2
        exact ⟨rfl, B2.out⟩
      · have h3 : (bs.length : Int) < (o : Int) := by omega
        clear ho hc h1 h2
        go_enter Try.func36, Try.ntmps36
        go_wp2_with fail
        refine (HO.out _ B1.out).mono ?_
        rintro e w2 ⟨rfl, hb2⟩
        have hf := FB.out w2 hb2
        have B2 := Lib.hid (bstep B1.out hb2)
        clear hb2 FB
        rw [errV0]
        go_wp2_with fail
        go_ret2
        exact ⟨rfl, B2.out⟩
  · rw [wordF_off hc]
    rw [hc] at HO
    clear hc hlt
    go_enter Try.func36, Try.ntmps36
    go_wp2_with fail
    refine (HO.out _ B1.out).mono ?_
    rintro e w2 ⟨rfl, hb2⟩
    have hf := FB.out w2 hb2
    have B2 := Lib.hid (bstep B1.out hb2)
    clear hb2 FB
    rw [errV4]
    go_wp2_with fail
    go_ret2
    exact ⟨rfl, B2.out⟩
end Go.Proofs.Ytpilccalgegadaa
