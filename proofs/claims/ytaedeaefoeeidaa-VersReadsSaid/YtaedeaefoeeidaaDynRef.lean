/- Layer 5, the document's own answer: where in the file an address lies, and its bytes. -/
import Derived.Test.YtaedeaefoeeidaaDynNum
namespace Go.Proofs.Ytaedeaefoeeidaa
open Go.RowKit
set_option linter.unusedVariables false
set_option linter.unusedSimpArgs false

set_option maxRecDepth 100000 in
set_option maxHeartbeats 4000000 in
theorem refOffset_any (ty en : Int) (a : Option Addr) (cap : Nat) (ps : List PT) (addr size : Nat) (w : World) (h : PRow w a ps) (hl : ps.length ≤ 140737488351232) (ha : addr < 18446744073709551616) (hs : size < 18446744073709551616) :
    Calls Try.prog 32 #[headV ty en a ps.length cap, .int .u64 addr, .int .u64 size] w fun e w' => e = .returned (.tuple #[.int .u64 ((offF ps addr size).1 : Int), Value.int .i64 ((offF ps addr size).2 : Int)]) ∧ Below w.heap.size w w' := by
  have H := Lib.hid h
  clear h
  obtain ⟨r, hr⟩ : ∃ r, offF ps addr size = r := ⟨_, rfl⟩
  rw [hr]
  have HR := Lib.hid hr
  clear hr
  unfold headV
  go_enter Try.func32, Try.ntmps32
  go_wp2
  have HB : Hid (Below w.heap.size w (w.alloc (.cells #[.int .i64 ty, .int .u64 en, .slice a ps.length cap] 26))) := Lib.hid ((Below.refl _ _).alloc (Nat.le_refl _) _)
  have HX : Hid ((w.alloc (.cells #[.int .i64 ty, .int .u64 en, .slice a ps.length cap] 26)).cell? ⟨w.heap.size, 2, none⟩ = some (.slice a ps.length cap)) := Lib.hid (by rw [World.cell?_alloc_new]; rfl)
  have HS : Hid (w.heap.size < (w.alloc (.cells #[.int .i64 ty, .int .u64 en, .slice a ps.length cap] 26)).heap.size) := Lib.hid (by simp)
  generalize w.alloc (.cells #[.int .i64 ty, .int .u64 en, .slice a ps.length cap] 26) = w1 at *
  go_loopg [8] ps.length (fun g i wr => ∃ k : Nat, k + g = ps.length ∧ i = .int .i64 k ∧ Below w1.heap.size w1 wr ∧ Hid (offF (ps.drop k) addr size = r))
  case atStart => exact ⟨0, by omega, rfl, Below.refl _ _, HR⟩
  case round =>
    obtain ⟨k, hk, rfl, hbe, hrun⟩ := hrel
    have hbx := (hbe.cell (p := ⟨w.heap.size, 2, none⟩) HS.out).trans HX.out
    cases gk with
    | zero =>
      have hk' : k = ps.length := by omega
      have HE : Hid (r = (0, 4)) := Lib.hid (by rw [← hrun.out, List.drop_eq_nil_of_le (by omega)]; rfl)
      clear hk
      subst hk'
      go_wp2
      go_ret2
      rw [HE.out]
      exact ⟨rfl, bstep HB.out hbe⟩
    | succ g =>
      have hlt : k < ps.length := by omega
      obtain ⟨⟨f0, f1, f2, f3, f4, f5, f6⟩, b, o, rfl, hb, hc⟩ := (H.out.below HB.out).below hbe k hlt
      have c0 := hc 0 (by omega)
      have c1 := hc 1 (by omega)
      have c2 := hc 2 (by omega)
      have c3 := hc 3 (by omega)
      have c4 := hc 4 (by omega)
      have c5 := hc 5 (by omega)
      have c6 := hc 6 (by omega)
      simp only [PT.cells, List.getElem?_cons_zero, List.getElem?_cons_succ, Nat.add_zero] at c0 c1 c2 c3 c4 c5 c6
      clear hc
      by_cases h1 : ps[k].ty = 1
      · by_cases h2 : ps[k].vaddr ≤ addr
        · by_cases h3 : addr - ps[k].vaddr ≤ ps[k].filesz
          · by_cases h4 : size ≤ ps[k].filesz - (addr - ps[k].vaddr)
            · have HH := Lib.hid ((offF_hit hlt (addr := addr) (size := size) ⟨h1, h2, h3, h4⟩).symm.trans hrun.out)
              clear hrun
              generalize ps[k] = p at *
              by_cases h5 : p.off + (addr - p.vaddr) < 18446744073709551616
              · go_wp2
                go_ret2
                have hh := HH.out
                rw [if_pos h5] at hh
                rw [← hh]
                exact ⟨ret2 (vint (by simp only []; omega)) rfl, bstep HB.out (hbe.alloc hbe.size _)⟩
              · obtain ⟨z, hz, hz2⟩ : ∃ z : Int, IntKind.u64.wrap ((p.off : Int) + ((addr : Int) - (p.vaddr : Int))) = z ∧ z < (p.off : Int) := by
                  refine ⟨_, rfl, ?_⟩
                  rw [IntKind.wrap_u64]
                  omega
                have HH5 := Lib.hid h5
                clear h5
                go_wp2
                go_ret2
                have hh := HH.out
                rw [if_neg HH5.out] at hh
                rw [← hh]
                exact ⟨rfl, bstep HB.out (hbe.alloc hbe.size _)⟩
            · have HM := Lib.hid ((offF_miss hlt (addr := addr) (size := size) (fun h => h4 h.2.2.2)).symm.trans hrun.out)
              clear hrun
              generalize ps[k] = p at *
              go_wp2
              go_roundg g
              case measure => omega
              case rel => exact ⟨k + 1, by omega, by go_num, hbe.alloc hbe.size _, HM⟩
          · have HM := Lib.hid ((offF_miss hlt (addr := addr) (size := size) (fun h => h3 h.2.2.1)).symm.trans hrun.out)
            clear hrun
            generalize ps[k] = p at *
            go_wp2
            go_roundg g
            case measure => omega
            case rel => exact ⟨k + 1, by omega, by go_num, hbe.alloc hbe.size _, HM⟩
        · have HM := Lib.hid ((offF_miss hlt (addr := addr) (size := size) (fun h => h2 h.2.1)).symm.trans hrun.out)
          clear hrun
          generalize ps[k] = p at *
          go_wp2
          go_roundg g
          case measure => omega
          case rel => exact ⟨k + 1, by omega, by go_num, hbe.alloc hbe.size _, HM⟩
      · have HM := Lib.hid ((offF_miss hlt (addr := addr) (size := size) (fun h => h1 h.1)).symm.trans hrun.out)
        clear hrun
        generalize ps[k] = p at *
        go_wp2
        go_roundg g
        case measure => omega
        case rel => exact ⟨k + 1, by omega, by go_num, hbe.alloc hbe.size _, HM⟩
end Go.Proofs.Ytaedeaefoeeidaa
