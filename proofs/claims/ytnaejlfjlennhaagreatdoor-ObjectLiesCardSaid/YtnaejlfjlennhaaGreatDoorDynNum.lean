/- Layer 5: where in the file an address lies, as lists; a header's program headers in memory. -/
import Derived.Test.YtnaejlfjlennhaaGreatDoorLittle
import Derived.Test.YtnaejlfjlennhaaGreatDoorErrs
import Derived.Deep.LoopGhost
namespace Go.Proofs.YtnaejlfjlennhaaGreatDoor
open Go.RowKit
set_option linter.unusedVariables false
set_option linter.unusedSimpArgs false

/-- a program header -/
structure PT where
  ty : Nat
  flags : Nat
  off : Nat
  vaddr : Nat
  filesz : Nat
  memsz : Nat
  align : Nat

def PT.wf (p : PT) : Prop := p.ty < 4294967296 ∧ p.flags < 4294967296 ∧ p.off < 18446744073709551616 ∧ p.vaddr < 18446744073709551616 ∧ p.filesz < 18446744073709551616 ∧ p.memsz < 18446744073709551616 ∧ p.align < 18446744073709551616
def PT.cells (p : PT) : List Value := [.int .u32 p.ty, .int .u32 p.flags, .int .u64 p.off, .int .u64 p.vaddr, .int .u64 p.filesz, .int .u64 p.memsz, .int .u64 p.align]
def PT.zero : PT := ⟨0, 0, 0, 0, 0, 0, 0⟩

/-- is it the one in which so many bytes from an address on lie? -/
def PT.hit (p : PT) (addr size : Nat) : Prop := p.ty = 1 ∧ p.vaddr ≤ addr ∧ addr - p.vaddr ≤ p.filesz ∧ size ≤ p.filesz - (addr - p.vaddr)
instance (p : PT) (addr size : Nat) : Decidable (p.hit addr size) := by unfold PT.hit; infer_instance

/-- where it lies; an error's number behind -/
def offF : List PT → Nat → Nat → Nat × Nat
  | [], _, _ => (0, 4)
  | p :: ps, addr, size => if p.hit addr size then (if p.off + (addr - p.vaddr) < 18446744073709551616 then (p.off + (addr - p.vaddr), 0) else (0, 4)) else offF ps addr size
theorem offF_miss {ps : List PT} {k : Nat} {addr size : Nat} (hk : k < ps.length) (h : ¬ ps[k].hit addr size) : offF (ps.drop k) addr size = offF (ps.drop (k + 1)) addr size := by
  rw [List.drop_eq_getElem_cons hk, offF, if_neg h]
theorem offF_hit {ps : List PT} {k : Nat} {addr size : Nat} (hk : k < ps.length) (h : ps[k].hit addr size) : offF (ps.drop k) addr size = if ps[k].off + (addr - ps[k].vaddr) < 18446744073709551616 then (ps[k].off + (addr - ps[k].vaddr), 0) else (0, 4) := by
  rw [List.drop_eq_getElem_cons hk, offF, if_pos h]
theorem offF_code (ps : List PT) (addr size : Nat) : (offF ps addr size).2 = 0 ∨ (offF ps addr size = (0, 4)) := by
  induction ps with
  | nil => right; rfl
  | cons p ps ih =>
    unfold offF
    split
    · split
      · left; rfl
      · right; rfl
    · exact ih
theorem offF_lt (ps : List PT) (addr size : Nat) : (offF ps addr size).1 < 18446744073709551616 := by
  induction ps with
  | nil => exact (by decide : (0 : Nat) < 18446744073709551616)
  | cons p ps ih =>
    unfold offF
    split
    · split
      · assumption
      · decide
    · exact ih

/-- a slice of program headers that can be read -/
def PRow (w : World) (a : Option Addr) (ps : List PT) : Prop := ∀ i, (hi : i < ps.length) → ps[i].wf ∧ ∃ b o, a = some ⟨b, o, none⟩ ∧ b < w.heap.size ∧ ∀ j, j < 7 → w.cell? ⟨b, o + i * 7 + j, none⟩ = ps[i].cells[j]?
theorem PRow.below {w w' : World} {a : Option Addr} {ps : List PT} (h : PRow w a ps) (hb : Below w.heap.size w w') : PRow w' a ps := by
  intro i hi
  obtain ⟨hw, b, o, e, hlt, hc⟩ := h i hi
  exact ⟨hw, b, o, e, Nat.lt_of_lt_of_le hlt hb.size, fun j hj => by rw [hb.cell (p := ⟨b, o + i * 7 + j, none⟩) hlt]; exact hc j hj⟩

/-- a header as a value -/
def headV (ty en : Int) (a : Option Addr) (n cap : Nat) : Value := .agg #[.int .i64 ty, .int .u64 en, .slice a n cap]


set_option maxRecDepth 100000 in
set_option maxHeartbeats 4000000 in
theorem offset_any (ty en : Int) (a : Option Addr) (cap : Nat) (ps : List PT) (addr size : Nat) (w : World) (h : PRow w a ps) (hl : ps.length ≤ 140737488351232) (ha : addr < 18446744073709551616) (hs : size < 18446744073709551616) :
    Calls Tryz.prog 88 #[headV ty en a ps.length cap, .int .u64 addr, .int .u64 size] w fun e w' => e = .returned (.tuple #[.int .u64 ((offF ps addr size).1 : Int), errV ((offF ps addr size).2 : Int)]) ∧ Below w.heap.size w w' := by
  have H := Lib.hid h
  clear h
  obtain ⟨r, hr⟩ : ∃ r, offF ps addr size = r := ⟨_, rfl⟩
  rw [hr]
  have HR := Lib.hid hr
  clear hr
  unfold headV
  go_enter Tryz.func88, Tryz.ntmps88
  go_wp2
  have HB : Hid (Below w.heap.size w (w.alloc (.cells #[.int .i64 ty, .int .u64 en, .slice a ps.length cap] 27))) := Lib.hid ((Below.refl _ _).alloc (Nat.le_refl _) _)
  generalize w.alloc (.cells #[.int .i64 ty, .int .u64 en, .slice a ps.length cap] 27) = w1 at *
  go_loopg [15] ps.length (fun g i wr => ∃ k : Nat, k + g = ps.length ∧ i = .int .i64 k ∧ Below w1.heap.size w1 wr ∧ Hid (offF (ps.drop k) addr size = r))
  case atStart => exact ⟨0, by omega, rfl, Below.refl _ _, HR⟩
  case round =>
    obtain ⟨k, hk, rfl, hbe, hrun⟩ := hrel
    cases gk with
    | zero =>
      have hk' : k = ps.length := by omega
      have HE : Hid (r = (0, 4)) := Lib.hid (by rw [← hrun.out, List.drop_eq_nil_of_le (by omega)]; rfl)
      clear hk
      subst hk'
      go_wp2
      go_ret2
      rw [HE.out]
      exact ⟨rfl, bstep HB.out hbe⟩
    | succ g =>
      have hlt : k < ps.length := by omega
      obtain ⟨⟨f0, f1, f2, f3, f4, f5, f6⟩, b, o, rfl, hb, hc⟩ := (H.out.below HB.out).below hbe k hlt
      have c0 := hc 0 (by omega)
      have c1 := hc 1 (by omega)
      have c2 := hc 2 (by omega)
      have c3 := hc 3 (by omega)
      have c4 := hc 4 (by omega)
      have c5 := hc 5 (by omega)
      have c6 := hc 6 (by omega)
      simp only [PT.cells, List.getElem?_cons_zero, List.getElem?_cons_succ, Nat.add_zero] at c0 c1 c2 c3 c4 c5 c6
      clear hc
      by_cases h1 : ps[k].ty = 1
      · by_cases h2 : ps[k].vaddr ≤ addr
        · by_cases h3 : addr - ps[k].vaddr ≤ ps[k].filesz
          · by_cases h4 : size ≤ ps[k].filesz - (addr - ps[k].vaddr)
            · have HH := Lib.hid ((offF_hit hlt (addr := addr) (size := size) ⟨h1, h2, h3, h4⟩).symm.trans hrun.out)
              clear hrun
              generalize ps[k] = p at *
              by_cases h5 : p.off + (addr - p.vaddr) < 18446744073709551616
              · go_wp2
                go_ret2
                have hh := HH.out
                rw [if_pos h5] at hh
                rw [← hh]
                exact ⟨ret2 (vint (by simp only []; omega)) rfl, bstep HB.out (hbe.alloc hbe.size _)⟩
              · obtain ⟨z, hz, hz2⟩ : ∃ z : Int, IntKind.u64.wrap ((p.off : Int) + ((addr : Int) - (p.vaddr : Int))) = z ∧ z < (addr : Int) - (p.vaddr : Int) := by
                  refine ⟨_, rfl, ?_⟩
                  rw [IntKind.wrap_u64]
                  omega
                have HH5 := Lib.hid h5
                clear h5
                go_wp2
                go_ret2
                have hh := HH.out
                rw [if_neg HH5.out] at hh
                rw [← hh]
                exact ⟨rfl, bstep HB.out (hbe.alloc hbe.size _)⟩
            · have HM := Lib.hid ((offF_miss hlt (addr := addr) (size := size) (fun h => h4 h.2.2.2)).symm.trans hrun.out)
              clear hrun
              generalize ps[k] = p at *
              go_wp2
              go_roundg g
              case measure => omega
              case rel => exact ⟨k + 1, by omega, by go_num, hbe.alloc hbe.size _, HM⟩
          · have HM := Lib.hid ((offF_miss hlt (addr := addr) (size := size) (fun h => h3 h.2.2.1)).symm.trans hrun.out)
            clear hrun
            generalize ps[k] = p at *
            go_wp2
            go_roundg g
            case measure => omega
            case rel => exact ⟨k + 1, by omega, by go_num, hbe.alloc hbe.size _, HM⟩
        · have HM := Lib.hid ((offF_miss hlt (addr := addr) (size := size) (fun h => h2 h.2.1)).symm.trans hrun.out)
          clear hrun
          generalize ps[k] = p at *
          go_wp2
          go_roundg g
          case measure => omega
          case rel => exact ⟨k + 1, by omega, by go_num, hbe.alloc hbe.size _, HM⟩
      · have HM := Lib.hid ((offF_miss hlt (addr := addr) (size := size) (fun h => h1 h.1)).symm.trans hrun.out)
        clear hrun
        generalize ps[k] = p at *
        go_wp2
        go_roundg g
        case measure => omega
        case rel => exact ⟨k + 1, by omega, by go_num, hbe.alloc hbe.size _, HM⟩

end Go.Proofs.YtnaejlfjlennhaaGreatDoor
