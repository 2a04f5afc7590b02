/- Layer 5: where in the file an address lies, as lists; a header's program headers in memory. -/
import Derived.Test.YtmjfkcclhbpclaaDoorKit
import Derived.Test.YtmjfkcclhbpclaaDoorErrs
import Derived.Deep.LoopGhost
namespace Go.Proofs.YtmjfkcclhbpclaaDoor
open Go.RowKit
set_option linter.unusedVariables false
set_option linter.unusedSimpArgs false

/-- a program header -/
structure PT where
  ty : Nat
  flags : Nat
  off : Nat
  vaddr : Nat
  filesz : Nat
  memsz : Nat
  align : Nat

def PT.wf (p : PT) : Prop := p.ty < 4294967296 ∧ p.flags < 4294967296 ∧ p.off < 18446744073709551616 ∧ p.vaddr < 18446744073709551616 ∧ p.filesz < 18446744073709551616 ∧ p.memsz < 18446744073709551616 ∧ p.align < 18446744073709551616
def PT.cells (p : PT) : List Value := [.int .u32 p.ty, .int .u32 p.flags, .int .u64 p.off, .int .u64 p.vaddr, .int .u64 p.filesz, .int .u64 p.memsz, .int .u64 p.align]
def PT.zero : PT := ⟨0, 0, 0, 0, 0, 0, 0⟩

/-- is it the one in which so many bytes from an address on lie? -/
def PT.hit (p : PT) (addr size : Nat) : Prop := p.ty = 1 ∧ p.vaddr ≤ addr ∧ addr - p.vaddr ≤ p.filesz ∧ size ≤ p.filesz - (addr - p.vaddr)
instance (p : PT) (addr size : Nat) : Decidable (p.hit addr size) := by unfold PT.hit; infer_instance

/-- where it lies; an error's number behind -/
def offF : List PT → Nat → Nat → Nat × Nat
  | [], _, _ => (0, 4)
  | p :: ps, addr, size => if p.hit addr size then (if p.off + (addr - p.vaddr) < 18446744073709551616 then (p.off + (addr - p.vaddr), 0) else (0, 4)) else offF ps addr size
theorem offF_miss {ps : List PT} {k : Nat} {addr size : Nat} (hk : k < ps.length) (h : ¬ ps[k].hit addr size) : offF (ps.drop k) addr size = offF (ps.drop (k + 1)) addr size := by
  rw [List.drop_eq_getElem_cons hk, offF, if_neg h]
theorem offF_hit {ps : List PT} {k : Nat} {addr size : Nat} (hk : k < ps.length) (h : ps[k].hit addr size) : offF (ps.drop k) addr size = if ps[k].off + (addr - ps[k].vaddr) < 18446744073709551616 then (ps[k].off + (addr - ps[k].vaddr), 0) else (0, 4) := by
  rw [List.drop_eq_getElem_cons hk, offF, if_pos h]
theorem offF_code (ps : List PT) (addr size : Nat) : (offF ps addr size).2 = 0 ∨ (offF ps addr size = (0, 4)) := by
  induction ps with
  | nil => right; rfl
  | cons p ps ih =>
    unfold offF
    split
    · split
      · left; rfl
      · right; rfl
    · exact ih
theorem offF_lt (ps : List PT) (addr size : Nat) : (offF ps addr size).1 < 18446744073709551616 := by
  induction ps with
  | nil => exact (by decide : (0 : Nat) < 18446744073709551616)
  | cons p ps ih =>
    unfold offF
    split
    · split
      · assumption
      · decide
    · exact ih

/-- a slice of program headers that can be read -/
def PRow (w : World) (a : Option Addr) (ps : List PT) : Prop := ∀ i, (hi : i < ps.length) → ps[i].wf ∧ ∃ b o, a = some ⟨b, o, none⟩ ∧ b < w.heap.size ∧ ∀ j, j < 7 → w.cell? ⟨b, o + i * 7 + j, none⟩ = ps[i].cells[j]?
theorem PRow.below {w w' : World} {a : Option Addr} {ps : List PT} (h : PRow w a ps) (hb : Below w.heap.size w w') : PRow w' a ps := by
  intro i hi
  obtain ⟨hw, b, o, e, hlt, hc⟩ := h i hi
  exact ⟨hw, b, o, e, Nat.lt_of_lt_of_le hlt hb.size, fun j hj => by rw [hb.cell (p := ⟨b, o + i * 7 + j, none⟩) hlt]; exact hc j hj⟩

/-- a header as a value -/
def headV (ty en : Int) (a : Option Addr) (n cap : Nat) : Value := .agg #[.int .i64 ty, .int .u64 en, .slice a n cap]


































































































end Go.Proofs.YtmjfkcclhbpclaaDoor
