/- Layer 5: two sections that tell the same are the same (shackleref05.Same, of one value twice). -/
import Derived.Test.YtcjgljmeefbacaaDyn
import Derived.Test.YtcjgljmeefbacaaBase
import Derived.Deep.LoopGhost
import Derived.Deep.QuietTactic
import Derived.BigQuiet
import Derived.Deep.MidRow
import Derived.Carry
namespace Go.Proofs.Ytcjgljmeefbacaa
open Go.RowKit
set_option linter.unusedVariables false
set_option linter.unusedSimpArgs false

def fieldsC (d : DT) : List Int := [((d.pltrelsz : Nat) : Int), ((d.pltgot : Nat) : Int), ((d.hash : Nat) : Int), ((d.strtab : Nat) : Int), ((d.symtab : Nat) : Int), ((d.rela : Nat) : Int), ((d.relasz : Nat) : Int), ((d.strsz : Nat) : Int), ((d.init : Nat) : Int), ((d.fini : Nat) : Int), ((d.soname : Nat) : Int), ((d.rpath : Nat) : Int), ((d.runpath : Nat) : Int), ((d.jmprel : Nat) : Int), ((d.initArray : Nat) : Int), ((d.finiArray : Nat) : Int), ((d.initArraysz : Nat) : Int), ((d.finiArraysz : Nat) : Int), ((d.flags : Nat) : Int), ((d.relr : Nat) : Int), ((d.relrsz : Nat) : Int), ((d.gnuHash : Nat) : Int), ((d.versym : Nat) : Int), ((d.flags1 : Nat) : Int), ((d.verdef : Nat) : Int), ((d.verdefnum : Nat) : Int), ((d.verneed : Nat) : Int), ((d.verneednum : Nat) : Int)]
theorem fieldsC_len (d : DT) : (fieldsC d).length = 28 := rfl

set_option maxRecDepth 100000 in
set_option maxHeartbeats 4000000 in
theorem fields_any (d : DT) (w : World) : Calls Try.prog 17 #[d.v] w fun e w' => e = .returned (.slice (some ⟨w.heap.size + 1, 0, none⟩) 28 28) ∧ w'.heap[w.heap.size + 1]? = some (.cells ((fieldsC d).map (Value.int .u64)).toArray 26) ∧ Below w.heap.size w w' := by
  obtain ⟨D, hD⟩ : ∃ D, d.cells = D := ⟨_, rfl⟩
  unfold DT.v
  rw [hD]
  have hb : (w.alloc (.cells D 33)).heap[w.heap.size]? = some (.cells D 33) := heap_alloc_new _ _
  have c1 : (w.alloc (.cells D 33)).cell? ⟨w.heap.size, 1, none⟩ = some (.int .u64 ((d.pltrelsz : Nat) : Int)) := by rw [cell_of_row _ _ 1 _ _ _ hb, ← hD]; rfl
  have c2 : (w.alloc (.cells D 33)).cell? ⟨w.heap.size, 2, none⟩ = some (.int .u64 ((d.pltgot : Nat) : Int)) := by rw [cell_of_row _ _ 2 _ _ _ hb, ← hD]; rfl
  have c3 : (w.alloc (.cells D 33)).cell? ⟨w.heap.size, 3, none⟩ = some (.int .u64 ((d.hash : Nat) : Int)) := by rw [cell_of_row _ _ 3 _ _ _ hb, ← hD]; rfl
  have c4 : (w.alloc (.cells D 33)).cell? ⟨w.heap.size, 4, none⟩ = some (.int .u64 ((d.strtab : Nat) : Int)) := by rw [cell_of_row _ _ 4 _ _ _ hb, ← hD]; rfl
  have c5 : (w.alloc (.cells D 33)).cell? ⟨w.heap.size, 5, none⟩ = some (.int .u64 ((d.symtab : Nat) : Int)) := by rw [cell_of_row _ _ 5 _ _ _ hb, ← hD]; rfl
  have c6 : (w.alloc (.cells D 33)).cell? ⟨w.heap.size, 6, none⟩ = some (.int .u64 ((d.rela : Nat) : Int)) := by rw [cell_of_row _ _ 6 _ _ _ hb, ← hD]; rfl
  have c7 : (w.alloc (.cells D 33)).cell? ⟨w.heap.size, 7, none⟩ = some (.int .u64 ((d.relasz : Nat) : Int)) := by rw [cell_of_row _ _ 7 _ _ _ hb, ← hD]; rfl
  have c8 : (w.alloc (.cells D 33)).cell? ⟨w.heap.size, 8, none⟩ = some (.int .u64 ((d.strsz : Nat) : Int)) := by rw [cell_of_row _ _ 8 _ _ _ hb, ← hD]; rfl
  have c9 : (w.alloc (.cells D 33)).cell? ⟨w.heap.size, 9, none⟩ = some (.int .u64 ((d.init : Nat) : Int)) := by rw [cell_of_row _ _ 9 _ _ _ hb, ← hD]; rfl
  have c10 : (w.alloc (.cells D 33)).cell? ⟨w.heap.size, 10, none⟩ = some (.int .u64 ((d.fini : Nat) : Int)) := by rw [cell_of_row _ _ 10 _ _ _ hb, ← hD]; rfl
  have c11 : (w.alloc (.cells D 33)).cell? ⟨w.heap.size, 11, none⟩ = some (.int .u64 ((d.soname : Nat) : Int)) := by rw [cell_of_row _ _ 11 _ _ _ hb, ← hD]; rfl
  have c12 : (w.alloc (.cells D 33)).cell? ⟨w.heap.size, 12, none⟩ = some (.int .u64 ((d.rpath : Nat) : Int)) := by rw [cell_of_row _ _ 12 _ _ _ hb, ← hD]; rfl
  have c13 : (w.alloc (.cells D 33)).cell? ⟨w.heap.size, 13, none⟩ = some (.int .u64 ((d.runpath : Nat) : Int)) := by rw [cell_of_row _ _ 13 _ _ _ hb, ← hD]; rfl
  have c17 : (w.alloc (.cells D 33)).cell? ⟨w.heap.size, 17, none⟩ = some (.int .u64 ((d.jmprel : Nat) : Int)) := by rw [cell_of_row _ _ 17 _ _ _ hb, ← hD]; rfl
  have c18 : (w.alloc (.cells D 33)).cell? ⟨w.heap.size, 18, none⟩ = some (.int .u64 ((d.initArray : Nat) : Int)) := by rw [cell_of_row _ _ 18 _ _ _ hb, ← hD]; rfl
  have c19 : (w.alloc (.cells D 33)).cell? ⟨w.heap.size, 19, none⟩ = some (.int .u64 ((d.finiArray : Nat) : Int)) := by rw [cell_of_row _ _ 19 _ _ _ hb, ← hD]; rfl
  have c20 : (w.alloc (.cells D 33)).cell? ⟨w.heap.size, 20, none⟩ = some (.int .u64 ((d.initArraysz : Nat) : Int)) := by rw [cell_of_row _ _ 20 _ _ _ hb, ← hD]; rfl
  have c21 : (w.alloc (.cells D 33)).cell? ⟨w.heap.size, 21, none⟩ = some (.int .u64 ((d.finiArraysz : Nat) : Int)) := by rw [cell_of_row _ _ 21 _ _ _ hb, ← hD]; rfl
  have c22 : (w.alloc (.cells D 33)).cell? ⟨w.heap.size, 22, none⟩ = some (.int .u64 ((d.flags : Nat) : Int)) := by rw [cell_of_row _ _ 22 _ _ _ hb, ← hD]; rfl
  have c23 : (w.alloc (.cells D 33)).cell? ⟨w.heap.size, 23, none⟩ = some (.int .u64 ((d.relr : Nat) : Int)) := by rw [cell_of_row _ _ 23 _ _ _ hb, ← hD]; rfl
  have c24 : (w.alloc (.cells D 33)).cell? ⟨w.heap.size, 24, none⟩ = some (.int .u64 ((d.relrsz : Nat) : Int)) := by rw [cell_of_row _ _ 24 _ _ _ hb, ← hD]; rfl
  have c25 : (w.alloc (.cells D 33)).cell? ⟨w.heap.size, 25, none⟩ = some (.int .u64 ((d.gnuHash : Nat) : Int)) := by rw [cell_of_row _ _ 25 _ _ _ hb, ← hD]; rfl
  have c26 : (w.alloc (.cells D 33)).cell? ⟨w.heap.size, 26, none⟩ = some (.int .u64 ((d.versym : Nat) : Int)) := by rw [cell_of_row _ _ 26 _ _ _ hb, ← hD]; rfl
  have c27 : (w.alloc (.cells D 33)).cell? ⟨w.heap.size, 27, none⟩ = some (.int .u64 ((d.flags1 : Nat) : Int)) := by rw [cell_of_row _ _ 27 _ _ _ hb, ← hD]; rfl
  have c28 : (w.alloc (.cells D 33)).cell? ⟨w.heap.size, 28, none⟩ = some (.int .u64 ((d.verdef : Nat) : Int)) := by rw [cell_of_row _ _ 28 _ _ _ hb, ← hD]; rfl
  have c29 : (w.alloc (.cells D 33)).cell? ⟨w.heap.size, 29, none⟩ = some (.int .u64 ((d.verdefnum : Nat) : Int)) := by rw [cell_of_row _ _ 29 _ _ _ hb, ← hD]; rfl
  have c30 : (w.alloc (.cells D 33)).cell? ⟨w.heap.size, 30, none⟩ = some (.int .u64 ((d.verneed : Nat) : Int)) := by rw [cell_of_row _ _ 30 _ _ _ hb, ← hD]; rfl
  have c31 : (w.alloc (.cells D 33)).cell? ⟨w.heap.size, 31, none⟩ = some (.int .u64 ((d.verneednum : Nat) : Int)) := by rw [cell_of_row _ _ 31 _ _ _ hb, ← hD]; rfl
  have HB : Hid (Below w.heap.size w (w.alloc (.cells D 33))) := Lib.hid ((Below.refl _ _).alloc (Nat.le_refl _) _)
  have HS : Hid ((w.alloc (.cells D 33)).heap.size = w.heap.size + 1) := Lib.hid (by simp)
  clear hb hD
  go_enter Try.func17, Try.ntmps17
  go_wp2_with fail
  generalize (w.alloc (.cells D 33)) = w1 at *
  go_wp2_with fail
  go_ret
  refine ⟨rfl, ?_, bstep HB.out ((Below.refl _ _).alloc (Nat.le_refl _) _)⟩
  rw [← HS.out]
  exact heap_alloc_new _ _

set_option maxRecDepth 100000 in
set_option maxHeartbeats 8000000 in
theorem same_self (d : DT) (hn : d.na = none ∧ d.nl = 0) (w : World) : Calls Try.prog 8 #[d.v, d.v] w fun e w' => e = .returned (.bool true) ∧ Below w.heap.size w w' := by
  obtain ⟨D, hD⟩ : ∃ D, d.cells = D := ⟨_, rfl⟩
  have HF : Hid (∀ wx, Calls Try.prog 17 #[.agg D] wx fun e w' => e = .returned (.slice (some ⟨wx.heap.size + 1, 0, none⟩) 28 28) ∧ w'.heap[wx.heap.size + 1]? = some (.cells ((fieldsC d).map (Value.int .u64)).toArray 26) ∧ Below wx.heap.size wx w') := Lib.hid (fun wx => by
    have := fields_any d wx
    unfold DT.v at this
    rw [hD] at this
    exact this)
  have h37 : D.size = 37 := by rw [← hD]; rfl
  have HI : Hid ((Try.prog.info? 33).map (·.size) = some D.size) := Lib.hid (by rw [h37]; kernel_rfl)
  obtain ⟨cp, hd0⟩ : ∃ cp, D[0]? = some (.slice none 0 cp) := by
    refine ⟨d.nc, ?_⟩
    have : d.cells[0]? = some (.slice d.na d.nl d.nc) := rfl
    rw [hD, hn.1, hn.2] at this
    exact this
  have d14 : D[14]? = some (.bool d.hasSoname) := by rw [← hD]; rfl
  have d15 : D[15]? = some (.bool d.hasRpath) := by rw [← hD]; rfl
  have d16 : D[16]? = some (.bool d.hasRunpath) := by rw [← hD]; rfl
  have d32 : D[32]? = some (.bool d.symbolic) := by rw [← hD]; rfl
  have d33 : D[33]? = some (.bool d.bindNow) := by rw [← hD]; rfl
  have d34 : D[34]? = some (.bool d.textrel) := by rw [← hD]; rfl
  have d35 : D[35]? = some (.bool d.hasInit) := by rw [← hD]; rfl
  have d36 : D[36]? = some (.bool d.hasFini) := by rw [← hD]; rfl
  obtain ⟨L, hL⟩ : ∃ L, fieldsC d = L := ⟨_, rfl⟩
  have hLl : L.length = 28 := by rw [← hL]; rfl
  have HLL := Lib.hid hLl
  rw [hL] at HF
  unfold DT.v
  rw [hD]
  have key : ∀ wz, wz = (w.alloc (.cells D 33)).alloc (.cells D 33) → Below w.heap.size w wz ∧ wz.heap[w.heap.size]? = some (.cells D 33) ∧ wz.heap[w.heap.size + 1]? = some (.cells D 33) := by
    rintro wz rfl
    refine ⟨((Below.refl _ _).alloc (Nat.le_refl _) _).alloc (by simp) _, ?_, ?_⟩
    · rw [heap_alloc_old _ _ (by simp)]
      exact heap_alloc_new _ _
    · have := heap_alloc_new (w.alloc (.cells D 33)) (.cells D 33)
      simpa using this
  have KEY := Lib.hid (key _ rfl)
  clear key hD hL hLl h37
  have ca := (cell_of_row _ _ 0 _ _ _ KEY.out.2.1).trans hd0
  have cb := (cell_of_row _ _ 0 _ _ _ KEY.out.2.2).trans hd0
  go_enter Try.func8, Try.ntmps8
  go_wp2_with fail
  generalize (w.alloc (.cells D 33)).alloc (.cells D 33) = w1 at *
  go_loopg [5] 0 (fun g i wr => i = .int .i64 0 ∧ w1 = wr)
  case atStart => exact ⟨rfl, rfl⟩
  case round =>
    obtain ⟨rfl, rfl⟩ := hrel
    have HCA := Lib.hid ca; have HCB := Lib.hid cb
    go_wp2_with (refine wpList_load_row rfl 33 _ rfl w.heap.size rfl 33 D (0, 0) _ KEY.out.2.1 Try.underlying33 rfl HI.out ?_)
    refine (HF.out w1).mono ?_
    rintro e w2 ⟨rfl, hx, hb2⟩
    have K2 := Lib.hid ((hb2.block _ (lt_of_block KEY.out.2.2)).trans KEY.out.2.2)
    have K2a := Lib.hid ((hb2.block _ (lt_of_block KEY.out.2.1)).trans KEY.out.2.1)
    have HX := Lib.hid hx
    have HS2 : Hid (w1.heap.size + 1 < w2.heap.size) := Lib.hid (lt_of_block hx)
    have B2 := Lib.hid (bstep KEY.out.1 hb2)
    clear hx hb2 ca cb
    go_wp2_with (refine wpList_load_row rfl 33 _ rfl (w.heap.size + 1) rfl 33 D (0, 0) _ K2.out Try.underlying33 rfl HI.out ?_)
    refine (HF.out w2).mono ?_
    rintro e w3 ⟨rfl, hy, hb3⟩
    have HY := Lib.hid hy
    have HX3 := Lib.hid ((hb3.block _ (lt_of_block HX.out)).trans HX.out)
    have K3 := Lib.hid ((hb3.block _ (lt_of_block K2.out)).trans K2.out)
    have K3a := Lib.hid ((hb3.block _ (lt_of_block K2a.out)).trans K2a.out)
    have B3 := Lib.hid (bstep B2.out hb3)
    clear hy hb3
    generalize w2.heap.size + 1 = yb at *
    generalize w1.heap.size + 1 = xb at *
    go_wp2_with fail
    go_loopg [8] 28 (fun g i wr => ∃ k : Nat, k + g = 28 ∧ i = .int .i64 (k : Int) ∧ Hid (wr.heap = w3.heap) ∧ Hid (Below w.heap.size w wr))
    case atStart => exact ⟨0, by omega, rfl, Lib.hid rfl, B3⟩
    case round =>
      obtain ⟨k, hk, rfl, HW, HB⟩ := hrel
      cases gk with
      | zero =>
        have hke : k = 28 := by omega
        subst hke
        have e1 : wr.heap[w.heap.size]? = some (.cells D 33) := by rw [HW.out]; exact K3a.out
        have e2 : wr.heap[w.heap.size + 1]? = some (.cells D 33) := by rw [HW.out]; exact K3.out
        have p14 := (cell_of_row wr _ 14 _ _ _ e1).trans d14
        have q14 := (cell_of_row wr _ 14 _ _ _ e2).trans d14
        have p15 := (cell_of_row wr _ 15 _ _ _ e1).trans d15
        have q15 := (cell_of_row wr _ 15 _ _ _ e2).trans d15
        have p16 := (cell_of_row wr _ 16 _ _ _ e1).trans d16
        have q16 := (cell_of_row wr _ 16 _ _ _ e2).trans d16
        have p32 := (cell_of_row wr _ 32 _ _ _ e1).trans d32
        have q32 := (cell_of_row wr _ 32 _ _ _ e2).trans d32
        have p33 := (cell_of_row wr _ 33 _ _ _ e1).trans d33
        have q33 := (cell_of_row wr _ 33 _ _ _ e2).trans d33
        have p34 := (cell_of_row wr _ 34 _ _ _ e1).trans d34
        have q34 := (cell_of_row wr _ 34 _ _ _ e2).trans d34
        have p35 := (cell_of_row wr _ 35 _ _ _ e1).trans d35
        have q35 := (cell_of_row wr _ 35 _ _ _ e2).trans d35
        have p36 := (cell_of_row wr _ 36 _ _ _ e1).trans d36
        have q36 := (cell_of_row wr _ 36 _ _ _ e2).trans d36
        clear e1 e2 hk
        go_wp2_with fail
        go_ret
        exact ⟨by simp, HB.out⟩
      | succ g =>
        have hlt : k < 28 := by omega
        have hkl : k < L.length := by rw [HLL.out]; exact hlt
        have hx := cell_of_row wr _ k _ _ _ ((by rw [HW.out]; exact HX3.out) : wr.heap[xb]? = _)
        have hy := cell_of_row wr _ k _ _ _ ((by rw [HW.out]; exact HY.out) : wr.heap[yb]? = _)
        simp only [List.getElem?_toArray, List.getElem?_map, List.getElem?_eq_getElem hkl, Option.map_some] at hx hy
        generalize L[k] = z at *
        have k0 : (0 : Int) ≤ (k : Int) := by omega
        have k1 : (k : Int) < 28 := by omega
        clear hkl
        go_wp2_with fail
        go_quiet (fail)
        go_wp2_with fail
        go_roundg g
        case measure => omega
        case rel => exact ⟨k + 1, by omega, by go_num, Lib.hid HW.out, Lib.hid (below_drewN HB.out nq)⟩
end Go.Proofs.Ytcjgljmeefbacaa
