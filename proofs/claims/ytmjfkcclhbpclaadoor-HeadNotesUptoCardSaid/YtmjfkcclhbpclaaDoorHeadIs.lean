/- Layer 4: has a program header one of some types? do bytes lie within the file? -/
import Derived.Test.YtmjfkcclhbpclaaDoorHeadTest
namespace Go.Proofs.YtmjfkcclhbpclaaDoor
open Go.RowKit
set_option linter.unusedVariables false
set_option linter.unusedSimpArgs false

def PT.hv (p : PT) : Value := .agg p.cells.toArray
/-- the reader in memory -/
structure HRd where
  rb : Nat
  kind : Int
  entry : Nat
  begin_ : Nat
  count : Nat
  a : Option Addr
  m : Nat
  cap : Nat
  pa : Option Addr
  pn : Nat
  pc : Nat
def HRd.cells (r : HRd) : Array Value := #[.int .i64 r.kind, .int .u64 (r.entry : Int), .int .u64 (r.begin_ : Int), .int .u64 (r.count : Int), .slice r.a r.m r.cap, .slice r.pa r.pn r.pc]
def HRd.at (r : HRd) (w : World) : Prop := w.heap[r.rb]? = some (.cells r.cells 70)
theorem HRd.at.below {r : HRd} {w w' : World} (h : r.at w) (hb : Below w.heap.size w w') : r.at w' := (hb.block _ (lt_of_block h)).trans h
theorem HRd.at.get {r : HRd} {w : World} (h : r.at w) (j : Nat) : w.cell? ⟨r.rb, j, none⟩ = r.cells[j]? := by rw [cell_of_row _ _ j _ _ _ h]

set_option maxRecDepth 100000 in
set_option maxHeartbeats 4000000 in
theorem within_any (r : HRd) (off n : Nat) (w : World) (h : r.at w) (hm : r.m < 9223372036854775808) (h1 : off < 18446744073709551616) (h2 : n < 18446744073709551616) :
    Calls Tryd.prog 46 #[.pointer (some ⟨r.rb, 0, none⟩), .int .u64 (off : Int), .int .u64 (n : Int)] w fun e w' => e = .returned (.bool (inB r.m off n)) ∧ w = w' := by
  have c4 : w.cell? ⟨r.rb, 4, none⟩ = some (.slice r.a r.m r.cap) := by rw [h.get]; rfl
  have HI := Lib.hid (in_any r.m off n w (by omega) h1 h2)
  have hw : IntKind.u64.wrap (r.m : Int) = (r.m : Int) := by simp [IntKind.wrap, IntKind.signed, IntKind.bits]; omega
  generalize inB r.m off n = R at *
  clear h h1 h2 hm
  obtain ⟨rb, k0, k1, k2, k3, a, m, cap, pa, pn, pc⟩ := r
  simp only [] at *
  go_enter Tryd.func46, Tryd.ntmps46
  go_wp2_with fail
  refine HI.out.mono ?_
  rintro e w' ⟨rfl, rfl⟩
  go_wp2_with fail
  go_ret
  exact ⟨rfl, rfl⟩

/-- numbers of 32 bits as they stand in memory -/
def URow (w : World) (sb : Nat) (l : List Nat) : Prop := sb < w.heap.size ∧ ∀ i, (h : i < l.length) → w.cell? ⟨sb, i, none⟩ = some (.int .u32 ((l[i] : Nat) : Int))
theorem URow.below {w w' : World} {sb : Nat} {l : List Nat} (h : URow w sb l) (hb : Below w.heap.size w w') : URow w' sb l := ⟨Nat.lt_of_lt_of_le h.1 hb.size, fun i hi => (hb.cell (p := ⟨sb, i, none⟩) h.1).trans (h.2 i hi)⟩
theorem URow.lit (w : World) (l : List Nat) (cs : Array Value) (hcs : cs.toList = l.map fun x => Value.int .u32 ((x : Nat) : Int)) (T : TypeId) : URow (w.alloc (.cells cs T)) w.heap.size l := by
  refine ⟨by simp, fun i hi => ?_⟩
  rw [World.cell?_alloc_new]
  have : cs[i]? = cs.toList[i]? := by simp
  rw [this, hcs, List.getElem?_map, List.getElem?_eq_getElem hi]
  rfl
theorem uidx_find {l : List Nat} {x k : Nat} (hj : ∀ j, (h : j < l.length) → j < k → l[j] ≠ x) (hk : ∀ h : k < l.length, l[k] = x) (hkl : k ≤ l.length) : (0 ≤ (if k < l.length then (k : Int) else -1)) ↔ l.contains x = true := by
  rw [List.contains_iff_mem]
  split
  · rename_i h
    constructor
    · intro _
      rw [← hk h]
      exact List.getElem_mem h
    · intro _
      omega
  · constructor
    · intro h
      omega
    · intro hm
      obtain ⟨i, hi, e⟩ := List.getElem_of_mem hm
      exact absurd e (hj i hi (by omega))
set_option maxRecDepth 100000 in
set_option maxHeartbeats 8000000 in
theorem uindex_any (sb n cap x : Nat) (l : List Nat) (w : World) (h : URow w sb l) (hn : l.length = n) (hnl : n ≤ 1048576) :
    Calls Tryd.prog 89 #[.slice (some ⟨sb, 0, none⟩) n cap, .int .u32 (x : Int)] w fun e w' => (∃ z : Int, e = .returned (.int .i64 z) ∧ (0 ≤ z ↔ l.contains x = true)) ∧ w = w' := by
  have HR := Lib.hid h.2
  have HN := Lib.hid hn
  have hnn : (n : Int) ≤ 1048576 := by omega
  clear h hn hnl
  go_enter Tryd.func89, Tryd.ntmps89
  go_wp2_with fail
  go_loopg [8] n (fun g iv wr => ∃ k : Nat, k + g = n ∧ iv = .int .i64 (k : Int) ∧ Hid (∀ j, (h : j < l.length) → j < k → l[j] ≠ x) ∧ w = wr)
  case atStart => exact ⟨0, by omega, rfl, Lib.hid (fun j _ h => by omega), rfl⟩
  case round =>
    obtain ⟨k, hk, rfl, HJ, rfl⟩ := hrel
    cases gk with
    | zero =>
      have hkn : k = n := by omega
      subst hkn
      clear hk
      go_wp2_with fail
      go_ret
      have := uidx_find (l := l) (x := x) (k := k) HJ.out (fun h => by have := HN.out; omega) (by have := HN.out; omega)
      rw [if_neg (by have := HN.out; omega)] at this
      exact ⟨⟨_, rfl, this⟩, rfl⟩
    | succ g =>
      have hkl : k < l.length := by have := HN.out; omega
      have c0 := HR.out k hkl
      obtain ⟨y, hy⟩ : ∃ y, (l[k]'hkl) = y := ⟨_, rfl⟩
      rw [hy] at c0
      have HY : Hid (∀ h : k < l.length, l[k] = y) := Lib.hid (fun _ => hy)
      have HK := Lib.hid (And.intro hk hkl)
      have i0 : (0 : Int) ≤ (k : Int) := by omega
      have i1 : (k : Int) < (n : Int) := by omega
      clear hk hy hkl
      by_cases hxy : y = x
      · subst hxy
        have te : ((y : Int) == (y : Int)) = true := by simp
        go_wp2_with fail
        go_ret
        have hkl := HK.out.2
        have := uidx_find (l := l) (x := y) (k := k) HJ.out HY.out (by omega)
        rw [if_pos hkl] at this
        exact ⟨⟨_, rfl, this⟩, rfl⟩
      · have te : ((x : Int) == (y : Int)) = false := by rw [beq_eq_false_iff_ne]; omega
        have HNX := Lib.hid hxy
        clear hxy
        go_wp2_with fail
        go_roundg g
        case measure => have := HK.out; omega
        case rel => exact ⟨k + 1, by have := HK.out; omega, by go_num, Lib.hid (fun j hj hjk => by
          by_cases h : j < k
          · exact HJ.out j hj h
          · obtain rfl : j = k := by omega
            rw [HY.out hj]
            exact HNX.out), rfl⟩
set_option maxRecDepth 100000 in
set_option maxHeartbeats 4000000 in
theorem ucontains_any (sb n cap x : Nat) (l : List Nat) (w : World) (h : URow w sb l) (hn : l.length = n) (hnl : n ≤ 1048576) :
    Calls Tryd.prog 85 #[.slice (some ⟨sb, 0, none⟩) n cap, .int .u32 (x : Int)] w fun e w' => e = .returned (.bool (l.contains x)) ∧ w = w' := by
  have HI := Lib.hid (uindex_any sb n cap x l w h hn hnl)
  obtain ⟨R, hR⟩ : ∃ R, l.contains x = R := ⟨_, rfl⟩
  rw [hR] at HI ⊢
  clear h hn hnl hR
  go_enter Tryd.func85, Tryd.ntmps85
  go_wp2_with fail
  refine HI.out.mono ?_
  rintro e w' ⟨⟨z, rfl, hz⟩, rfl⟩
  have t1 : decide ((0 : Int) ≤ z) = R := by
    cases R with
    | true => exact decide_eq_true (hz.2 rfl)
    | false => exact decide_eq_false (fun h => by have := hz.1 h; cases this)
  clear hz
  go_wp2_with fail
  go_ret
  exact ⟨by rw [← t1]; try rfl, rfl⟩
set_option maxRecDepth 100000 in
set_option maxHeartbeats 4000000 in
theorem is_any (p : PT) (sb n cap : Nat) (l : List Nat) (w : World) (h : URow w sb l) (hn : l.length = n) (hnl : n ≤ 1048576) :
    Calls Tryd.prog 71 #[p.hv, .slice (some ⟨sb, 0, none⟩) n cap] w fun e w' => e = .returned (.bool (isOf p l)) ∧ Below w.heap.size w w' := by
  have HC : Hid (∀ wx, Below w.heap.size w wx → Calls Tryd.prog 85 #[.slice (some ⟨sb, 0, none⟩) n cap, .int .u32 (p.ty : Int)] wx fun e w' => e = .returned (.bool (isOf p l)) ∧ wx = w') := Lib.hid (fun wx hb => ucontains_any sb n cap p.ty l wx (h.below hb) hn hnl)
  obtain ⟨R, hR⟩ : ∃ R, isOf p l = R := ⟨_, rfl⟩
  rw [hR] at HC ⊢
  have B1 : Hid (Below w.heap.size w (w.alloc (.cells p.cells.toArray 37))) := Lib.hid ((Below.refl _ _).alloc (Nat.le_refl _) _)
  clear hR h hn hnl
  obtain ⟨a0, a1, a2, a3, a4, a5, a6⟩ := p
  unfold PT.hv
  unfold PT.cells at *
  simp only [] at *
  go_enter Tryd.func71, Tryd.ntmps71
  go_wp2_with fail
  refine (HC.out _ B1.out).mono ?_
  rintro e w' ⟨rfl, rfl⟩
  go_wp2_with fail
  go_ret
  exact ⟨rfl, B1.out⟩
end Go.Proofs.YtmjfkcclhbpclaaDoor
