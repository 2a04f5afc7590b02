/- Layer 2: bytes into a page. -/
import Derived.Test.YtmnjkaimpejohaaGreatDoorVmBar
import Derived.Test.YtmnjkaimpejohaaGreatDoorLittle
import Derived.Deep.MidRow
namespace Go.Proofs.YtmnjkaimpejohaaGreatDoor
open Go.RowKit
set_option linter.unusedVariables false
set_option linter.unusedSimpArgs false

def putA : Array Value → Nat → List Value → Array Value
  | C, _, [] => C
  | C, o, v :: r => putA (C.setIfInBounds o v) (o + 1) r
theorem setCells_row {w : World} {b : Nat} {T : TypeId} : ∀ (vs : List Value) (o : Nat) (C : Array Value), w.heap[b]? = some (.cells C T) → w.setCells b o vs = w.setRow b (putA C o vs)
  | [], o, C, h => by
    show w = w.setRow b C
    exact (setRow_self w b C T (0, 0) h).symm
  | v :: r, o, C, h => by
    show (w.setCell ⟨b, o, none⟩ v).setCells b (o + 1) r = _
    rw [setCell_eq_setRow w b o _ _ _ _ h, setCells_row r (o + 1) (C.setIfInBounds o v) (setRow_heap w b _ _ T (0, 0) h), setRow_setRow]
    rfl
def putB : List Nat → Nat → List Nat → List Nat
  | l, _, [] => l
  | l, o, b :: r => putB (l.set o b) (o + 1) r
theorem putB_length : ∀ (r l : List Nat) (o : Nat), (putB l o r).length = l.length
  | [], l, o => rfl
  | b :: r, l, o => by rw [putB, putB_length r]; simp
theorem putB_get : ∀ (r l : List Nat) (o : Nat), o + r.length ≤ l.length → ∀ j, (putB l o r).getD j 0 = if o ≤ j ∧ j < o + r.length then r.getD (j - o) 0 else l.getD j 0
  | [], l, o, _, j => by
    rw [putB, if_neg (by simp only [List.length_nil]; omega)]
  | b :: r, l, o, h, j => by
    simp only [List.length_cons] at h
    rw [putB, putB_get r (l.set o b) (o + 1) (by simp; omega) j]
    by_cases h1 : o + 1 ≤ j ∧ j < o + 1 + r.length
    · rw [if_pos h1, if_pos (by simp; omega)]
      rw [show j - o = (j - (o + 1)) + 1 by omega]
      simp
    · rw [if_neg h1]
      by_cases h2 : j = o
      · subst h2
        rw [if_pos (by simp)]
        simp [List.getD, show j < l.length by omega]
      · rw [if_neg (by simp; omega)]
        simp [List.getD, List.getElem?_set_ne (fun e => h2 e.symm)]
theorem putB_byte : ∀ (r l : List Nat) (o : Nat), (∀ b ∈ r, b < 256) → (∀ b ∈ l, b < 256) → ∀ b ∈ putB l o r, b < 256
  | [], l, o, _, h => h
  | x :: r, l, o, h1, h2 => putB_byte r (l.set o x) (o + 1) (fun b hb => h1 b (by simp [hb])) (fun b hb => by
      rcases List.mem_or_eq_of_mem_set hb with h | rfl
      · exact h2 b h
      · exact h1 _ (by simp))
def bcells (bs : List Nat) : List Value := bs.map (fun b => Value.int .u8 ((b : Nat) : Int))
theorem put_cells : ∀ (r : List Nat) (p : Pg) (o : Nat), o + r.length ≤ p.bytes.length → putA p.cells.toArray o (bcells r) = (Pg.mk (putB p.bytes o r) p.perm).cells.toArray
  | [], p, o, _ => rfl
  | b :: r, p, o, h => by
    simp only [List.length_cons] at h
    have e : p.cells.toArray.setIfInBounds o (.int .u8 ((b : Nat) : Int)) = (Pg.mk (p.bytes.set o b) p.perm).cells.toArray := by
      unfold Pg.cells
      rw [List.setIfInBounds_toArray, List.set_append_left _ _ (by simp; omega), List.map_set]
    show putA (p.cells.toArray.setIfInBounds o (.int .u8 ((b : Nat) : Int))) (o + 1) (bcells r) = _
    rw [e, put_cells r (Pg.mk (p.bytes.set o b) p.perm) (o + 1) (by simp; omega)]
    rfl
theorem put_ok {p : Pg} (h : p.Ok) (o : Nat) {r : List Nat} (hr : ∀ b ∈ r, b < 256) : (Pg.mk (putB p.bytes o r) p.perm).Ok := ⟨by rw [putB_length]; exact h.len, putB_byte r p.bytes o hr h.byte, h.perm⟩
theorem bcells_one {bs : List Nat} : ∀ v ∈ bcells bs, v.oneCell' = true := by
  intro v hv
  obtain ⟨b, -, rfl⟩ := List.mem_map.1 hv
  rfl
theorem page_cell {w : World} {b : Nat} {p : Pg} (ho : p.Ok) (h : w.heap[b]? = some (.cells p.cells.toArray 76)) {j : Nat} (hj : j < 4096) : w.cell? ⟨b, j, none⟩ = some (.int .u8 ((p.bytes.getD j 0 : Nat) : Int)) := by
  rw [cell_of_row _ _ j _ _ _ h]
  unfold Pg.cells
  rw [List.getElem?_toArray, List.getElem?_append_left (by simp [ho.len]; omega)]
  simp [List.getD, ho.len, hj]


set_option maxRecDepth 100000 in
set_option maxHeartbeats 4000000 in
theorem put_any (pb off : Nat) (p : Pg) (fb fo fl fc : Nat) (bs : List Nat) (k : Nat) (w : World) (hp : w.heap[pb]? = some (.cells p.cells.toArray 76)) (hok : p.Ok) (hoff : off < 4096) (hb : BRow w (some ⟨fb, fo, none⟩) bs) (hl : bs.length = fl) (hk : k = min fl (4096 - off)) :
    Calls Tryz.prog 33 #[.pointer (some ⟨pb, 0, none⟩), .int .u64 (off : Int), .slice (some ⟨fb, fo, none⟩) fl fc] w fun e w' => e = .returned (.int .i64 (k : Int)) ∧ w' = w.setRow pb (Pg.mk (putB p.bytes off (bs.take k)) p.perm).cells.toArray := by
  have hlen : (bs.take k).length = k := by rw [List.length_take]; omega
  have hin : off + k ≤ 4096 := by omega
  have hcp : ∀ ty, (Builtin.copy_ #[39, 39] ty #[.slice (some ⟨pb, off, none⟩) (4096 - off) (4096 - off), .slice (some ⟨fb, fo, none⟩) fl fc]).run Tryz.prog w = .ok (.int .i64 (k : Int)) (w.setRow pb (Pg.mk (putB p.bytes off (bs.take k)) p.perm).cells.toArray) := by
    intro ty
    have := run_copy_cells (P := Tryz.prog) w 39 39 ty 5 pb off (4096 - off) (4096 - off) ⟨fb, fo, none⟩ fl fc (bcells (bs.take k)) Tryz.underlying39 (by kernel_rfl)
      (by simp only [bcells, List.length_map, hlen]; exact hk)
      (fun j v hj => by
        have hjl : j < k := by
          have := (List.getElem?_eq_some_iff.1 hj).1
          rw [bcells, List.length_map, hlen] at this
          exact this
        have hjb : j < bs.length := by omega
        obtain ⟨b, o, e, -, hc, -⟩ := hb.at hjb
        cases e
        rw [WideShapes.add_plain, hc]
        rw [← hj]
        simp [bcells, List.getElem?_take, hjl, List.getD, hjb])
      (fun j hj => by
        have hjl : j < k := by
          rw [bcells, List.length_map, hlen] at hj
          exact hj
        rw [page_cell hok hp (by omega)]; rfl)
      (fun j hj => frozen_of_row w pb _ _ _ hp) bcells_one
    rw [this, setCells_row _ off _ hp, put_cells _ p off (by rw [hlen, hok.len]; exact hin)]
    simp only [bcells, List.length_map, hlen]
    rfl
  have h1 : (off : Int) ≤ 4096 := by omega
  have h2 : ¬ 4096 = off := by omega
  have h3 : off ≤ 4096 := by omega
  generalize (Pg.mk (putB p.bytes off (bs.take k)) p.perm).cells.toArray = C2 at *
  generalize hD : 4096 - off = d at *
  clear hp hok hb hl hk hlen hin hoff
  go_enter Tryz.func33, Tryz.ntmps33
  go_wp2_with fail
  go_ret
  exact ⟨rfl, rfl⟩

end Go.Proofs.YtmnjkaimpejohaaGreatDoor
