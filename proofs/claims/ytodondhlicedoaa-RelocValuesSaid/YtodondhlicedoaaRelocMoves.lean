/- Layer 19, the statement's own walk: an object that is laid elsewhere. -/
import Derived.Test.YtodondhlicedoaaRelocUp
namespace Go.Proofs.Ytodondhlicedoaa
open Go.RowKit
set_option linter.unusedVariables false
set_option linter.unusedSimpArgs false

/-- the two structs that came in, where the statement keeps them -/
structure Boxes (i : Inp) (B : Nat) (w : World) : Prop where
  lt : B + 1 < w.heap.size
  r0 : w.cell? ⟨B, 0, none⟩ = some (.int .u64 i.off)
  r1 : w.cell? ⟨B, 1, none⟩ = some (.int .i64 i.ty)
  r2 : w.cell? ⟨B, 2, none⟩ = some (.int .i64 i.sym)
  r3 : w.cell? ⟨B, 3, none⟩ = some (.int .i64 i.add)
  b0 : w.cell? ⟨B + 1, 0, none⟩ = some (.int .u64 i.addr)
  b1 : w.cell? ⟨B + 1, 1, none⟩ = some (.int .u64 i.size)
  b2 : w.cell? ⟨B + 1, 2, none⟩ = some (.int .i64 i.module)
  b3 : w.cell? ⟨B + 1, 3, none⟩ = some (.int .u64 i.offset)
  b4 : w.cell? ⟨B + 1, 4, none⟩ = some (.bool i.static)
  b5 : w.cell? ⟨B + 1, 5, none⟩ = some (.int .u64 i.below)

theorem Boxes.below {i : Inp} {B : Nat} {w w' : World} (h : Boxes i B w) (hb : Below w.heap.size w w') : Boxes i B w' := by
  have e := h.lt
  have c0 : ∀ k, w'.cell? ⟨B, k, none⟩ = w.cell? ⟨B, k, none⟩ := fun k => hb.cell (p := ⟨B, k, none⟩) (by show B < _; omega)
  have c1 : ∀ k, w'.cell? ⟨B + 1, k, none⟩ = w.cell? ⟨B + 1, k, none⟩ := fun k => hb.cell (p := ⟨B + 1, k, none⟩) (by show B + 1 < _; omega)
  exact ⟨Nat.lt_of_lt_of_le e hb.size, by rw [c0]; exact h.r0, by rw [c0]; exact h.r1, by rw [c0]; exact h.r2, by rw [c0]; exact h.r3, by rw [c1]; exact h.b0, by rw [c1]; exact h.b1, by rw [c1]; exact h.b2, by rw [c1]; exact h.b3, by rw [c1]; exact h.b4, by rw [c1]; exact h.b5⟩

def Inp.boxed (i : Inp) (w : World) : World :=
  (w.alloc (.cells #[.int .u64 i.off, .int .i64 i.ty, .int .i64 i.sym, .int .i64 i.add] 24)).alloc
    (.cells #[.int .u64 i.addr, .int .u64 i.size, .int .i64 i.module, .int .u64 i.offset, .bool i.static, .int .u64 i.below] 26)
theorem boxed_is (i : Inp) (w : World) : Boxes i w.heap.size (i.boxed w) ∧ Below w.heap.size w (i.boxed w) := by
  have c0 : ∀ k, (i.boxed w).cell? ⟨w.heap.size, k, none⟩ = (#[.int .u64 i.off, .int .i64 i.ty, .int .i64 i.sym, .int .i64 i.add] : Array Value)[k]? := fun k => by
    unfold Inp.boxed
    rw [((Below.refl (w.heap.size + 1) _).alloc (by simp) _).cell (p := ⟨w.heap.size, k, none⟩) (by simp), World.cell?_alloc_new]
  have c1 : ∀ k, (i.boxed w).cell? ⟨w.heap.size + 1, k, none⟩ = (#[.int .u64 i.addr, .int .u64 i.size, .int .i64 i.module, .int .u64 i.offset, .bool i.static, .int .u64 i.below] : Array Value)[k]? := fun k => by
    unfold Inp.boxed
    have e : w.heap.size + 1 = (w.alloc (.cells #[.int .u64 i.off, .int .i64 i.ty, .int .i64 i.sym, .int .i64 i.add] 24)).heap.size := by simp
    rw [e, World.cell?_alloc_new]
  exact ⟨⟨by simp [Inp.boxed], c0 0, c0 1, c0 2, c0 3, c1 0, c1 1, c1 2, c1 3, c1 4, c1 5⟩, ((Below.refl _ _).alloc (Nat.le_refl _) _).alloc (by simp) _⟩

/-- laid as far away -/
def Inp.moved (i : Inp) (mv : Int) : Inp := { i with base := W64 (i.base + mv), addr := W64 (i.addr + mv) }

def cellsOf (i : Inp) : Array Value := #[.int .u64 i.addr, .int .u64 i.size, .int .i64 i.module, .int .u64 i.offset, .bool i.static, .int .u64 i.below]
theorem boxC (i : Inp) (w w' : World) (T : TypeId) (h : Below (w.heap.size + 1) (w.alloc (.cells (cellsOf i) T)) w') : ∀ k, w'.cell? ⟨w.heap.size, k, none⟩ = (cellsOf i)[k]? := fun k => by
  rw [h.cell (p := ⟨w.heap.size, k, none⟩) (by simp), World.cell?_alloc_new]

theorem sg_code (v : Int) : 0 ≤ (sg v).2.2 ∧ (sg v).2.2 ≤ 30 := by unfold sg; split <;> simp
theorem un_code (v : Int) : 0 ≤ (un v).2.2 ∧ (un v).2.2 ≤ 30 := by unfold un; split <;> simp
theorem val_code (i : Inp) : 0 ≤ i.val.2.2 ∧ i.val.2.2 ≤ 30 := by
  unfold Inp.val
  by_cases h0 : i.ty = 0
  · rw [if_pos h0]; simp
  rw [if_neg h0]
  by_cases h1 : i.ty = 1
  · rw [if_pos h1]; simp
  rw [if_neg h1]
  by_cases h2 : i.ty = 2
  · rw [if_pos h2]; exact sg_code _
  rw [if_neg h2]
  by_cases h3 : i.ty = 6 ∨ i.ty = 7
  · rw [if_pos h3]; simp
  rw [if_neg h3]
  by_cases h4 : i.ty = 8 ∨ i.ty = 37
  · rw [if_pos h4]; simp
  rw [if_neg h4]
  by_cases h5 : i.ty = 10
  · rw [if_pos h5]; exact un_code _
  rw [if_neg h5]
  by_cases h6 : i.ty = 11
  · rw [if_pos h6]; exact sg_code _
  rw [if_neg h6]
  by_cases h7 : i.ty = 16
  · rw [if_pos h7]; simp
  rw [if_neg h7]
  by_cases h8 : i.ty = 17
  · rw [if_pos h8]; simp
  rw [if_neg h8]
  by_cases h9 : i.ty = 18
  · rw [if_pos h9]; split <;> simp
  rw [if_neg h9]
  by_cases h10 : i.ty = 24
  · rw [if_pos h10]; simp
  rw [if_neg h10]
  by_cases h11 : i.ty = 32
  · rw [if_pos h11]; exact un_code _
  rw [if_neg h11]
  by_cases h12 : i.ty = 33
  · rw [if_pos h12]; simp
  rw [if_neg h12]
  simp

/-- a type of which nothing is said ('same': the values are alike; 'far': they are as far away) -/
def kindOf (t : Int) : Nat := if t = 2 ∨ t = 24 ∨ t = 16 ∨ t = 17 ∨ t = 18 ∨ t = 32 ∨ t = 33 ∨ t = 0 then 0 else if t = 1 ∨ t = 6 ∨ t = 7 ∨ t = 8 ∨ t = 37 then 1 else 2

theorem moved_same (i : Inp) (mv : Int) (h : kindOf i.ty = 0) : (i.moved mv).val = i.val := by
  have ht : i.ty = 2 ∨ i.ty = 24 ∨ i.ty = 16 ∨ i.ty = 17 ∨ i.ty = 18 ∨ i.ty = 32 ∨ i.ty = 33 ∨ i.ty = 0 := by
    unfold kindOf at h
    split at h
    · assumption
    · split at h <;> cases h
  have hd : W64 (W64 (W64 (i.addr + mv) + W64 i.add) - W64 (W64 (i.base + mv) + i.off)) = W64 (W64 (i.addr + W64 i.add) - W64 (i.base + i.off)) := by
    simp only [W64_eq]
    omega
  rcases ht with h | h | h | h | h | h | h | h
  all_goals
    unfold Inp.val
    simp only [Inp.moved, Inp.a, Inp.place, h, hd]
    simp
theorem moved_far (i : Inp) (mv : Int) (h : kindOf i.ty = 1) : ∃ v, i.val = (v, 8, 0) ∧ (i.moved mv).val = (W64 (v + mv), 8, 0) := by
  have ht : i.ty = 1 ∨ i.ty = 6 ∨ i.ty = 7 ∨ i.ty = 8 ∨ i.ty = 37 := by
    unfold kindOf at h
    split at h
    · cases h
    · split at h
      · assumption
      · cases h
  have h1 : W64 (W64 (i.addr + mv) + W64 i.add) = W64 (W64 (i.addr + W64 i.add) + mv) := by
    simp only [W64_eq]
    omega
  have h2 : W64 (W64 (i.base + mv) + W64 i.add) = W64 (W64 (i.base + W64 i.add) + mv) := by
    simp only [W64_eq]
    omega
  rcases ht with h | h | h | h | h
  · exact ⟨W64 (i.addr + W64 i.add), by simp [Inp.val, h, Inp.a], by simp [Inp.val, Inp.moved, h, Inp.a, h1]⟩
  · exact ⟨i.addr, by simp [Inp.val, h], by simp [Inp.val, Inp.moved, h]⟩
  · exact ⟨i.addr, by simp [Inp.val, h], by simp [Inp.val, Inp.moved, h]⟩
  · exact ⟨W64 (i.base + W64 i.add), by simp [Inp.val, h, Inp.a], by simp [Inp.val, Inp.moved, h, Inp.a, h2]⟩
  · exact ⟨W64 (i.base + W64 i.add), by simp [Inp.val, h, Inp.a], by simp [Inp.val, Inp.moved, h, Inp.a, h2]⟩
set_option maxRecDepth 100000 in
set_option maxHeartbeats 8000000 in
theorem moves_same (i : Inp) (mv v n c : Int) (w : World) (h1 : i.val = (v, n, c)) (h2 : (i.moved mv).val = (v, n, c)) (hk : kindOf i.ty = 0) (hc : 0 ≤ c ∧ c ≤ 30) :
    Calls Try.prog 4 #[i.relV, .int .u64 i.base, i.boundV, .int .u64 mv] w fun e w' => e = .returned (.bool true) ∧ Below w.heap.size w w' := by
  have hcode := Lib.hid (fun (w1 : World) => code_any c w1 hc.1 hc.2)
  have HT := Lib.hid hk
  clear hk hc
  obtain ⟨hx0, hb0⟩ := boxed_is i w
  have HX := Lib.hid hx0; have B0 := Lib.hid hb0
  clear hx0 hb0
  have hu := Lib.hid up_true
  have HV1 := Lib.hid h1; have HV2 := Lib.hid h2
  clear h1 h2
  have hbc := Lib.hid (boxC (i.moved mv))
  simp only [Inp.relV, Inp.boundV]
  go_enter Try.func4, Try.ntmps4
  go_wp2_with fail
  refine (show Calls _ _ _ (i.boxed w) _ from ?_)
  generalize i.boxed w = w1 at *
  refine (hu.out w1).mono ?_
  rintro e w2 ⟨rfl, hb2⟩
  have HX2 := Lib.hid (HX.out.below hb2)
  have B2 := Lib.hid (B0.out.trans (hb2.mono B0.out.size))
  clear hb2 HX B0
  obtain ⟨-, -, -, -, -, y0, y1, y2, y3, y4, y5⟩ := HX2.out
  have q := fun (o : Obj) => HX2.out.below ((Below.refl _ w2).alloc (Nat.le_refl _) o)
  have x0 := fun o => (q o).r0
  have x1 := fun o => (q o).r1
  have x2 := fun o => (q o).r2
  have x3 := fun o => (q o).r3
  have z0 := fun o => (q o).b0
  have z1 := fun o => (q o).b1
  have z2 := fun o => (q o).b2
  have z3 := fun o => (q o).b3
  have z4 := fun o => (q o).b4
  have z5 := fun o => (q o).b5
  clear q
  go_wp2_with fail
  clear x0 x1 x2 x3 y0 y1 y2 y3 y4 y5 z0 z1 z2 z3 z4 z5
  refine (show Calls _ _ #[i.relV, .int .u64 i.base, i.boundV] (w2.alloc (.cells (cellsOf (i.moved mv)) 26)) _ from ?_)
  refine (value_any i _).mono ?_
  rintro e w3 ⟨he, hb3⟩
  unfold answer at he
  rw [HV1.out] at he
  subst he
  have hc := hbc.out w2 w3 26 (hb3.mono (by simp))
  have c0 := hc 0
  have c1 := hc 1
  have c2 := hc 2
  have c3 := hc 3
  have c4 := hc 4
  have c5 := hc 5
  simp only [cellsOf, Inp.moved, W64] at c0 c1 c2 c3 c4 c5
  have c0' : w3.cell? ⟨w2.heap.size, 0, none⟩ = some (.int .u64 (IntKind.u64.wrap (i.addr + mv))) := c0
  have c1' : w3.cell? ⟨w2.heap.size, 1, none⟩ = some (.int .u64 i.size) := c1
  have c2' : w3.cell? ⟨w2.heap.size, 2, none⟩ = some (.int .i64 i.module) := c2
  have c3' : w3.cell? ⟨w2.heap.size, 3, none⟩ = some (.int .u64 i.offset) := c3
  have c4' : w3.cell? ⟨w2.heap.size, 4, none⟩ = some (.bool i.static) := c4
  have c5' : w3.cell? ⟨w2.heap.size, 5, none⟩ = some (.int .u64 i.below) := c5
  clear hc c0 c1 c2 c3 c4 c5 hbc
  have HX3 := Lib.hid ((HX2.out.below ((Below.refl _ w2).alloc (Nat.le_refl _) _)).below hb3)
  have B3 := Lib.hid (bstep' (show Below w.heap.size w (w2.alloc (.cells (cellsOf (i.moved mv)) 26)) from B2.out.alloc B2.out.size _) hb3)
  clear HX2 B2 hb3
  obtain ⟨-, x0, x1, x2, x3, -, -, -, -, -, -⟩ := HX3.out
  go_wp2_with fail
  clear x0 x1 x2 x3 c0' c1' c2' c3' c4' c5'
  refine (show Calls _ _ #[(i.moved mv).relV, .int .u64 (i.moved mv).base, (i.moved mv).boundV] w3 _ from ?_)
  refine (value_any (i.moved mv) _).mono ?_
  rintro e w4 ⟨he, hb4⟩
  unfold answer at he
  rw [HV2.out] at he
  subst he
  have x1 := (HX3.out.below hb4).r1
  have B4 := Lib.hid (bstep' B3.out hb4)
  clear HX3 B3 hb4
  have hb1 : (v == v) = true := by simp
  have hb2 : (n == n) = true := by simp
  have hb3 : (c == c) = true := by simp
  generalize i.ty = t at *
  have ht : t = 2 ∨ t = 24 ∨ t = 16 ∨ t = 17 ∨ t = 18 ∨ t = 32 ∨ t = 33 ∨ t = 0 := by
    have h := HT.out
    unfold kindOf at h
    split at h
    · assumption
    · split at h <;> cases h
  clear HT
  simp only [ ]
  generalize errV c = ev at *
  rcases ht with rfl | rfl | rfl | rfl | rfl | rfl | rfl | rfl
  all_goals
    go_wp2_with fail
    refine (hcode.out w4).mono ?_
    rintro e w5 ⟨rfl, rfl⟩
    go_wp2_with fail
    refine (hcode.out w4).mono ?_
    rintro e w5 ⟨rfl, rfl⟩
    go_wp2_with fail
    go_ret
    exact ⟨rfl, B4.out⟩
set_option maxRecDepth 100000 in
set_option maxHeartbeats 8000000 in
theorem moves_far (i : Inp) (mv v : Int) (w : World) (h1 : i.val = (v, 8, 0)) (h2 : (i.moved mv).val = (W64 (v + mv), 8, 0)) (hk : kindOf i.ty = 1) :
    Calls Try.prog 4 #[i.relV, .int .u64 i.base, i.boundV, .int .u64 mv] w fun e w' => e = .returned (.bool true) ∧ Below w.heap.size w w' := by
  have HT := Lib.hid hk
  clear hk
  obtain ⟨hx0, hb0⟩ := boxed_is i w
  have HX := Lib.hid hx0; have B0 := Lib.hid hb0
  clear hx0 hb0
  have hu := Lib.hid up_true
  have HV1 := Lib.hid h1; have HV2 := Lib.hid h2
  clear h1 h2
  have hbc := Lib.hid (boxC (i.moved mv))
  simp only [Inp.relV, Inp.boundV]
  go_enter Try.func4, Try.ntmps4
  go_wp2_with fail
  refine (show Calls _ _ _ (i.boxed w) _ from ?_)
  generalize i.boxed w = w1 at *
  refine (hu.out w1).mono ?_
  rintro e w2 ⟨rfl, hb2⟩
  have HX2 := Lib.hid (HX.out.below hb2)
  have B2 := Lib.hid (B0.out.trans (hb2.mono B0.out.size))
  clear hb2 HX B0
  obtain ⟨-, -, -, -, -, y0, y1, y2, y3, y4, y5⟩ := HX2.out
  have q := fun (o : Obj) => HX2.out.below ((Below.refl _ w2).alloc (Nat.le_refl _) o)
  have x0 := fun o => (q o).r0
  have x1 := fun o => (q o).r1
  have x2 := fun o => (q o).r2
  have x3 := fun o => (q o).r3
  have z0 := fun o => (q o).b0
  have z1 := fun o => (q o).b1
  have z2 := fun o => (q o).b2
  have z3 := fun o => (q o).b3
  have z4 := fun o => (q o).b4
  have z5 := fun o => (q o).b5
  clear q
  go_wp2_with fail
  clear x0 x1 x2 x3 y0 y1 y2 y3 y4 y5 z0 z1 z2 z3 z4 z5
  refine (show Calls _ _ #[i.relV, .int .u64 i.base, i.boundV] (w2.alloc (.cells (cellsOf (i.moved mv)) 26)) _ from ?_)
  refine (value_any i _).mono ?_
  rintro e w3 ⟨he, hb3⟩
  unfold answer at he
  rw [HV1.out] at he
  subst he
  have hc := hbc.out w2 w3 26 (hb3.mono (by simp))
  have c0 := hc 0
  have c1 := hc 1
  have c2 := hc 2
  have c3 := hc 3
  have c4 := hc 4
  have c5 := hc 5
  simp only [cellsOf, Inp.moved, W64] at c0 c1 c2 c3 c4 c5
  have c0' : w3.cell? ⟨w2.heap.size, 0, none⟩ = some (.int .u64 (IntKind.u64.wrap (i.addr + mv))) := c0
  have c1' : w3.cell? ⟨w2.heap.size, 1, none⟩ = some (.int .u64 i.size) := c1
  have c2' : w3.cell? ⟨w2.heap.size, 2, none⟩ = some (.int .i64 i.module) := c2
  have c3' : w3.cell? ⟨w2.heap.size, 3, none⟩ = some (.int .u64 i.offset) := c3
  have c4' : w3.cell? ⟨w2.heap.size, 4, none⟩ = some (.bool i.static) := c4
  have c5' : w3.cell? ⟨w2.heap.size, 5, none⟩ = some (.int .u64 i.below) := c5
  clear hc c0 c1 c2 c3 c4 c5 hbc
  have HX3 := Lib.hid ((HX2.out.below ((Below.refl _ w2).alloc (Nat.le_refl _) _)).below hb3)
  have B3 := Lib.hid (bstep' (show Below w.heap.size w (w2.alloc (.cells (cellsOf (i.moved mv)) 26)) from B2.out.alloc B2.out.size _) hb3)
  clear HX2 B2 hb3
  obtain ⟨-, x0, x1, x2, x3, -, -, -, -, -, -⟩ := HX3.out
  go_wp2_with fail
  clear x0 x1 x2 x3 c0' c1' c2' c3' c4' c5'
  refine (show Calls _ _ #[(i.moved mv).relV, .int .u64 (i.moved mv).base, (i.moved mv).boundV] w3 _ from ?_)
  refine (value_any (i.moved mv) _).mono ?_
  rintro e w4 ⟨he, hb4⟩
  unfold answer at he
  rw [HV2.out] at he
  subst he
  have x1 := (HX3.out.below hb4).r1
  have B4 := Lib.hid (bstep' B3.out hb4)
  clear HX3 B3 hb4
  have hb1 : (IntKind.u64.wrap (v + mv) == IntKind.u64.wrap (v + mv)) = true := by simp
  generalize i.ty = t at *
  have ht : t = 1 ∨ t = 6 ∨ t = 7 ∨ t = 8 ∨ t = 37 := by
    have h := HT.out
    unfold kindOf at h
    split at h
    · cases h
    · split at h
      · assumption
      · cases h
  clear HT
  simp only [errV, W64]
  rcases ht with rfl | rfl | rfl | rfl | rfl
  all_goals
    go_wp2
    go_ret
    exact ⟨rfl, B4.out⟩

set_option maxRecDepth 100000 in
set_option maxHeartbeats 8000000 in
theorem moves_else (i : Inp) (mv v n c v2 n2 c2 : Int) (w : World) (h1 : i.val = (v, n, c)) (h2 : (i.moved mv).val = (v2, n2, c2)) (hk : kindOf i.ty = 2) :
    Calls Try.prog 4 #[i.relV, .int .u64 i.base, i.boundV, .int .u64 mv] w fun e w' => e = .returned (.bool true) ∧ Below w.heap.size w w' := by
  have HT := Lib.hid hk
  clear hk
  obtain ⟨hx0, hb0⟩ := boxed_is i w
  have HX := Lib.hid hx0; have B0 := Lib.hid hb0
  clear hx0 hb0
  have hu := Lib.hid up_true
  have HV1 := Lib.hid h1; have HV2 := Lib.hid h2
  clear h1 h2
  have hbc := Lib.hid (boxC (i.moved mv))
  simp only [Inp.relV, Inp.boundV]
  go_enter Try.func4, Try.ntmps4
  go_wp2_with fail
  refine (show Calls _ _ _ (i.boxed w) _ from ?_)
  generalize i.boxed w = w1 at *
  refine (hu.out w1).mono ?_
  rintro e w2 ⟨rfl, hb2⟩
  have HX2 := Lib.hid (HX.out.below hb2)
  have B2 := Lib.hid (B0.out.trans (hb2.mono B0.out.size))
  clear hb2 HX B0
  obtain ⟨-, -, -, -, -, y0, y1, y2, y3, y4, y5⟩ := HX2.out
  have q := fun (o : Obj) => HX2.out.below ((Below.refl _ w2).alloc (Nat.le_refl _) o)
  have x0 := fun o => (q o).r0
  have x1 := fun o => (q o).r1
  have x2 := fun o => (q o).r2
  have x3 := fun o => (q o).r3
  have z0 := fun o => (q o).b0
  have z1 := fun o => (q o).b1
  have z2 := fun o => (q o).b2
  have z3 := fun o => (q o).b3
  have z4 := fun o => (q o).b4
  have z5 := fun o => (q o).b5
  clear q
  go_wp2_with fail
  clear x0 x1 x2 x3 y0 y1 y2 y3 y4 y5 z0 z1 z2 z3 z4 z5
  refine (show Calls _ _ #[i.relV, .int .u64 i.base, i.boundV] (w2.alloc (.cells (cellsOf (i.moved mv)) 26)) _ from ?_)
  refine (value_any i _).mono ?_
  rintro e w3 ⟨he, hb3⟩
  unfold answer at he
  rw [HV1.out] at he
  subst he
  have hc := hbc.out w2 w3 26 (hb3.mono (by simp))
  have c0 := hc 0
  have c1 := hc 1
  have c2 := hc 2
  have c3 := hc 3
  have c4 := hc 4
  have c5 := hc 5
  simp only [cellsOf, Inp.moved, W64] at c0 c1 c2 c3 c4 c5
  have c0' : w3.cell? ⟨w2.heap.size, 0, none⟩ = some (.int .u64 (IntKind.u64.wrap (i.addr + mv))) := c0
  have c1' : w3.cell? ⟨w2.heap.size, 1, none⟩ = some (.int .u64 i.size) := c1
  have c2' : w3.cell? ⟨w2.heap.size, 2, none⟩ = some (.int .i64 i.module) := c2
  have c3' : w3.cell? ⟨w2.heap.size, 3, none⟩ = some (.int .u64 i.offset) := c3
  have c4' : w3.cell? ⟨w2.heap.size, 4, none⟩ = some (.bool i.static) := c4
  have c5' : w3.cell? ⟨w2.heap.size, 5, none⟩ = some (.int .u64 i.below) := c5
  clear hc c0 c1 c2 c3 c4 c5 hbc
  have HX3 := Lib.hid ((HX2.out.below ((Below.refl _ w2).alloc (Nat.le_refl _) _)).below hb3)
  have B3 := Lib.hid (bstep' (show Below w.heap.size w (w2.alloc (.cells (cellsOf (i.moved mv)) 26)) from B2.out.alloc B2.out.size _) hb3)
  clear HX2 B2 hb3
  obtain ⟨-, x0, x1, x2, x3, -, -, -, -, -, -⟩ := HX3.out
  go_wp2_with fail
  clear x0 x1 x2 x3 c0' c1' c2' c3' c4' c5'
  refine (show Calls _ _ #[(i.moved mv).relV, .int .u64 (i.moved mv).base, (i.moved mv).boundV] w3 _ from ?_)
  refine (value_any (i.moved mv) _).mono ?_
  rintro e w4 ⟨he, hb4⟩
  unfold answer at he
  rw [HV2.out] at he
  subst he
  have x1 := (HX3.out.below hb4).r1
  have B4 := Lib.hid (bstep' B3.out hb4)
  clear HX3 B3 hb4
  generalize i.ty = t at *
  have ht : t ≠ 2 ∧ t ≠ 24 ∧ t ≠ 16 ∧ t ≠ 17 ∧ t ≠ 18 ∧ t ≠ 32 ∧ t ≠ 33 ∧ t ≠ 0 ∧ t ≠ 1 ∧ t ≠ 6 ∧ t ≠ 7 ∧ t ≠ 8 ∧ t ≠ 37 := by
    have h := HT.out
    unfold kindOf at h
    split at h
    · cases h
    · split at h
      · cases h
      · omega
  clear HT
  obtain ⟨t1, t2, t3, t4, t5, t6, t7, t8, t9, t10, t11, t12, t13⟩ := ht
  simp only [ ]
  generalize errV c = ev at *
  generalize errV c2 = ev2 at *
  go_wp2
  go_ret
  exact ⟨rfl, B4.out⟩

theorem moves_any (i : Inp) (mv : Int) (w : World) :
    Calls Try.prog 4 #[i.relV, .int .u64 i.base, i.boundV, .int .u64 mv] w fun e w' => e = .returned (.bool true) ∧ Below w.heap.size w w' := by
  have hk : kindOf i.ty = 0 ∨ kindOf i.ty = 1 ∨ kindOf i.ty = 2 := by
    unfold kindOf
    split
    · exact .inl rfl
    · split
      · exact .inr (.inl rfl)
      · exact .inr (.inr rfl)
  rcases hk with hk | hk | hk
  · exact moves_same i mv i.val.1 i.val.2.1 i.val.2.2 w rfl (moved_same i mv hk) hk (val_code i)
  · obtain ⟨v, h1, h2⟩ := moved_far i mv hk
    exact moves_far i mv v w h1 h2 hk
  · exact moves_else i mv _ _ _ _ _ _ w rfl rfl hk
theorem walk_RelocMoves (off ty sym add base addr size module offset : Int) (static : Bool) (below mv : Int) (w : World) (w0 : (Lit.int .u64 off).wf = true) (w1 : (Lit.int .i64 ty).wf = true) (w2 : (Lit.int .i64 sym).wf = true) (w3 : (Lit.int .i64 add).wf = true)
    (w4 : (Lit.int .u64 base).wf = true) (w5 : (Lit.int .u64 addr).wf = true) (w6 : (Lit.int .u64 size).wf = true) (w7 : (Lit.int .i64 module).wf = true) (w8 : (Lit.int .u64 offset).wf = true) (w9 : (Lit.int .u64 below).wf = true) (w10 : (Lit.int .u64 mv).wf = true) :
    Calls Try.prog 4 #[.agg #[.int .u64 off, .int .i64 ty, .int .i64 sym, .int .i64 add], .int .u64 base, .agg #[.int .u64 addr, .int .u64 size, .int .i64 module, .int .u64 offset, .bool static, .int .u64 below], .int .u64 mv] w fun e w' => e = .returned (.bool true) ∧ Below w.heap.size w w' :=
  moves_any ⟨off, ty, sym, add, base, addr, size, module, offset, static, below⟩ mv w
end Go.Proofs.Ytodondhlicedoaa
