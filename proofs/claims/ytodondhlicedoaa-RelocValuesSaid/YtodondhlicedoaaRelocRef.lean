/- Layer 19: what a relocation writes, the document's own answer. -/
import Derived.Test.YtodondhlicedoaaReloc
import Derived.Deep.LoopGhost
namespace Go.Proofs.Ytodondhlicedoaa
open Go.RowKit
set_option linter.unusedVariables false
set_option linter.unusedSimpArgs false

def tyL : List Int := [0, 1, 2, 6, 7, 8, 10, 11, 16, 17, 18, 24, 32, 33, 37]
def szL : List Int := [0, 8, 4, 8, 8, 8, 4, 4, 8, 8, 8, 8, 4, 8, 8]
def Inp.vals (i : Inp) : List Int := [0, W64 (i.addr + i.a), W64 (W64 (i.addr + i.a) - i.place), i.addr, i.addr, W64 (i.base + i.a), W64 (i.addr + i.a), W64 (i.addr + i.a), W64 i.module, W64 (i.offset + i.a), W64 (W64 (i.offset + i.a) - i.below), W64 (W64 (i.addr + i.a) - i.place), W64 (i.size + i.a), W64 (i.size + i.a), W64 (i.base + i.a)]

/-- the blocks that the document's answer lays -/
structure Laid (i : Inp) (B : Nat) (w : World) : Prop where
  size : w.heap.size = B + 5
  tys : ∀ j, j < 15 → w.cell? ⟨B + 2, j, none⟩ = some (.int .i64 (tyL.getD j 0))
  szs : ∀ j, j < 15 → w.cell? ⟨B + 3, j, none⟩ = some (.int .i64 (szL.getD j 0))
  vals : ∀ j, j < 15 → w.cell? ⟨B + 4, j, none⟩ = some (.int .u64 (i.vals.getD j 0))
  ty : w.cell? ⟨B, 1, none⟩ = some (.int .i64 i.ty)
  module : w.cell? ⟨B + 1, 2, none⟩ = some (.int .i64 i.module)
  static : w.cell? ⟨B + 1, 4, none⟩ = some (.bool i.static)

theorem Laid.below {i : Inp} {B : Nat} {w w' : World} (h : Laid i B w) (hb : Below w.heap.size w w') (hs : w'.heap.size = w.heap.size) : Laid i B w' := by
  have e := h.size
  refine ⟨by rw [hs, e], fun j hj => ?_, fun j hj => ?_, fun j hj => ?_, ?_, ?_, ?_⟩
  · rw [hb.cell (p := ⟨B + 2, j, none⟩) (by rw [e]; simp)]; exact h.tys j hj
  · rw [hb.cell (p := ⟨B + 3, j, none⟩) (by rw [e]; simp)]; exact h.szs j hj
  · rw [hb.cell (p := ⟨B + 4, j, none⟩) (by rw [e]; simp)]; exact h.vals j hj
  · rw [hb.cell (p := ⟨B, 1, none⟩) (by rw [e]; simp)]; exact h.ty
  · rw [hb.cell (p := ⟨B + 1, 2, none⟩) (by rw [e]; simp)]; exact h.module
  · rw [hb.cell (p := ⟨B + 1, 4, none⟩) (by rw [e]; simp)]; exact h.static

def Inp.laid (i : Inp) (w : World) : World :=
  ((((w.alloc (.cells #[.int .u64 i.off, .int .i64 i.ty, .int .i64 i.sym, .int .i64 i.add] 24)).alloc
    (.cells #[.int .u64 i.addr, .int .u64 i.size, .int .i64 i.module, .int .u64 i.offset, .bool i.static, .int .u64 i.below] 26)).alloc
    (.cells (tyL.map (Value.int .i64)).toArray 3)).alloc (.cells (szL.map (Value.int .i64)).toArray 3)).alloc (.cells (i.vals.map (Value.int .u64)).toArray 22)

theorem cell_old (w : World) (o : Obj) (b k : Nat) (h : b < w.heap.size) : (w.alloc o).cell? ⟨b, k, none⟩ = w.cell? ⟨b, k, none⟩ :=
  ((Below.refl w.heap.size w).alloc (Nat.le_refl _) o).cell (p := ⟨b, k, none⟩) h
theorem cell_new (w : World) (o : Array Value) (T : TypeId) (b k : Nat) (h : b = w.heap.size) : (w.alloc (.cells o T)).cell? ⟨b, k, none⟩ = o[k]? := by
  subst h
  rw [World.cell?_alloc_new]

theorem laid_is (i : Inp) (w : World) : Laid i w.heap.size (i.laid w) ∧ Below w.heap.size w (i.laid w) := by
  have b0 := Below.refl w.heap.size w
  refine ⟨⟨by simp [Inp.laid], fun j hj => ?_, fun j hj => ?_, fun j hj => ?_, ?_, ?_, ?_⟩, ?_⟩
  · unfold Inp.laid
    rw [cell_old _ _ _ _ (by simp <;> omega), cell_old _ _ _ _ (by simp <;> omega), cell_new _ _ _ _ _ (by simp <;> omega)]
    simp [List.getD, show j < tyL.length from hj]
  · unfold Inp.laid
    rw [cell_old _ _ _ _ (by simp <;> omega), cell_new _ _ _ _ _ (by simp <;> omega)]
    simp [List.getD, show j < szL.length from hj]
  · unfold Inp.laid
    rw [cell_new _ _ _ _ _ (by simp <;> omega)]
    simp [List.getD, show j < i.vals.length from hj]
  · unfold Inp.laid
    rw [cell_old _ _ _ _ (by simp <;> omega), cell_old _ _ _ _ (by simp <;> omega), cell_old _ _ _ _ (by simp <;> omega), cell_old _ _ _ _ (by simp <;> omega), cell_new _ _ _ _ _ rfl]
    rfl
  · unfold Inp.laid
    rw [cell_old _ _ _ _ (by simp <;> omega), cell_old _ _ _ _ (by simp <;> omega), cell_old _ _ _ _ (by simp <;> omega), cell_new _ _ _ _ _ (by simp <;> omega)]
    rfl
  · unfold Inp.laid
    rw [cell_old _ _ _ _ (by simp <;> omega), cell_old _ _ _ _ (by simp <;> omega), cell_old _ _ _ _ (by simp <;> omega), cell_new _ _ _ _ _ (by simp <;> omega)]
    rfl
  · exact ((((b0.alloc (Nat.le_refl _) _).alloc (by simp <;> omega) _).alloc (by simp <;> omega) _).alloc (by simp <;> omega) _).alloc (by simp <;> omega) _

def pick (t sz v m : Int) (st : Bool) : Int × Int × Int :=
  if t = 18 ∧ m ≠ 0 ∧ st = false then (0, 0, 21)
  else if (t = 2 ∨ t = 11) ∧ ¬ (v < 2147483648 ∨ 18446744071562067968 ≤ v) then (0, 0, 20)
  else if (t = 10 ∨ t = 32) ∧ 4294967296 ≤ v then (0, 0, 20)
  else if sz = 4 then (v % 4294967296, sz, 0) else (v, sz, 0)
theorem pick_18 {sz v m : Int} (h : ¬ m = 0) : pick 18 sz v m false = (0, 0, 21) := by unfold pick; rw [if_pos ⟨rfl, h, rfl⟩]

theorem un_eq (x : Int) : un (W64 x) = if 4294967296 ≤ W64 x then (0, 0, 20) else (W64 x % 4294967296, 4, 0) := by
  have := W64_bounds x
  unfold un
  by_cases h : W64 x < 4294967296
  · rw [if_pos h, if_neg (by omega), show W64 x % 4294967296 = W64 x from by omega]
  · rw [if_neg h, if_pos (by omega)]
theorem sg_eq (x : Int) : sg (W64 x) = if ¬ (W64 x < 2147483648 ∨ 18446744071562067968 ≤ W64 x) then (0, 0, 20) else (W64 x % 4294967296, 4, 0) := by
  unfold sg
  by_cases h : W64 x < 2147483648 ∨ 18446744071562067968 ≤ W64 x
  · rw [if_pos h, if_neg (by omega)]
  · rw [if_neg h, if_pos h]

theorem val_hit (i : Inp) (j : Nat) (hj : j < 15) (h : tyL.getD j 0 = i.ty) : i.val = pick i.ty (szL.getD j 0) (i.vals.getD j 0) i.module i.static := by
  have wb := fun x => W64_bounds x
  match j, hj with
  | 0, _ | 1, _ | 2, _ | 3, _ | 4, _ | 5, _ | 6, _ | 7, _ | 8, _ | 9, _ | 10, _ | 11, _ | 12, _ | 13, _ | 14, _ =>
    simp only [tyL, List.getD_cons_succ, List.getD_cons_zero] at h
    simp only [szL, Inp.vals, List.getD_cons_succ, List.getD_cons_zero]
    unfold Inp.val pick
    simp only [un_eq, sg_eq]
    rw [← h]
    simp

theorem sz_four (j : Nat) (hj : j < 15) : (szL.getD j 0 = 4 ∧ (tyL.getD j 0 = 2 ∨ tyL.getD j 0 = 11 ∨ tyL.getD j 0 = 10 ∨ tyL.getD j 0 = 32)) ∨ (szL.getD j 0 ≠ 4 ∧ (tyL.getD j 0 = 18 ∨ (tyL.getD j 0 ≠ 18 ∧ tyL.getD j 0 ≠ 2 ∧ tyL.getD j 0 ≠ 11 ∧ tyL.getD j 0 ≠ 10 ∧ tyL.getD j 0 ≠ 32))) := by
  match j, hj with
  | 0, _ | 1, _ | 2, _ | 3, _ | 4, _ | 5, _ | 6, _ | 7, _ | 8, _ | 9, _ | 10, _ | 11, _ | 12, _ | 13, _ | 14, _ => decide
theorem val_four (i : Inp) (j : Nat) (hj : j < 15) (h : szL.getD j 0 = 4) : 0 ≤ i.vals.getD j 0 := by
  match j, hj with
  | 0, _ | 1, _ | 3, _ | 4, _ | 5, _ | 8, _ | 9, _ | 10, _ | 11, _ | 13, _ | 14, _ => exact absurd h (by decide)
  | 2, _ | 6, _ | 7, _ | 12, _ => exact (W64_bounds _).1
theorem v_parts (v : Int) : (decide (v < 2147483648) = true ∧ v < 2147483648) ∨ ((decide (v < 2147483648) = false ∧ decide (18446744071562067968 ≤ v) = false) ∧ ¬ v < 2147483648 ∧ v < 4294967296) ∨
    ((decide (v < 2147483648) = false ∧ decide (18446744071562067968 ≤ v) = false) ∧ 4294967296 ≤ v ∧ v < 18446744071562067968) ∨ ((decide (v < 2147483648) = false ∧ decide (18446744071562067968 ≤ v) = true) ∧ 4294967296 ≤ v ∧ 18446744071562067968 ≤ v) := by
  simp only [decide_eq_true_eq, decide_eq_false_iff_not]
  omega

theorem val_miss (i : Inp) (h : ∀ m, m < 15 → tyL.getD m 0 ≠ i.ty) : i.val = (0, 0, 20) := by
  have h0 := h 0 (by omega); have h1 := h 1 (by omega); have h2 := h 2 (by omega); have h3 := h 3 (by omega); have h4 := h 4 (by omega)
  have h5 := h 5 (by omega); have h6 := h 6 (by omega); have h7 := h 7 (by omega); have h8 := h 8 (by omega); have h9 := h 9 (by omega)
  have h10 := h 10 (by omega); have h11 := h 11 (by omega); have h12 := h 12 (by omega); have h13 := h 13 (by omega); have h14 := h 14 (by omega)
  simp only [tyL, List.getD_cons_succ, List.getD_cons_zero] at *
  unfold Inp.val
  rw [if_neg (by omega), if_neg (by omega), if_neg (by omega), if_neg (by omega), if_neg (by omega), if_neg (by omega), if_neg (by omega), if_neg (by omega), if_neg (by omega), if_neg (by omega), if_neg (by omega), if_neg (by omega), if_neg (by omega)]
set_option maxRecDepth 100000 in
set_option maxHeartbeats 16000000 in
theorem refValue_any (i : Inp) (w : World) :
    Calls Try.prog 7 #[i.relV, .int .u64 i.base, i.boundV] w fun e w' => answer e (Value.int .i64) i.val ∧ Below w.heap.size w w' := by
  obtain ⟨HL0, HB0⟩ := laid_is i w
  simp only [Inp.relV, Inp.boundV]
  go_enter Try.func7, Try.ntmps7
  have HL1 := Lib.hid HL0
  have HB1 := Lib.hid HB0
  clear HL0 HB0
  go_wp2
  refine (show Code.wp _ _ _ _ (i.laid w) from ?_)
  generalize i.laid w = wl at *
  go_loopg [14] 15 (fun g k wr => ∃ j : Nat, j + g = 15 ∧ k = .int .i64 j ∧ Hid (Laid i w.heap.size wr) ∧ Hid (Below w.heap.size w wr) ∧ Hid (∀ m, m < j → tyL.getD m 0 ≠ i.ty))
  case atStart => exact ⟨0, by omega, rfl, HL1, HB1, Lib.hid (fun m hm => by omega)⟩
  case round =>
    clear HL1 HB1
    obtain ⟨j, hj, rfl, HL, HB, HN⟩ := hrel
    cases gk with
    | zero =>
      obtain rfl : j = 15 := by omega
      go_wp2
      go_ret3
      refine ⟨?_, HB.out⟩
      rw [val_miss i HN.out]
      rfl
    | succ g =>
      have hlt : j < 15 := by omega
      have c1 := HL.out.tys j hlt
      have c2 := HL.out.szs j hlt
      have c3 := HL.out.vals j hlt
      have c4 := HL.out.ty
      have c5 := HL.out.module
      have c6 := HL.out.static
      by_cases heq : tyL.getD j 0 = i.ty
      · have HV := Lib.hid (val_hit i j hlt heq)
        have hpart := sz_four j hlt
        have hv0 := val_four i j hlt
        clear HL HN
        rw [heq] at c1 hpart
        clear heq
        generalize szL.getD j 0 = sz at *
        generalize i.vals.getD j 0 = v at *
        generalize i.ty = t at *
        generalize i.module = m at *
        generalize i.static = st at *
        have hb1 : (t != t) = false := by simp
        rcases hpart with ⟨hsz, ht⟩ | ⟨hsz, ht⟩
        · have hv0 := hv0 hsz
          subst hsz
          rcases ht with rfl | rfl | rfl | rfl <;> rcases v_parts v with ⟨d1, hv⟩ | ⟨⟨d1, d2⟩, hv, hv2⟩ | ⟨⟨d1, d2⟩, hv, hv2⟩ | ⟨⟨d1, d2⟩, hv, hv2⟩
          all_goals
            go_wp2_with fail
            go_quiet (fail)
            go_wp2
            first | go_ret3 | (go_quiet (fail); go_wp2; go_ret3)
            refine ⟨?_, by first | exact below_drewN HB.out _ | exact below_drewN (below_drewN HB.out _) _⟩
            rw [HV.out, pick]
            repeat (first | rw [if_pos (by omega)] | rw [if_neg (by omega)] | rw [if_neg (by simp)])
            rfl
        · clear hv0
          rcases ht with rfl | ht
          · by_cases hm : m = 0
            · rcases v_parts v with ⟨d1, hv⟩ | ⟨⟨d1, d2⟩, hv, hv2⟩ | ⟨⟨d1, d2⟩, hv, hv2⟩ | ⟨⟨d1, d2⟩, hv, hv2⟩
              all_goals
                go_wp2_with fail
                go_quiet (fail)
                go_wp2
                first | go_ret3 | (go_quiet (fail); go_wp2; go_ret3)
                refine ⟨?_, by first | exact below_drewN HB.out _ | exact below_drewN (below_drewN HB.out _) _⟩
                rw [HV.out, pick]
                repeat (first | rw [if_pos (by omega)] | rw [if_neg (by omega)] | rw [if_neg (by simp)])
                rfl
            · cases st
              · have HV2 := Lib.hid (HV.out.trans (pick_18 hm))
                rcases v_parts v with ⟨d1, hv⟩ | ⟨⟨d1, d2⟩, hv, hv2⟩ | ⟨⟨d1, d2⟩, hv, hv2⟩ | ⟨⟨d1, d2⟩, hv, hv2⟩
                all_goals
                  go_wp2_with fail
                  go_quiet (fail)
                  go_wp2
                  go_ret3
                  refine ⟨?_, below_drewN HB.out _⟩
                  rw [HV2.out]
                  rfl
              · rcases v_parts v with ⟨d1, hv⟩ | ⟨⟨d1, d2⟩, hv, hv2⟩ | ⟨⟨d1, d2⟩, hv, hv2⟩ | ⟨⟨d1, d2⟩, hv, hv2⟩
                all_goals
                  go_wp2_with fail
                  go_quiet (fail)
                  go_wp2
                  first | go_ret3 | (go_quiet (fail); go_wp2; go_ret3)
                  refine ⟨?_, by first | exact below_drewN HB.out _ | exact below_drewN (below_drewN HB.out _) _⟩
                  rw [HV.out, pick]
                  repeat (first | rw [if_pos (by omega)] | rw [if_neg (by omega)] | rw [if_neg (by simp)])
                  rfl
          · obtain ⟨t1, t2, t3, t4, t5⟩ := ht
            rcases v_parts v with ⟨d1, hv⟩ | ⟨⟨d1, d2⟩, hv, hv2⟩ | ⟨⟨d1, d2⟩, hv, hv2⟩ | ⟨⟨d1, d2⟩, hv, hv2⟩
            all_goals
              go_wp2_with fail
              go_quiet (fail)
              go_wp2
              first | go_ret3 | (go_quiet (fail); go_wp2; go_ret3)
              refine ⟨?_, by first | exact below_drewN HB.out _ | exact below_drewN (below_drewN HB.out _) _⟩
              rw [HV.out, pick]
              repeat (first | rw [if_pos (by omega)] | rw [if_neg (by omega)] | rw [if_neg (by simp)])
              rfl
      · have hne : (tyL.getD j 0 != i.ty) = true := by rw [bne_iff_ne]; exact heq
        have HN2 : Hid (∀ m, m < j + 1 → tyL.getD m 0 ≠ i.ty) := Lib.hid (fun m hm => by
          by_cases hmj : m = j
          · rw [hmj]; exact heq
          · exact HN.out m (by omega))
        clear heq
        generalize tyL.getD j 0 = tj at *
        go_wp2_with fail
        go_quiet (fail)
        go_wp2
        go_roundg g
        case measure => omega
        case rel => exact ⟨j + 1, by omega, by go_num, Lib.hid (HL.out.below (below_drewN (Below.refl _ _) nq) rfl), Lib.hid (below_drewN HB.out nq), HN2⟩
end Go.Proofs.Ytodondhlicedoaa
