/- Layer 5: the bytes of some entries (the law's own section). -/
import Derived.Test.YtcjgljmeefbacaaDynSecF
import Derived.Test.YtcjgljmeefbacaaOwnS
import Derived.Test.YtcjgljmeefbacaaGrow
import Derived.Deep.LoopGhost
import Derived.Deep.QuietTactic
import Derived.BigQuiet
import Derived.Carry
namespace Go.Proofs.Ytcjgljmeefbacaa
open Go.RowKit
set_option linter.unusedVariables false
set_option linter.unusedSimpArgs false

theorem slice8e : IntSlice Try.prog 24 5 .u8 1 := ⟨Try.underlying24, by kernel_rfl⟩
def entR (e : Nat × Nat) : List Value := [.int .u64 (e.1 : Int), .int .u64 (e.2 : Int)]
def entC (t v : Nat) : Array Value := #[.int .u64 (t : Int), .int .u64 (v : Int)]
/-- a block beside an own slice of another type stays when that grows -/
theorem keepX {w w' : World} {B : Nat} {e : TypeId} {k : IntKind} {v : Value} {xs : List Int} (h : OwnI w B e k v xs) (hg : w.grownBy w' v.ownBlock) {X : Nat} {cs : Array Value} {T : TypeId} (hX : w.heap[X]? = some (.cells cs T)) (hne : T ≠ e) : w'.heap[X]? = some (.cells cs T) := by
  have hlt : X < w.heap.size := lt_of_block hX
  rw [hg.block X hlt ?_]
  · exact hX
  · intro e1
    rcases h.2 with ⟨rfl, -⟩ | ⟨g, cap, cur, rfl, hB, hgb, -⟩
    · simp [Value.ownBlock] at e1
    · simp only [Value.ownBlock, Option.some.injEq] at e1
      subst e1
      rw [hX] at hgb
      simp only [Option.some.injEq, Obj.cells.injEq] at hgb
      exact hne hgb.2.1
theorem ownNe {w : World} {B : Nat} {e : TypeId} {k : IntKind} {v : Value} {xs : List Int} (h : OwnI w B e k v xs) {X : Nat} {cs : Array Value} {T : TypeId} (hX : w.heap[X]? = some (.cells cs T)) (hne : T ≠ e) : v.ownBlock ≠ some X := by
  intro e1
  rcases h.2 with ⟨rfl, -⟩ | ⟨g, cap, cur, rfl, hB, hgb, -⟩
  · simp [Value.ownBlock] at e1
  · simp only [Value.ownBlock, Option.some.injEq] at e1
    subst e1
    rw [hX] at hgb
    simp only [Option.some.injEq, Obj.cells.injEq] at hgb
    exact hne hgb.2.1
theorem set_x {w : World} {X i : Nat} {cs : Array Value} {T : TypeId} (hX : w.heap[X]? = some (.cells cs T)) (u : Value) : (w.setCell ⟨X, i, none⟩ u).heap[X]? = some (.cells (cs.setIfInBounds i u) T) := by
  rw [setCell_eq_setRow _ _ _ _ _ _ _ hX]
  exact setRow_heap _ _ _ _ _ _ hX
theorem below_setX {n : Nat} {w w' : World} (h : Below n w w') {X i : Nat} {cs : Array Value} {T : TypeId} (hX : w'.heap[X]? = some (.cells cs T)) (hn : n ≤ X) (u : Value) : Below n w (w'.setCell ⟨X, i, none⟩ u) := by
  rw [setCell_eq_setRow _ _ _ _ _ _ _ hX]
  exact ⟨h.os, h.tape, h.output, by rw [setRow_size]; exact h.size, fun k hk => (setRow_other _ _ _ _ (by omega)).trans (h.block k hk)⟩
theorem dgs_zero (v : Nat) : dgs v 0 = [] := rfl
theorem div_step (t j : Nat) : t / 256 ^ j / 256 = t / 256 ^ (j + 1) := by rw [Nat.div_div_eq_div_mul, Nat.pow_succ]
theorem take_all {l : List (Nat × Nat)} {k : Nat} (h : k < l.length) : l.take (k + 1) = l.take k ++ [l[k]] := List.take_succ_eq_append_getElem h

set_option maxRecDepth 100000 in
set_option maxHeartbeats 8000000 in
theorem section_any (a : Option Addr) (N cap : Nat) (l : List (Nat × Nat)) (w : World) (hN : l.length = N) (hn : N ≤ 200) (hu : ∀ e ∈ l, U64P e) (h : RowS w 2 a (l.map entR)) :
    Calls Try.prog 5 #[.slice a N cap] w fun e w' => ∃ ad n c, e = .returned (.slice ad n c) ∧ OwnI w' w.heap.size 5 .u8 (.slice ad n c) (toI (secB (l ++ [(0, 0)]))) ∧ n = 16 * (N + 1) ∧ Below w.heap.size w w' := by
  obtain ⟨x, hx⟩ : ∃ x, l ++ [(0, 0)] = x := ⟨_, rfl⟩
  have hxl : x.length = N + 1 := by rw [← hx, List.length_append, hN]; rfl
  have HXL := Lib.hid hxl
  have HX0 : Hid (∀ k (h : k < x.length), k = N → x[k] = (0, 0)) := Lib.hid (fun k h e => by
    subst hx e
    rw [List.getElem_append_right (by omega)]
    simp [hN])
  have HX1 : Hid (∀ k (h : k < x.length), k < N → ∀ wx, Below w.heap.size w wx → ∃ b o, a = some ⟨b, o, none⟩ ∧ b < wx.heap.size ∧ wx.cell? ⟨b, o + k * 2, none⟩ = some (.int .u64 ((x[k].1 : Nat) : Int)) ∧ wx.cell? ⟨b, o + k * 2 + 1, none⟩ = some (.int .u64 ((x[k].2 : Nat) : Int))) := Lib.hid (fun k hk hkn wx hb => by
    obtain ⟨b, o, e, hlt, hc⟩ := (h.below hb) k (by rw [List.length_map, hN]; exact hkn)
    have hxk : x[k] = l[k]'(by omega) := by
      subst hx
      exact List.getElem_append_left (by omega)
    have c0 := hc 0 (by omega)
    have c1 := hc 1 (by omega)
    rw [List.getElem_map, ← hxk] at c0 c1
    exact ⟨b, o, e, hlt, c0, c1⟩)
  have HU : Hid (∀ k (h : k < x.length), U64P x[k]) := Lib.hid (fun k hk => by
    have : x[k] ∈ l ++ [(0, 0)] := by rw [hx]; exact List.getElem_mem hk
    rcases List.mem_append.1 this with h | h
    · exact hu _ h
    · rw [List.mem_singleton.1 h]; exact ⟨by decide, by decide⟩)
  rw [hx]
  clear hx hxl hN h hu
  go_enter Try.func5, Try.ntmps5
  go_wp2_with fail
  go_loopg [3, 4] (N + 1) (fun g bv iv wr => ∃ (k : Nat) (ad : Option Addr) (n c : Nat), k + g = N + 1 ∧ iv = .int .i64 (k : Int) ∧ bv = .slice ad n c ∧ Hid (n = 16 * k ∧ OwnI wr w.heap.size 5 .u8 (.slice ad n c) (toI (secB (x.take k)))) ∧ Hid (Below w.heap.size w wr))
  case atStart => exact ⟨0, none, 0, 0, by omega, rfl, rfl, Lib.hid ⟨rfl, OwnI.nil _ _ _ _⟩, Lib.hid (Below.refl _ _)⟩
  case round =>
    obtain ⟨k, ad, n, c, hk, rfl, rfl, HO, HB⟩ := hrel
    cases gk with
    | zero =>
      have hke : k = N + 1 := by omega
      have HN : Hid (n = 16 * (N + 1) ∧ x.take k = x) := Lib.hid ⟨by rw [HO.out.1, hke], List.take_of_length_le (by rw [HXL.out]; omega)⟩
      have hgt : ¬ (k : Int) ≤ (N : Int) := by omega
      clear hk
      go_wp2_with fail
      go_ret
      have := HO.out.2
      rw [HN.out.2] at this
      exact ⟨ad, n, c, rfl, this, HN.out.1, HB.out⟩
    | succ g =>
      have hle : (k : Int) ≤ (N : Int) := by omega
      have hkl : k < x.length := by rw [HXL.out]; omega
      have HK : Hid (k + (g + 1) = N + 1) := Lib.hid hk
      have HTK : Hid (x.take (k + 1) = x.take k ++ [x[k]]) := Lib.hid (take_all hkl)
      have HE0 := Lib.hid (HX0.out k hkl)
      have HUK := Lib.hid (HU.out k hkl)
      have HE1 : Hid (k < N → ∀ wx, Below w.heap.size w wx → ∃ b o, a = some ⟨b, o, none⟩ ∧ b < wx.heap.size ∧ wx.cell? ⟨b, o + k * 2, none⟩ = some (.int .u64 ((x[k].1 : Nat) : Int)) ∧ wx.cell? ⟨b, o + k * 2 + 1, none⟩ = some (.int .u64 ((x[k].2 : Nat) : Int))) := Lib.hid (HX1.out k hkl)
      generalize x[k] = xk at *
      obtain ⟨t, v⟩ := xk
      obtain ⟨S, hS⟩ : ∃ S, secB (x.take k) = S := ⟨_, rfl⟩
      have HS : Hid (secB (x.take (k + 1)) = S ++ (dgs t 8 ++ dgs v 8) ∧ S.length = 16 * k) := Lib.hid (by
        refine ⟨by rw [HTK.out, secB_snoc, hS]; rfl, ?_⟩
        rw [← hS, secB_length, List.length_take, HXL.out]
        have := HK.out
        omega)
      rw [hS] at HO
      clear hS HTK hkl hk
      rcases (show k < N ∨ k = N by have := HK.out; omega) with hkn | hkn
      · obtain ⟨b, o, rfl, hbl, c0, c1⟩ := HE1.out hkn wr HB.out
        have hkn2 : (k : Int) < (N : Int) := by omega
        simp only [] at c0 c1
        have HXB : Hid ((wr.alloc (.cells (entC t v) 28)).heap[wr.heap.size]? = some (.cells (entC t v) 28)) := Lib.hid (heap_alloc_new _ _)
        have HBX : Hid (Below w.heap.size w (wr.alloc (.cells (entC t v) 28))) := Lib.hid (HB.out.alloc HB.out.size _)
        have HOX : Hid (OwnI (wr.alloc (.cells (entC t v) 28)) w.heap.size 5 .u8 (.slice ad n c) (toI S)) := Lib.hid (HO.out.2.allocO _)
        unfold entC at HXB HBX HOX
        clear HE0 HE1
        go_wp2_with fail
        change Code.wp _ _ _ _ (wr.alloc (.cells #[.int .u64 ((t : Nat) : Int), .int .u64 ((v : Nat) : Int)] 28))
        generalize wr.alloc (.cells #[.int .u64 ((t : Nat) : Int), .int .u64 ((v : Nat) : Int)] 28) = wx at *
        clear c0 c1
        have HXG : Hid (w.heap.size ≤ wr.heap.size) := Lib.hid HB.out.size
        have HN1 : Hid (n = 16 * k ∧ k ≤ 200) := Lib.hid ⟨HO.out.1, by omega⟩
        clear HO HB
        generalize wr.heap.size = xb at *
        have HSL : Hid (S.length = n) := Lib.hid (by rw [HS.out.2, HN1.out.1])
        go_loopg [3, 6] 8 (fun g1 bv jv wr => ∃ (j : Nat) (ad1 : Option Addr) (m c1 : Nat), j + g1 = 8 ∧ jv = .int .i64 (j : Int) ∧ bv = .slice ad1 m c1 ∧ Hid (m = n + j) ∧ Hid (OwnI wr w.heap.size 5 .u8 (.slice ad1 m c1) (toI (S ++ dgs t j))) ∧ Hid (wr.heap[xb]? = some (.cells #[.int .u64 ((t / 256 ^ j : Nat) : Int), .int .u64 ((v : Nat) : Int)] 28)) ∧ Hid (Below w.heap.size w wr ∧ xb < wr.heap.size))
        case atStart => exact ⟨0, ad, n, c, by omega, rfl, rfl, Lib.hid rfl, Lib.hid (by rw [dgs_zero, List.append_nil]; exact HOX.out), Lib.hid (by rw [Nat.pow_zero, Nat.div_one]; exact HXB.out), Lib.hid ⟨HBX.out, lt_of_block HXB.out⟩⟩
        case round =>
          obtain ⟨j, ad1, m, c1, hj, rfl, rfl, HM, HOY, HXY, HBY⟩ := hrel
          clear HXB HBX HOX
          cases gk with
          | succ g1 =>
            have hj8 : (j : Int) < 8 := by omega
            have HJ : Hid (j + (g1 + 1) = 8) := Lib.hid hj
            obtain ⟨T, hT⟩ : ∃ T, t / 256 ^ j = T := ⟨_, rfl⟩
            have HTL : Hid (T < 18446744073709551616) := Lib.hid (by rw [← hT]; exact Nat.lt_of_le_of_lt (Nat.div_le_self _ _) HUK.out.1)
            have HT : Hid (dgs t (j + 1) = dgs t j ++ [T % 256] ∧ T / 256 = t / 256 ^ (j + 1)) := Lib.hid ⟨by rw [dgs_succ, hT], by rw [← hT]; exact div_step t j⟩
            rw [hT] at HXY
            clear hT hj
            have cx := cell_of_row _ _ 0 _ _ _ HXY.out
            simp only [List.getElem?_toArray, List.getElem?_cons_zero, List.getElem?_cons_succ] at cx
            have hm63 : m + 1 ≤ maxLen := by have h1 := HM.out; have h2 := HN1.out; have h3 := HJ.out; unfold maxLen; omega
            have hm64 : (m + 1) * 1 ≤ 140737488355328 := by have h1 := HM.out; have h2 := HN1.out; have h3 := HJ.out; omega
            have hml : (toI (S ++ dgs t j)).length = m := by rw [toI_length, List.length_append, dgs_length, HSL.out, HM.out]
            have hbs : w.heap.size ≤ wr.heap.size := HBY.out.1.size
            have HWR : Hid (IntKind.u8.wrap ((T : Nat) : Int) = ((T % 256 : Nat) : Int)) := Lib.hid (by rw [IntKind.wrap_u8]; omega)
            have HQ : Hid (IntKind.u64.wrap (((T : Nat) : Int) / 256) = ((T / 256 : Nat) : Int)) := Lib.hid (by have := HTL.out; rw [IntKind.wrap_u64]; omega)
            have M63 := Lib.hid hm63; have M64 := Lib.hid hm64; have ML := Lib.hid hml; have BS := Lib.hid hbs
            clear hm63 hm64 hml hbs
            have hwr := HWR.out
            have hq := HQ.out
            go_wp2_with (at_builtin; (refine wpList_grow rfl (.tmp 27) (.tmp 31) slice8e rfl w.heap.size (.slice ad1 m c1) (toI (S ++ dgs t j)) m ((T % 256 : Nat) : Int) rfl (by rfl) ML.out HOY.out M63.out M64.out BS.out ?_; intro ad3 c3 w3 hown3 hg3; have X3 := Lib.hid (keepX (HOY.out.allocO _) hg3 ((heap_alloc_old _ _ (by have := HBY.out.2; omega)).trans HXY.out) (by decide)); have cx3 := cell_of_row _ _ 0 _ _ _ X3.out; simp only [List.getElem?_toArray, List.getElem?_cons_zero, List.getElem?_cons_succ] at cx3; have f3 := frozen_of_row w3 xb 0 _ _ X3.out; have B3 := Lib.hid (below_keepI (HBY.out.1.alloc BS.out _) hg3 (HOY.out.allocO _) (by have := BS.out; simp; omega)); have O3 := Lib.hid hown3; clear hown3 hg3))
            go_roundg g1
            case measure => omega
            case rel => exact ⟨j + 1, ad3, m + 1, c3, by have := HJ.out; omega, by go_num, rfl, Lib.hid (by have := HM.out; omega), Lib.hid (by rw [HT.out.1, ← List.append_assoc, toI_append]; exact O3.out.setO (ownNe O3.out X3.out (by decide)) _), Lib.hid (by rw [← HT.out.2]; exact (set_x X3.out _).trans rfl), Lib.hid ⟨below_setX B3.out X3.out (HXG.out) _, lt_of_block (set_x X3.out _)⟩⟩
          | zero =>
            have hj8 : j = 8 := by omega
            subst hj8
            clear hj
            obtain ⟨S2, hS2⟩ : ∃ S2, S ++ dgs t 8 = S2 := ⟨_, rfl⟩
            have HS2 := Lib.hid hS2
            have HSL2 : Hid (S2.length = n + 8) := Lib.hid (by rw [← hS2, List.length_append, dgs_length, HSL.out])
            rw [hS2] at HOY
            obtain ⟨zt, hzt⟩ : ∃ z, t / 256 ^ 8 = z := ⟨_, rfl⟩
            rw [hzt] at HXY
            have HA := HOY; have HX9 := HXY; have HB9 := HBY; have HM9 := HM
            clear hS2 hzt HOY HXY HBY HSL HM
            have HSL := HSL2
            clear HSL2
            go_wp2_with fail
            go_loopg [3, 7] 8 (fun g1 bv jv wr => ∃ (j : Nat) (ad1 : Option Addr) (m c1 : Nat), j + g1 = 8 ∧ jv = .int .i64 (j : Int) ∧ bv = .slice ad1 m c1 ∧ Hid (m = (n + 8) + j) ∧ Hid (OwnI wr w.heap.size 5 .u8 (.slice ad1 m c1) (toI (S2 ++ dgs v j))) ∧ Hid (wr.heap[xb]? = some (.cells #[.int .u64 ((zt : Nat) : Int), .int .u64 ((v / 256 ^ j : Nat) : Int)] 28)) ∧ Hid (Below w.heap.size w wr ∧ xb < wr.heap.size))
            case atStart => exact ⟨0, ad1, m, c1, by omega, rfl, rfl, Lib.hid HM9.out, Lib.hid (by rw [dgs_zero, List.append_nil]; exact (by have := HA.out; exact this)), Lib.hid (by rw [Nat.pow_zero, Nat.div_one]; exact HX9.out), Lib.hid ⟨HB9.out.1, lt_of_block HX9.out⟩⟩
            case round =>
              obtain ⟨j, ad1, m, c1, hj, rfl, rfl, HM, HOY, HXY, HBY⟩ := hrel
              clear HA HX9 HB9
              cases gk with
              | succ g1 =>
                have hj8 : (j : Int) < 8 := by omega
                have HJ : Hid (j + (g1 + 1) = 8) := Lib.hid hj
                obtain ⟨T, hT⟩ : ∃ T, v / 256 ^ j = T := ⟨_, rfl⟩
                have HTL : Hid (T < 18446744073709551616) := Lib.hid (by rw [← hT]; exact Nat.lt_of_le_of_lt (Nat.div_le_self _ _) HUK.out.2)
                have HT : Hid (dgs v (j + 1) = dgs v j ++ [T % 256] ∧ T / 256 = v / 256 ^ (j + 1)) := Lib.hid ⟨by rw [dgs_succ, hT], by rw [← hT]; exact div_step v j⟩
                rw [hT] at HXY
                clear hT hj
                have cx := cell_of_row _ _ 1 _ _ _ HXY.out
                simp only [List.getElem?_toArray, List.getElem?_cons_zero, List.getElem?_cons_succ] at cx
                have hm63 : m + 1 ≤ maxLen := by have h1 := HM.out; have h2 := HN1.out; have h3 := HJ.out; unfold maxLen; omega
                have hm64 : (m + 1) * 1 ≤ 140737488355328 := by have h1 := HM.out; have h2 := HN1.out; have h3 := HJ.out; omega
                have hml : (toI (S2 ++ dgs v j)).length = m := by rw [toI_length, List.length_append, dgs_length, HSL.out, HM.out]
                have hbs : w.heap.size ≤ wr.heap.size := HBY.out.1.size
                have HWR : Hid (IntKind.u8.wrap ((T : Nat) : Int) = ((T % 256 : Nat) : Int)) := Lib.hid (by rw [IntKind.wrap_u8]; omega)
                have HQ : Hid (IntKind.u64.wrap (((T : Nat) : Int) / 256) = ((T / 256 : Nat) : Int)) := Lib.hid (by have := HTL.out; rw [IntKind.wrap_u64]; omega)
                have M63 := Lib.hid hm63; have M64 := Lib.hid hm64; have ML := Lib.hid hml; have BS := Lib.hid hbs
                clear hm63 hm64 hml hbs
                have hwr := HWR.out
                have hq := HQ.out
                go_wp2_with (at_builtin; (refine wpList_grow rfl (.tmp 41) (.tmp 45) slice8e rfl w.heap.size (.slice ad1 m c1) (toI (S2 ++ dgs v j)) m ((T % 256 : Nat) : Int) rfl (by rfl) ML.out HOY.out M63.out M64.out BS.out ?_; intro ad3 c3 w3 hown3 hg3; have X3 := Lib.hid (keepX (HOY.out.allocO _) hg3 ((heap_alloc_old _ _ (by have := HBY.out.2; omega)).trans HXY.out) (by decide)); have cx3 := cell_of_row _ _ 1 _ _ _ X3.out; simp only [List.getElem?_toArray, List.getElem?_cons_zero, List.getElem?_cons_succ] at cx3; have f3 := frozen_of_row w3 xb 1 _ _ X3.out; have B3 := Lib.hid (below_keepI (HBY.out.1.alloc BS.out _) hg3 (HOY.out.allocO _) (by have := BS.out; simp; omega)); have O3 := Lib.hid hown3; clear hown3 hg3))
                go_roundg g1
                case measure => omega
                case rel => exact ⟨j + 1, ad3, m + 1, c3, by have := HJ.out; omega, by go_num, rfl, Lib.hid (by have := HM.out; omega), Lib.hid (by rw [HT.out.1, ← List.append_assoc, toI_append]; exact O3.out.setO (ownNe O3.out X3.out (by decide)) _), Lib.hid (by rw [← HT.out.2]; exact (set_x X3.out _).trans rfl), Lib.hid ⟨below_setX B3.out X3.out (HXG.out) _, lt_of_block (set_x X3.out _)⟩⟩
              | zero =>
                have hj8 : j = 8 := by omega
                subst hj8
                clear hj
                have hN : (m : Nat) = n + 16 := by have := HM.out; omega
                have HF : Hid (OwnI wr w.heap.size 5 .u8 (.slice ad1 m c1) (toI (secB (x.take (k + 1))))) := Lib.hid (by rw [HS.out.1, ← List.append_assoc, HS2.out]; exact HOY.out)
                have HNM := Lib.hid hN
                clear hN
                go_wp2_with fail
                go_roundg g
                case measure => omega
                case rel => exact ⟨k + 1, ad1, m, c1, by have := HK.out; omega, by go_num, rfl, Lib.hid ⟨by have := HNM.out; have := HN1.out.1; omega, HF.out⟩, Lib.hid HBY.out.1⟩
      · have HT0 : Hid (t = 0 ∧ v = 0) := Lib.hid (by have := HE0.out hkn; simpa using this)
        have hkn2 : ¬ (k : Int) < (N : Int) := by omega
        have HXB : Hid ((wr.alloc (.cells #[.int .u64 0, .int .u64 0] 28)).heap[wr.heap.size]? = some (.cells #[.int .u64 0, .int .u64 0] 28)) := Lib.hid (heap_alloc_new _ _)
        have HBX : Hid (Below w.heap.size w (wr.alloc (.cells #[.int .u64 0, .int .u64 0] 28))) := Lib.hid (HB.out.alloc HB.out.size _)
        have HOX : Hid (OwnI (wr.alloc (.cells #[.int .u64 0, .int .u64 0] 28)) w.heap.size 5 .u8 (.slice ad n c) (toI S)) := Lib.hid (HO.out.2.allocO _)
        clear HE0 HE1
        go_wp2_with fail
        change Code.wp _ _ _ _ (wr.alloc (.cells #[.int .u64 0, .int .u64 0] 28))
        generalize wr.alloc (.cells #[.int .u64 0, .int .u64 0] 28) = wx at *
        have HXG : Hid (w.heap.size ≤ wr.heap.size) := Lib.hid HB.out.size
        have HN1 : Hid (n = 16 * k ∧ k ≤ 200) := Lib.hid ⟨HO.out.1, by omega⟩
        clear HO HB
        generalize wr.heap.size = xb at *
        have HXB : Hid (wx.heap[xb]? = some (.cells #[.int .u64 ((t : Nat) : Int), .int .u64 ((v : Nat) : Int)] 28)) := Lib.hid (by rw [HT0.out.1, HT0.out.2]; exact HXB.out)
        have HSL : Hid (S.length = n) := Lib.hid (by rw [HS.out.2, HN1.out.1])
        go_loopg [3, 6] 8 (fun g1 bv jv wr => ∃ (j : Nat) (ad1 : Option Addr) (m c1 : Nat), j + g1 = 8 ∧ jv = .int .i64 (j : Int) ∧ bv = .slice ad1 m c1 ∧ Hid (m = n + j) ∧ Hid (OwnI wr w.heap.size 5 .u8 (.slice ad1 m c1) (toI (S ++ dgs t j))) ∧ Hid (wr.heap[xb]? = some (.cells #[.int .u64 ((t / 256 ^ j : Nat) : Int), .int .u64 ((v : Nat) : Int)] 28)) ∧ Hid (Below w.heap.size w wr ∧ xb < wr.heap.size))
        case atStart => exact ⟨0, ad, n, c, by omega, rfl, rfl, Lib.hid rfl, Lib.hid (by rw [dgs_zero, List.append_nil]; exact HOX.out), Lib.hid (by rw [Nat.pow_zero, Nat.div_one]; exact HXB.out), Lib.hid ⟨HBX.out, lt_of_block HXB.out⟩⟩
        case round =>
          obtain ⟨j, ad1, m, c1, hj, rfl, rfl, HM, HOY, HXY, HBY⟩ := hrel
          clear HXB HBX HOX
          cases gk with
          | succ g1 =>
            have hj8 : (j : Int) < 8 := by omega
            have HJ : Hid (j + (g1 + 1) = 8) := Lib.hid hj
            obtain ⟨T, hT⟩ : ∃ T, t / 256 ^ j = T := ⟨_, rfl⟩
            have HTL : Hid (T < 18446744073709551616) := Lib.hid (by rw [← hT]; exact Nat.lt_of_le_of_lt (Nat.div_le_self _ _) HUK.out.1)
            have HT : Hid (dgs t (j + 1) = dgs t j ++ [T % 256] ∧ T / 256 = t / 256 ^ (j + 1)) := Lib.hid ⟨by rw [dgs_succ, hT], by rw [← hT]; exact div_step t j⟩
            rw [hT] at HXY
            clear hT hj
            have cx := cell_of_row _ _ 0 _ _ _ HXY.out
            simp only [List.getElem?_toArray, List.getElem?_cons_zero, List.getElem?_cons_succ] at cx
            have hm63 : m + 1 ≤ maxLen := by have h1 := HM.out; have h2 := HN1.out; have h3 := HJ.out; unfold maxLen; omega
            have hm64 : (m + 1) * 1 ≤ 140737488355328 := by have h1 := HM.out; have h2 := HN1.out; have h3 := HJ.out; omega
            have hml : (toI (S ++ dgs t j)).length = m := by rw [toI_length, List.length_append, dgs_length, HSL.out, HM.out]
            have hbs : w.heap.size ≤ wr.heap.size := HBY.out.1.size
            have HWR : Hid (IntKind.u8.wrap ((T : Nat) : Int) = ((T % 256 : Nat) : Int)) := Lib.hid (by rw [IntKind.wrap_u8]; omega)
            have HQ : Hid (IntKind.u64.wrap (((T : Nat) : Int) / 256) = ((T / 256 : Nat) : Int)) := Lib.hid (by have := HTL.out; rw [IntKind.wrap_u64]; omega)
            have M63 := Lib.hid hm63; have M64 := Lib.hid hm64; have ML := Lib.hid hml; have BS := Lib.hid hbs
            clear hm63 hm64 hml hbs
            have hwr := HWR.out
            have hq := HQ.out
            go_wp2_with (at_builtin; (refine wpList_grow rfl (.tmp 27) (.tmp 31) slice8e rfl w.heap.size (.slice ad1 m c1) (toI (S ++ dgs t j)) m ((T % 256 : Nat) : Int) rfl (by rfl) ML.out HOY.out M63.out M64.out BS.out ?_; intro ad3 c3 w3 hown3 hg3; have X3 := Lib.hid (keepX (HOY.out.allocO _) hg3 ((heap_alloc_old _ _ (by have := HBY.out.2; omega)).trans HXY.out) (by decide)); have cx3 := cell_of_row _ _ 0 _ _ _ X3.out; simp only [List.getElem?_toArray, List.getElem?_cons_zero, List.getElem?_cons_succ] at cx3; have f3 := frozen_of_row w3 xb 0 _ _ X3.out; have B3 := Lib.hid (below_keepI (HBY.out.1.alloc BS.out _) hg3 (HOY.out.allocO _) (by have := BS.out; simp; omega)); have O3 := Lib.hid hown3; clear hown3 hg3))
            go_roundg g1
            case measure => omega
            case rel => exact ⟨j + 1, ad3, m + 1, c3, by have := HJ.out; omega, by go_num, rfl, Lib.hid (by have := HM.out; omega), Lib.hid (by rw [HT.out.1, ← List.append_assoc, toI_append]; exact O3.out.setO (ownNe O3.out X3.out (by decide)) _), Lib.hid (by rw [← HT.out.2]; exact (set_x X3.out _).trans rfl), Lib.hid ⟨below_setX B3.out X3.out (HXG.out) _, lt_of_block (set_x X3.out _)⟩⟩
          | zero =>
            have hj8 : j = 8 := by omega
            subst hj8
            clear hj
            obtain ⟨S2, hS2⟩ : ∃ S2, S ++ dgs t 8 = S2 := ⟨_, rfl⟩
            have HS2 := Lib.hid hS2
            have HSL2 : Hid (S2.length = n + 8) := Lib.hid (by rw [← hS2, List.length_append, dgs_length, HSL.out])
            rw [hS2] at HOY
            obtain ⟨zt, hzt⟩ : ∃ z, t / 256 ^ 8 = z := ⟨_, rfl⟩
            rw [hzt] at HXY
            have HA := HOY; have HX9 := HXY; have HB9 := HBY; have HM9 := HM
            clear hS2 hzt HOY HXY HBY HSL HM
            have HSL := HSL2
            clear HSL2
            go_wp2_with fail
            go_loopg [3, 7] 8 (fun g1 bv jv wr => ∃ (j : Nat) (ad1 : Option Addr) (m c1 : Nat), j + g1 = 8 ∧ jv = .int .i64 (j : Int) ∧ bv = .slice ad1 m c1 ∧ Hid (m = (n + 8) + j) ∧ Hid (OwnI wr w.heap.size 5 .u8 (.slice ad1 m c1) (toI (S2 ++ dgs v j))) ∧ Hid (wr.heap[xb]? = some (.cells #[.int .u64 ((zt : Nat) : Int), .int .u64 ((v / 256 ^ j : Nat) : Int)] 28)) ∧ Hid (Below w.heap.size w wr ∧ xb < wr.heap.size))
            case atStart => exact ⟨0, ad1, m, c1, by omega, rfl, rfl, Lib.hid HM9.out, Lib.hid (by rw [dgs_zero, List.append_nil]; exact (by have := HA.out; exact this)), Lib.hid (by rw [Nat.pow_zero, Nat.div_one]; exact HX9.out), Lib.hid ⟨HB9.out.1, lt_of_block HX9.out⟩⟩
            case round =>
              obtain ⟨j, ad1, m, c1, hj, rfl, rfl, HM, HOY, HXY, HBY⟩ := hrel
              clear HA HX9 HB9
              cases gk with
              | succ g1 =>
                have hj8 : (j : Int) < 8 := by omega
                have HJ : Hid (j + (g1 + 1) = 8) := Lib.hid hj
                obtain ⟨T, hT⟩ : ∃ T, v / 256 ^ j = T := ⟨_, rfl⟩
                have HTL : Hid (T < 18446744073709551616) := Lib.hid (by rw [← hT]; exact Nat.lt_of_le_of_lt (Nat.div_le_self _ _) HUK.out.2)
                have HT : Hid (dgs v (j + 1) = dgs v j ++ [T % 256] ∧ T / 256 = v / 256 ^ (j + 1)) := Lib.hid ⟨by rw [dgs_succ, hT], by rw [← hT]; exact div_step v j⟩
                rw [hT] at HXY
                clear hT hj
                have cx := cell_of_row _ _ 1 _ _ _ HXY.out
                simp only [List.getElem?_toArray, List.getElem?_cons_zero, List.getElem?_cons_succ] at cx
                have hm63 : m + 1 ≤ maxLen := by have h1 := HM.out; have h2 := HN1.out; have h3 := HJ.out; unfold maxLen; omega
                have hm64 : (m + 1) * 1 ≤ 140737488355328 := by have h1 := HM.out; have h2 := HN1.out; have h3 := HJ.out; omega
                have hml : (toI (S2 ++ dgs v j)).length = m := by rw [toI_length, List.length_append, dgs_length, HSL.out, HM.out]
                have hbs : w.heap.size ≤ wr.heap.size := HBY.out.1.size
                have HWR : Hid (IntKind.u8.wrap ((T : Nat) : Int) = ((T % 256 : Nat) : Int)) := Lib.hid (by rw [IntKind.wrap_u8]; omega)
                have HQ : Hid (IntKind.u64.wrap (((T : Nat) : Int) / 256) = ((T / 256 : Nat) : Int)) := Lib.hid (by have := HTL.out; rw [IntKind.wrap_u64]; omega)
                have M63 := Lib.hid hm63; have M64 := Lib.hid hm64; have ML := Lib.hid hml; have BS := Lib.hid hbs
                clear hm63 hm64 hml hbs
                have hwr := HWR.out
                have hq := HQ.out
                go_wp2_with (at_builtin; (refine wpList_grow rfl (.tmp 41) (.tmp 45) slice8e rfl w.heap.size (.slice ad1 m c1) (toI (S2 ++ dgs v j)) m ((T % 256 : Nat) : Int) rfl (by rfl) ML.out HOY.out M63.out M64.out BS.out ?_; intro ad3 c3 w3 hown3 hg3; have X3 := Lib.hid (keepX (HOY.out.allocO _) hg3 ((heap_alloc_old _ _ (by have := HBY.out.2; omega)).trans HXY.out) (by decide)); have cx3 := cell_of_row _ _ 1 _ _ _ X3.out; simp only [List.getElem?_toArray, List.getElem?_cons_zero, List.getElem?_cons_succ] at cx3; have f3 := frozen_of_row w3 xb 1 _ _ X3.out; have B3 := Lib.hid (below_keepI (HBY.out.1.alloc BS.out _) hg3 (HOY.out.allocO _) (by have := BS.out; simp; omega)); have O3 := Lib.hid hown3; clear hown3 hg3))
                go_roundg g1
                case measure => omega
                case rel => exact ⟨j + 1, ad3, m + 1, c3, by have := HJ.out; omega, by go_num, rfl, Lib.hid (by have := HM.out; omega), Lib.hid (by rw [HT.out.1, ← List.append_assoc, toI_append]; exact O3.out.setO (ownNe O3.out X3.out (by decide)) _), Lib.hid (by rw [← HT.out.2]; exact (set_x X3.out _).trans rfl), Lib.hid ⟨below_setX B3.out X3.out (HXG.out) _, lt_of_block (set_x X3.out _)⟩⟩
              | zero =>
                have hj8 : j = 8 := by omega
                subst hj8
                clear hj
                have hN : (m : Nat) = n + 16 := by have := HM.out; omega
                have HF : Hid (OwnI wr w.heap.size 5 .u8 (.slice ad1 m c1) (toI (secB (x.take (k + 1))))) := Lib.hid (by rw [HS.out.1, ← List.append_assoc, HS2.out]; exact HOY.out)
                have HNM := Lib.hid hN
                clear hN
                go_wp2_with fail
                go_roundg g
                case measure => omega
                case rel => exact ⟨k + 1, ad1, m, c1, by have := HK.out; omega, by go_num, rfl, Lib.hid ⟨by have := HNM.out; have := HN1.out.1; omega, HF.out⟩, Lib.hid HBY.out.1⟩
end Go.Proofs.Ytcjgljmeefbacaa
