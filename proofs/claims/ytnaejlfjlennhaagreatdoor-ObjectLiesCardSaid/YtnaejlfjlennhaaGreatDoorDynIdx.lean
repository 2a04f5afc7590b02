/- Layer 5: which program header is the dynamic section's: the first of its type. -/
import Derived.Test.YtnaejlfjlennhaaGreatDoorDynNum
import Derived.Deep.LoopGhost
namespace Go.Proofs.YtnaejlfjlennhaaGreatDoor
open Go.RowKit
set_option linter.unusedVariables false
set_option linter.unusedSimpArgs false

/-- the place of the first program header of a type -/
def pidx (t : Nat) : Nat → List PT → Option Nat
  | _, [] => none
  | i, p :: l => if p.ty = t then some i else pidx t (i + 1) l
def pidxV : Option Nat → Int
  | none => -1
  | some i => i
theorem pidx_hit {t : Nat} {ps : List PT} {k : Nat} (hk : k < ps.length) (h : ps[k].ty = t) : pidx t k (ps.drop k) = some k := by
  rw [List.drop_eq_getElem_cons hk, pidx, if_pos h]
theorem pidx_miss {t : Nat} {ps : List PT} {k : Nat} (hk : k < ps.length) (h : ¬ ps[k].ty = t) : pidx t k (ps.drop k) = pidx t (k + 1) (ps.drop (k + 1)) := by
  rw [List.drop_eq_getElem_cons hk, pidx, if_neg h]
theorem pidx_lt {t : Nat} : ∀ {ps : List PT} {i k : Nat}, pidx t i ps = some k → i ≤ k ∧ ∃ h : k - i < ps.length, (ps[k - i]).ty = t
  | [], i, k, h => by cases h
  | p :: ps, i, k, h => by
    unfold pidx at h
    split at h
    · rename_i hp
      simp only [Option.some.injEq] at h
      subst h
      exact ⟨Nat.le_refl _, by simp, by simpa using hp⟩
    · obtain ⟨h1, h2, h3⟩ := pidx_lt h
      refine ⟨by omega, by simp only [List.length_cons]; omega, ?_⟩
      have e : k - i = (k - (i + 1)) + 1 := by omega
      simp only [e, List.getElem_cons_succ]
      exact h3

theorem isdyn_any (p : PT) (w : World) (hp : p.wf) : Calls Tryz.prog 23 #[.agg p.cells.toArray] w fun e w' => e = .returned (.bool (decide (p.ty = 2))) ∧ Below w.heap.size w w' := by
  have e : ((p.ty : Int) == 2) = decide (p.ty = 2) := by rw [Bool.eq_iff_iff, beq_iff_eq, decide_eq_true_eq]; omega
  have HB : Hid (Below w.heap.size w (w.alloc (.cells p.cells.toArray 54))) := Lib.hid ((Below.refl _ _).alloc (Nat.le_refl _) _)
  obtain ⟨r, hr⟩ : ∃ r, decide (p.ty = 2) = r := ⟨_, rfl⟩
  rw [hr] at e ⊢
  obtain ⟨t0, t1, t2, t3, t4, t5, t6⟩ := p
  unfold PT.cells at *
  simp only [] at *
  clear hr hp
  go_enter Tryz.func23, Tryz.ntmps23
  go_wp2
  go_ret
  exact ⟨rfl, HB.out⟩

set_option maxRecDepth 100000 in
set_option maxHeartbeats 4000000 in
theorem indexDyn_any (a : Option Addr) (n cap : Nat) (ps : List PT) (w : World) (hn : ps.length = n) (h : PRow w a ps) (hl : n ≤ 140737488351232) :
    Calls Tryz.prog 22 #[.slice a n cap, .func (.func 23) #[] #[]] w fun e w' => e = .returned (.int .i64 (pidxV (pidx 2 0 ps))) ∧ Below w.heap.size w w' := by
  have H := Lib.hid h
  have HN := Lib.hid hn
  obtain ⟨R, hR⟩ : ∃ R, pidx 2 0 ps = R := ⟨_, rfl⟩
  have HR0 : Hid (pidx 2 0 (ps.drop 0) = R) := Lib.hid hR
  rw [hR]
  clear h hR hn
  go_enter Tryz.func22, Tryz.ntmps22
  go_wp2_with fail
  go_loopg [8] n (fun g i wr => ∃ k : Nat, k + g = n ∧ i = .int .i64 (k : Int) ∧ Hid (pidx 2 k (ps.drop k) = R) ∧ Hid (Below w.heap.size w wr))
  case atStart => exact ⟨0, by omega, rfl, HR0, Lib.hid (Below.refl _ _)⟩
  case round =>
    clear HR0
    obtain ⟨k, hk, rfl, HR, HB⟩ := hrel
    cases gk with
    | zero =>
      have hke : k = n := by omega
      have HF : Hid (R = none) := Lib.hid (by rw [← HR.out, List.drop_of_length_le (by rw [HN.out, hke]; exact Nat.le_refl _)]; rfl)
      clear hk
      subst hke
      go_wp2_with fail
      go_ret
      exact ⟨by rw [HF.out]; rfl, HB.out⟩
    | succ g =>
      have hkn : k < n := by omega
      have hkl : k < ps.length := by rw [HN.out]; exact hkn
      obtain ⟨hw, b, o, rfl, hb, hc⟩ := (H.out.below HB.out) k hkl
      have HC := Lib.hid (isdyn_any ps[k] wr hw)
      have c0 := hc 0 (by omega)
      have c1 := hc 1 (by omega)
      have c2 := hc 2 (by omega)
      have c3 := hc 3 (by omega)
      have c4 := hc 4 (by omega)
      have c5 := hc 5 (by omega)
      have c6 := hc 6 (by omega)
      simp only [PT.cells, List.getElem?_cons_zero, List.getElem?_cons_succ, Nat.add_zero] at c0 c1 c2 c3 c4 c5 c6
      clear hc hw
      by_cases hf : ps[k].ty = 2
      · have HF : Hid (R = some k) := Lib.hid (by rw [← HR.out]; exact pidx_hit hkl hf)
        rw [decide_eq_true hf] at HC
        clear HR hf
        generalize ps[k] = p at *
        go_wp2_with fail
        refine HC.out.mono ?_
        rintro e w2 ⟨rfl, hb2⟩
        have B2 := Lib.hid (bstep HB.out hb2)
        clear hb2 HC
        go_wp2_with fail
        go_ret
        exact ⟨by rw [HF.out]; rfl, B2.out⟩
      · have HR2 : Hid (pidx 2 (k + 1) (ps.drop (k + 1)) = R) := Lib.hid (by rw [← HR.out]; exact (pidx_miss hkl hf).symm)
        rw [decide_eq_false hf] at HC
        clear HR hf
        generalize ps[k] = p at *
        go_wp2_with fail
        refine HC.out.mono ?_
        rintro e w2 ⟨rfl, hb2⟩
        have B2 := Lib.hid (bstep HB.out hb2)
        clear hb2 HC c0 c1 c2 c3 c4 c5 c6
        go_wp2_with fail
        go_roundg g
        case measure => omega
        case rel => exact ⟨k + 1, by omega, by go_num, HR2, B2⟩
end Go.Proofs.YtnaejlfjlennhaaGreatDoor
