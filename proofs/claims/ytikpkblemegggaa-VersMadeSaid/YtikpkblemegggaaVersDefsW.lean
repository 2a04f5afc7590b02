/- Layer 8: the definitions of a file: the program's answer. -/
import Derived.Test.YtikpkblemegggaaVersDefs
namespace Go.Proofs.Ytikpkblemegggaa
open Go.RowKit Go.Maps
set_option linter.unusedVariables false
set_option linter.unusedSimpArgs false

def DefsAns (r : RD) (X : (List Nat × List DefD) × Nat) (w : World) (e : Ending) (w' : World) : Prop :=
  ∃ ad c rows, e = .returned (.tuple #[.slice ad X.1.2.length c, errV (X.2 : Int)]) ∧ OwnS w' w.heap.size 42 4 (.slice ad X.1.2.length c) rows ∧ DefRows w' w.heap.size X.1.2 rows ∧ MapN w' r.B X.1.1 ∧ Kp r.B w w'
theorem DefsAns.no {r : RD} {w w' : World} {told : List Nat} {c : Nat} {e1 : Value} (hm : MapN w' r.B told) (hk : Kp r.B w w') (he : e1 = errV (c : Int)) : DefsAns r ((told, []), c) w (.returned (.tuple #[.slice none 0 0, e1])) w' := by
  subst he
  exact ⟨none, 0, [], rfl, OwnS.nil _ _ _ _, trivial, hm, hk⟩

set_option maxRecDepth 100000 in
set_option maxHeartbeats 8000000 in
theorem defs_any (r : RD) (w : World) (told : List Nat) (D : Array Value) (vn vnn : Nat) (h : r.ok w) (hm : MapN w r.B told) (hD : D.size = 37) (hD30 : D[28]? = some (.int .u64 (vn : Int))) (hD31 : D[29]? = some (.int .u64 (vnn : Int))) (h1 : vn < 18446744073709551616) (h2 : vnn < 18446744073709551616) :
    Calls Try.prog 16 #[rdV r, .agg D] w (DefsAns r (defsF r.bs r.ps r.ss told vn vnn) w) := by
  have BZ : Hid (Below w.heap.size w ((w.alloc (.cells #[rdV r] 92)).alloc (.cells D 29))) := Lib.hid (((Below.refl _ _).alloc (Nat.le_refl _) _).alloc (by simp) _)
  have HD : Hid (((w.alloc (.cells #[rdV r] 92)).alloc (.cells D 29)).heap[w.heap.size + 1]? = some (.cells D 29)) := Lib.hid (by
    have := heap_alloc_new (w.alloc (.cells #[rdV r] 92)) (.cells D 29)
    simpa using this)
  have HR0 : Hid (InBox ((w.alloc (.cells #[rdV r] 92)).alloc (.cells D 29)) w.heap.size (rdV r) 92) := Lib.hid ((InBox.new w _ _).alloc _)
  have c30 : ((w.alloc (.cells #[rdV r] 92)).alloc (.cells D 29)).cell? ⟨w.heap.size + 1, 28, none⟩ = some (.int .u64 (vn : Int)) := by rw [cell_of_row _ _ 28 _ _ _ HD.out]; exact hD30
  have c31 : ((w.alloc (.cells #[rdV r] 92)).alloc (.cells D 29)).cell? ⟨w.heap.size + 1, 29, none⟩ = some (.int .u64 (vnn : Int)) := by rw [cell_of_row _ _ 29 _ _ _ HD.out]; exact hD31
  have C30 := Lib.hid c30
  have C31 := Lib.hid c31
  have cR := HR0.out.cell
  have HOK := Lib.hid h
  have HM := Lib.hid hm
  have HI : Hid ((Try.prog.info? 29).map (·.size) = some D.size) := Lib.hid (show _ by rw [hD]; kernel_rfl)
  clear hD hD30 hD31 h hm
  unfold rdV at *
  unfold defsF
  by_cases hz : vn = 0
  · subst hz
    rw [if_pos rfl]
    go_enter Try.func16, Try.ntmps16
    go_wp2_with fail
    go_ret2
    exact DefsAns.no (HM.out.below BZ.out) (Kp.below BZ.out) rfl
  · rw [if_neg hz]
    have hz1 : ((vn : Int) == 0) = false := beq_eq_false_iff_ne.2 (by omega)
    by_cases h64 : 64 < vnn
    · rw [if_pos h64]
      have h64i : (64 : Int) < (vnn : Int) := by omega
      clear hz h64
      go_enter Try.func16, Try.ntmps16
      go_wp2_with fail
      go_ret2
      exact DefsAns.no (HM.out.below BZ.out) (Kp.below BZ.out) rfl
    · rw [if_neg h64]
      have h64i : ¬ (64 : Int) < (vnn : Int) := by omega
      obtain ⟨X, hX⟩ : ∃ X, chainV (defStep r.bs r.ps r.ss) r.bs r.ps 20 vnn vn 0 (told, []) = X := ⟨_, rfl⟩
      have HCH := Lib.hid (fun (wc w1 : World) (Rb L : Nat) (hq : FQ r wc Rb L vnn (told, []) w1) => chain_any r (def_step r wc Rb L) (.inr (.inr rfl)) vn 0 vnn (told, []) w1 h1 (by decide) (by omega) hq)
      rw [hX] at HCH ⊢
      have HN64 : Hid (vnn ≤ 64) := Lib.hid (by omega)
      clear hz h64 hX
      obtain ⟨w2, hw2⟩ : ∃ w2, ((w.alloc (.cells #[.pointer (some ⟨r.R, 0, none⟩)] 92)).alloc (.cells D 29)) = w2 := ⟨_, rfl⟩
      have W4 : Hid (Below w2.heap.size w2 (w2.alloc (.cells #[.slice none 0 0] 32))) := Lib.hid ((Below.refl _ _).alloc (Nat.le_refl _) _)
      have HSZ2 : Hid (w2.heap.size = w.heap.size + 2) := Lib.hid (by rw [← hw2]; simp)
      have HQ : Hid (FQ r w2 w.heap.size w2.heap.size vnn (told, []) (w2.alloc (.cells #[.slice none 0 0] 32))) := Lib.hid (by
        rw [hw2] at BZ HR0
        refine ⟨⟨[], ⟨HOK.out.below BZ.out, (HM.out.below BZ.out).below W4.out, Kp.below W4.out, HR0.out.below W4.out, ⟨none, 0, ?_, OwnS.nil _ _ _ _⟩, Nat.le_refl _, by have := HSZ2.out; omega⟩, trivial⟩, by simpa using HN64.out⟩
        exact heap_alloc_new w2 (.cells #[.slice none 0 0] 32))
      have HCALL := Lib.hid (HCH.out _ _ _ _ HQ.out)
      clear HQ HCH
      rw [HSZ2.out] at HCALL
      subst hw2
      have k30 : (((w.alloc (.cells #[.pointer (some ⟨r.R, 0, none⟩)] 92)).alloc (.cells D 29)).alloc (.cells #[.slice none 0 0] 32)).cell? ⟨w.heap.size + 1, 28, none⟩ = some (.int .u64 (vn : Int)) := by rw [W4.out.cell (p := ⟨w.heap.size + 1, 28, none⟩) (by simp)]; exact C30.out
      have k31 : (((w.alloc (.cells #[.pointer (some ⟨r.R, 0, none⟩)] 92)).alloc (.cells D 29)).alloc (.cells #[.slice none 0 0] 32)).cell? ⟨w.heap.size + 1, 29, none⟩ = some (.int .u64 (vnn : Int)) := by rw [W4.out.cell (p := ⟨w.heap.size + 1, 29, none⟩) (by simp)]; exact C31.out
      have kR : (((w.alloc (.cells #[.pointer (some ⟨r.R, 0, none⟩)] 92)).alloc (.cells D 29)).alloc (.cells #[.slice none 0 0] 32)).cell? ⟨w.heap.size, 0, none⟩ = some (.pointer (some ⟨r.R, 0, none⟩)) := (HR0.out.below W4.out).cell
      go_enter Try.func16, Try.ntmps16
      go_wp2_with fail
      refine HCALL.out.mono ?_
      rintro e w5 ⟨rfl, k5, ⟨rows, hlk, hnr⟩, hroom⟩
      have HM5 := Lib.hid hlk.map
      have HK5 := Lib.hid ((Kp.below BZ.out).trans hlk.kp)
      obtain ⟨la, lc, hbox, hl5⟩ := hlk.lbox
      rw [hnr.len] at hbox hl5
      have cb : w5.cell? ⟨w.heap.size + 1 + 1, 0, none⟩ = some (.slice la X.1.2.length lc) := hbox.cell
      have HO5 := Lib.hid (OwnS.mono hl5 (show w.heap.size ≤ _ by rw [HSZ2.out]; omega))
      have HN5 := Lib.hid (hnr.imp (B' := w.heap.size) (fun v q ho => OwnS.mono ho (by rw [HSZ2.out]; omega)))
      clear hlk hnr hroom hbox hl5 HCALL kR k30 k31
      go_wp2_with fail
      go_ret2
      exact ⟨la, lc, rows, rfl, HO5.out, HN5.out, HM5.out, HK5.out⟩
end Go.Proofs.Ytikpkblemegggaa
