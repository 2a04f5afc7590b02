/- Layer 17: is a version among those that an object defines? The closure, and what goes through the list with it. -/
import Derived.Test.YtbkbghocfnljjaaBindF
import Derived.BigQuiet
import Derived.WalkMore
import Derived.Deep.LoopGhost
namespace Go.Proofs.Ytbkbghocfnljjaa
open Go.RowKit
set_option linter.unusedVariables false
set_option linter.unusedSimpArgs false

theorem text_eq (x y : ByteArray) : (x.toList == y.toList) = decide (x = y) := by
  by_cases h : x = y
  · subst h
    simp
  · rw [decide_eq_false h]
    exact text_ne h

set_option maxRecDepth 100000 in
set_option maxHeartbeats 4000000 in
theorem isIt_any (ix : Int) (bs : Bool) (nm ver : ByteArray) (pa : Option Addr) (pl pc vb : Nat) (w : World) (hv : w.cell? ⟨vb, 0, none⟩ = some (.string ver)) :
    Calls Try.prog 21 #[.agg #[.int .i64 ix, .bool bs, .string nm, .slice pa pl pc], .pointer (some ⟨vb, 0, none⟩)] w fun e w' => e = .returned (.bool (decide (nm = ver))) ∧ Below w.heap.size w w' := by
  have hlt := World.block_lt_of_cell? w _ hv
  have hv2 : (w.alloc (.cells #[.int .i64 ix, .bool bs, .string nm, .slice pa pl pc] 40)).cell? ⟨vb, 0, none⟩ = some (.string ver) := by
    rw [((Below.refl w.heap.size w).alloc (Nat.le_refl _) _).cell (p := ⟨vb, 0, none⟩) hlt]
    exact hv
  have HB : Hid (Below w.heap.size w (w.alloc (.cells #[.int .i64 ix, .bool bs, .string nm, .slice pa pl pc] 40))) := Lib.hid ((Below.refl _ _).alloc (Nat.le_refl _) _)
  have HE := Lib.hid (text_eq nm ver)
  clear hv hlt
  go_enter Try.func21, Try.ntmps21
  go_wp2
  go_ret
  exact ⟨by rw [← HE.out]; rfl, HB.out⟩

set_option maxRecDepth 100000 in
set_option maxHeartbeats 4000000 in
theorem index_any (a : Option Addr) (cap m : Nat) (T : List ByteArray) (ver : ByteArray) (vb : Nat) (w : World) (hl : T.length = m) (hm : m ≤ 140737488355328) (h : VDRow w a T) (hv : w.cell? ⟨vb, 0, none⟩ = some (.string ver)) :
    Calls Try.prog 30 #[.slice a m cap, .func (.func 21) #[] #[.pointer (some ⟨vb, 0, none⟩)]] w fun e w' => (∃ n : Int, e = .returned (.int .i64 n) ∧ decide (0 ≤ n) = hasF T ver) ∧ Below w.heap.size w w' := by
  have H := Lib.hid h
  have HL := Lib.hid hl
  have HV : Hid (∀ w1, Below w.heap.size w w1 → w1.cell? ⟨vb, 0, none⟩ = some (.string ver)) := Lib.hid (fun w1 hb => by rw [hb.cell (p := ⟨vb, 0, none⟩) (World.block_lt_of_cell? w _ hv)]; exact hv)
  clear h hl hv
  go_enter Try.func30, Try.ntmps30
  go_wp2_with fail
  go_loopg [8] m (fun g i wr => ∃ k : Nat, k + g = m ∧ i = .int .i64 (k : Int) ∧ Hid (∀ x ∈ T.take k, ¬ x = ver) ∧ Hid (Below w.heap.size w wr))
  case atStart => exact ⟨0, by omega, rfl, Lib.hid (fun x hx => by simp at hx), Lib.hid (Below.refl _ _)⟩
  case round =>
    obtain ⟨k, hk, rfl, HN, HB⟩ := hrel
    cases gk with
    | zero =>
      have hke : k = m := by omega
      have HF : Hid (hasF T ver = false) := Lib.hid (hasF_no (fun x hx => HN.out x (by rw [List.take_of_length_le (by rw [HL.out, hke]; exact Nat.le_refl _)]; exact hx)))
      clear hk
      subst hke
      go_wp2_with fail
      go_ret
      exact ⟨⟨-1, rfl, by rw [HF.out]; rfl⟩, HB.out⟩
    | succ g =>
      have hkm : k < m := by omega
      have hkT : k < T.length := by rw [HL.out]; exact hkm
      obtain ⟨b, o, ix, bs, pa, pl, pc, rfl, hlt, c0, c1, c2, c3⟩ := (H.out.below HB.out) k hkT
      have HIS := Lib.hid (isIt_any ix bs (T.getD k .empty) ver pa pl pc vb wr (HV.out _ HB.out))
      have HM : Hid (T.getD k .empty ∈ T) := Lib.hid (by rw [List.getD, List.getElem?_eq_getElem hkT]; exact List.getElem_mem _)
      have HT : Hid (T.take (k + 1) = T.take k ++ [T.getD k .empty]) := Lib.hid (by rw [List.take_succ_eq_append_getElem hkT]; simp [List.getD, List.getElem?_eq_getElem hkT])
      generalize T.getD k .empty = nm at *
      clear hkT
      go_wp2_with fail
      refine HIS.out.mono ?_
      rintro e w2 ⟨rfl, hb2⟩
      have B2 := Lib.hid (bstep HB.out hb2)
      clear hb2
      by_cases hq : nm = ver
      · have HF : Hid (hasF T ver = true) := Lib.hid (hasF_yes (by rw [← hq]; exact HM.out))
        have hd : decide (nm = ver) = true := decide_eq_true hq
        rw [hd]
        clear hd hq
        go_wp2_with fail
        go_ret
        exact ⟨⟨(k : Int), rfl, by rw [HF.out]; exact decide_eq_true (by omega)⟩, B2.out⟩
      · have HN2 : Hid (∀ x ∈ T.take (k + 1), ¬ x = ver) := Lib.hid (fun x hx => by
          rw [HT.out] at hx
          rcases List.mem_append.1 hx with h | h
          · exact HN.out x h
          · rw [List.mem_singleton.1 h]; exact hq)
        have hd : decide (nm = ver) = false := decide_eq_false hq
        rw [hd]
        clear hd hq
        go_wp2_with fail
        go_roundg g
        case measure => omega
        case rel => exact ⟨k + 1, by omega, by go_num, HN2, B2⟩

set_option maxRecDepth 100000 in
set_option maxHeartbeats 4000000 in
theorem contains_any (a : Option Addr) (cap m : Nat) (T : List ByteArray) (ver : ByteArray) (vb : Nat) (w : World) (hl : T.length = m) (hm : m ≤ 140737488355328) (h : VDRow w a T) (hv : w.cell? ⟨vb, 0, none⟩ = some (.string ver)) :
    Calls Try.prog 22 #[.slice a m cap, .func (.func 21) #[] #[.pointer (some ⟨vb, 0, none⟩)]] w fun e w' => e = .returned (.bool (hasF T ver)) ∧ Below w.heap.size w w' := by
  have HI := Lib.hid (index_any a cap m T ver vb w hl hm h hv)
  clear hl hm h hv
  go_enter Try.func22, Try.ntmps22
  go_wp2_with fail
  refine HI.out.mono ?_
  rintro e w2 ⟨⟨n, rfl, hn⟩, hb⟩
  have HN := Lib.hid hn
  have HB := Lib.hid hb
  clear hn hb
  go_wp2_with fail
  go_ret
  exact ⟨by rw [← HN.out]; rfl, HB.out⟩
end Go.Proofs.Ytbkbghocfnljjaa
