/- Layer 15: some of the program headers. -/
import Derived.Test.YtjiifaeehhpkcaaPlaceF
import Derived.Test.YtjiifaeehhpkcaaOwnPut
import Derived.Test.YtjiifaeehhpkcaaGrow
import Derived.Deep.LoopGhost
import Derived.Deep.WholeRow
import Derived.WalkMore
namespace Go.Proofs.Ytjiifaeehhpkcaa
open Go.RowKit
set_option linter.unusedVariables false
set_option linter.unusedSimpArgs false

def pZero : List Value := [.int .u32 0, .int .u32 0, .int .u64 0, .int .u64 0, .int .u64 0, .int .u64 0, .int .u64 0]
theorem progSlice : RowSlice Try.prog 23 60 (.agg pZero.toArray) 7 48 := ⟨Try.underlying23, by kernel_rfl, rfl, by omega⟩
def PT.v (p : PT) : Value := .agg p.cells.toArray
/-- a slice of program headers that a call made itself -/
def OwnP (w : World) (B : Nat) (v : Value) (ps : List PT) : Prop := OwnS w B 60 7 v (ps.map PT.cells)
theorem OwnP.row {w : World} {B : Nat} {ad : Option Addr} {n cap : Nat} {ps : List PT} (h : OwnP w B (.slice ad n cap) ps) (hw : ∀ p ∈ ps, p.wf) : n = ps.length ∧ PRow w ad ps ∧ n ≤ cap := by
  obtain ⟨h1, h2, h3, -⟩ := OwnS.at h
  rw [List.length_map] at h1
  refine ⟨h1, fun i hi => ⟨hw _ (List.getElem_mem hi), ?_⟩, h3⟩
  obtain ⟨b, o, e, hlt, hc⟩ := h2 i (by simpa using hi)
  exact ⟨b, o, e, hlt, fun j hj => by simpa using hc j hj⟩

/-- some of program headers, as a call answers them -/
def SomeP (R : List PT) (w : World) (e : Ending) (w' : World) : Prop := ∃ ad c, e = .returned (.slice ad R.length c) ∧ OwnP w' w.heap.size (.slice ad R.length c) R ∧ Below w.heap.size w w'

theorem paged1_any (p : PT) (w : World) (hp : p.wf) : Calls Try.prog 45 #[p.v] w fun e w' => e = .returned (.bool (hasPages p)) ∧ Below w.heap.size w w' := by
  obtain ⟨a0, a1, a2, a3, a4, a5, a6⟩ := p
  unfold PT.v PT.cells
  go_enter Try.func45, Try.ntmps45
  go_wp2_with fail
  go_ret
  exact ⟨rfl, (Below.refl _ _).alloc (Nat.le_refl _) _⟩
theorem progs1_any (p : PT) (k kb : Nat) (w : World) (hp : p.wf) (hk : w.cell? ⟨kb, 0, none⟩ = some (.int .u32 (k : Int))) : Calls Try.prog 52 #[p.v, .pointer (some ⟨kb, 0, none⟩)] w fun e w' => e = .returned (.bool (p.ty == k)) ∧ Below w.heap.size w w' := by
  obtain ⟨a0, a1, a2, a3, a4, a5, a6⟩ := p
  obtain ⟨R, hR⟩ : ∃ R, (a0 == k) = R := ⟨_, rfl⟩
  show Calls _ _ _ _ fun e w' => e = .returned (.bool (a0 == k)) ∧ _
  rw [hR]
  have h1 : ((a0 : Int) == (k : Int)) = R := by rw [← hR, Bool.eq_iff_iff, beq_iff_eq, beq_iff_eq]; omega
  have HR := Lib.hid h1
  have hlt := World.block_lt_of_cell? w _ hk
  have hk2 : (w.alloc (.cells #[.int .u32 (a0 : Int), .int .u32 (a1 : Int), .int .u64 (a2 : Int), .int .u64 (a3 : Int), .int .u64 (a4 : Int), .int .u64 (a5 : Int), .int .u64 (a6 : Int)] 60)).cell? ⟨kb, 0, none⟩ = some (.int .u32 (k : Int)) := by
    rw [((Below.refl w.heap.size w).alloc (Nat.le_refl _) _).cell (p := ⟨kb, 0, none⟩) hlt]; exact hk
  clear hR h1 hk
  unfold PT.v PT.cells
  go_enter Try.func52, Try.ntmps52
  go_wp2_with fail
  go_ret
  exact ⟨by rw [← HR.out]; rfl, (Below.refl _ _).alloc (Nat.le_refl _) _⟩

theorem filter_snoc (h : PT → Bool) (l : List PT) (k : Nat) (hk : k < l.length) : (l.take (k + 1)).filter h = (l.take k).filter h ++ (if h l[k] = true then [l[k]] else []) := by
  rw [List.take_succ_eq_append_getElem hk, List.filter_append, List.filter_cons, List.filter_nil]

set_option maxRecDepth 100000 in
set_option maxHeartbeats 8000000 in
theorem filter_any (Fn : Nat) (caps : Array Value) (h : PT → Bool) (a : Option Addr) (n cap : Nat) (ps : List PT) (w : World) (H0 : PRow w a ps) (hl : ps.length = n) (hn : n * 48 ≤ 140737488351232)
    (hen : ∀ (args : Array Value) (w : World), (callFunc Fn args).run Try.prog w = .ok (.enter Fn args) w)
    (hF : ∀ (p : PT) (wx : World), p.wf → Below w.heap.size w wx → Calls Try.prog Fn (#[p.v] ++ caps) wx fun e w' => e = .returned (.bool (h p)) ∧ Below wx.heap.size wx w') :
    Calls Try.prog 44 #[.slice a n cap, .func (.func Fn) #[] caps] w (SomeP (ps.filter h) w) := by
  have H := Lib.hid H0
  have HL := Lib.hid hl
  have HN := Lib.hid hn
  have HFn := Lib.hid hF
  have HS := Lib.hid hn
  clear H0 hl hF
  go_enter Try.func44, Try.ntmps44
  go_wp2_with fail
  go_loopg [5, 10] n (fun g lv iv wr => ∃ (k : Nat) (ad : Option Addr) (m c : Nat), k + g = n ∧ lv = .slice ad m c ∧ iv = .int .i64 (k : Int) ∧ Hid (OwnP wr w.heap.size (.slice ad m c) ((ps.take k).filter h)) ∧ Hid (Below w.heap.size w wr))
  case atStart => exact ⟨0, none, 0, 0, by omega, rfl, rfl, Lib.hid (OwnS.nil _ _ _ _), Lib.hid (Below.refl _ _)⟩
  case round =>
    obtain ⟨k, ad, m, c, hk, rfl, rfl, HO, HB⟩ := hrel
    cases gk with
    | zero =>
      have hke : k = n := by omega
      subst hke
      clear hk
      go_wp2_with fail
      go_ret
      have e1 : ps.take k = ps := List.take_of_length_le (by rw [HL.out]; exact Nat.le_refl _)
      have h1 := HO.out
      rw [e1] at h1
      have h2 := (OwnS.at h1).1
      rw [List.length_map] at h2
      exact ⟨ad, c, by rw [h2]; rfl, by rw [← h2]; exact h1, HB.out⟩
    | succ g =>
      have hkn : k < n := by omega
      have hkl : k < ps.length := by rw [HL.out]; exact hkn
      obtain ⟨hwf, b, o, rfl, hb, hc⟩ := (H.out.below HB.out) k hkl
      have HT := Lib.hid (filter_snoc h ps k hkl)
      have HCE := Lib.hid (HFn.out ps[k])
      generalize ps[k] = p at *
      obtain ⟨a0, a1, a2, a3, a4, a5, a6⟩ := p
      have c0 := hc 0 (by omega)
      have c1 := hc 1 (by omega)
      have c2 := hc 2 (by omega)
      have c3 := hc 3 (by omega)
      have c4 := hc 4 (by omega)
      have c5 := hc 5 (by omega)
      have c6 := hc 6 (by omega)
      simp only [PT.cells, List.getElem?_cons_zero, List.getElem?_cons_succ, Nat.add_zero] at c0 c1 c2 c3 c4 c5 c6
      have HW := Lib.hid hwf
      clear hc hkl hwf
      have BA : Hid (Below w.heap.size w (wr.alloc (.cells #[.int .u32 (a0 : Int), .int .u32 (a1 : Int), .int .u64 (a2 : Int), .int .u64 (a3 : Int), .int .u64 (a4 : Int), .int .u64 (a5 : Int), .int .u64 (a6 : Int)] 60))) := Lib.hid (HB.out.alloc HB.out.size _)
      have HBK : Hid ((wr.alloc (.cells #[.int .u32 (a0 : Int), .int .u32 (a1 : Int), .int .u64 (a2 : Int), .int .u64 (a3 : Int), .int .u64 (a4 : Int), .int .u64 (a5 : Int), .int .u64 (a6 : Int)] 60)).heap[wr.heap.size]? = some (.cells #[.int .u32 (a0 : Int), .int .u32 (a1 : Int), .int .u64 (a2 : Int), .int .u64 (a3 : Int), .int .u64 (a4 : Int), .int .u64 (a5 : Int), .int .u64 (a6 : Int)] 60)) := Lib.hid (heap_alloc_new _ _)
      have HOA := Lib.hid (HO.out.allocO (.cells #[.int .u32 (a0 : Int), .int .u32 (a1 : Int), .int .u64 (a2 : Int), .int .u64 (a3 : Int), .int .u64 (a4 : Int), .int .u64 (a5 : Int), .int .u64 (a6 : Int)] 60))
      go_wp2_with fail
      generalize wr.alloc (.cells #[.int .u32 (a0 : Int), .int .u32 (a1 : Int), .int .u64 (a2 : Int), .int .u64 (a3 : Int), .int .u64 (a4 : Int), .int .u64 (a5 : Int), .int .u64 (a6 : Int)] 60) = wA at *
      refine (HCE.out wA HW.out BA.out).mono ?_
      rintro e w5 ⟨rfl, hb5⟩
      have B5 := Lib.hid (bstep BA.out hb5)
      have hbk5 := (hb5.block _ (lt_of_block HBK.out)).trans HBK.out
      generalize wr.heap.size = xb at *
      have d0 : w5.cell? ⟨xb, 0, none⟩ = some (.int .u32 (a0 : Int)) := by rw [cell_of_row _ _ 0 _ _ _ hbk5]; rfl
      have d1 : w5.cell? ⟨xb, 1, none⟩ = some (.int .u32 (a1 : Int)) := by rw [cell_of_row _ _ 1 _ _ _ hbk5]; rfl
      have d2 : w5.cell? ⟨xb, 2, none⟩ = some (.int .u64 (a2 : Int)) := by rw [cell_of_row _ _ 2 _ _ _ hbk5]; rfl
      have d3 : w5.cell? ⟨xb, 3, none⟩ = some (.int .u64 (a3 : Int)) := by rw [cell_of_row _ _ 3 _ _ _ hbk5]; rfl
      have d4 : w5.cell? ⟨xb, 4, none⟩ = some (.int .u64 (a4 : Int)) := by rw [cell_of_row _ _ 4 _ _ _ hbk5]; rfl
      have d5 : w5.cell? ⟨xb, 5, none⟩ = some (.int .u64 (a5 : Int)) := by rw [cell_of_row _ _ 5 _ _ _ hbk5]; rfl
      have d6 : w5.cell? ⟨xb, 6, none⟩ = some (.int .u64 (a6 : Int)) := by rw [cell_of_row _ _ 6 _ _ _ hbk5]; rfl
      have HO5 := Lib.hid (HOA.out.below hb5)
      have HKK := Lib.hid hk
      clear hb5 hbk5 HOA HCE HBK c0 c1 c2 c3 c4 c5 c6 hb hk BA HW
      cases hh : h (PT.mk a0 a1 a2 a3 a4 a5 a6) with
      | false =>
        rw [hh, if_neg (by decide), List.append_nil] at HT
        clear d0 d1 d2 d3 d4 d5 d6
        go_wp2_with fail
        go_roundg g
        case measure => omega
        case rel => exact ⟨k + 1, ad, m, c, by have := HKK.out; omega, rfl, by go_num, Lib.hid (by rw [HT.out]; exact HO5.out), B5⟩
      | true =>
        rw [hh, if_pos rfl] at HT
        have hm : (((ps.take k).filter h).map PT.cells).length = m := (OwnS.at HO5.out).1.symm
        have HM := Lib.hid hm
        have HMB : Hid (m ≤ 140737488351232) := Lib.hid (by have h1 := List.length_filter_le h (ps.take k); rw [List.length_take] at h1; rw [List.length_map] at hm; omega)
        clear hm
        have HK1 : Hid (m + 1 ≤ maxLen) := Lib.hid (by have := HMB.out; unfold maxLen; omega)
        have HK2 : Hid ((m + 1) * 48 ≤ 140737488355328) := Lib.hid (by have h1 := List.length_filter_le h (ps.take k); have h2 := (OwnS.at HO5.out).1; rw [List.length_map] at h2; rw [List.length_take] at h1; have := HS.out; omega)
        go_wp2_with (at_builtin; refine wpList_push_row rfl (.tmp 17) (.tmp 19) progSlice rfl w.heap.size w _ _ m (PT.cells ⟨a0, a1, a2, a3, a4, a5, a6⟩) rfl rfl HM.out rfl (by simp [PT.cells, Value.oneCell']) HO5.out HK1.out HK2.out B5.out B5.out.size ?_; rintro ad' c' w6 ho6 hb6 -)
        go_roundg g
        case measure => omega
        case rel => exact ⟨k + 1, ad', m + 1, c', by have := HKK.out; omega, rfl, by go_num, Lib.hid (by rw [HT.out]; unfold OwnP; rw [List.map_append]; exact ho6), Lib.hid hb6⟩
end Go.Proofs.Ytjiifaeehhpkcaa
