/- Layer 16, the document's own answer: Begin, Loop; two lists compared. -/
import Derived.Test.YtfckgagpfpnelaaGraphWalk
namespace Go.Proofs.Ytfckgagpfpnelaa
open Go.RowKit
set_option linter.unusedVariables false
set_option linter.unusedSimpArgs false

set_option maxRecDepth 100000 in
set_option maxHeartbeats 4000000 in
theorem refBegin_any (w : World) (da : Option Addr) (dc : Nat) (deps : List (List Int)) (ra : Option Addr) (rc : Nat) (roots : List Int) (hn : deps.length ≤ 1048576) (hd : DRow w da deps) (hr : Row .i64 w ra roots) (hx : I64s roots) (hxl : roots.length ≤ 140737488351232) :
    Calls Try.prog 13 #[.slice da deps.length dc, .slice ra roots.length rc] w (ListAns (beginF deps roots) w) := by
  have HWK := Lib.hid (fun (n wb lb : Nat) (hnn : deps.length = n) (hn : n ≤ 1048576) (s : St) (w1 : World) (x : Int) => walk_any w da dc deps n wb lb hnn hn hd (n - s.had.length) s w1 x (Nat.le_refl _))
  have HR := Lib.hid hr
  have HX := Lib.hid hx
  have hR : (roots.take roots.length).foldl (dfs deps) start = walkF deps roots := by rw [List.take_length]; rfl
  have HRR := Lib.hid hR
  obtain ⟨R, hRR⟩ : ∃ R, beginF deps roots = R := ⟨_, rfl⟩
  rw [hRR]
  have HR2 : Hid ((walkF deps roots).out = R) := Lib.hid hRR
  obtain ⟨n, hnn⟩ : ∃ n, deps.length = n := ⟨_, rfl⟩
  have HN := Lib.hid hnn
  rw [hnn] at hn ⊢
  clear hd hr hx hR hRR hnn
  have B0 := Lib.hid (Below.refl w.heap.size w)
  go_enter Try.func13, Try.ntmps13
  go_wp2_with (at_make; go_loud (refine wpList_make_marks rfl (.tmp 9) (.tmp 9) bools boolInfo rfl w.heap.size w n .i64 .i64 (n : Int) (n : Int) rfl rfl rfl rfl hn B0.out (Nat.le_refl _) ?_); intro lb w4 ho4 hg4 hb4 hb4'; have O4 := Lib.hid ho4; have G4 := Lib.hid hg4; have B4 := Lib.hid hb4; clear ho4 hg4 hb4 hb4' B0)
  have W0 : Hid (Wk w n w4.heap.size lb da dc start (w4.alloc (.cells #[.slice da n dc, .slice (some ⟨lb, 0, none⟩) n n, .slice none 0 0] 40))) := Lib.hid
    ⟨⟨none, 0, heap_alloc_new _ _, OwnI.nil _ _ _ _⟩, O4.out.alloc _, good_nil _, Nat.zero_le _, B4.out.size, B4.out.alloc B4.out.size _⟩
  clear O4 G4
  generalize w4.alloc (.cells #[.slice da n dc, .slice (some ⟨lb, 0, none⟩) n n, .slice none 0 0] 40) = w5 at *
  generalize w4.heap.size = wb at *
  go_loopg [6] roots.length (fun g i wr => ∃ k : Nat, k + g = roots.length ∧ i = .int .i64 (k : Int) ∧ Hid (Wk w n wb lb da dc ((roots.take k).foldl (dfs deps) start) wr) ∧ Hid (Told deps ((roots.take k).foldl (dfs deps) start)))
  case atStart => exact ⟨0, by omega, rfl, W0, Lib.hid (start_told deps)⟩
  case round =>
    obtain ⟨k, hk, rfl, WK, TK⟩ := hrel
    have hsuc : Hid (k < roots.length → (roots.take (k + 1)).foldl (dfs deps) start = dfs deps ((roots.take k).foldl (dfs deps) start) (roots.getD k 0)) := Lib.hid (fun h => by
      rw [List.take_succ_eq_append_getElem h, List.foldl_append, getD_at h]; rfl)
    have HALL : Hid (k = roots.length → (roots.take k).foldl (dfs deps) start = walkF deps roots) := Lib.hid (fun h => by rw [h]; exact HRR.out)
    obtain ⟨T, hTT⟩ : ∃ T, (roots.take k).foldl (dfs deps) start = T := ⟨_, rfl⟩
    rw [hTT] at WK TK hsuc HALL
    clear hTT
    cases gk with
    | zero =>
      have hke : k = roots.length := by omega
      have HTA : Hid (T.out = R) := Lib.hid (by rw [HALL.out hke]; exact HR2.out)
      subst hke
      obtain ⟨al', cl', hbox', hown'⟩ := WK.out.box
      have d2 := hbox'.c2
      have HOW := Lib.hid hown'
      clear hbox' hown'
      go_wp2
      go_ret
      have := HTA.out
      subst this
      exact ⟨al', cl', rfl, HOW.out, WK.out.below⟩
    | succ g =>
      have hlk : k < roots.length := by omega
      obtain ⟨b3, o3, rfl, hc3⟩ := (HR.out.below WK.out.below) k hlk
      have hxb := HX.out.at hlk
      have HSU := Lib.hid (hsuc.out hlk)
      generalize roots.getD k 0 = z at *
      go_wp2_with fail
      refine (HWK.out n wb lb HN.out hn T wr z TK.out WK.out hxb.1 hxb.2).mono ?_
      rintro e w6 ⟨rfl, hw6⟩
      have W6 := Lib.hid hw6
      clear hw6
      go_wp2
      go_roundg g
      case measure => omega
      case rel =>
        refine ⟨k + 1, by omega, by go_num, Lib.hid ?_, Lib.hid ?_⟩
        · rw [HSU.out]; exact W6.out
        · rw [HSU.out]; exact dfs_told _ T z TK.out (Nat.le_refl _)

open Classical in
/-- is there an object that is reached from those that it depends on? -/
noncomputable def loopB (deps : List (List Int)) : Bool := decide (∃ c, Path deps c c)
theorem path_lt {deps : List (List Int)} {c x : Nat} (h : Path deps x c) : c < deps.length := by
  cases h with
  | one h => exact h.2
  | more _ h => exact h.2
open Classical in
theorem loopB_yes {deps : List (List Int)} {i : Nat} (h : i ∈ scopeF deps (deps.getD i [])) : loopB deps = true := by
  unfold loopB
  rw [decide_eq_true_eq]
  exact ⟨i, reach_path.1 (mem_scopeF.1 h)⟩
open Classical in
theorem loopB_no {deps : List (List Int)} (h : ∀ i, i < deps.length → i ∉ scopeF deps (deps.getD i [])) : loopB deps = false := by
  unfold loopB
  rw [decide_eq_false_iff_not]
  rintro ⟨c, hc⟩
  exact h c (path_lt hc) (mem_scopeF.2 (reach_path.2 hc))

set_option maxRecDepth 100000 in
set_option maxHeartbeats 4000000 in
theorem refLoop_any (w : World) (da : Option Addr) (dc : Nat) (deps : List (List Int)) (hn : deps.length ≤ 1048576) (hd : DRow w da deps) :
    Calls Try.prog 17 #[.slice da deps.length dc] w fun e w' => e = .returned (.bool (loopB deps)) ∧ Below w.heap.size w w' := by
  have HSC := Lib.hid (fun (w1 : World) (hb : Below w.heap.size w w1) (ra : Option Addr) (rc : Nat) (roots : List Int) => refScope_any w1 da dc deps ra rc roots hn (hd.below hb))
  have HD := Lib.hid hd
  have HY := Lib.hid (fun i => loopB_yes (deps := deps) (i := i))
  have HNO := Lib.hid (loopB_no (deps := deps))
  obtain ⟨n, hnn⟩ : ∃ n, deps.length = n := ⟨_, rfl⟩
  rw [hnn] at HSC HNO hn ⊢
  have HN := Lib.hid hnn
  have HGD : Hid (∀ i, Good n (scopeF deps (deps.getD i []))) := Lib.hid (fun i => by have := scopeF_good deps (deps.getD i []); rwa [hnn] at this)
  clear hd hnn
  generalize loopB deps = R at *
  go_enter Try.func17, Try.ntmps17
  go_wp2
  go_loopg [3] n (fun g i wr => ∃ k : Nat, k + g = n ∧ i = .int .i64 (k : Int) ∧ Hid (Below w.heap.size w wr) ∧ Hid (∀ i, i < k → i ∉ scopeF deps (deps.getD i [])))
  case atStart => exact ⟨0, by omega, rfl, Lib.hid (Below.refl _ _), Lib.hid (fun i hi => by omega)⟩
  case round =>
    obtain ⟨k, hk, rfl, BW, HK⟩ := hrel
    cases gk with
    | zero =>
      have hke : k = n := by omega
      subst hke
      have HR := Lib.hid (HNO.out HK.out)
      go_wp2
      go_ret
      exact ⟨by rw [HR.out]; rfl, BW.out⟩
    | succ g =>
      have hlk : k < n := by omega
      obtain ⟨b2, o2, ai, ci, rfl, hlt3, hcdd, hri, hxi, hli⟩ := HD.out k (by rw [HN.out]; exact hlk)
      have hcd := (BW.out.cell (p := ⟨b2, o2 + k, none⟩) hlt3).trans hcdd
      have HRI := Lib.hid (hri.below BW.out)
      have HXI := Lib.hid hxi
      have HGK := Lib.hid (HGD.out k)
      have HYK := Lib.hid (HY.out k)
      have HKK : Hid (k ∉ scopeF deps (deps.getD k []) → ∀ i, i < k + 1 → i ∉ scopeF deps (deps.getD i [])) := Lib.hid (fun h i hi => by
        by_cases hik : i = k
        · rw [hik]; exact h
        · exact HK.out i (by omega))
      clear hcdd hri hxi
      have HSF := Lib.hid (HSC.out wr BW.out ai ci (deps.getD k []) HRI.out HXI.out (by omega))
      generalize deps.getD k [] = xs at *
      obtain ⟨S, hS⟩ : ∃ S, scopeF deps xs = S := ⟨_, rfl⟩
      rw [hS] at HSF HGK HYK HKK
      clear hS
      go_wp2_with fail
      refine HSF.out.mono ?_
      rintro e w5 ⟨a5, c5, rfl, ho5, hb5⟩
      have O5 := Lib.hid ho5
      have B5 := Lib.hid (BW.out.trans (hb5.mono BW.out.size))
      have hll := nodup_le HGK.out
      clear ho5 hb5
      have hhas := has_any a5 c5 (toI S) (k : Int) w5 O5.out.at.2.1 (by rw [toI_length]; omega)
      rw [toI_length] at hhas
      have HH := Lib.hid hhas
      clear hhas
      go_wp2_with fail
      refine HH.out.mono ?_
      rintro e w6 ⟨rfl, rfl⟩
      by_cases hm : k ∈ S
      · have hdm : decide ((k : Int) ∈ toI S) = true := by rw [decide_eq_true_eq]; exact (mem_toI (by omega)).2 (by simpa using hm)
        rw [hdm]
        have HR := Lib.hid (HYK.out hm)
        clear hdm hm
        go_wp2
        go_ret
        exact ⟨by rw [HR.out]; rfl, B5.out⟩
      · have hdm : decide ((k : Int) ∈ toI S) = false := by rw [decide_eq_false_iff_not]; exact fun h => hm (by simpa using (mem_toI (by omega)).1 h)
        rw [hdm]
        have HK2 := Lib.hid (HKK.out hm)
        clear hdm hm
        go_wp2
        go_roundg g
        case measure => omega
        case rel => exact ⟨k + 1, by omega, by go_num, B5, HK2⟩

set_option maxRecDepth 100000 in
set_option maxHeartbeats 4000000 in
theorem same_eq (a b : Option Addr) (c d m : Nat) (xs : List Int) (w : World) (hm : xs.length = m) (hml : m ≤ 140737488351232) (ha : Row .i64 w a xs) (hb : Row .i64 w b xs) :
    Calls Try.prog 9 #[.slice a m c, .slice b m d] w fun e w' => e = .returned (.bool true) ∧ Below w.heap.size w w' := by
  have HA := Lib.hid ha; clear ha
  have HB := Lib.hid hb; clear hb
  have HM := Lib.hid hm; clear hm
  go_enter Try.func9, Try.ntmps9
  go_wp2
  go_loopg [5] m (fun g i wr => ∃ k : Nat, k + g = m ∧ i = .int .i64 k ∧ Hid (Below w.heap.size w wr))
  case atStart => exact ⟨0, by omega, rfl, Lib.hid (Below.refl _ _)⟩
  case round =>
    obtain ⟨k, hk, rfl, hdr⟩ := hrel
    cases gk with
    | zero =>
      have hk' : k = m := by omega
      clear hk
      subst hk'
      go_wp2
      go_ret
      exact ⟨rfl, hdr.out⟩
    | succ g =>
      have hlt : k < m := by omega
      obtain ⟨b1, o1, rfl, p0⟩ := (HA.out.below hdr.out) k (by rw [HM.out]; exact hlt)
      obtain ⟨b2, o2, rfl, q0⟩ := (HB.out.below hdr.out) k (by rw [HM.out]; exact hlt)
      generalize xs.getD k 0 = x at *
      go_wp2
      go_quiet (fail)
      go_wp2
      go_roundg g
      case measure => omega
      case rel => exact ⟨k + 1, by omega, by go_num, Lib.hid (below_drewN hdr.out _)⟩
end Go.Proofs.Ytfckgagpfpnelaa
