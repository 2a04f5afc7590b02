/- Layer 2: the numbers of the pages that are mapped, collected. -/
import Derived.Test.YtbppajfpjhmcgaaVmKeys
import Derived.Test.YtbppajfpjhmcgaaVmSort
import Derived.Test.YtbppajfpjhmcgaaKit
import Derived.Shelf.Abstract
namespace Go.Proofs.Ytbppajfpjhmcgaa
open Go.RowKit
set_option linter.unusedVariables false
set_option linter.unusedSimpArgs false

attribute [local go_sem] Oper.semAt_some

theorem infoU64 : (Try.prog.info? 25).map (fun i => (i.zero, i.size, i.bytes)) = some (some (.int .u64 0), 1, 8) := by kernel_rfl

set_option maxRecDepth 100000 in
set_option maxHeartbeats 4000000 in
theorem append_in (n : Nat) (hn : 4 ≤ n) (Bm g c : Nat) (Q : Nat → Prop) (D : DataW Unit) (hQ : ∀ k, k < 18446744073709551616 → (Maps.has D (nk k) = true ↔ Q k)) (hQ64 : ∀ k, Q k → k < 18446744073709551616) (hsz : Maps.size D = c) (hc : c ≤ 65536) (w : World) (hBm : Bm < w.heap.size) (hm : w.cell? ⟨Bm, 0, none⟩ = some (.map (some g))) (hown : w.ownsMap Try.prog 25 ptrR g c D) :
    CallsIn Fence.wide n Try.prog 44 #[.slice none 0 0, .func (.func 43) #[] #[.pointer (some ⟨Bm, 0, none⟩)]] w fun e W' => ∃ v xs, e = .returned v ∧ AllOf Q c xs ∧ W'.ownsRow w.heap.size 25 1 v xs.length (xs.map encU) ∧ (v = .slice none 0 0 ↔ xs = []) ∧ Below w.heap.size w W' := by
  have h1 : 1 ≤ n := by omega
  obtain ⟨i0, hi, hz0, hz1, hz2⟩ := info_parts infoU64
  refine callsIn_of_wp_marks Try.func44 rfl trivial ?_ rfl
  simp only [Try.ntmps44, List.size_toArray, List.length_cons, List.length_nil, Nat.reduceAdd, Nat.reduceSub, Array.replicate_succ, Array.replicate_zero, List.push_toArray, List.append_toArray, List.nil_append, List.cons_append]
  gi_wp2
  have bO := Boxed.new w 24 (.slice none 0 0)
  have hB0 : Below w.heap.size w (w.alloc (.cells #[.slice none 0 0] 24)) := (Below.refl _ w).alloc (Nat.le_refl _) _
  have hown' : (w.alloc (.cells #[.slice none 0 0] 24)).ownsMap Try.prog 25 ptrR g c D := hown.alloc _
  refine wpIn_rangeFunc_ownF rfl h1 (gf := 43) (lb := #[.pointer (some ⟨Bm, 0, none⟩)]) rfl trivial (enters_of Try.func43 (by kernel_rfl) rfl)
    (keys_stops (n - 1) (by omega) Bm g c Q D hQ hQ64 hsz (w.alloc (.cells #[.slice none 0 0] 24)) (by simp; omega) ((hB0.cell (p := ⟨Bm, 0, none⟩) hBm).trans hm) hown') walksK_t walksK_b (Below.refl _ _) (fun _ => rfl)
    (fun pre W => (∃ v, Boxed W w.heap.size 24 v ∧ W.ownsRow w.heap.size 25 1 v pre.length (pre.map encU) ∧ (v = .slice none 0 0 ↔ pre = [])) ∧ Below w.heap.size w W)
    (fun _ _ _ => False)
    (OwnFrom.and (Own.from (holdsRow_own w.heap.size w.heap.size 24 25 1 (fun pre : List Nat => pre.length) (fun pre => pre.map encU) (fun pre v => v = .slice none 0 0 ↔ pre = [])) _) (ownFrom_below (Nat.le_refl _) (by simp)))
    (fun _ _ _ _ _ hs _ _ => hs)
    ⟨⟨_, bO, World.ownsRow_nil _ _ _ _, by simp⟩, hB0⟩
    (fun x => { tmps := #[.slice none 0 0, .func (.func 43) #[] #[.pointer (some ⟨Bm, 0, none⟩)], .pointer (some ⟨w.heap.size, 0, none⟩), undef, .slice none 0 0, .int .u64 ((x : Nat) : Int), .func (.func 43) #[] #[.pointer (some ⟨Bm, 0, none⟩)], .int .u64 ((x : Nat) : Int), undef, undef, undef, undef, undef], defers := [] }) ?assign ?body ?done ?stop
  case assign =>
    intro l x W K hK
    gi_wp2
    exact hK
  case body =>
    rintro l pre x W ⟨⟨v, hv, hrow, hnil⟩, hB⟩ hlt
    have hc1 := hv.cell
    gi_wp2_with (gi_at_builtin; refine wpListIn_append_own _ rfl _ _ 24 rfl w.heap.size 25 i0 (.int .u64 0) 1 8 Try.underlying24 hi hz0 hz1 hz2 rfl (by decide) _ _ _ rfl (hrow.alloc _) ⟨W.heap.size, 0, none⟩ 1 1 [.int .u64 ((x : Nat) : Int)] rfl rfl (cell_one_new _ _ _) (by simp [Value.oneCell']) (by unfold maxLen; omega) (by omega) (by have := hB.size; simp; omega) ?_; intro v' w1 hown' hgrow _; obtain ⟨g', cap', rfl⟩ := ownsRow_succ hown'; obtain ⟨hv1, hv2, hr2, hk2, hb2⟩ := hv.appended (by decide) hrow hB.size (Nat.le_refl _) hown' hgrow; have hc2 := hv1.cell; have hf2 := hv1.frozen)
    refine ⟨hk2, hk2.walks, ⟨_, hv2, ?_, by simp⟩, hB.trans hb2⟩
    simpa [encU] using hr2
  case done =>
    rintro D ys W hD hS ⟨⟨v, hv, hrow, hnil⟩, hB⟩ hK
    have hc2 := hv.cell
    gi_wp2
    refine ⟨by simp, .inl ⟨_, _, rfl, run_takeDeferred hK, ?_⟩⟩
    exact ⟨_, results_tmp rfl _ _ _, v, ys, rfl, hS, ownsRow_putObj hrow _ hK rfl, hnil, hB.trans (belowK_b (w := w) (Nat.le_refl _) W D _ _ (by simp at hD; omega) hK rfl rfl)⟩
  case stop =>
    rintro D c pre W _ _ h _
    exact h.elim

theorem own_lower {w : World} {b b' : Nat} {e : TypeId} {size : Nat} {v : Value} {n : Nat} {xs : List Value} (h : w.ownsRow b e size v n xs) (hb : b' ≤ b) : w.ownsRow b' e size v n xs := by
  rcases h.2 with h2 | ⟨g, cap, cur, h2, h3, h4⟩
  · exact ⟨h.1, .inl h2⟩
  · exact ⟨h.1, .inr ⟨g, cap, cur, h2, Nat.le_trans hb h3, h4⟩⟩

set_option maxRecDepth 100000 in
set_option maxHeartbeats 4000000 in
/-- the numbers of the pages that are mapped; of at most one page -/
theorem numbers_few (mb : Nat) (S : Nat → Prop) (q c : Nat) (V : Nat → Option Pg) (g : Nat) (F : Nat → Option Nat) (w : World) (h : VmAt w mb S q c V g F) (hc : c ≤ 1) :
    Calls Try.prog 31 #[.pointer (some ⟨mb, 0, none⟩)] w fun e w' => ∃ v xs, e = .returned v ∧ AllOf (fun k => V k ≠ none) c xs ∧ w'.ownsRow w.heap.size 25 1 v xs.length (xs.map encU) ∧ Below w.heap.size w w' := by
  have m1 : w.cell? ⟨mb, 1, none⟩ = some (.map (some g)) := by rw [cell_of_row _ _ 1 _ _ _ h.box]; rfl
  obtain ⟨D, hown, hsz, hD⟩ := h.map
  have hQ : ∀ k, k < 18446744073709551616 → (Maps.has D (nk k) = true ↔ V k ≠ none) := fun k hk => by
    rw [(hD k hk).2]
    constructor
    · intro hk2 e
      rw [h.at_none e] at hk2
      cases hk2
    · intro hk2
      cases hf : F k with
      | none => exact absurd (h.out k hf) hk2
      | some b => rfl
  have hQ64 : ∀ k, V k ≠ none → k < 18446744073709551616 := fun k hk => by have := h.low k hk; omega
  have HA : Hid (Calls Try.prog 44 #[.slice none 0 0, .func (.func 43) #[] #[.pointer (some ⟨w.heap.size, 0, none⟩)]] (w.alloc (.cells #[.map (some g)] 63)) fun e W' => ∃ v xs, e = .returned v ∧ AllOf (fun k => V k ≠ none) c xs ∧ W'.ownsRow (w.alloc (.cells #[.map (some g)] 63)).heap.size 25 1 v xs.length (xs.map encU) ∧ (v = .slice none 0 0 ↔ xs = []) ∧ Below (w.alloc (.cells #[.map (some g)] 63)).heap.size (w.alloc (.cells #[.map (some g)] 63)) W') :=
    Lib.hid ((callsIn_wide (n := 6)).1 (append_in 6 (by omega) w.heap.size g c _ D hQ hQ64 hsz (by omega) (w.alloc (.cells #[.map (some g)] 63)) (by simp) (by rw [World.cell?_alloc_new]; rfl) (hown.alloc _)))
  have HC := Lib.hid hc
  clear h hown hsz hD hQ hQ64 hc
  have HK : ∀ wx : World, Calls Try.prog 39 #[.map (some g)] wx fun e w' => e = .returned (.func (.func 43) #[] #[.pointer (some ⟨wx.heap.size, 0, none⟩)]) ∧ w' = wx.alloc (.cells #[.map (some g)] 63) := fun wx => by
    go_enter Try.func39, Try.ntmps39
    go_wp2_with fail
    go_ret
    exact ⟨rfl, rfl⟩
  have HC2 : Hid (Calls Try.prog 41 #[.func (.func 43) #[] #[.pointer (some ⟨w.heap.size, 0, none⟩)]] (w.alloc (.cells #[.map (some g)] 63)) fun e W' => ∃ v xs, e = .returned v ∧ AllOf (fun k => V k ≠ none) c xs ∧ W'.ownsRow (w.alloc (.cells #[.map (some g)] 63)).heap.size 25 1 v xs.length (xs.map encU) ∧ (v = .slice none 0 0 ↔ xs = []) ∧ Below (w.alloc (.cells #[.map (some g)] 63)).heap.size (w.alloc (.cells #[.map (some g)] 63)) W') := Lib.hid (by
    clear HK m1
    generalize (w.alloc (.cells #[.map (some g)] 63)) = w1 at *
    generalize w.heap.size = r at *
    go_enter Try.func41, Try.ntmps41
    go_wp2_with fail
    refine HA.out.mono ?_
    rintro e w2 ⟨v, xs, rfl, h1, h2, h3, h4⟩
    have HE := Lib.hid (And.intro h1 (And.intro h2 (And.intro h3 h4)))
    clear h1 h2 h3 h4
    go_wp2_with fail
    go_ret
    exact ⟨v, xs, rfl, HE.out⟩)
  have HS : Hid (Calls Try.prog 38 #[.func (.func 43) #[] #[.pointer (some ⟨w.heap.size, 0, none⟩)]] (w.alloc (.cells #[.map (some g)] 63)) fun e W' => ∃ v xs, e = .returned v ∧ AllOf (fun k => V k ≠ none) c xs ∧ W'.ownsRow (w.alloc (.cells #[.map (some g)] 63)).heap.size 25 1 v xs.length (xs.map encU) ∧ (v = .slice none 0 0 ↔ xs = []) ∧ Below (w.alloc (.cells #[.map (some g)] 63)).heap.size (w.alloc (.cells #[.map (some g)] 63)) W') := Lib.hid (by
    clear HK m1 HA
    generalize (w.alloc (.cells #[.map (some g)] 63)) = w1 at *
    generalize w.heap.size = r at *
    go_enter Try.func38, Try.ntmps38
    go_wp2_with fail
    refine HC2.out.mono ?_
    rintro e w2 ⟨v, xs, rfl, h1, h2, h3, h4⟩
    obtain ⟨a9, n9, c9, rfl, hn9⟩ : ∃ a9 n9 c9, v = .slice a9 n9 c9 ∧ n9 ≤ 1 := by
      have hx : xs.length ≤ 1 := Nat.le_trans h1.2.2 HC.out
      rcases h2.2 with ⟨h5, h6⟩ | ⟨g', cap', cur, h5, -⟩
      · exact ⟨_, _, _, h5, by omega⟩
      · exact ⟨_, _, _, h5, hx⟩
    have HSO := Lib.hid (sort_few a9 n9 c9 hn9 w2)
    have HE := Lib.hid (And.intro h1 (And.intro h2 (And.intro h3 h4)))
    clear h1 h2 h3 h4
    go_wp2_with fail
    refine HSO.out.mono ?_
    rintro e w3 ⟨⟨u, rfl⟩, rfl⟩
    clear HSO
    go_wp2_with fail
    go_ret
    exact ⟨_, xs, rfl, HE.out⟩)
  have HKK := Lib.hid (HK w)
  have B1 : Hid (Below w.heap.size w (w.alloc (.cells #[.map (some g)] 63))) := Lib.hid ((Below.refl _ _).alloc (Nat.le_refl _) _)
  clear HK HA HC2
  go_enter Try.func31, Try.ntmps31
  go_wp2_with fail
  refine HKK.out.mono ?_
  rintro e w2 ⟨rfl, rfl⟩
  go_wp2_with fail
  refine HS.out.mono ?_
  rintro e w3 ⟨v, xs, rfl, h1, h2, h3, h4⟩
  have HE := Lib.hid (And.intro h1 (And.intro h2 h4))
  clear h1 h2 h3 h4 HS HKK
  go_wp2_with fail
  go_ret
  obtain ⟨h1, h2, h4⟩ := HE.out
  exact ⟨v, xs, rfl, h1, own_lower h2 (by simp), bstep B1.out h4⟩
end Go.Proofs.Ytbppajfpjhmcgaa
