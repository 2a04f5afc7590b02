/- Layer 2: the numbers of the pages that are mapped, as an iterator tells them. -/
import Derived.Test.YtjiifaeehhpkcaaVm
import Derived.RangeFuncNested
import Derived.RangeFuncBound
import Derived.RangeFuncCalls
import Derived.RangeFuncLeaves
import Derived.RangeFuncBox
import Derived.TacticsInMore
import Derived.LoopNIn
import Derived.LoopIn
import Derived.OwnWalkIn
import Derived.Sort.MapsRangeIn
import Derived.Maps.OwnIn
import Derived.Maps.AppendAt
import Derived.Test.YtjiifaeehhpkcaaBase
import Derived.Lib.Tables
import Derived.WalkMore
import Derived.Deep.LoopGhost
import Derived.Test.YtjiifaeehhpkcaaKit
import Derived.Shelf.Abstract
import Derived.Test.YtjiifaeehhpkcaaMakeN
import Derived.Deep.DeepCutAuto
import Derived.Deep.RegionLaw
import Derived.BigQuiet
namespace Go.Proofs.Ytjiifaeehhpkcaa
open Go.RowKit
set_option linter.unusedVariables false
set_option linter.unusedSimpArgs false

attribute [local go_sem] Oper.semAt_some

def encU (k : Nat) : Value := .int .u64 ((k : Nat) : Int)
/-- the numbers that have come: each once, all that are no longer to come -/
def Came (Q : Nat → Prop) (left : Lit → Bool) (xs : List Nat) : Prop := xs.Nodup ∧ (∀ k ∈ xs, Q k) ∧ ∀ k, Q k → (left (nk k) = true ↔ k ∉ xs)
/-- all of them, each once -/
def AllOf (Q : Nat → Prop) (c : Nat) (xs : List Nat) : Prop := xs.Nodup ∧ (∀ k, k ∈ xs ↔ Q k) ∧ xs.length ≤ c
theorem Came.all {Q : Nat → Prop} {left : Lit → Bool} {xs : List Nat} (h : Came Q left xs) {c : Nat} (hc : xs.length ≤ c) (hl : ∀ kl, left kl = false) : AllOf Q c xs := ⟨h.1, (fun k => ⟨h.2.1 k, fun hq => by
  by_cases e : k ∈ xs
  · exact e
  · have := (h.2.2 k hq).2 e
    rw [hl] at this
    cases this⟩), hc⟩
theorem Came.step {Q : Nat → Prop} {left : Lit → Bool} {xs : List Nat} (h : Came Q left xs) {k : Nat} (hq : Q k) (hk64 : k < 18446744073709551616) (hl : left (nk k) = true) : Came Q (fun z => left z && !z.sameKey (nk k)) (xs ++ [k]) := by
  have hk : k ∉ xs := (h.2.2 k hq).1 hl
  refine ⟨?_, ?_, ?_⟩
  · rw [List.nodup_append]
    exact ⟨h.1, by simp, fun a ha b hb => by
      obtain rfl : b = k := by simpa using hb
      intro e
      exact hk (e ▸ ha)⟩
  · intro j hj
    rcases List.mem_append.1 hj with hj | hj
    · exact h.2.1 j hj
    · obtain rfl : j = k := by simpa using hj
      exact hq
  · intro j hj
    show (left (nk j) && !(nk j).sameKey (nk k)) = true ↔ _
    by_cases e : j = k
    · subst e
      have hself : (nk j).sameKey (nk j) = true := WideAt.sameKey_self ((Maps.int_keyed Try.underlying22).key (Maps.keyOf_int_mk Try.underlying22 (nk_wf hk64)))
      rw [hself]
      simp
    · rw [Maps.sameKey_ne (fun e2 => e (nk_inj e2))]
      simp only [Bool.not_false, Bool.and_true, List.mem_append, List.mem_singleton, not_or]
      rw [h.2.2 j hj]
      exact ⟨fun h1 => ⟨h1, e⟩, fun h1 => h1.1⟩

set_option maxRecDepth 100000 in
set_option maxHeartbeats 4000000 in
theorem keys1_in (n : Nat) (hn : 1 ≤ n) (l Bm g c : Nat) (Q : Nat → Prop) (D : DataW Unit) (hQ : ∀ k, k < 18446744073709551616 → (Maps.has D (nk k) = true ↔ Q k)) (hQ64 : ∀ k, Q k → k < 18446744073709551616) (hsz : Maps.size D = c) (J Jx : List Nat → World → Prop)
    (hY : ∀ pre x W, J pre W → pre.length < c → YieldAt Fence.wide (n - 1) Try.prog l #[encU x] W fun e W' => (e = .returned (.bool true) ∧ J (pre ++ [x]) W' ∧ KeepsWalks W W') ∨ (e = .returned (.bool false) ∧ Jx (pre ++ [x]) W'))
    (W : World) (hJ : AbidesFrom W.heap.size J) (hm : W.cell? ⟨Bm, 0, none⟩ = some (.map (some g))) (hown : W.ownsMap Try.prog 22 ptrR g c D) (h0 : J [] W) :
    CallsIn Fence.wide n Try.prog 58 #[.func (.yield l) #[] #[], .pointer (some ⟨Bm, 0, none⟩)] W fun e W' => (∃ v, e = .returned v) ∧ ((∃ xs, AllOf Q c xs ∧ J xs W') ∨ (∃ pre, True ∧ Jx pre W')) := by
  have law := Maps.int_keyed (P := Try.prog) (k := 22) Try.underlying22
  refine callsIn_of_wp Try.func58 rfl trivial ?_ rfl
  simp only [Try.ntmps58, List.size_toArray, List.length_cons, List.length_nil, Nat.reduceAdd, Nat.reduceSub, Array.replicate_succ, Array.replicate_zero, List.push_toArray, List.append_toArray, List.nil_append, List.cons_append]
  gi_wp2_with (first
    | (gi_at_range; refine wpListIn_range_own _ rfl _ 75 rfl 22 81 law Try.underlying75 _ g c D rfl hown ?_; intro w0 hrg0 hg0 hs0)
    | gi_in)
  have hQR : ∀ key kl, keyOf Try.prog 22 key = some kl → ∃ k : Nat, key = encU k := fun key kl hh => by
    obtain ⟨x, e, -, hw⟩ := Maps.keyOf_int_inv Try.underlying22 hh
    have := wf_u64_bounds hw
    exact ⟨x.toNat, by rw [e]; unfold encU; rw [show ((x.toNat : Nat) : Int) = x from by omega]⟩
  rw [hsz] at hrg0
  go_frame
  gi_loopw [3] (fun _ wr => ∃ (left : Lit → Bool) (cnt : Nat) (xs : List Nat), wr.ranges Try.prog 22 ptrR g W.heap.size c D left cnt ∧ xs.length + cnt ≤ c ∧ Came Q left xs ∧ J xs wr)
    (fun _ wr => wr.rangeLeft g W.heap.size)
  case atStart =>
    exact ⟨_, _, [], hrg0, by simp, ⟨by simp, (fun k hk => by cases hk), fun k hk => ⟨fun _ => by simp, fun _ => (hQ k (hQ64 k hk)).2 hk⟩⟩, hJ [] W w0 none h0 hg0 (fun r e => by cases e)⟩
  case round =>
    obtain ⟨left, cnt, xs, hrg, hcs, hC, hJs⟩ := hrel
    gi_wp2_with (first
      | (gi_at_next; refine wpListIn_next_ranges _ rfl _ rfl 22 law ptrR encU ptrV hQR (fun v y hv => by obtain ⟨o, e, -⟩ := ptrR_inv hv; exact ⟨o, e⟩) g W.heap.size c _ _ _ rfl hrg ?_ ?_)
      | gi_in)
    · intro hc0 hl0
      gi_wp2
      go_end0
      exact ⟨⟨_, rfl⟩, .inl ⟨xs, hC.all (by omega) hl0, hJs⟩⟩
    · intro x o kl yd yp w2 cnt2 hkey hlk hv hat hrg2 hlt hg2 hs2 hen
      have hkl : kl = nk x ∧ x < 18446744073709551616 := by
        obtain ⟨x', ex, e2, hw⟩ := Maps.keyOf_int_inv Try.underlying22 hkey
        unfold encU at ex
        simp only [Value.int.injEq, true_and] at ex
        subst ex
        have := wf_u64_bounds hw
        unfold M64 at this
        exact ⟨e2, by omega⟩
      obtain ⟨rfl, hx64⟩ := hkl
      have hJ2 : J xs w2 := hJ xs wr w2 (some W.heap.size) hJs hg2 (fun r e => by cases e; exact ⟨Nat.le_refl _, hrg.iter_walk⟩)
      obtain ⟨fn, tmps, assign, body, hy, hR⟩ := hY xs x w2 hJ2 (by omega)
      have hC2 := hC.step ((hQ x hx64).1 (Maps.has_true_of_atKey hat)) hx64 hlk
      clear hs2
      unfold encU at hen hy ⊢
      gi_wp2
      refine hR.mono ?_
      rintro e W3 (⟨rfl, hJ3, hk3⟩ | ⟨rfl, hJx3⟩)
      · gi_wp2
        have hrg3 := hrg2.of_walks hk3
        go_roundw
        case rel => exact ⟨_, cnt2, xs ++ [x], hrg3, by simp; omega, hC2, hJ3⟩
        case measure => rw [hrg3.left_eq, hrg.left_eq]; exact hlt
      · gi_wp2
        refine bodyPost_ret (results_none rfl _ _ _) rfl ?_
        exact ⟨⟨_, rfl⟩, .inr ⟨xs ++ [x], trivial, hJx3⟩⟩

/-- an iterator over a map's keys -/
theorem keys_stops (n : Nat) (hn : 1 ≤ n) (Bm g c : Nat) (Q : Nat → Prop) (D : DataW Unit) (hQ : ∀ k, k < 18446744073709551616 → (Maps.has D (nk k) = true ↔ Q k)) (hQ64 : ∀ k, Q k → k < 18446744073709551616) (hsz : Maps.size D = c) (w : World) (hBm : Bm < w.heap.size) (hm : w.cell? ⟨Bm, 0, none⟩ = some (.map (some g))) (hown : w.ownsMap Try.prog 22 ptrR g c D) :
    SeqStopsK Fence.wide n Try.prog 58 #[.pointer (some ⟨Bm, 0, none⟩)] (fun x : Nat => #[encU x]) KeepsWalks (AllOf Q c) (fun _ => True) c w := fun l J Jx W hW hJ _ hY h0 => by
  have hown' : W.ownsMap Try.prog 22 ptrR g c D := by
    have hbl := hown.lt
    obtain ⟨es, clock, hb, Ft, hs, hD⟩ := hown
    exact ⟨es, clock, (hW.block g hbl).trans hb, Ft, hs, hD⟩
  exact keys1_in n hn l Bm g c Q D hQ hQ64 hsz J Jx hY W hJ ((hW.cell (p := ⟨Bm, 0, none⟩) hBm).trans hm) hown' h0
end Go.Proofs.Ytjiifaeehhpkcaa
/- Layer 2: a list of at most one number is sorted. -/
namespace Go.Proofs.Ytjiifaeehhpkcaa
open Go.RowKit
set_option linter.unusedVariables false
set_option linter.unusedSimpArgs false

theorem blen_small (n : Nat) (hn : n < 256) (w : World) : Calls Try.prog 63 #[.int .u64 (n : Int)] w fun e w' => (∃ L, e = .returned (.int .i64 L)) ∧ w = w' := by
  have h0 : (0 : Int) ≤ (n : Int) := by omega
  have h1 : (n : Int) ≤ 255 := by omega
  have h2 : ¬ (4294967296 : Int) ≤ (n : Int) := by omega
  have h3 : ¬ (65536 : Int) ≤ (n : Int) := by omega
  have h4 : ¬ (256 : Int) ≤ (n : Int) := by omega
  have h5 : IntKind.u8.wrap (n : Int) = (n : Int) := by rw [IntKind.wrap_u8]; omega
  have H : Calls Try.prog 74 #[.int .u64 (n : Int)] w fun e w' => (∃ L, e = .returned (.int .i64 L)) ∧ w = w' := by
    clear hn
    go_enter Try.func74, Try.ntmps74
    go_wp2_with fail
    go_ret
    exact ⟨⟨_, rfl⟩, rfl⟩
  clear h0 h1 h2 h3 h4 h5 hn
  go_enter Try.func63, Try.ntmps63
  go_wp2_with (go_at_call 74; refine H.mono ?_; rintro e w' ⟨⟨L, rfl⟩, rfl⟩)
  go_ret
  exact ⟨⟨_, rfl⟩, rfl⟩

set_option maxRecDepth 100000 in
set_option maxHeartbeats 4000000 in
/-- a list of no number or of one is sorted already -/
theorem sort_few (a : Option Addr) (n cap : Nat) (hn : n ≤ 1) (w : World) : Calls Try.prog 57 #[.slice a n cap] w fun e w' => (∃ v, e = .returned v) ∧ w = w' := by
  have HI : ∀ wx : World, Calls Try.prog 64 #[.slice a n cap, .int .i64 0, .int .i64 (n : Int)] wx fun e w' => (∃ v, e = .returned v) ∧ wx = w' := fun wx => by
    have h1 : ¬ (1 : Int) < (n : Int) := by omega
    clear hn
    go_enter Try.func64, Try.ntmps64
    go_wp2_with fail
    go_loopg [6] 1 (fun g x wr => x = .int .i64 1 ∧ wx = wr)
    case atStart => exact ⟨rfl, rfl⟩
    case round =>
      obtain ⟨rfl, rfl⟩ := hrel
      go_wp2_with fail
      go_end0
      exact ⟨⟨_, rfl⟩, rfl⟩
  have HP : ∀ (wx : World) (L : Int), Calls Try.prog 62 #[.slice a n cap, .int .i64 0, .int .i64 (n : Int), .int .i64 L] wx fun e w' => (∃ v, e = .returned v) ∧ wx = w' := fun wx L => by
    have h1 : (n : Int) ≤ 12 := by omega
    have h2 : wrap64 (n : Int) = (n : Int) := IntWalk.wrap64_in _ ⟨by omega, by omega⟩
    have h3 : IntKind.i64.wrap (n : Int) = (n : Int) := IntWalk.i64_in _ ⟨by omega, by omega⟩
    have HI2 := Lib.hid (HI wx)
    clear hn HI
    go_enter Try.func62, Try.ntmps62
    go_wp2_with fail
    go_loopg [1, 2, 3, 8, 9] 1 (fun g x1 x2 x3 x8 x9 wr => x1 = .int .i64 0 ∧ x2 = .int .i64 (n : Int) ∧ wx = wr)
    case atStart => exact ⟨rfl, rfl, rfl⟩
    case round =>
      obtain ⟨rfl, rfl, rfl⟩ := hrel
      go_wp2_with fail
      refine HI2.out.mono ?_
      rintro e w' ⟨⟨v, rfl⟩, rfl⟩
      go_wp2_with fail
      refine bodyPost_ret (results_none rfl _ _ _) rfl ?_
      exact ⟨⟨_, rfl⟩, rfl⟩
  have HL := Lib.hid (blen_small n (by omega) w)
  have h1 : IntKind.u64.wrap (n : Int) = (n : Int) := by rw [IntKind.wrap_u64]; omega
  have HP2 := Lib.hid (HP w)
  clear hn HI HP
  go_enter Try.func57, Try.ntmps57
  go_wp2_with (go_at_call 63; refine HL.out.mono ?_; rintro e w' ⟨⟨L, rfl⟩, rfl⟩)
  refine (HP2.out L).mono ?_
  rintro e w' ⟨⟨v, rfl⟩, rfl⟩
  go_wp2_with fail
  go_end0
  exact ⟨⟨_, rfl⟩, rfl⟩
end Go.Proofs.Ytjiifaeehhpkcaa
/- Layer 2: the numbers of the pages that are mapped, collected. -/
namespace Go.Proofs.Ytjiifaeehhpkcaa
open Go.RowKit
set_option linter.unusedVariables false
set_option linter.unusedSimpArgs false

attribute [local go_sem] Oper.semAt_some

theorem infoU64 : (Try.prog.info? 22).map (fun i => (i.zero, i.size, i.bytes)) = some (some (.int .u64 0), 1, 8) := by kernel_rfl

set_option maxRecDepth 100000 in
set_option maxHeartbeats 4000000 in
theorem append_in (n : Nat) (hn : 4 ≤ n) (Bm g c : Nat) (Q : Nat → Prop) (D : DataW Unit) (hQ : ∀ k, k < 18446744073709551616 → (Maps.has D (nk k) = true ↔ Q k)) (hQ64 : ∀ k, Q k → k < 18446744073709551616) (hsz : Maps.size D = c) (hc : c ≤ 65536) (w : World) (hBm : Bm < w.heap.size) (hm : w.cell? ⟨Bm, 0, none⟩ = some (.map (some g))) (hown : w.ownsMap Try.prog 22 ptrR g c D) :
    CallsIn Fence.wide n Try.prog 61 #[.slice none 0 0, .func (.func 58) #[] #[.pointer (some ⟨Bm, 0, none⟩)]] w fun e W' => ∃ v xs, e = .returned v ∧ AllOf Q c xs ∧ W'.ownsRow w.heap.size 22 1 v xs.length (xs.map encU) ∧ (v = .slice none 0 0 ↔ xs = []) ∧ Below w.heap.size w W' := by
  have h1 : 1 ≤ n := by omega
  obtain ⟨i0, hi, hz0, hz1, hz2⟩ := info_parts infoU64
  refine callsIn_of_wp_marks Try.func61 rfl trivial ?_ rfl
  simp only [Try.ntmps61, List.size_toArray, List.length_cons, List.length_nil, Nat.reduceAdd, Nat.reduceSub, Array.replicate_succ, Array.replicate_zero, List.push_toArray, List.append_toArray, List.nil_append, List.cons_append]
  gi_wp2
  have bO := Boxed.new w 26 (.slice none 0 0)
  have hB0 : Below w.heap.size w (w.alloc (.cells #[.slice none 0 0] 26)) := (Below.refl _ w).alloc (Nat.le_refl _) _
  have hown' : (w.alloc (.cells #[.slice none 0 0] 26)).ownsMap Try.prog 22 ptrR g c D := hown.alloc _
  refine wpIn_rangeFunc_ownF rfl h1 (gf := 58) (lb := #[.pointer (some ⟨Bm, 0, none⟩)]) rfl trivial (enters_of Try.func58 (by kernel_rfl) rfl)
    (keys_stops (n - 1) (by omega) Bm g c Q D hQ hQ64 hsz (w.alloc (.cells #[.slice none 0 0] 26)) (by simp; omega) ((hB0.cell (p := ⟨Bm, 0, none⟩) hBm).trans hm) hown') walksK_t walksK_b (Below.refl _ _) (fun _ => rfl)
    (fun pre W => (∃ v, Boxed W w.heap.size 26 v ∧ W.ownsRow w.heap.size 22 1 v pre.length (pre.map encU) ∧ (v = .slice none 0 0 ↔ pre = [])) ∧ Below w.heap.size w W)
    (fun _ _ _ => False)
    (OwnFrom.and (Own.from (holdsRow_own w.heap.size w.heap.size 26 22 1 (fun pre : List Nat => pre.length) (fun pre => pre.map encU) (fun pre v => v = .slice none 0 0 ↔ pre = [])) _) (ownFrom_below (Nat.le_refl _) (by simp)))
    (fun _ _ _ _ _ hs _ _ => hs)
    ⟨⟨_, bO, World.ownsRow_nil _ _ _ _, by simp⟩, hB0⟩
    (fun x => { tmps := #[.slice none 0 0, .func (.func 58) #[] #[.pointer (some ⟨Bm, 0, none⟩)], .pointer (some ⟨w.heap.size, 0, none⟩), undef, .slice none 0 0, .int .u64 ((x : Nat) : Int), .func (.func 58) #[] #[.pointer (some ⟨Bm, 0, none⟩)], .int .u64 ((x : Nat) : Int), undef, undef, undef, undef, undef], defers := [] }) ?assign ?body ?done ?stop
  case assign =>
    intro l x W K hK
    gi_wp2
    exact hK
  case body =>
    rintro l pre x W ⟨⟨v, hv, hrow, hnil⟩, hB⟩ hlt
    have hc1 := hv.cell
    gi_wp2_with (gi_at_builtin; refine wpListIn_append_own _ rfl _ _ 26 rfl w.heap.size 22 i0 (.int .u64 0) 1 8 Try.underlying26 hi hz0 hz1 hz2 rfl (by decide) _ _ _ rfl (hrow.alloc _) ⟨W.heap.size, 0, none⟩ 1 1 [.int .u64 ((x : Nat) : Int)] rfl rfl (cell_one_new _ _ _) (by simp [Value.oneCell']) (by unfold maxLen; omega) (by omega) (by have := hB.size; simp; omega) ?_; intro v' w1 hown' hgrow _; obtain ⟨g', cap', rfl⟩ := ownsRow_succ hown'; obtain ⟨hv1, hv2, hr2, hk2, hb2⟩ := hv.appended (by decide) hrow hB.size (Nat.le_refl _) hown' hgrow; have hc2 := hv1.cell; have hf2 := hv1.frozen)
    refine ⟨hk2, hk2.walks, ⟨_, hv2, ?_, by simp⟩, hB.trans hb2⟩
    simpa [encU] using hr2
  case done =>
    rintro D ys W hD hS ⟨⟨v, hv, hrow, hnil⟩, hB⟩ hK
    have hc2 := hv.cell
    gi_wp2
    refine ⟨by simp, .inl ⟨_, _, rfl, run_takeDeferred hK, ?_⟩⟩
    exact ⟨_, results_tmp rfl _ _ _, v, ys, rfl, hS, ownsRow_putObj hrow _ hK rfl, hnil, hB.trans (belowK_b (w := w) (Nat.le_refl _) W D _ _ (by simp at hD; omega) hK rfl rfl)⟩
  case stop =>
    rintro D c pre W _ _ h _
    exact h.elim

theorem own_lower {w : World} {b b' : Nat} {e : TypeId} {size : Nat} {v : Value} {n : Nat} {xs : List Value} (h : w.ownsRow b e size v n xs) (hb : b' ≤ b) : w.ownsRow b' e size v n xs := by
  rcases h.2 with h2 | ⟨g, cap, cur, h2, h3, h4⟩
  · exact ⟨h.1, .inl h2⟩
  · exact ⟨h.1, .inr ⟨g, cap, cur, h2, Nat.le_trans hb h3, h4⟩⟩

set_option maxRecDepth 100000 in
set_option maxHeartbeats 4000000 in
/-- the numbers of the pages that are mapped; of at most one page -/
theorem numbers_few (mb : Nat) (S : Nat → Prop) (q c : Nat) (V : Nat → Option Pg) (g : Nat) (F : Nat → Option Nat) (w : World) (h : VmAt w mb S q c V g F) (hc : c ≤ 1) :
    Calls Try.prog 34 #[.pointer (some ⟨mb, 0, none⟩)] w fun e w' => ∃ v xs, e = .returned v ∧ AllOf (fun k => V k ≠ none) c xs ∧ w'.ownsRow w.heap.size 22 1 v xs.length (xs.map encU) ∧ Below w.heap.size w w' := by
  have m1 : w.cell? ⟨mb, 1, none⟩ = some (.map (some g)) := by rw [cell_of_row _ _ 1 _ _ _ h.box]; rfl
  obtain ⟨D, hown, hsz, hD⟩ := h.map
  have hQ : ∀ k, k < 18446744073709551616 → (Maps.has D (nk k) = true ↔ V k ≠ none) := fun k hk => by
    rw [(hD k hk).2]
    constructor
    · intro hk2 e
      rw [h.at_none e] at hk2
      cases hk2
    · intro hk2
      cases hf : F k with
      | none => exact absurd (h.out k hf) hk2
      | some b => rfl
  have hQ64 : ∀ k, V k ≠ none → k < 18446744073709551616 := fun k hk => by have := h.low k hk; omega
  have HA : Hid (Calls Try.prog 61 #[.slice none 0 0, .func (.func 58) #[] #[.pointer (some ⟨w.heap.size, 0, none⟩)]] (w.alloc (.cells #[.map (some g)] 75)) fun e W' => ∃ v xs, e = .returned v ∧ AllOf (fun k => V k ≠ none) c xs ∧ W'.ownsRow (w.alloc (.cells #[.map (some g)] 75)).heap.size 22 1 v xs.length (xs.map encU) ∧ (v = .slice none 0 0 ↔ xs = []) ∧ Below (w.alloc (.cells #[.map (some g)] 75)).heap.size (w.alloc (.cells #[.map (some g)] 75)) W') :=
    Lib.hid ((callsIn_wide (n := 6)).1 (append_in 6 (by omega) w.heap.size g c _ D hQ hQ64 hsz (by omega) (w.alloc (.cells #[.map (some g)] 75)) (by simp) (by rw [World.cell?_alloc_new]; rfl) (hown.alloc _)))
  have HC := Lib.hid hc
  clear h hown hsz hD hQ hQ64 hc
  have HK : ∀ wx : World, Calls Try.prog 51 #[.map (some g)] wx fun e w' => e = .returned (.func (.func 58) #[] #[.pointer (some ⟨wx.heap.size, 0, none⟩)]) ∧ w' = wx.alloc (.cells #[.map (some g)] 75) := fun wx => by
    go_enter Try.func51, Try.ntmps51
    go_wp2_with fail
    go_ret
    exact ⟨rfl, rfl⟩
  have HC2 : Hid (Calls Try.prog 56 #[.func (.func 58) #[] #[.pointer (some ⟨w.heap.size, 0, none⟩)]] (w.alloc (.cells #[.map (some g)] 75)) fun e W' => ∃ v xs, e = .returned v ∧ AllOf (fun k => V k ≠ none) c xs ∧ W'.ownsRow (w.alloc (.cells #[.map (some g)] 75)).heap.size 22 1 v xs.length (xs.map encU) ∧ (v = .slice none 0 0 ↔ xs = []) ∧ Below (w.alloc (.cells #[.map (some g)] 75)).heap.size (w.alloc (.cells #[.map (some g)] 75)) W') := Lib.hid (by
    clear HK m1
    generalize (w.alloc (.cells #[.map (some g)] 75)) = w1 at *
    generalize w.heap.size = r at *
    go_enter Try.func56, Try.ntmps56
    go_wp2_with fail
    refine HA.out.mono ?_
    rintro e w2 ⟨v, xs, rfl, h1, h2, h3, h4⟩
    have HE := Lib.hid (And.intro h1 (And.intro h2 (And.intro h3 h4)))
    clear h1 h2 h3 h4
    go_wp2_with fail
    go_ret
    exact ⟨v, xs, rfl, HE.out⟩)
  have HS : Hid (Calls Try.prog 50 #[.func (.func 58) #[] #[.pointer (some ⟨w.heap.size, 0, none⟩)]] (w.alloc (.cells #[.map (some g)] 75)) fun e W' => ∃ v xs, e = .returned v ∧ AllOf (fun k => V k ≠ none) c xs ∧ W'.ownsRow (w.alloc (.cells #[.map (some g)] 75)).heap.size 22 1 v xs.length (xs.map encU) ∧ (v = .slice none 0 0 ↔ xs = []) ∧ Below (w.alloc (.cells #[.map (some g)] 75)).heap.size (w.alloc (.cells #[.map (some g)] 75)) W') := Lib.hid (by
    clear HK m1 HA
    generalize (w.alloc (.cells #[.map (some g)] 75)) = w1 at *
    generalize w.heap.size = r at *
    go_enter Try.func50, Try.ntmps50
    go_wp2_with fail
    refine HC2.out.mono ?_
    rintro e w2 ⟨v, xs, rfl, h1, h2, h3, h4⟩
    obtain ⟨a9, n9, c9, rfl, hn9⟩ : ∃ a9 n9 c9, v = .slice a9 n9 c9 ∧ n9 ≤ 1 := by
      have hx : xs.length ≤ 1 := Nat.le_trans h1.2.2 HC.out
      rcases h2.2 with ⟨h5, h6⟩ | ⟨g', cap', cur, h5, -⟩
      · exact ⟨_, _, _, h5, by omega⟩
      · exact ⟨_, _, _, h5, hx⟩
    have HSO := Lib.hid (sort_few a9 n9 c9 hn9 w2)
    have HE := Lib.hid (And.intro h1 (And.intro h2 (And.intro h3 h4)))
    clear h1 h2 h3 h4
    go_wp2_with fail
    refine HSO.out.mono ?_
    rintro e w3 ⟨⟨u, rfl⟩, rfl⟩
    clear HSO
    go_wp2_with fail
    go_ret
    exact ⟨_, xs, rfl, HE.out⟩)
  have HKK := Lib.hid (HK w)
  have B1 : Hid (Below w.heap.size w (w.alloc (.cells #[.map (some g)] 75))) := Lib.hid ((Below.refl _ _).alloc (Nat.le_refl _) _)
  clear HK HA HC2
  go_enter Try.func34, Try.ntmps34
  go_wp2_with fail
  refine HKK.out.mono ?_
  rintro e w2 ⟨rfl, rfl⟩
  go_wp2_with fail
  refine HS.out.mono ?_
  rintro e w3 ⟨v, xs, rfl, h1, h2, h3, h4⟩
  have HE := Lib.hid (And.intro h1 (And.intro h2 h4))
  clear h1 h2 h3 h4 HS HKK
  go_wp2_with fail
  go_ret
  obtain ⟨h1, h2, h4⟩ := HE.out
  exact ⟨v, xs, rfl, h1, own_lower h2 (by simp), bstep B1.out h4⟩
end Go.Proofs.Ytjiifaeehhpkcaa
/- Insertion sort of numbers: what stays true, what it comes to. Nothing of the program is named. -/
namespace Go.Proofs.Ytjiifaeehhpkcaa
open Go.RowKit
set_option linter.unusedVariables false
set_option linter.unusedSimpArgs false

/-- the first so many rise -/
def UpTo (xs : List Nat) (i : Nat) : Prop := ∀ p q, p < q → q < i → xs.getD p 0 ≤ xs.getD q 0
/-- the first so many and one rise, but for one place, that is no more than those behind it -/
def UpBut (xs : List Nat) (i j : Nat) : Prop := (∀ p q, p < q → q ≤ i → p ≠ j → q ≠ j → xs.getD p 0 ≤ xs.getD q 0) ∧ ∀ q, j < q → q ≤ i → xs.getD j 0 ≤ xs.getD q 0
theorem UpTo.hole {xs : List Nat} {i : Nat} (h : UpTo xs i) : UpBut xs i i := ⟨fun p q h1 h2 h3 h4 => h p q h1 (by omega), fun q h1 h2 => by omega⟩
theorem UpBut.done {xs : List Nat} {i j : Nat} (h : UpBut xs i j) (hj : j ≤ i) (he : j = 0 ∨ xs.getD (j - 1) 0 ≤ xs.getD j 0) : UpTo xs (i + 1) := by
  intro p q h1 h2
  by_cases hq : q = j
  · subst hq
    rcases he with he | he
    · omega
    · by_cases hp : p = q - 1
      · subst hp; exact he
      · exact Nat.le_trans (h.1 p (q - 1) (by omega) (by omega) (by omega) (by omega)) he
  · by_cases hp : p = j
    · subst hp; exact h.2 q h1 (by omega)
    · exact h.1 p q h1 (by omega) hp hq
/-- two neighbours changed -/
def swapL (xs : List Nat) (j : Nat) : List Nat := (xs.set j (xs.getD (j - 1) 0)).set (j - 1) (xs.getD j 0)
theorem swapL_length (xs : List Nat) (j : Nat) : (swapL xs j).length = xs.length := by simp [swapL]
theorem swapL_get {xs : List Nat} {j : Nat} (h1 : 1 ≤ j) (h2 : j < xs.length) (m : Nat) : (swapL xs j).getD m 0 = if m = j then xs.getD (j - 1) 0 else if m = j - 1 then xs.getD j 0 else xs.getD m 0 := by
  unfold swapL
  simp only [List.getD_eq_getElem?_getD, List.getElem?_set, List.length_set]
  by_cases e1 : m = j
  · subst e1
    rw [if_pos rfl, if_neg (by omega), if_pos rfl, if_pos h2]
    rfl
  · rw [if_neg e1]
    by_cases e2 : m = j - 1
    · subst e2
      rw [if_pos rfl, if_pos rfl, if_pos (by omega)]
      rfl
    · rw [if_neg e2, if_neg (fun e => e2 e.symm), if_neg (fun e => e1 e.symm)]
theorem UpBut.swap {xs : List Nat} {i j : Nat} (h : UpBut xs i j) (hj : j ≤ i) (hi : i < xs.length) (h1 : 1 ≤ j) (hlt : xs.getD j 0 < xs.getD (j - 1) 0) : UpBut (swapL xs j) i (j - 1) := by
  have hg := swapL_get (xs := xs) h1 (by omega)
  refine ⟨fun p q hpq hq hp1 hq1 => ?_, fun q hq1 hq2 => ?_⟩
  · rw [hg p, hg q, if_neg hp1, if_neg hq1]
    by_cases ep : p = j
    · subst ep
      rw [if_pos rfl, if_neg (by omega)]
      exact h.1 _ _ (by omega) hq (by omega) (by omega)
    · rw [if_neg ep]
      by_cases eq : q = j
      · subst eq
        rw [if_pos rfl]
        exact h.1 _ _ (by omega) (by omega) (by omega) (by omega)
      · rw [if_neg eq]
        exact h.1 p q hpq hq ep eq
  · rw [hg (j - 1), hg q, if_neg (by omega), if_pos rfl, if_neg (show ¬ q = j - 1 by omega)]
    by_cases eq : q = j
    · subst eq
      rw [if_pos rfl]
      omega
    · rw [if_neg eq]
      exact h.2 q (by omega) hq2
theorem swapL_perm {xs : List Nat} {j : Nat} (h1 : 1 ≤ j) (h2 : j < xs.length) : (swapL xs j).Perm xs := by
  unfold swapL
  have e1 : xs.getD (j - 1) 0 = xs[j - 1] := by simp [List.getD, show j - 1 < xs.length by omega]
  have e2 : xs.getD j 0 = xs[j] := by simp [List.getD, h2]
  rw [e1, e2]
  exact List.set_set_perm h2 (by omega)
end Go.Proofs.Ytjiifaeehhpkcaa
/- slices.insertionSortOrdered of uint64, whole slice. -/
namespace Go.Proofs.Ytjiifaeehhpkcaa
open Go.RowKit
set_option linter.unusedVariables false
set_option linter.unusedSimpArgs false

theorem nan_any (x : Nat) (w : World) : Calls Try.prog 80 #[.int .u64 (x : Int)] w fun e w' => e = .returned (.bool false) ∧ w = w' := by
  have h1 : ((x : Int) != (x : Int)) = false := by simp
  go_enter Try.func80, Try.ntmps80
  go_wp2_with fail
  go_ret
  exact ⟨rfl, rfl⟩
theorem less_any (x y : Nat) (w : World) : Calls Try.prog 70 #[.int .u64 (x : Int), .int .u64 (y : Int)] w fun e w' => e = .returned (.bool (decide (x < y))) ∧ w = w' := by
  have HN := Lib.hid (fun wx => nan_any x wx)
  obtain ⟨D, hD⟩ : ∃ D, decide (x < y) = D := ⟨_, rfl⟩
  have h1 : decide ((x : Int) < (y : Int)) = D := by rw [← hD, decide_eq_decide]; omega
  rw [hD]
  go_enter Try.func70, Try.ntmps70
  go_wp2_with (go_at_call 80; refine (HN.out _).mono ?_; rintro e w' ⟨rfl, rfl⟩)
  go_ret
  exact ⟨rfl, rfl⟩

set_option maxRecDepth 100000 in
set_option maxHeartbeats 8000000 in
theorem insert_any (g n cap B : Nat) (xs : List Nat) (w : World) (h : OwnI w B 22 .u64 (.slice (some ⟨g, 0, none⟩) n cap) (toI xs)) (hl : xs.length = n) (hn : n ≤ 1048576) :
    Calls Try.prog 64 #[.slice (some ⟨g, 0, none⟩) n cap, .int .i64 0, .int .i64 (n : Int)] w fun e w' => (∃ v, e = .returned v) ∧ ∃ ys : List Nat, ys.Perm xs ∧ UpTo ys n ∧ OwnI w' B 22 .u64 (.slice (some ⟨g, 0, none⟩) n cap) (toI ys) ∧ Below B w w' := by
  have H := Lib.hid h
  have HL := Lib.hid (And.intro hl hn)
  have HB : Hid (B ≤ w.heap.size) := Lib.hid (by have := h.ge2; omega)
  have hnb : (n : Int) ≤ 1048576 := by omega
  clear h hl hn
  go_enter Try.func64, Try.ntmps64
  go_wp2_with fail
  go_loopg [6, 7] n (fun f s6 s7 wr => ∃ (i : Nat) (ys : List Nat), s6 = .int .i64 (i : Int) ∧ Hid (1 ≤ i ∧ i + f = n + 1 ∧ ys.length = n ∧ ys.Perm xs ∧ UpTo ys i) ∧ Hid (OwnI wr B 22 .u64 (.slice (some ⟨g, 0, none⟩) n cap) (toI ys)) ∧ Hid (Below B w wr))
  case atStart => exact ⟨1, xs, rfl, Lib.hid ⟨by omega, by omega, HL.out.1, List.Perm.refl _, fun p q h1 h2 => by omega⟩, H, Lib.hid (Below.refl _ _)⟩
  case round =>
    clear H
    obtain ⟨i, ys, rfl, HI, OW, BW⟩ := hrel
    obtain ⟨a1, a2, a3, a4, a5⟩ := HI.out
    by_cases hin : i < n
    · cases gk with
      | zero => omega
      | succ f =>
        have hil : (i : Int) < (n : Int) := by omega
        have HIN : Hid (1 ≤ i ∧ i < n ∧ i + f = n) := Lib.hid (by omega)
        have HY : Hid (ys.length = n ∧ ys.Perm xs ∧ UpBut ys i i) := Lib.hid ⟨a3, a4, a5.hole⟩
        clear a1 a2 a3 a4 a5 HI hin
        go_upto_region 4 with fail
        go_loopg [7] i (fun q s7 wq => ∃ (j : Nat) (zs : List Nat), s7 = .int .i64 (j : Int) ∧ Hid (j ≤ i ∧ j ≤ q ∧ zs.length = n ∧ zs.Perm xs ∧ UpBut zs i j) ∧ Hid (OwnI wq B 22 .u64 (.slice (some ⟨g, 0, none⟩) n cap) (toI zs)) ∧ Hid (Below B w wq))
        case atStart => exact ⟨i, ys, rfl, Lib.hid ⟨Nat.le_refl _, Nat.le_refl _, HY.out.1, HY.out.2.1, HY.out.2.2⟩, OW, BW⟩
        case round =>
          clear OW BW HY
          obtain ⟨j, zs, rfl, HJ, OZ, BZ⟩ := hrel
          obtain ⟨b1, b2, b3, b4, b5⟩ := HJ.out
          have HJJ : Hid (j ≤ i ∧ j ≤ gk ∧ zs.length = n ∧ zs.Perm xs) := Lib.hid ⟨b1, b2, b3, b4⟩
          have HUB := Lib.hid b5
          have hi64 : (i : Int) ≤ 1048576 := by omega
          by_cases hj0 : j = 0
          · subst hj0
            have HOUT : Hid (1 ≤ i + 1 ∧ i + 1 + f = n + 1 ∧ zs.length = n ∧ zs.Perm xs ∧ UpTo zs (i + 1)) := Lib.hid ⟨by omega, by have := HIN.out; omega, b3, b4, b5.done (by omega) (.inl rfl)⟩
            have t0 : decide ((0 : Int) < ((0 : Nat) : Int)) = false := by simp
            clear b1 b2 b3 b4 b5 HJ HUB HJJ
            go_wp2_with fail
            go_quiet (fail)
            have hBD : Below wr.heap.size wr (wr.drewN nq) := below_drewN (Below.refl _ _) _
            have ON := Lib.hid (OZ.out.below hBD)
            have BN := Lib.hid (BZ.out.trans (hBD.mono (Nat.le_trans HB.out BZ.out.size)))
            generalize wr.drewN nq = wd at ON BN ⊢
            clear hBD
            go_wp2_with fail
            go_roundg f
            case measure => omega
            case rel => exact ⟨i + 1, zs, by go_num, HOUT, ON, BN⟩
          · have hjn : j < n := by have := HIN.out; omega
            obtain ⟨x, hx⟩ : ∃ x, zs.getD j 0 = x := ⟨_, rfl⟩
            obtain ⟨y, hy⟩ : ∃ y, zs.getD (j - 1) 0 = y := ⟨_, rfl⟩
            have q0 : wr.cell? ⟨g, j, none⟩ = some (.int .u64 (x : Int)) := OZ.out.get2 j _ (by rw [← hx]; simp [toI, List.getD, show j < zs.length by omega])
            have q1 : wr.cell? ⟨g, j - 1, none⟩ = some (.int .u64 (y : Int)) := OZ.out.get2 (j - 1) _ (by rw [← hy]; simp [toI, List.getD, show j - 1 < zs.length by omega])
            have e1 : IntKind.i64.wrap ((j : Int) - 1) = ((j - 1 : Nat) : Int) := by rw [IntKind.wrap_i64]; omega
            have i0 : (0 : Int) ≤ (j : Int) := by omega
            have i1 : (j : Int) < (n : Int) := by omega
            have i2 : ((j - 1 : Nat) : Int) < (n : Int) := by omega
            have t0 : decide ((0 : Int) < (j : Int)) = true := decide_eq_true (by omega)
            have t1 : decide (0 < j) = true := decide_eq_true (by omega)
            have HLS := Lib.hid (fun wx => less_any x y wx)
            by_cases hxy : x < y
            · rw [decide_eq_true hxy] at HLS
              obtain ⟨q, rfl⟩ : ∃ q, gk = q + 1 := ⟨gk - 1, by omega⟩
              have HSW : Hid (j - 1 ≤ i ∧ j - 1 ≤ q ∧ (swapL zs j).length = n ∧ (swapL zs j).Perm xs ∧ UpBut (swapL zs j) i (j - 1)) := Lib.hid ⟨by omega, by omega, by rw [swapL_length]; exact b3, (swapL_perm (by omega) (by omega)).trans b4, b5.swap b1 (by have := HIN.out; omega) (by omega) (by rw [hx, hy]; exact hxy)⟩
              have HSE : Hid (swapL zs j = (zs.set j y).set (j - 1) x) := Lib.hid (by unfold swapL; rw [hx, hy])
              have hjj : j - 1 ≠ j := by omega
              have hjj2 : j ≠ j - 1 := by omega
              clear b1 b2 b3 b4 b5 HJ HUB hx hy hxy hj0 hjn
              go_wp2_with fail
              go_quiet ((go_at_call 70; exact Calls.quiet_of_same ((HLS.out _).mono (by rintro e w' ⟨rfl, rfl⟩; exact ⟨rfl, rfl⟩))))
              have hBD : Below wr.heap.size wr (wr.drewN nq) := below_drewN (Below.refl _ _) _
              have ON := Lib.hid (OZ.out.below hBD)
              have BN := Lib.hid (BZ.out.trans (hBD.mono (Nat.le_trans HB.out BZ.out.size)))
              have p0 : (wr.drewN nq).cell? ⟨g, j, none⟩ = some (.int .u64 (x : Int)) := by rw [hBD.cell (p := ⟨g, j, none⟩) OZ.out.ge2.2]; exact q0
              have p1 : (wr.drewN nq).cell? ⟨g, j - 1, none⟩ = some (.int .u64 (y : Int)) := by rw [hBD.cell (p := ⟨g, j - 1, none⟩) OZ.out.ge2.2]; exact q1
              have f0 := ON.out.free2 j
              have f1 := ON.out.free2 (j - 1)
              generalize wr.drewN nq = wd at ON BN p0 p1 f0 f1 ⊢
              clear hBD q0 q1 HLS
              go_wp2_with fail
              go_region_law (fail)
              all_goals
                have O2 : Hid (OwnI ((wd.setCell ⟨g, j, none⟩ (.int .u64 (y : Int))).setCell ⟨g, j - 1, none⟩ (.int .u64 (x : Int))) B 22 .u64 (.slice (some ⟨g, 0, none⟩) n cap) (toI (swapL zs j))) := Lib.hid (by
                  have hz : (toI zs).length = n := by rw [toI_length]; exact HJJ.out.2.2.1
                  have h1 := (ON.out.put2 hz j (y : Int)).put2 (by rw [List.length_set]; exact hz) (j - 1) (x : Int)
                  rw [HSE.out]
                  simpa [toI, List.map_set] using h1)
                have B2 : Hid (Below B w ((wd.setCell ⟨g, j, none⟩ (.int .u64 (y : Int))).setCell ⟨g, j - 1, none⟩ (.int .u64 (x : Int))).drew) := Lib.hid ((BN.out.setCell (p := ⟨g, j, none⟩) ON.out.ge2.1 _).setCell (p := ⟨g, j - 1, none⟩) ON.out.ge2.1 _).drew
                clear p0 p1 f0 f1
                go_wp2_with fail
                go_roundg q
                case measure => omega
                case rel => exact ⟨j - 1, swapL zs j, by go_num, HSW, O2, B2⟩
            · rw [decide_eq_false hxy] at HLS
              have HOUT : Hid (1 ≤ i + 1 ∧ i + 1 + f = n + 1 ∧ zs.length = n ∧ zs.Perm xs ∧ UpTo zs (i + 1)) := Lib.hid ⟨by omega, by have := HIN.out; omega, b3, b4, b5.done b1 (.inr (by rw [hx, hy]; omega))⟩
              clear b1 b2 b3 b4 b5 HJ HUB HJJ hx hy hxy hj0 hjn
              go_wp2_with fail
              go_quiet ((go_at_call 70; exact Calls.quiet_of_same ((HLS.out _).mono (by rintro e w' ⟨rfl, rfl⟩; exact ⟨rfl, rfl⟩))))
              clear q0 q1 e1 i0 i1 i2 t0 t1 HLS
              have hBD : Below wr.heap.size wr (wr.drewN nq) := below_drewN (Below.refl _ _) _
              have ON := Lib.hid (OZ.out.below hBD)
              have BN := Lib.hid (BZ.out.trans (hBD.mono (Nat.le_trans HB.out BZ.out.size)))
              generalize wr.drewN nq = wd at ON BN ⊢
              clear hBD
              go_wp2_with fail
              go_roundg f
              case measure => omega
              case rel => exact ⟨i + 1, zs, by go_num, HOUT, ON, BN⟩
    · have HE : Hid (ys.Perm xs ∧ UpTo ys n) := Lib.hid ⟨a4, fun p q h1 h2 => a5 p q h1 (by omega)⟩
      have hil : ¬ (i : Int) < (n : Int) := by omega
      clear a1 a2 a3 a4 a5 HI hin
      go_wp2_with fail
      go_end0
      exact ⟨⟨_, rfl⟩, ys, HE.out.1, HE.out.2, OW.out, BW.out⟩
end Go.Proofs.Ytjiifaeehhpkcaa
/- slices.Sort of at most twelve numbers. -/
namespace Go.Proofs.Ytjiifaeehhpkcaa
open Go.RowKit
set_option linter.unusedVariables false
set_option linter.unusedSimpArgs false

/-- what sorting comes to -/
def SortAns (B g n cap : Nat) (xs : List Nat) (w : World) (e : Ending) (w' : World) : Prop := (∃ v, e = .returned v) ∧ ∃ ys : List Nat, ys.Perm xs ∧ UpTo ys n ∧ OwnI w' B 22 .u64 (.slice (some ⟨g, 0, none⟩) n cap) (toI ys) ∧ Below B w w'

set_option maxRecDepth 100000 in
set_option maxHeartbeats 4000000 in
theorem sort_small (g n cap B : Nat) (xs : List Nat) (w : World) (h : OwnI w B 22 .u64 (.slice (some ⟨g, 0, none⟩) n cap) (toI xs)) (hl : xs.length = n) (hn : n ≤ 12) : Calls Try.prog 57 #[.slice (some ⟨g, 0, none⟩) n cap] w (SortAns B g n cap xs w) := by
  have HI : Calls Try.prog 64 #[.slice (some ⟨g, 0, none⟩) n cap, .int .i64 0, .int .i64 (n : Int)] w (SortAns B g n cap xs w) := insert_any g n cap B xs w h hl (by omega)
  have HRT : Hid (∀ e w', SortAns B g n cap xs w e w' → ∃ v, e = .returned v) := Lib.hid (fun e w' hh => hh.1)
  have HAN : Hid (∀ e e' v w', e' = Ending.returned v → SortAns B g n cap xs w e w' → SortAns B g n cap xs w e' w') := Lib.hid (fun e e' v w' he hh => ⟨⟨v, he⟩, hh.2⟩)
  clear h hl
  generalize SortAns B g n cap xs w = Q at *
  have HP : ∀ (L : Int), Calls Try.prog 62 #[.slice (some ⟨g, 0, none⟩) n cap, .int .i64 0, .int .i64 (n : Int), .int .i64 L] w Q := fun L => by
    have h1 : (n : Int) ≤ 12 := by omega
    have h2 : wrap64 (n : Int) = (n : Int) := IntWalk.wrap64_in _ ⟨by omega, by omega⟩
    have h3 : IntKind.i64.wrap (n : Int) = (n : Int) := IntWalk.i64_in _ ⟨by omega, by omega⟩
    have HI2 := Lib.hid HI
    clear hn HI
    go_enter Try.func62, Try.ntmps62
    go_wp2_with fail
    go_loopg [1, 2, 3, 8, 9] 1 (fun g x1 x2 x3 x8 x9 wr => x1 = .int .i64 0 ∧ x2 = .int .i64 (n : Int) ∧ w = wr)
    case atStart => exact ⟨rfl, rfl, rfl⟩
    case round =>
      obtain ⟨rfl, rfl, rfl⟩ := hrel
      go_wp2_with fail
      refine HI2.out.mono ?_
      intro e w' he
      obtain ⟨v, rfl⟩ := HRT.out e w' he
      have HE := Lib.hid he
      clear he
      go_wp2_with fail
      refine bodyPost_ret (results_none rfl _ _ _) rfl ?_
      exact HAN.out _ _ _ _ rfl HE.out
  have HL := Lib.hid (blen_small n (by omega) w)
  have h1 : IntKind.u64.wrap (n : Int) = (n : Int) := by rw [IntKind.wrap_u64]; omega
  have HP2 := Lib.hid HP
  clear hn HI HP
  go_enter Try.func57, Try.ntmps57
  go_wp2_with (go_at_call 63; refine HL.out.mono ?_; rintro e w' ⟨⟨L, rfl⟩, rfl⟩)
  refine (HP2.out L).mono ?_
  intro e w' he
  obtain ⟨v, rfl⟩ := HRT.out e w' he
  have HE := Lib.hid he
  clear he
  go_wp2_with fail
  go_end0
  exact HAN.out _ _ _ _ rfl HE.out
end Go.Proofs.Ytjiifaeehhpkcaa
/- Layer 2: the numbers of the pages that are mapped, rising: of at most twelve pages. -/
namespace Go.Proofs.Ytjiifaeehhpkcaa
open Go.RowKit
set_option linter.unusedVariables false
set_option linter.unusedSimpArgs false

theorem AllOf.perm {Q : Nat → Prop} {c : Nat} {xs ys : List Nat} (h : AllOf Q c xs) (hp : ys.Perm xs) : AllOf Q c ys := ⟨hp.nodup_iff.2 h.1, fun k => hp.mem_iff.trans (h.2.1 k), by rw [hp.length_eq]; exact h.2.2⟩
theorem enc_toI2 (xs : List Nat) : xs.map encU = (toI xs).map (Value.int .u64) := by
  unfold toI encU
  rw [List.map_map]
  rfl
set_option maxRecDepth 100000 in
set_option maxHeartbeats 4000000 in
/-- the numbers of the pages that are mapped; of at most twelve pages -/
theorem numbers_small (mb : Nat) (S : Nat → Prop) (q c : Nat) (V : Nat → Option Pg) (g : Nat) (F : Nat → Option Nat) (w : World) (h : VmAt w mb S q c V g F) (hc : c ≤ 12) :
    Calls Try.prog 34 #[.pointer (some ⟨mb, 0, none⟩)] w fun e w' => ∃ v xs, e = .returned v ∧ (AllOf (fun k => V k ≠ none) c xs ∧ UpTo xs xs.length) ∧ w'.ownsRow w.heap.size 22 1 v xs.length (xs.map encU) ∧ Below w.heap.size w w' := by
  have m1 : w.cell? ⟨mb, 1, none⟩ = some (.map (some g)) := by rw [cell_of_row _ _ 1 _ _ _ h.box]; rfl
  obtain ⟨D, hown, hsz, hD⟩ := h.map
  have hQ : ∀ k, k < 18446744073709551616 → (Maps.has D (nk k) = true ↔ V k ≠ none) := fun k hk => by
    rw [(hD k hk).2]
    constructor
    · intro hk2 e
      rw [h.at_none e] at hk2
      cases hk2
    · intro hk2
      cases hf : F k with
      | none => exact absurd (h.out k hf) hk2
      | some b => rfl
  have hQ64 : ∀ k, V k ≠ none → k < 18446744073709551616 := fun k hk => by have := h.low k hk; omega
  have HA : Hid (Calls Try.prog 61 #[.slice none 0 0, .func (.func 58) #[] #[.pointer (some ⟨w.heap.size, 0, none⟩)]] (w.alloc (.cells #[.map (some g)] 75)) fun e W' => ∃ v xs, e = .returned v ∧ AllOf (fun k => V k ≠ none) c xs ∧ W'.ownsRow (w.alloc (.cells #[.map (some g)] 75)).heap.size 22 1 v xs.length (xs.map encU) ∧ (v = .slice none 0 0 ↔ xs = []) ∧ Below (w.alloc (.cells #[.map (some g)] 75)).heap.size (w.alloc (.cells #[.map (some g)] 75)) W') :=
    Lib.hid ((callsIn_wide (n := 6)).1 (append_in 6 (by omega) w.heap.size g c _ D hQ hQ64 hsz (by omega) (w.alloc (.cells #[.map (some g)] 75)) (by simp) (by rw [World.cell?_alloc_new]; rfl) (hown.alloc _)))
  have HC := Lib.hid hc
  clear h hown hsz hD hQ hQ64 hc
  have HK : ∀ wx : World, Calls Try.prog 51 #[.map (some g)] wx fun e w' => e = .returned (.func (.func 58) #[] #[.pointer (some ⟨wx.heap.size, 0, none⟩)]) ∧ w' = wx.alloc (.cells #[.map (some g)] 75) := fun wx => by
    go_enter Try.func51, Try.ntmps51
    go_wp2_with fail
    go_ret
    exact ⟨rfl, rfl⟩
  have HC2 : Hid (Calls Try.prog 56 #[.func (.func 58) #[] #[.pointer (some ⟨w.heap.size, 0, none⟩)]] (w.alloc (.cells #[.map (some g)] 75)) fun e W' => ∃ v xs, e = .returned v ∧ AllOf (fun k => V k ≠ none) c xs ∧ W'.ownsRow (w.alloc (.cells #[.map (some g)] 75)).heap.size 22 1 v xs.length (xs.map encU) ∧ (v = .slice none 0 0 ↔ xs = []) ∧ Below (w.alloc (.cells #[.map (some g)] 75)).heap.size (w.alloc (.cells #[.map (some g)] 75)) W') := Lib.hid (by
    clear HK m1
    generalize (w.alloc (.cells #[.map (some g)] 75)) = w1 at *
    generalize w.heap.size = r at *
    go_enter Try.func56, Try.ntmps56
    go_wp2_with fail
    refine HA.out.mono ?_
    rintro e w2 ⟨v, xs, rfl, h1, h2, h3, h4⟩
    have HE := Lib.hid (And.intro h1 (And.intro h2 (And.intro h3 h4)))
    clear h1 h2 h3 h4
    go_wp2_with fail
    go_ret
    exact ⟨v, xs, rfl, HE.out⟩)
  have HS : Hid (Calls Try.prog 50 #[.func (.func 58) #[] #[.pointer (some ⟨w.heap.size, 0, none⟩)]] (w.alloc (.cells #[.map (some g)] 75)) fun e W' => ∃ v xs, e = .returned v ∧ (AllOf (fun k => V k ≠ none) c xs ∧ UpTo xs xs.length) ∧ W'.ownsRow (w.alloc (.cells #[.map (some g)] 75)).heap.size 22 1 v xs.length (xs.map encU) ∧ Below (w.alloc (.cells #[.map (some g)] 75)).heap.size (w.alloc (.cells #[.map (some g)] 75)) W') := Lib.hid (by
    clear HK m1 HA
    generalize (w.alloc (.cells #[.map (some g)] 75)) = w1 at *
    generalize w.heap.size = r at *
    go_enter Try.func50, Try.ntmps50
    go_wp2_with fail
    refine HC2.out.mono ?_
    rintro e w2 ⟨v, xs, rfl, h1, h2, h3, h4⟩
    rcases h2.2 with ⟨h5, h6⟩ | ⟨g', cap', cur, h5, -⟩
    · subst h5
      have hx : xs = [] := List.length_eq_zero_iff.1 h6
      have HSO := Lib.hid (sort_few none 0 0 (by omega) w2)
      have HE := Lib.hid (And.intro h1 (And.intro h2 h4))
      have HX := Lib.hid hx
      clear h1 h2 h3 h4 h6 hx
      go_wp2_with fail
      refine HSO.out.mono ?_
      rintro e w3 ⟨⟨u, rfl⟩, rfl⟩
      clear HSO
      go_wp2_with fail
      go_ret
      exact ⟨_, xs, rfl, ⟨HE.out.1, by rw [HX.out]; intro p q h1 h2; simp at h2⟩, HE.out.2.1, HE.out.2.2⟩
    · subst h5
      have ho : OwnI w2 w1.heap.size 22 .u64 (.slice (some ⟨g', 0, none⟩) xs.length cap') (toI xs) := by
        unfold OwnI
        rw [toI_length, ← enc_toI2]
        exact h2
      have HSO := Lib.hid (sort_small g' xs.length cap' w1.heap.size xs w2 ho rfl (Nat.le_trans h1.2.2 HC.out))
      have HE := Lib.hid (And.intro h1 h4)
      clear h1 h2 h3 h4 ho
      go_wp2_with fail
      refine HSO.out.mono ?_
      rintro e w3 ⟨⟨u, rfl⟩, ys, hp, hup, ho3, hb3⟩
      have HE3 := Lib.hid (And.intro hp (And.intro hup (And.intro ho3 hb3)))
      clear HSO hp hup ho3 hb3
      go_wp2_with fail
      go_ret
      obtain ⟨hp, hup, ho3, hb3⟩ := HE3.out
      refine ⟨_, ys, rfl, ⟨HE.out.1.perm hp, by rw [hp.length_eq]; exact hup⟩, ?_, HE.out.2.trans hb3⟩
      unfold OwnI at ho3
      rw [toI_length, ← enc_toI2] at ho3
      exact ho3)
  have HKK := Lib.hid (HK w)
  have B1 : Hid (Below w.heap.size w (w.alloc (.cells #[.map (some g)] 75))) := Lib.hid ((Below.refl _ _).alloc (Nat.le_refl _) _)
  clear HK HA HC2
  go_enter Try.func34, Try.ntmps34
  go_wp2_with fail
  refine HKK.out.mono ?_
  rintro e w2 ⟨rfl, rfl⟩
  go_wp2_with fail
  refine HS.out.mono ?_
  rintro e w3 ⟨v, xs, rfl, h1, h2, h4⟩
  have HE := Lib.hid (And.intro h1 (And.intro h2 h4))
  clear h1 h2 h4 HS HKK
  go_wp2_with fail
  go_ret
  obtain ⟨h1, h2, h4⟩ := HE.out
  exact ⟨v, xs, rfl, h1, own_lower h2 (by simp), bstep B1.out h4⟩
end Go.Proofs.Ytjiifaeehhpkcaa
