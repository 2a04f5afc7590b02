/- Layer 2: the numbers of the pages that are mapped, as an iterator tells them. -/
import Derived.Test.YtbppajfpjhmcgaaVm
import Derived.RangeFuncNested
import Derived.RangeFuncBound
import Derived.RangeFuncCalls
import Derived.RangeFuncLeaves
import Derived.RangeFuncBox
import Derived.TacticsInMore
import Derived.LoopNIn
import Derived.LoopIn
import Derived.OwnWalkIn
import Derived.Sort.MapsRangeIn
import Derived.Maps.OwnIn
import Derived.Maps.AppendAt
namespace Go.Proofs.Ytbppajfpjhmcgaa
open Go.RowKit
set_option linter.unusedVariables false
set_option linter.unusedSimpArgs false

attribute [local go_sem] Oper.semAt_some

def encU (k : Nat) : Value := .int .u64 ((k : Nat) : Int)
/-- the numbers that have come: each once, all that are no longer to come -/
def Came (Q : Nat → Prop) (left : Lit → Bool) (xs : List Nat) : Prop := xs.Nodup ∧ (∀ k ∈ xs, Q k) ∧ ∀ k, Q k → (left (nk k) = true ↔ k ∉ xs)
/-- all of them, each once -/
def AllOf (Q : Nat → Prop) (c : Nat) (xs : List Nat) : Prop := xs.Nodup ∧ (∀ k, k ∈ xs ↔ Q k) ∧ xs.length ≤ c
theorem Came.all {Q : Nat → Prop} {left : Lit → Bool} {xs : List Nat} (h : Came Q left xs) {c : Nat} (hc : xs.length ≤ c) (hl : ∀ kl, left kl = false) : AllOf Q c xs := ⟨h.1, (fun k => ⟨h.2.1 k, fun hq => by
  by_cases e : k ∈ xs
  · exact e
  · have := (h.2.2 k hq).2 e
    rw [hl] at this
    cases this⟩), hc⟩
theorem Came.step {Q : Nat → Prop} {left : Lit → Bool} {xs : List Nat} (h : Came Q left xs) {k : Nat} (hq : Q k) (hk64 : k < 18446744073709551616) (hl : left (nk k) = true) : Came Q (fun z => left z && !z.sameKey (nk k)) (xs ++ [k]) := by
  have hk : k ∉ xs := (h.2.2 k hq).1 hl
  refine ⟨?_, ?_, ?_⟩
  · rw [List.nodup_append]
    exact ⟨h.1, by simp, fun a ha b hb => by
      obtain rfl : b = k := by simpa using hb
      intro e
      exact hk (e ▸ ha)⟩
  · intro j hj
    rcases List.mem_append.1 hj with hj | hj
    · exact h.2.1 j hj
    · obtain rfl : j = k := by simpa using hj
      exact hq
  · intro j hj
    show (left (nk j) && !(nk j).sameKey (nk k)) = true ↔ _
    by_cases e : j = k
    · subst e
      have hself : (nk j).sameKey (nk j) = true := WideAt.sameKey_self ((Maps.int_keyed Try.underlying25).key (Maps.keyOf_int_mk Try.underlying25 (nk_wf hk64)))
      rw [hself]
      simp
    · rw [Maps.sameKey_ne (fun e2 => e (nk_inj e2))]
      simp only [Bool.not_false, Bool.and_true, List.mem_append, List.mem_singleton, not_or]
      rw [h.2.2 j hj]
      exact ⟨fun h1 => ⟨h1, e⟩, fun h1 => h1.1⟩

set_option maxRecDepth 100000 in
set_option maxHeartbeats 4000000 in
theorem keys1_in (n : Nat) (hn : 1 ≤ n) (l Bm g c : Nat) (Q : Nat → Prop) (D : DataW Unit) (hQ : ∀ k, k < 18446744073709551616 → (Maps.has D (nk k) = true ↔ Q k)) (hQ64 : ∀ k, Q k → k < 18446744073709551616) (hsz : Maps.size D = c) (J Jx : List Nat → World → Prop)
    (hY : ∀ pre x W, J pre W → pre.length < c → YieldAt Fence.wide (n - 1) Try.prog l #[encU x] W fun e W' => (e = .returned (.bool true) ∧ J (pre ++ [x]) W' ∧ KeepsWalks W W') ∨ (e = .returned (.bool false) ∧ Jx (pre ++ [x]) W'))
    (W : World) (hJ : AbidesFrom W.heap.size J) (hm : W.cell? ⟨Bm, 0, none⟩ = some (.map (some g))) (hown : W.ownsMap Try.prog 25 ptrR g c D) (h0 : J [] W) :
    CallsIn Fence.wide n Try.prog 43 #[.func (.yield l) #[] #[], .pointer (some ⟨Bm, 0, none⟩)] W fun e W' => (∃ v, e = .returned v) ∧ ((∃ xs, AllOf Q c xs ∧ J xs W') ∨ (∃ pre, True ∧ Jx pre W')) := by
  have law := Maps.int_keyed (P := Try.prog) (k := 25) Try.underlying25
  refine callsIn_of_wp Try.func43 rfl trivial ?_ rfl
  simp only [Try.ntmps43, List.size_toArray, List.length_cons, List.length_nil, Nat.reduceAdd, Nat.reduceSub, Array.replicate_succ, Array.replicate_zero, List.push_toArray, List.append_toArray, List.nil_append, List.cons_append]
  gi_wp2_with (first
    | (gi_at_range; refine wpListIn_range_own _ rfl _ 63 rfl 25 87 law Try.underlying63 _ g c D rfl hown ?_; intro w0 hrg0 hg0 hs0)
    | gi_in)
  have hQR : ∀ key kl, keyOf Try.prog 25 key = some kl → ∃ k : Nat, key = encU k := fun key kl hh => by
    obtain ⟨x, e, -, hw⟩ := Maps.keyOf_int_inv Try.underlying25 hh
    have := wf_u64_bounds hw
    exact ⟨x.toNat, by rw [e]; unfold encU; rw [show ((x.toNat : Nat) : Int) = x from by omega]⟩
  rw [hsz] at hrg0
  go_frame
  gi_loopw [3] (fun _ wr => ∃ (left : Lit → Bool) (cnt : Nat) (xs : List Nat), wr.ranges Try.prog 25 ptrR g W.heap.size c D left cnt ∧ xs.length + cnt ≤ c ∧ Came Q left xs ∧ J xs wr)
    (fun _ wr => wr.rangeLeft g W.heap.size)
  case atStart =>
    exact ⟨_, _, [], hrg0, by simp, ⟨by simp, (fun k hk => by cases hk), fun k hk => ⟨fun _ => by simp, fun _ => (hQ k (hQ64 k hk)).2 hk⟩⟩, hJ [] W w0 none h0 hg0 (fun r e => by cases e)⟩
  case round =>
    obtain ⟨left, cnt, xs, hrg, hcs, hC, hJs⟩ := hrel
    gi_wp2_with (first
      | (gi_at_next; refine wpListIn_next_ranges _ rfl _ rfl 25 law ptrR encU ptrV hQR (fun v y hv => by obtain ⟨o, e, -⟩ := ptrR_inv hv; exact ⟨o, e⟩) g W.heap.size c _ _ _ rfl hrg ?_ ?_)
      | gi_in)
    · intro hc0 hl0
      gi_wp2
      go_end0
      exact ⟨⟨_, rfl⟩, .inl ⟨xs, hC.all (by omega) hl0, hJs⟩⟩
    · intro x o kl yd yp w2 cnt2 hkey hlk hv hat hrg2 hlt hg2 hs2 hen
      have hkl : kl = nk x ∧ x < 18446744073709551616 := by
        obtain ⟨x', ex, e2, hw⟩ := Maps.keyOf_int_inv Try.underlying25 hkey
        unfold encU at ex
        simp only [Value.int.injEq, true_and] at ex
        subst ex
        have := wf_u64_bounds hw
        unfold M64 at this
        exact ⟨e2, by omega⟩
      obtain ⟨rfl, hx64⟩ := hkl
      have hJ2 : J xs w2 := hJ xs wr w2 (some W.heap.size) hJs hg2 (fun r e => by cases e; exact ⟨Nat.le_refl _, hrg.iter_walk⟩)
      obtain ⟨fn, tmps, assign, body, hy, hR⟩ := hY xs x w2 hJ2 (by omega)
      have hC2 := hC.step ((hQ x hx64).1 (Maps.has_true_of_atKey hat)) hx64 hlk
      clear hs2
      unfold encU at hen hy ⊢
      gi_wp2
      refine hR.mono ?_
      rintro e W3 (⟨rfl, hJ3, hk3⟩ | ⟨rfl, hJx3⟩)
      · gi_wp2
        have hrg3 := hrg2.of_walks hk3
        go_roundw
        case rel => exact ⟨_, cnt2, xs ++ [x], hrg3, by simp; omega, hC2, hJ3⟩
        case measure => rw [hrg3.left_eq, hrg.left_eq]; exact hlt
      · gi_wp2
        refine bodyPost_ret (results_none rfl _ _ _) rfl ?_
        exact ⟨⟨_, rfl⟩, .inr ⟨xs ++ [x], trivial, hJx3⟩⟩

/-- an iterator over a map's keys -/
theorem keys_stops (n : Nat) (hn : 1 ≤ n) (Bm g c : Nat) (Q : Nat → Prop) (D : DataW Unit) (hQ : ∀ k, k < 18446744073709551616 → (Maps.has D (nk k) = true ↔ Q k)) (hQ64 : ∀ k, Q k → k < 18446744073709551616) (hsz : Maps.size D = c) (w : World) (hBm : Bm < w.heap.size) (hm : w.cell? ⟨Bm, 0, none⟩ = some (.map (some g))) (hown : w.ownsMap Try.prog 25 ptrR g c D) :
    SeqStopsK Fence.wide n Try.prog 43 #[.pointer (some ⟨Bm, 0, none⟩)] (fun x : Nat => #[encU x]) KeepsWalks (AllOf Q c) (fun _ => True) c w := fun l J Jx W hW hJ _ hY h0 => by
  have hown' : W.ownsMap Try.prog 25 ptrR g c D := by
    have hbl := hown.lt
    obtain ⟨es, clock, hb, Ft, hs, hD⟩ := hown
    exact ⟨es, clock, (hW.block g hbl).trans hb, Ft, hs, hD⟩
  exact keys1_in n hn l Bm g c Q D hQ hQ64 hsz J Jx hY W hJ ((hW.cell (p := ⟨Bm, 0, none⟩) hBm).trans hm) hown' h0
end Go.Proofs.Ytbppajfpjhmcgaa
