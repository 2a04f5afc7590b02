/- Layer 3 as mathematics: what the tree of the document's example tells. -/
import Derived.Test.YtpblgbegdfdgdaaDoorVfsK
import Derived.Test.YtpblgbegdfdgdaaDoorVfsList
namespace Go.Proofs.YtpblgbegdfdgdaaDoor
open Go.RowKit
set_option linter.unusedVariables false
set_option linter.unusedSimpArgs false

/-- what is shared, by what a block holds -/
def sharesIn (w : World) (D : Nat → List Nat) : Shares := fun sb => match w.heap[sb]? with
  | some (.cells cs _ _) => (match cs.toList with
    | [.int _ i, _, .bool su] => (i, su, D i.toNat)
    | _ => (0, false, []))
  | _ => (0, false, [])
theorem sharesIn_of {w : World} {B : Nat} {L : List Nd} {es : List Ent} {D : Nat → List Nat} (hs : ShL w B L es D) {i : Nat} (h1 : i < es.length) (h2 : i < L.length) (h0 : L[i].kind = 0) : ∃ sb, es[i].sh = some sb ∧ sharesIn w D sb = ((i : Int), L[i].su, D i) := by
  obtain ⟨sb, ad, c, e1, -, e2, e3⟩ := hs i h1 h2 h0
  refine ⟨sb, e1, ?_⟩
  unfold sharesIn
  rw [e2]
  rfl
theorem shAt_in {w : World} {B : Nat} {L : List Nd} {es : List Ent} {D : Nat → List Nat} (hl : Laid L es) (hs : ShL w B L es D) (hD : ∀ i, (hi : i < L.length) → (D i).length = L[i].dn ∧ L[i].dn ≤ 140737488355328) : ShAt w (treeE L es) (sharesIn w D) := by
  intro k x hx h0
  obtain ⟨i, h1, h2, h3, h4⟩ := hl.shared k x hx h0
  obtain ⟨sb, ad, c, e1, -, e2, e3⟩ := hs i h1 h2 h3
  have hS : sharesIn w D sb = ((i : Int), L[i].su, D i) := by
    unfold sharesIn
    rw [e2]
    rfl
  obtain ⟨d1, d2⟩ := hD i h2
  obtain ⟨a1, a2, a3⟩ := e3.at
  refine ⟨sb, ad, c, h4.symm.trans e1, ?_, ?_, ?_, ?_⟩
  · rw [hS]; simp only []; rw [d1]; exact e2
  · rw [hS]; exact a2
  · rw [hS]; simp only []; omega
  · rw [hS]
    simp only []
    intro hh
    obtain ⟨b1, b2⟩ := a3 hh
    rw [toI_length] at b1
    exact ⟨b1, b2⟩
/-- the file at a path of the example: the only one -/
theorem openF_one {w : World} {B : Nat} {L : List Nd} {es : List Ent} {D : Nat → List Nat} (hL : L.map tri = L5) (hl : Laid L es) (he : es.length = L.length) (hs : ShL w B L es D) {path p : ByteArray} (h : okAt (folK (treeK L5) path) p = true) (hk : ((treeK L5 p).getD (1, ⟨#[]⟩)).1 = 0) :
    ∃ su bs, openF (treeE L es) (sharesIn w D) path = .ok (p, 1, su, bs) := by
  have hln : L.length = 5 := by have := congrArg List.length hL; rw [List.length_map] at this; exact this
  have ht := laid_tells hl
  rw [he, ← List.length_map (f := tri), List.take_length, hL] at ht
  have hf : folF (treeE L es) path = .ok p := by rw [folF_K ht]; exact okAt_eq h
  have hp := ht p
  cases hx : treeE L es p with
  | none =>
    rw [hx] at hp
    rw [← hp] at hk
    cases hk
  | some x =>
    rw [hx] at hp
    rw [← hp] at hk
    have hk0 : x.kind = 0 := hk
    obtain ⟨i, h1, h2, h3, h4⟩ := hl.shared p x hx hk0
    obtain ⟨sb, e1, e2⟩ := sharesIn_of hs h1 h2 h3
    have hi : i = 1 := by
      have h5 : (L5.getD i (⟨#[]⟩, 1, ⟨#[]⟩)).2.1 = 0 := by
        rw [← hL, List.getD_eq_getElem?_getD, List.getElem?_map, List.getElem?_eq_getElem h2]
        exact h3
      have hi5 : i < 5 := by omega
      match i, hi5, h5 with
      | 0, _, h => exact absurd h (by decide)
      | 1, _, _ => rfl
      | 2, _, h => exact absurd h (by decide)
      | 3, _, h => exact absurd h (by decide)
      | 4, _, h => exact absurd h (by decide)
    subst hi
    refine ⟨L[1].su, D 1, ?_⟩
    unfold openF
    rw [hf]
    simp only []
    rw [hx, Option.getD_some, if_neg (by omega), ← h4, e1, Option.getD_some, e2]
    rfl
theorem openF_bad {L : List Nd} {es : List Ent} {S : Shares} (hL : L.map tri = L5) (hl : Laid L es) (he : es.length = L.length) {path : ByteArray} {n : Nat} (h : errAt (folK (treeK L5) path) n = true) : openF (treeE L es) S path = .error n := by
  have ht := laid_tells hl
  rw [he, ← List.length_map (f := tri), List.take_length, hL] at ht
  unfold openF
  rw [folF_K ht, errAt_eq h]
/-- the names in the root -/
def rootKeys : List (List UInt8) := [[47, 108, 105, 98], [47, 108], [47, 98], [47, 120]]
theorem treeK_dom (k : ByteArray) : (treeK L5 k).isSome = true ↔ k ∈ [slash, ⟨#[47, 108, 105, 98]⟩, ⟨#[47, 108, 105, 98, 47, 97]⟩, ⟨#[47, 108]⟩, ⟨#[47, 98]⟩, ⟨#[47, 120]⟩] := by
  unfold treeK L5
  simp only [List.foldl_cons, List.foldl_nil, stepK, rootK, List.mem_cons, List.not_mem_nil, or_false]
  repeat' split
  all_goals simp_all
theorem mkP_data (k : ByteArray) : mkP k.data.toList = k := by
  apply ByteArray.ext
  apply Array.ext'
  rfl
theorem root_names {F : ByteArray → Option Ent} (ht : Tells F (treeK L5)) {ss : List (List UInt8)} (h : KeysOf F ss) : ((namesIn slash ss).mergeSort fun x y => decide (x ≤ y)) = [[98], [108], [108, 105, 98], [120]] := by
  have hmem : ∀ x, x ∈ ss ↔ mkP x ∈ [slash, ⟨#[47, 108, 105, 98]⟩, ⟨#[47, 108, 105, 98, 47, 97]⟩, ⟨#[47, 108]⟩, ⟨#[47, 98]⟩, ⟨#[47, 120]⟩] := fun x => by
    rw [h.2 x, ← treeK_dom, ← ht (mkP x)]
    cases F (mkP x) <;> rfl
  have hp : (ss.filter (inDir slash)).Perm rootKeys := by
    refine (List.perm_ext_iff_of_nodup (h.1.filter _) (by decide)).2 fun x => ?_
    rw [List.mem_filter, hmem x]
    constructor
    · rintro ⟨h1, h2⟩
      simp only [List.mem_cons, List.not_mem_nil, or_false] at h1
      have hx : x = (mkP x).data.toList := rfl
      rcases h1 with e | e | e | e | e | e
      · exfalso
        unfold inDir at h2
        rw [e] at h2
        revert h2
        decide +kernel
      · rw [hx, e]; decide
      · exfalso
        unfold inDir at h2
        rw [e] at h2
        revert h2
        decide +kernel
      · rw [hx, e]; decide
      · rw [hx, e]; decide
      · rw [hx, e]; decide
    · intro h1
      unfold rootKeys at h1
      simp only [List.mem_cons, List.not_mem_nil, or_false] at h1
      rcases h1 with rfl | rfl | rfl | rfl
      · exact ⟨by rw [show mkP [47, 108, 105, 98] = ⟨#[47, 108, 105, 98]⟩ from rfl]; simp, by decide +kernel⟩
      · exact ⟨by rw [show mkP [47, 108] = ⟨#[47, 108]⟩ from rfl]; simp, by decide +kernel⟩
      · exact ⟨by rw [show mkP [47, 98] = ⟨#[47, 98]⟩ from rfl]; simp, by decide +kernel⟩
      · exact ⟨by rw [show mkP [47, 120] = ⟨#[47, 120]⟩ from rfl]; simp, by decide +kernel⟩
  have hr : rootKeys.map lastName = [[108, 105, 98], [108], [98], [120]] := by decide +kernel
  have hs : ([[108, 105, 98], [108], [98], [120]] : List (List UInt8)).Perm [[98], [108], [108, 105, 98], [120]] := by decide
  have hq : (namesIn slash ss).Perm [[98], [108], [108, 105, 98], [120]] := by
    have := hp.map lastName
    rw [hr] at this
    exact this.trans hs
  rw [mergeSort_of_perm hq]
  exact List.mergeSort_of_pairwise (by decide)
end Go.Proofs.YtpblgbegdfdgdaaDoor
