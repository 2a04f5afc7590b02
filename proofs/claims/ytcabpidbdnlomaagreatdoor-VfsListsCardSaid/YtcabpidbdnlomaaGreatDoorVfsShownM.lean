/- Layer 3 as mathematics: what a tree tells hangs on the kinds and on where links lead alone: that can be reckoned. -/
import Derived.Test.YtcabpidbdnlomaaGreatDoorVfsFolM
import Derived.Test.YtcabpidbdnlomaaGreatDoorVfsList
namespace Go.Proofs.YtcabpidbdnlomaaGreatDoor
open Go.RowKit
set_option linter.unusedVariables false
set_option linter.unusedSimpArgs false

/-- the kinds, and where links lead -/
abbrev KT := ByteArray → Option (Int × ByteArray)
def kt (e : Ent) : Int × ByteArray := (e.kind, e.to)
def Tells (F : ByteArray → Option Ent) (K : KT) : Prop := ∀ k, (F k).map kt = K k
/-- a node's path, kind, and where it leads to -/
abbrev Tri := ByteArray × Int × ByteArray
def tri (n : Nd) : Tri := (n.path, n.kind, n.tgt)
def namedK (t : Tri) : Bool := cleanF t.1 && (if t.2.1 = 2 then withinF t.2.2 4096 else if t.2.1 = 3 then cleanF t.2.2 else true)
def mustK (K : KT) (p : ByteArray) (kind : Int) : Nat := match K p with
  | none => 6
  | some e => if e.1 = kind then 0 else 16
def checkK (K : KT) (t : Tri) : Nat :=
  if t.2.1 < 0 ∨ 3 < t.2.1 then 1
  else if namedK t = false then 30
  else if (K t.1).isSome = true then 5
  else if mustK K (parentF t.1) 1 ≠ 0 then mustK K (parentF t.1) 1
  else if t.2.1 = 3 then mustK K t.2.2 0 else 0
def leafK (K : KT) (t : Tri) : Int × ByteArray :=
  if t.2.1 = 0 then (0, ⟨#[]⟩) else if t.2.1 = 1 then (1, ⟨#[]⟩) else if t.2.1 = 2 then (2, t.2.2) else (K t.2.2).getD (0, ⟨#[]⟩)
def stepK (K : KT) (t : Tri) : KT := fun j => if j = t.1 then some (leafK K t) else K j
def rootK : KT := fun j => if j = slash then some (1, ⟨#[]⟩) else none
def treeK (l : List Tri) : KT := l.foldl stepK rootK
def goFolK (K : KT) : Nat → ByteArray → List ByteArray → Nat → Except Nat ByteArray
  | _, at', [], _ => .ok at'
  | 0, _, _ :: _, _ => .error 0
  | f + 1, at', p :: ps, h =>
    if ((K at').getD (0, ⟨#[]⟩)).1 ≠ 1 then .error 16
    else if p = ⟨#[]⟩ ∨ p = ⟨#[46]⟩ then goFolK K f at' ps h
    else if p = ⟨#[46, 46]⟩ then goFolK K f (parentF at') ps h
    else match K (joinF at' p) with
      | none => .error 6
      | some e =>
        if e.1 ≠ 2 then goFolK K f (joinF at' p) ps h
        else if 8 < h + 1 then .error 15
        else if e.2.get! 0 = 47 then goFolK K f slash (slashF (restF e.2) ++ ps) (h + 1)
        else goFolK K f at' (slashF e.2 ++ ps) (h + 1)
def folK (K : KT) (path : ByteArray) : Except Nat ByteArray :=
  if withinF path 4096 = true ∧ path.get! 0 = 47 then goFolK K 50000 slash (slashF (restF path)) 0 else .error 30
theorem tells_kind {F : ByteArray → Option Ent} {K : KT} (h : Tells F K) (k : ByteArray) : ((F k).getD Ent.zero).kind = ((K k).getD (0, ⟨#[]⟩)).1 := by
  rw [← h k]
  cases F k <;> rfl
theorem goFol_K {F : ByteArray → Option Ent} {K : KT} (h : Tells F K) : ∀ (f : Nat) (a : ByteArray) (l : List ByteArray) (n : Nat), goFol F f a l n = goFolK K f a l n
  | f, a, [], n => by rw [goFol_nil]; cases f <;> rfl
  | 0, a, p :: ps, n => rfl
  | f + 1, a, p :: ps, n => by
    rw [goFol_cons, goFolK, tells_kind h]
    split
    · rfl
    · split
      · exact goFol_K h f _ _ _
      · split
        · exact goFol_K h f _ _ _
        · rw [← h (joinF a p)]
          cases hj : F (joinF a p) with
          | none => rfl
          | some e =>
            simp only [Option.map_some, kt]
            split
            · exact goFol_K h f _ _ _
            · split
              · rfl
              · split
                · exact goFol_K h f _ _ _
                · exact goFol_K h f _ _ _
theorem folF_K {F : ByteArray → Option Ent} {K : KT} (h : Tells F K) (path : ByteArray) : folF F path = folK K path := by
  unfold folF folK
  rw [goFol_K h]
theorem mustF_K {F : ByteArray → Option Ent} {K : KT} (h : Tells F K) (p : ByteArray) (k : Int) : mustF F p k = mustK K p k := by
  unfold mustF mustK
  rw [← h p]
  cases F p <;> rfl
theorem checkF_K {F : ByteArray → Option Ent} {K : KT} (h : Tells F K) (n : Nd) : checkF F n = checkK K (tri n) := by
  unfold checkF checkK
  rw [mustF_K h, mustF_K h, ← h (tri n).1]
  have : ((F (tri n).1).map kt).isSome = (F n.path).isSome := by show ((F n.path).map kt).isSome = _; cases F n.path <;> rfl
  rw [this]
  rfl
theorem tells_root : Tells rootF rootK := by
  intro k
  unfold rootF rootK
  by_cases hk : k = slash
  · rw [hk, updE_same, if_pos rfl]
    rfl
  · rw [updE_other hk, if_neg hk]
    rfl
theorem tells_step {F : ByteArray → Option Ent} {K : KT} (h : Tells F K) {n : Nd} {e : Ent} (hc : checkF F n = 0) (he : Leaves F n e) : Tells (updE F n.path e) (stepK K (tri n)) := by
  obtain ⟨hk, -⟩ := check_zero hc
  obtain ⟨e0, e1, e2, e3⟩ := he
  intro k
  unfold stepK
  by_cases hp : k = n.path
  · rw [hp, updE_same, if_pos (show n.path = (tri n).1 from rfl)]
    simp only [Option.map_some, Option.some.injEq]
    unfold leafK
    rcases (show n.kind = 0 ∨ n.kind = 1 ∨ n.kind = 2 ∨ n.kind = 3 by omega) with q | q | q | q
    · rw [if_pos (show (tri n).2.1 = 0 from q)]
      unfold kt
      rw [(e0 q).1, (e0 q).2.2]
    · rw [if_neg (show ¬ (tri n).2.1 = 0 by show ¬ n.kind = 0; omega), if_pos (show (tri n).2.1 = 1 from q), e1 q]
      rfl
    · rw [if_neg (show ¬ (tri n).2.1 = 0 by show ¬ n.kind = 0; omega), if_neg (show ¬ (tri n).2.1 = 1 by show ¬ n.kind = 1; omega), if_pos (show (tri n).2.1 = 2 from q), e2 q]
      rfl
    · rw [if_neg (show ¬ (tri n).2.1 = 0 by show ¬ n.kind = 0; omega), if_neg (show ¬ (tri n).2.1 = 1 by show ¬ n.kind = 1; omega), if_neg (show ¬ (tri n).2.1 = 2 by show ¬ n.kind = 2; omega), e3 q]
      have := h n.tgt
      show kt ((F n.tgt).getD Ent.zero) = (K n.tgt).getD (0, ⟨#[]⟩)
      rw [← this]
      cases F n.tgt <;> rfl
  · rw [updE_other hp, if_neg (show ¬ k = (tri n).1 from hp)]
    exact h k
theorem laid_tells {L : List Nd} {es : List Ent} (h : Laid L es) : Tells (treeE L es) (treeK ((L.map tri).take es.length)) := by
  induction h with
  | nil => rw [treeE_nil]; exact tells_root
  | snoc es e h hl hc he ih =>
    rw [treeE_snoc L es e hl, List.length_append, List.length_singleton, List.take_succ_eq_append_getElem (by rw [List.length_map]; exact hl), List.getElem_map]
    unfold treeK at *
    rw [List.foldl_append]
    exact tells_step ih hc he
theorem laid_check {L : List Nd} {es : List Ent} (h : Laid L es) (hl : es.length < L.length) : checkF (treeE L es) L[es.length] = checkK (treeK ((L.map tri).take es.length)) ((L.map tri)[es.length]'(by rw [List.length_map]; exact hl)) := by
  rw [checkF_K (laid_tells h), List.getElem_map]
/-- the nodes of the document's example -/
def L5 : List Tri := [(⟨#[47, 108, 105, 98]⟩, 1, ⟨#[]⟩), (⟨#[47, 108, 105, 98, 47, 97]⟩, 0, ⟨#[]⟩), (⟨#[47, 108]⟩, 2, ⟨#[108, 105, 98]⟩), (⟨#[47, 98]⟩, 3, ⟨#[47, 108, 105, 98, 47, 97]⟩), (⟨#[47, 120]⟩, 2, ⟨#[47, 120]⟩)]
theorem L5_checks : ∀ i, i < 5 → checkK (treeK (L5.take i)) (L5.getD i (⟨#[]⟩, 0, ⟨#[]⟩)) = 0
  | 0, _ => by decide +kernel
  | 1, _ => by decide +kernel
  | 2, _ => by decide +kernel
  | 3, _ => by decide +kernel
  | 4, _ => by decide +kernel
def okAt (x : Except Nat ByteArray) (p : ByteArray) : Bool := match x with
  | .ok q => decide (q = p)
  | .error _ => false
def errAt (x : Except Nat ByteArray) (n : Nat) : Bool := match x with
  | .ok _ => false
  | .error m => decide (m = n)
theorem okAt_eq {x : Except Nat ByteArray} {p : ByteArray} (h : okAt x p = true) : x = .ok p := by
  cases x with
  | ok q => rw [of_decide_eq_true h]
  | error _ => cases h
theorem errAt_eq {x : Except Nat ByteArray} {n : Nat} (h : errAt x n = true) : x = .error n := by
  cases x with
  | ok _ => cases h
  | error m => rw [of_decide_eq_true h]
theorem L5_a : okAt (folK (treeK L5) ⟨#[47, 47, 108, 105, 98, 47, 46, 47, 46, 46, 47, 108, 47, 97]⟩) ⟨#[47, 108, 105, 98, 47, 97]⟩ = true := by decide +kernel
theorem L5_b : okAt (folK (treeK L5) ⟨#[47, 98]⟩) ⟨#[47, 98]⟩ = true := by decide +kernel
theorem L5_h : errAt (folK (treeK L5) ⟨#[47, 98, 47]⟩) 16 = true := by decide +kernel
theorem L5_i : errAt (folK (treeK L5) ⟨#[47, 120]⟩) 15 = true := by decide +kernel
theorem L5_r : okAt (folK (treeK L5) ⟨#[47, 108, 47, 46, 46]⟩) slash = true := by decide +kernel
theorem L5_l : okAt (folK (treeK L5) slash) slash = true := by decide +kernel
theorem L1_check : checkK rootK (⟨#[47, 100, 47, 101]⟩, 0, ⟨#[]⟩) = 6 := by decide +kernel
end Go.Proofs.YtcabpidbdnlomaaGreatDoor
/- Layer 3 as mathematics: what the tree of the document's example tells. -/
namespace Go.Proofs.YtcabpidbdnlomaaGreatDoor
open Go.RowKit
set_option linter.unusedVariables false
set_option linter.unusedSimpArgs false

/-- what is shared, by what a block holds -/
def sharesIn (w : World) (D : Nat → List Nat) : Shares := fun sb => match w.heap[sb]? with
  | some (.cells cs _ _) => (match cs.toList with
    | [.int _ i, _, .bool su] => (i, su, D i.toNat)
    | _ => (0, false, []))
  | _ => (0, false, [])
theorem sharesIn_of {w : World} {B : Nat} {L : List Nd} {es : List Ent} {D : Nat → List Nat} (hs : ShL w B L es D) {i : Nat} (h1 : i < es.length) (h2 : i < L.length) (h0 : L[i].kind = 0) : ∃ sb, es[i].sh = some sb ∧ sharesIn w D sb = ((i : Int), L[i].su, D i) := by
  obtain ⟨sb, ad, c, e1, -, e2, e3⟩ := hs i h1 h2 h0
  refine ⟨sb, e1, ?_⟩
  unfold sharesIn
  rw [e2]
  rfl
theorem shAt_in {w : World} {B : Nat} {L : List Nd} {es : List Ent} {D : Nat → List Nat} (hl : Laid L es) (hs : ShL w B L es D) (hD : ∀ i, (hi : i < L.length) → (D i).length = L[i].dn ∧ L[i].dn ≤ 140737488355328) : ShAt w (treeE L es) (sharesIn w D) := by
  intro k x hx h0
  obtain ⟨i, h1, h2, h3, h4⟩ := hl.shared k x hx h0
  obtain ⟨sb, ad, c, e1, -, e2, e3⟩ := hs i h1 h2 h3
  have hS : sharesIn w D sb = ((i : Int), L[i].su, D i) := by
    unfold sharesIn
    rw [e2]
    rfl
  obtain ⟨d1, d2⟩ := hD i h2
  obtain ⟨a1, a2, a3⟩ := e3.at
  refine ⟨sb, ad, c, h4.symm.trans e1, ?_, ?_, ?_, ?_⟩
  · rw [hS]; simp only []; rw [d1]; exact e2
  · rw [hS]; exact a2
  · rw [hS]; simp only []; omega
  · rw [hS]
    simp only []
    intro hh
    obtain ⟨b1, b2⟩ := a3 hh
    rw [toI_length] at b1
    exact ⟨b1, b2⟩
/-- the file at a path of the example: the only one -/
theorem openF_one {w : World} {B : Nat} {L : List Nd} {es : List Ent} {D : Nat → List Nat} (hL : L.map tri = L5) (hl : Laid L es) (he : es.length = L.length) (hs : ShL w B L es D) {path p : ByteArray} (h : okAt (folK (treeK L5) path) p = true) (hk : ((treeK L5 p).getD (1, ⟨#[]⟩)).1 = 0) :
    ∃ su bs, openF (treeE L es) (sharesIn w D) path = .ok (p, 1, su, bs) := by
  have hln : L.length = 5 := by have := congrArg List.length hL; rw [List.length_map] at this; exact this
  have ht := laid_tells hl
  rw [he, ← List.length_map (f := tri), List.take_length, hL] at ht
  have hf : folF (treeE L es) path = .ok p := by rw [folF_K ht]; exact okAt_eq h
  have hp := ht p
  cases hx : treeE L es p with
  | none =>
    rw [hx] at hp
    rw [← hp] at hk
    cases hk
  | some x =>
    rw [hx] at hp
    rw [← hp] at hk
    have hk0 : x.kind = 0 := hk
    obtain ⟨i, h1, h2, h3, h4⟩ := hl.shared p x hx hk0
    obtain ⟨sb, e1, e2⟩ := sharesIn_of hs h1 h2 h3
    have hi : i = 1 := by
      have h5 : (L5.getD i (⟨#[]⟩, 1, ⟨#[]⟩)).2.1 = 0 := by
        rw [← hL, List.getD_eq_getElem?_getD, List.getElem?_map, List.getElem?_eq_getElem h2]
        exact h3
      have hi5 : i < 5 := by omega
      match i, hi5, h5 with
      | 0, _, h => exact absurd h (by decide)
      | 1, _, _ => rfl
      | 2, _, h => exact absurd h (by decide)
      | 3, _, h => exact absurd h (by decide)
      | 4, _, h => exact absurd h (by decide)
    subst hi
    refine ⟨L[1].su, D 1, ?_⟩
    unfold openF
    rw [hf]
    simp only []
    rw [hx, Option.getD_some, if_neg (by omega), ← h4, e1, Option.getD_some, e2]
    rfl
theorem openF_bad {L : List Nd} {es : List Ent} {S : Shares} (hL : L.map tri = L5) (hl : Laid L es) (he : es.length = L.length) {path : ByteArray} {n : Nat} (h : errAt (folK (treeK L5) path) n = true) : openF (treeE L es) S path = .error n := by
  have ht := laid_tells hl
  rw [he, ← List.length_map (f := tri), List.take_length, hL] at ht
  unfold openF
  rw [folF_K ht, errAt_eq h]
/-- the names in the root -/
def rootKeys : List (List UInt8) := [[47, 108, 105, 98], [47, 108], [47, 98], [47, 120]]
theorem treeK_dom (k : ByteArray) : (treeK L5 k).isSome = true ↔ k ∈ [slash, ⟨#[47, 108, 105, 98]⟩, ⟨#[47, 108, 105, 98, 47, 97]⟩, ⟨#[47, 108]⟩, ⟨#[47, 98]⟩, ⟨#[47, 120]⟩] := by
  unfold treeK L5
  simp only [List.foldl_cons, List.foldl_nil, stepK, rootK, List.mem_cons, List.not_mem_nil, or_false]
  repeat' split
  all_goals simp_all
theorem mkP_data (k : ByteArray) : mkP k.data.toList = k := by
  apply ByteArray.ext
  apply Array.ext'
  rfl
theorem root_names {F : ByteArray → Option Ent} (ht : Tells F (treeK L5)) {ss : List (List UInt8)} (h : KeysOf F ss) : ((namesIn slash ss).mergeSort fun x y => decide (x ≤ y)) = [[98], [108], [108, 105, 98], [120]] := by
  have hmem : ∀ x, x ∈ ss ↔ mkP x ∈ [slash, ⟨#[47, 108, 105, 98]⟩, ⟨#[47, 108, 105, 98, 47, 97]⟩, ⟨#[47, 108]⟩, ⟨#[47, 98]⟩, ⟨#[47, 120]⟩] := fun x => by
    rw [h.2 x, ← treeK_dom, ← ht (mkP x)]
    cases F (mkP x) <;> rfl
  have hp : (ss.filter (inDir slash)).Perm rootKeys := by
    refine (List.perm_ext_iff_of_nodup (h.1.filter _) (by decide)).2 fun x => ?_
    rw [List.mem_filter, hmem x]
    constructor
    · rintro ⟨h1, h2⟩
      simp only [List.mem_cons, List.not_mem_nil, or_false] at h1
      have hx : x = (mkP x).data.toList := rfl
      rcases h1 with e | e | e | e | e | e
      · exfalso
        unfold inDir at h2
        rw [e] at h2
        revert h2
        decide +kernel
      · rw [hx, e]; decide
      · exfalso
        unfold inDir at h2
        rw [e] at h2
        revert h2
        decide +kernel
      · rw [hx, e]; decide
      · rw [hx, e]; decide
      · rw [hx, e]; decide
    · intro h1
      unfold rootKeys at h1
      simp only [List.mem_cons, List.not_mem_nil, or_false] at h1
      rcases h1 with rfl | rfl | rfl | rfl
      · exact ⟨by rw [show mkP [47, 108, 105, 98] = ⟨#[47, 108, 105, 98]⟩ from rfl]; simp, by decide +kernel⟩
      · exact ⟨by rw [show mkP [47, 108] = ⟨#[47, 108]⟩ from rfl]; simp, by decide +kernel⟩
      · exact ⟨by rw [show mkP [47, 98] = ⟨#[47, 98]⟩ from rfl]; simp, by decide +kernel⟩
      · exact ⟨by rw [show mkP [47, 120] = ⟨#[47, 120]⟩ from rfl]; simp, by decide +kernel⟩
  have hr : rootKeys.map lastName = [[108, 105, 98], [108], [98], [120]] := by decide +kernel
  have hs : ([[108, 105, 98], [108], [98], [120]] : List (List UInt8)).Perm [[98], [108], [108, 105, 98], [120]] := by decide
  have hq : (namesIn slash ss).Perm [[98], [108], [108, 105, 98], [120]] := by
    have := hp.map lastName
    rw [hr] at this
    exact this.trans hs
  rw [mergeSort_of_perm hq]
  exact List.mergeSort_of_pairwise (by decide)
end Go.Proofs.YtcabpidbdnlomaaGreatDoor
