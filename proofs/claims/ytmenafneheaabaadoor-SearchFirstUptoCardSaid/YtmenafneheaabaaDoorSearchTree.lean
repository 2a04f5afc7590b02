/- Layer 14: a tree of the nodes that can be, of both kinds, or none. -/
import Derived.Test.YtmenafneheaabaaDoorSearchFind
import Derived.Test.YtmenafneheaabaaDoorRefNew
namespace Go.Proofs.YtmenafneheaabaaDoor
open Go.RowKit
set_option linter.unusedVariables false
set_option linter.unusedSimpArgs false

/-- what a block shares, by what it holds -/
def sharesOf (w : World) (D : Nat → List Nat) : Shares := fun sb => match w.heap[sb]? with
  | some (.cells cs _ _) => (match cs.toList with
    | [.int _ i, _, .bool su] => (i, su, D i.toNat)
    | _ => (0, false, []))
  | _ => (0, false, [])
theorem shAt_of {w : World} {B : Nat} {L : List Nd} {es : List Ent} {D : Nat → List Nat} (hl : Laid L es) (hs : ShL w B L es D) (hD : ∀ i, (hi : i < L.length) → (D i).length = L[i].dn ∧ L[i].dn ≤ 140737488355328) : ShAt w (treeE L es) (sharesOf w D) := by
  intro k x hx h0
  obtain ⟨i, h1, h2, h3, h4⟩ := hl.shared k x hx h0
  obtain ⟨sb, ad, c, e1, -, e2, e3⟩ := hs i h1 h2 h3
  have hS : sharesOf w D sb = ((i : Int), L[i].su, D i) := by
    unfold sharesOf
    rw [e2]
    rfl
  obtain ⟨d1, d2⟩ := hD i h2
  obtain ⟨a1, a2, a3⟩ := e3.at
  refine ⟨sb, ad, c, h4.symm.trans e1, ?_, ?_, ?_, ?_⟩
  · rw [hS]; simp only []; rw [d1]; exact e2
  · rw [hS]; exact a2
  · rw [hS]; simp only []; omega
  · rw [hS]
    simp only []
    intro hh
    obtain ⟨b1, b2⟩ := a3 hh
    rw [toI_length] at b1
    exact ⟨b1, b2⟩
/-- what tree answers -/
def TreePost (L : List Nd) (e : Ending) (w' : World) : Prop :=
  e = .returned (.tuple #[.pointer none, .pointer none]) ∨
  ∃ tb gm c rb F S, e = .returned (.tuple #[.pointer (some ⟨tb, 0, none⟩), .pointer (some ⟨rb, 0, none⟩)]) ∧ TreeAt w' tb gm c F ∧ ShAt w' F S ∧ TreeIn F

set_option maxRecDepth 100000 in
set_option maxHeartbeats 8000000 in
theorem tree_any (a : Option Addr) (n cap : Nat) (L : List Nd) (D : Nat → List Nat) (w : World) (hr : NdRow w a L) (hn : L.length = n) (hnl : n ≤ 140737488351232) (hD : ∀ i, (hi : i < L.length) → NdOk w L[i] (D i)) :
    Calls Tryd.prog 8 #[.slice a n cap] w fun e w' => TreePost L e w' ∧ Below w.heap.size w w' := by
  have HN := Lib.hid (new_any a n cap L D w hr hn hnl hD)
  have HRN : Hid (∀ wx, Below w.heap.size w wx → Calls Tryd.prog 20 #[.slice a n cap] wx fun e w' => ((∃ rb, e = .returned (.tuple #[.pointer (some ⟨rb, 0, none⟩), .int .i64 0, .int .i64 0])) ∨ ∃ c k : Int, e = .returned (.tuple #[.pointer none, .int .i64 c, .int .i64 k]) ∧ c ≠ 0) ∧ Below wx.heap.size wx w') := Lib.hid (fun wx hb => (rnew_any a n cap L D wx (hr.below hb) hn hnl (fun i hi => (hD i hi).below hb)).mono (fun e w' h => by
    refine ⟨?_, h.2⟩
    rcases h.1 with ⟨tb, ad, c, L', he, -⟩ | ⟨tb, ad, c, L', wx', hk, he, -, hne⟩ | ⟨-, he⟩
    · exact .inl ⟨tb, he⟩
    · exact .inr ⟨_, _, he, by omega⟩
    · exact .inr ⟨_, _, he, by omega⟩))
  have HDL : Hid (∀ i, (hi : i < L.length) → (D i).length = L[i].dn ∧ L[i].dn ≤ 140737488355328) := Lib.hid (fun i hi => ⟨(hD i hi).len, (hD i hi).most⟩)
  clear hr hn hnl hD
  go_enter Tryd.func8, Tryd.ntmps8
  go_wp2_with fail
  refine HN.out.mono ?_
  rintro e w2 ⟨hp, hb2⟩
  have B2 := Lib.hid hb2
  rcases hp with ⟨tb, gm, es, rfl, hlen, hla, hat, hsh⟩ | ⟨es, sp, hk, rfl, -⟩ | ⟨hk, rfl⟩
  · have HST : Hid (TreeAt w2 tb gm (L.length + 1) (treeE L es) ∧ ShAt w2 (treeE L es) (sharesOf w2 D) ∧ TreeIn (treeE L es)) := Lib.hid ⟨hat, shAt_of hla hsh HDL.out, hla.treeIn⟩
    clear hb2 hlen hla hat hsh
    go_wp2_with fail
    refine (HRN.out w2 B2.out).mono ?_
    rintro e w3 ⟨hp, hb3⟩
    have B3 := Lib.hid (bstep B2.out hb3)
    have HST3 : Hid (TreeAt w3 tb gm (L.length + 1) (treeE L es) ∧ ShAt w3 (treeE L es) (sharesOf w2 D) ∧ TreeIn (treeE L es)) := Lib.hid ⟨HST.out.1.below hb3, HST.out.2.1.below hb3, HST.out.2.2⟩
    clear hb3
    rcases hp with ⟨rb, rfl⟩ | ⟨c, k, rfl, hc⟩
    · go_wp2_with fail
      go_ret2
      exact ⟨.inr ⟨tb, gm, _, rb, _, _, rfl, HST3.out⟩, B3.out⟩
    · have tc : (c != 0) = true := bne_iff_ne.2 hc
      clear hc
      go_wp2_with fail
      go_ret2
      exact ⟨.inl rfl, B3.out⟩
  · clear hb2
    go_wp2_with fail
    refine (HRN.out w2 B2.out).mono ?_
    rintro e w3 ⟨hp, hb3⟩
    have B3 := Lib.hid (bstep B2.out hb3)
    clear hb3
    rcases hp with ⟨rb, rfl⟩ | ⟨c, k, rfl, hc⟩
    · go_wp2_with fail
      go_ret2
      exact ⟨.inl rfl, B3.out⟩
    · clear hc
      go_wp2_with fail
      go_ret2
      exact ⟨.inl rfl, B3.out⟩
  · clear hb2
    rw [errV_yes (by omega)]
    go_wp2_with fail
    refine (HRN.out w2 B2.out).mono ?_
    rintro e w3 ⟨hp, hb3⟩
    have B3 := Lib.hid (bstep B2.out hb3)
    clear hb3
    rcases hp with ⟨rb, rfl⟩ | ⟨c, k, rfl, hc⟩
    · go_wp2_with fail
      go_ret2
      exact ⟨.inl rfl, B3.out⟩
    · clear hc
      go_wp2_with fail
      go_ret2
      exact ⟨.inl rfl, B3.out⟩
end Go.Proofs.YtmenafneheaabaaDoor
