/- Layer 14: a tree of the nodes that can be, of both kinds, and that they tell the same; or none. -/
import Derived.Test.YtppeapafnnanbaaDoorSearchTree
import Derived.Test.YtppeapafnnanbaaDoorRefOpen
namespace Go.Proofs.YtppeapafnnanbaaDoor
open Go.RowKit
set_option linter.unusedVariables false
set_option linter.unusedSimpArgs false

def TreePost2 (e : Ending) (w' : World) : Prop :=
  e = .returned (.tuple #[.pointer none, .pointer none]) ∨
  ∃ tb gm c rb a rc L F S, e = .returned (.tuple #[.pointer (some ⟨tb, 0, none⟩), .pointer (some ⟨rb, 0, none⟩)]) ∧ TreeAt w' tb gm c F ∧ ShAt w' F S ∧ TreeIn F ∧ RefFull w' w' rb a rc L F S
set_option maxRecDepth 100000 in
set_option maxHeartbeats 4000000 in
theorem rnew_big (a : Option Addr) (n cap : Nat) (w : World) (hnl : n ≤ 140737488351232) (hbig : 1024 < n) :
    Calls Tryd.prog 13 #[.slice a n cap] w fun e w' => e = .returned (.tuple #[.pointer none, .int .i64 2, .int .i64 (-1)]) ∧ Below w.heap.size w w' := by
  have t1 : decide ((1024 : Int) < (n : Int)) = true := decide_eq_true (by omega)
  clear hbig hnl
  go_enter Tryd.func13, Tryd.ntmps13
  go_wp2_with fail
  go_ret3
  exact ⟨rfl, Below.refl _ _⟩
/-- the two trees tell the same -/
theorem full_of {w w2 w3 : World} {L : List Nd} {D : Nat → List Nat} {es : List Ent} {rb c : Nat} {L' : List Nd} {ad : Option Addr} (hla : Laid L es) (hlen : es.length = L.length) (hsh : ShL w2 w.heap.size L es D) (hr : RSt w2 rb L D L.length L' ad c w3) (hk : L.length ≤ 1024) (hD : ∀ i, (hi : i < L.length) → (D i).length = L[i].dn) : RefFull w3 w3 rb ad c L' (treeE L es) (sharesOf w2 D) := by
  have hl := hr.len
  have his := refIs_laid hla hlen hl hr.alike
  refine ⟨hr.ref hk, his, hr.hard, fun p e he h0 => ?_⟩
  have hps : p ≠ slash := by
    intro hp
    obtain ⟨r, hr1, hr2⟩ := his.root
    rw [hp, hr1] at he
    obtain rfl := Option.some.inj he
    omega
  obtain ⟨i, hi, hfi, -, hpath, -⟩ := his.has hps he
  have hiL : i < L.length := by omega
  obtain ⟨b1, -⟩ := laid_here hla i (by omega) hiL
  rw [← (hr.alike i hi hiL).path, hpath, he] at b1
  have hee := Option.some.inj b1
  obtain ⟨k, hkL, hf, hk0, hshk⟩ := file_laid hla hlen hl hr.alike hr.hard i i (Nat.le_refl _) hiL (by rw [← hee]; exact h0)
  have hkl' : k < L'.length := by omega
  refine ⟨i, hi, hfi, k, hkl', hf, ?_⟩
  obtain ⟨sb, ad2, c2, e1, -, e2, e3⟩ := hsh k (by omega) hkL hk0
  have hS : sharesOf w2 D (e.sh.getD 0) = ((k : Int), L[k].su, D k) := by
    rw [hee, hshk, e1]
    unfold sharesOf
    simp only [Option.getD_some]
    rw [e2]
    rfl
  have al := hr.alike k hkl' hkL
  have hd := (hr.data k hkl').at
  rw [hS]
  refine ⟨rfl, al.su.symm, ?_, hd.2.1⟩
  show (D k).length = _
  rw [hD k hkL, al.dn]

set_option maxRecDepth 100000 in
set_option maxHeartbeats 8000000 in
theorem tree2_any (a : Option Addr) (n cap : Nat) (L : List Nd) (D : Nat → List Nat) (w : World) (hr : NdRow w a L) (hn : L.length = n) (hnl : n ≤ 140737488351232) (hD : ∀ i, (hi : i < L.length) → NdOk w L[i] (D i)) :
    Calls Tryd.prog 5 #[.slice a n cap] w fun e w' => TreePost2 e w' ∧ Below w.heap.size w w' := by
  have HN := Lib.hid (new_any a n cap L D w hr hn hnl hD)
  have HRN : Hid (∀ wx, Below w.heap.size w wx → Calls Tryd.prog 13 #[.slice a n cap] wx fun e w' => ((∃ rb ad c L', e = .returned (.tuple #[.pointer (some ⟨rb, 0, none⟩), .int .i64 0, .int .i64 0]) ∧ RSt wx rb L D L.length L' ad c w' ∧ L.length ≤ 1024) ∨ ∃ c k : Int, e = .returned (.tuple #[.pointer none, .int .i64 c, .int .i64 k]) ∧ c ≠ 0) ∧ Below wx.heap.size wx w') := Lib.hid (fun wx hb => by
    by_cases hbig : 1024 < n
    · exact (rnew_big a n cap wx hnl hbig).mono (fun e w' h => ⟨.inr ⟨_, _, h.1, by omega⟩, h.2⟩)
    · exact (rnew_any a n cap L D wx (hr.below hb) hn hnl (fun i hi => (hD i hi).below hb)).mono (fun e w' h => by
        refine ⟨?_, h.2⟩
        rcases h.1 with ⟨tb, ad, c, L', he, hst⟩ | ⟨tb, ad, c, L', wx', hk, he, -, hne⟩ | ⟨-, he⟩
        · exact .inl ⟨tb, ad, c, L', he, hst, by omega⟩
        · exact .inr ⟨_, _, he, by omega⟩
        · exact .inr ⟨_, _, he, by omega⟩))
  have HDL : Hid (∀ i, (hi : i < L.length) → (D i).length = L[i].dn ∧ L[i].dn ≤ 140737488355328) := Lib.hid (fun i hi => ⟨(hD i hi).len, (hD i hi).most⟩)
  clear hr hn hnl hD
  go_enter Tryd.func5, Tryd.ntmps5
  go_wp2_with fail
  refine HN.out.mono ?_
  rintro e w2 ⟨hp, hb2⟩
  have B2 := Lib.hid hb2
  rcases hp with ⟨tb, gm, es, rfl, hlen, hla, hat, hsh⟩ | ⟨es, sp, hk, rfl, -⟩ | ⟨hk, rfl⟩
  · have HST : Hid (TreeAt w2 tb gm (L.length + 1) (treeE L es) ∧ ShAt w2 (treeE L es) (sharesOf w2 D) ∧ TreeIn (treeE L es)) := Lib.hid ⟨hat, shAt_of hla hsh HDL.out, hla.treeIn⟩
    have HFU : Hid (∀ rb ad c L' w3, RSt w2 rb L D L.length L' ad c w3 → L.length ≤ 1024 → RefFull w3 w3 rb ad c L' (treeE L es) (sharesOf w2 D)) := Lib.hid (fun rb ad c L' w3 h hk => full_of hla hlen hsh h hk (fun i hi => (HDL.out i hi).1))
    clear hb2 hlen hla hat hsh
    go_wp2_with fail
    refine (HRN.out w2 B2.out).mono ?_
    rintro e w3 ⟨hp, hb3⟩
    have B3 := Lib.hid (bstep B2.out hb3)
    have HST3 : Hid (TreeAt w3 tb gm (L.length + 1) (treeE L es) ∧ ShAt w3 (treeE L es) (sharesOf w2 D) ∧ TreeIn (treeE L es)) := Lib.hid ⟨HST.out.1.below hb3, HST.out.2.1.below hb3, HST.out.2.2⟩
    clear hb3
    rcases hp with ⟨rb, ad, rc, L', rfl, hst, hk⟩ | ⟨c, k, rfl, hc⟩
    · have HF3 := Lib.hid (HFU.out rb ad rc L' w3 hst hk)
      clear hst hk
      go_wp2_with fail
      go_ret2
      exact ⟨.inr ⟨tb, gm, _, rb, ad, rc, L', _, _, rfl, HST3.out.1, HST3.out.2.1, HST3.out.2.2, HF3.out⟩, B3.out⟩
    · have tc : (c != 0) = true := bne_iff_ne.2 hc
      clear hc
      go_wp2_with fail
      go_ret2
      exact ⟨.inl rfl, B3.out⟩
  · clear hb2
    go_wp2_with fail
    refine (HRN.out w2 B2.out).mono ?_
    rintro e w3 ⟨hp, hb3⟩
    have B3 := Lib.hid (bstep B2.out hb3)
    clear hb3
    rcases hp with ⟨rb, ad, rc, L', rfl, hst, -⟩ | ⟨c, k, rfl, hc⟩
    · clear hst
      go_wp2_with fail
      go_ret2
      exact ⟨.inl rfl, B3.out⟩
    · clear hc
      go_wp2_with fail
      go_ret2
      exact ⟨.inl rfl, B3.out⟩
  · clear hb2
    rw [errV_yes (by omega)]
    go_wp2_with fail
    refine (HRN.out w2 B2.out).mono ?_
    rintro e w3 ⟨hp, hb3⟩
    have B3 := Lib.hid (bstep B2.out hb3)
    clear hb3
    rcases hp with ⟨rb, ad, rc, L', rfl, hst, -⟩ | ⟨c, k, rfl, hc⟩
    · clear hst
      go_wp2_with fail
      go_ret2
      exact ⟨.inl rfl, B3.out⟩
    · clear hc
      go_wp2_with fail
      go_ret2
      exact ⟨.inl rfl, B3.out⟩
end Go.Proofs.YtppeapafnnanbaaDoor
