/- Layer 4: the first of several tests that tells something, where each leaves what the next one asks for. -/
import Derived.Test.YtmjfkcclhbpclaaDoorHeadConst
namespace Go.Proofs.YtmjfkcclhbpclaaDoor
open Go.RowKit
set_option linter.unusedVariables false
set_option linter.unusedSimpArgs false

/-- an error value of a form that can be told -/
def EV (u : Value) : Prop := (∃ sb, u = .iface 90 (.pointer (some ⟨sb, 0, none⟩))) ∨ ∃ c : Int, u = .iface 38 (.int .i64 c)
set_option maxRecDepth 100000 in
set_option maxHeartbeats 8000000 in
theorem firstS_any (sb n cap : Nat) (vs : List Value) (S : Nat → World → Prop) (P : Ending → World → Prop) (w : World) (hv : vs.length = n) (hnl : n ≤ 1048576) (hS : S 0 w)
    (hc : ∀ (i : Nat) (v : Value) wx, vs[i]? = some v → S i wx → wx.cell? ⟨sb, i, none⟩ = some v)
    (hT : ∀ (i : Nat) (v : Value) wx, vs[i]? = some v → S i wx → ∃ (F : FuncId) (b c : Array Value), v = .func (.func F) b c ∧ (∀ (args : Array Value) (w : World), (callFunc F args).run Tryd.prog w = .ok (.enter F args) w) ∧ Calls Tryd.prog F (b ++ c) wx fun e w' => ∃ u, e = .returned u ∧ ((u = .nilIface ∧ S (i + 1) w') ∨ (EV u ∧ P (.returned u) w')))
    (hP : ∀ w', S n w' → P (.returned .nilIface) w') :
    Calls Tryd.prog 22 #[.slice (some ⟨sb, 0, none⟩) n cap] w P := by
  have HC := Lib.hid hc
  have HT := Lib.hid hT
  have HP := Lib.hid hP
  have HS := Lib.hid hS
  have HL := Lib.hid hv
  have hnn : (n : Int) ≤ 1048576 := by omega
  clear hc hT hv hP hS hnl
  go_enter Tryd.func22, Tryd.ntmps22
  go_wp2_with fail
  go_loopg [8] n (fun g iv wr => ∃ k : Nat, k + g = n ∧ iv = .int .i64 (k : Int) ∧ Hid (S k wr))
  case atStart => exact ⟨0, by omega, rfl, HS⟩
  case round =>
    obtain ⟨k, hk, rfl, HB⟩ := hrel
    cases gk with
    | zero =>
      have hkn : k = n := by omega
      subst hkn
      clear hk
      go_wp2_with fail
      exact HP.out _ HB.out
    | succ g =>
      have hlt : k < n := by omega
      obtain ⟨v, hv⟩ : ∃ v, vs[k]? = some v := ⟨_, List.getElem?_eq_getElem (by have := HL.out; omega)⟩
      have c0 : wr.cell? ⟨sb, k, none⟩ = some v := HC.out k v wr hv HB.out
      obtain ⟨F, b, c, rfl, hen, hcall⟩ := HT.out k v wr hv HB.out
      have HCL := Lib.hid hcall
      have HK := Lib.hid hk
      have i0 : (0 : Int) ≤ (k : Int) := by omega
      have i1 : (k : Int) < (n : Int) := by omega
      clear hk hv hcall
      go_wp2_with fail
      refine HCL.out.mono ?_
      rintro e w2 ⟨u, rfl, hu⟩
      rcases hu with ⟨rfl, hS2⟩ | ⟨⟨sx, rfl⟩ | ⟨cx, rfl⟩, hP2⟩
      · have HS2 := Lib.hid hS2
        clear c0 HCL hen hS2
        go_wp2_with fail
        go_roundg g
        case measure => have := HK.out; omega
        case rel => exact ⟨k + 1, by have := HK.out; omega, by go_num, HS2⟩
      · have HP2 := Lib.hid hP2
        clear c0 HCL hen hP2
        go_wp2_with fail
        exact HP2.out
      · have HP2 := Lib.hid hP2
        clear c0 HCL hen hP2
        go_wp2_with fail
        exact HP2.out
end Go.Proofs.YtmjfkcclhbpclaaDoor
