/- Layer 18: TlsLays, of any modules. -/
import Derived.Test.YtbppajfpjhmcgaaTlsUp
import Derived.Test.YtbppajfpjhmcgaaTlsRefLay
import Derived.Test.YtbppajfpjhmcgaaTlsMods
namespace Go.Proofs.Ytbppajfpjhmcgaa
open Go.RowKit
set_option linter.unusedVariables false
set_option linter.unusedSimpArgs false

set_option maxRecDepth 100000 in
set_option maxHeartbeats 8000000 in
theorem lays_at (a : Option Addr) (cap n : Nat) (l : List Md) (w : World) (h : MRow w a l) (hl : l.length = n) (hn : n ≤ 17592186044416) :
    Calls Try.prog 3 #[.slice a n cap] w fun e w' => e = .returned (.bool true) ∧ Below w.heap.size w w' := by
  have H := Lib.hid h
  have HL := Lib.hid hl
  have HN := Lib.hid hn
  clear h hl hn
  go_enter Try.func3, Try.ntmps3
  go_wp2_with (go_at_call 5; refine (up_tls _).mono ?_; rintro e w1 ⟨rfl, hb1⟩; have B1 := Lib.hid hb1; clear hb1)
  refine (layout_any a cap n l w1 (H.out.below B1.out) HL.out HN.out).mono ?_
  rintro e w5 ⟨⟨v, he, ho⟩, hb5⟩
  have B5 : Hid (Below w.heap.size w w5) := Lib.hid (B1.out.trans (hb5.mono B1.out.size))
  have HRL := Lib.hid (reflay_any a cap n l w5 ((H.out.below B1.out).below hb5) HL.out HN.out)
  clear hb5
  have hbound : ∀ ys last most, layF l 0 1 = some (ys, last, most) → ys.length ≤ 17592186044416 := fun ys last most h => by rw [lay_length h, HL.out]; exact HN.out
  have HBD := Lib.hid hbound
  clear hbound
  cases hlay : layF l 0 1 with
  | none =>
    rw [hlay] at he
    rw [hlay] at HRL
    replace he : e = .returned (.tuple #[.slice none 0 0, .int .u64 0, .int .u64 0, errV 21]) := he
    subst he
    clear ho hlay
    obtain ⟨E, hE⟩ : ∃ E, errV 21 = E := ⟨_, rfl⟩
    have HE := Lib.hid hE
    rw [hE]
    clear hE
    go_wp2_with fail
    refine HRL.out.mono ?_
    rintro e w6 ⟨⟨v6, he, -⟩, hb6⟩
    replace he : e = .returned (.tuple #[.slice none 0 0, .int .u64 0, .int .u64 0, .int .i64 21]) := he
    subst he
    have B6 : Hid (Below w.heap.size w w6) := Lib.hid (B5.out.trans (hb6.mono B5.out.size))
    clear hb6 HRL
    have HSM : Hid (Calls Try.prog 8 #[.slice none 0 0, .slice none 0 0] w6 fun e w' => e = .returned (.bool true) ∧ Below w6.heap.size w6 w') := Lib.hid (same18_any none none 0 0 [] [] w6 (fun i hi => by simp at hi) (fun i hi => by simp at hi) (by simp) (by simp))
    have HCO := Lib.hid (fun wx => code_any 21 wx (by omega) (by omega))
    rw [HE.out] at HCO
    go_wp2_with (first | (go_at_call 8; refine HSM.out.mono ?_; rintro e w7 ⟨rfl, hb7⟩; have B7 := Lib.hid hb7; clear hb7) | (go_at_call 9; refine (HCO.out _).mono ?_; rintro e w8 ⟨rfl, rfl⟩))
    go_ret
    exact ⟨rfl, B6.out.trans (B7.out.mono B6.out.size)⟩
  | some t =>
    obtain ⟨ys, last, most⟩ := t
    have hyl := HBD.out ys last most hlay
    rw [hlay] at he ho HRL
    obtain ⟨ad, c, hv, hro, -⟩ := ho.row
    obtain ⟨m, hm⟩ : ∃ m, ys.length = m := ⟨_, rfl⟩
    have HTI : Hid ((toI ys).length = m) := Lib.hid (by rw [toI_length, hm])
    have HMB : Hid (m ≤ maxLen) := Lib.hid (by unfold maxLen; omega)
    rw [HTI.out] at hv
    subst hv
    replace he : e = .returned (.tuple #[.slice ad m c, .int .u64 (last : Int), .int .u64 (most : Int), errV 0]) := he
    subst he
    have HRO := Lib.hid hro
    obtain ⟨E, hE⟩ : ∃ E, errV 0 = E := ⟨_, rfl⟩
    have HE := Lib.hid hE
    rw [hE]
    clear ho hro hlay hyl hm hE
    go_wp2_with fail
    refine HRL.out.mono ?_
    rintro e w6 ⟨⟨v6, he, ho6⟩, hb6⟩
    obtain ⟨ad6, c6, hv6, hro6, -⟩ := ho6.row
    replace hv6 : v6 = .slice ad6 (toI ys).length c6 := hv6
    rw [HTI.out] at hv6
    subst hv6
    replace he : e = .returned (.tuple #[.slice ad6 m c6, .int .u64 (last : Int), .int .u64 (most : Int), .int .i64 0]) := he
    subst he
    have HSM := Lib.hid (same18_any ad ad6 c c6 (toI ys) (toI ys) w6 (HRO.out.below hb6) hro6 (by rw [HTI.out]; exact HMB.out) (by rw [HTI.out]; exact HMB.out))
    rw [HTI.out, show (toI ys == toI ys) = true from beq_self_eq_true _] at HSM
    have B6 : Hid (Below w.heap.size w w6) := Lib.hid (B5.out.trans (hb6.mono B5.out.size))
    clear ho6 hro6 hb6 HRL
    have HCO := Lib.hid (fun wx => code_any 0 wx (by omega) (by omega))
    rw [HE.out] at HCO
    go_wp2_with (first | (go_at_call 8; refine HSM.out.mono ?_; rintro e w7 ⟨rfl, hb7⟩; have B7 := Lib.hid hb7; clear hb7) | (go_at_call 9; refine (HCO.out _).mono ?_; rintro e w8 ⟨rfl, rfl⟩))
    go_ret
    exact ⟨rfl, B6.out.trans (B7.out.mono B6.out.size)⟩

theorem walk_TlsLays (a : Option Addr) (cap : Nat) (l : List Md) (W : World) (h : MRow W a l) (h1 : l.length ≤ cap) (h2 : l.length ≤ 17592186044416) :
    Calls Try.prog 3 #[.slice a l.length cap] W fun e w' => e = .returned (.bool true) ∧ Below W.heap.size W w' := lays_at a cap l.length l W h rfl h2
end Go.Proofs.Ytbppajfpjhmcgaa
