/- Layer 7, the statement's own walk: the hashes of any name. -/
import Derived.Test.YtppmcpkgonjoaaaHashNum
namespace Go.Proofs.Ytppmcpkgonjoaaa
open Go.RowKit
set_option linter.unusedVariables false
set_option linter.unusedSimpArgs false

theorem sys_lit : ((sysOf (⟨#[112, 114, 105, 110, 116, 102]⟩ : ByteArray).data.toList : Nat) : Int) = 125371814 := by decide +kernel
theorem gnu_lit : gnuOf (⟨#[112, 114, 105, 110, 116, 102]⟩ : ByteArray).data.toList = 359345080 := by decide +kernel
theorem up_s1 (w : World) : Calls Try.prog 5 #[.string ⟨#[112, 114, 105, 110, 116, 102]⟩] w fun e w' => e = .returned (.int .u32 125371814) ∧ w = w' := by
  have := sysv_any ⟨#[112, 114, 105, 110, 116, 102]⟩ w (by decide)
  rw [sys_lit] at this
  exact this
theorem up_g1 (w : World) : Calls Try.prog 7 #[.string ⟨#[112, 114, 105, 110, 116, 102]⟩] w fun e w' => e = .returned (.int .u32 359345080) ∧ w = w' := by
  have := gnu_any ⟨#[112, 114, 105, 110, 116, 102]⟩ w (by decide)
  rw [gnu_lit] at this
  exact this
theorem up_s2 (w : World) : Calls Try.prog 5 #[.string ⟨#[]⟩] w fun e w' => e = .returned (.int .u32 0) ∧ w = w' := sysv_any ⟨#[]⟩ w (by decide)
theorem up_g2 (w : World) : Calls Try.prog 7 #[.string ⟨#[]⟩] w fun e w' => e = .returned (.int .u32 5381) ∧ w = w' := gnu_any ⟨#[]⟩ w (by decide)

theorem up_true (w : World) : Calls Try.prog 4 #[] w fun e w' => e = .returned (.bool true) ∧ w = w' := by
  go_enter Try.func4, Try.ntmps4
  go_wp2_with fail
  refine (up_s1 w).mono ?_
  rintro e w' ⟨rfl, rfl⟩
  go_wp2_with fail
  refine (up_g1 w).mono ?_
  rintro e w' ⟨rfl, rfl⟩
  go_wp2_with fail
  refine (up_s2 w).mono ?_
  rintro e w' ⟨rfl, rfl⟩
  go_wp2_with fail
  refine (up_g2 w).mono ?_
  rintro e w' ⟨rfl, rfl⟩
  go_wp2_with fail
  go_ret
  exact ⟨rfl, rfl⟩

theorem walk_HashSums (s : ByteArray) (w : World) (hm : s.size ≤ maxLen) :
    Calls Try.prog 3 #[.string s] w fun e w' => e = .returned (.bool true) ∧ Below w.heap.size w w' := by
  have hs : s.size ≤ 9223372036854775807 := by unfold maxLen at hm; omega
  have hu := Lib.hid (up_true w)
  have h1 := Lib.hid (sysv_any s w hs)
  have h2 := Lib.hid (refSysv s w hs)
  have h3 := Lib.hid (gnu_any s w hs)
  have h4 := Lib.hid (refGnu s w hs)
  generalize sysOf s.data.toList = a at *
  generalize gnuOf s.data.toList = b at *
  go_enter Try.func3, Try.ntmps3
  go_wp2_with (first
    | (go_at_call 4; refine (Hid.out hu).mono ?_; rintro e w' ⟨rfl, rfl⟩)
    | (go_at_call 5; refine (Hid.out h1).mono ?_; rintro e w' ⟨rfl, rfl⟩)
    | (go_at_call 6; refine (Hid.out h2).mono ?_; rintro e w' ⟨rfl, rfl⟩)
    | (go_at_call 7; refine (Hid.out h3).mono ?_; rintro e w' ⟨rfl, rfl⟩)
    | (go_at_call 8; refine (Hid.out h4).mono ?_; rintro e w' ⟨rfl, rfl⟩))
  go_ret
  exact ⟨rfl, Below.refl _ _⟩
end Go.Proofs.Ytppmcpkgonjoaaa
