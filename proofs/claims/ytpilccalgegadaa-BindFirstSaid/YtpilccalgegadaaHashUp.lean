/- Layer 7: the examples at the head of the statements. -/
import Derived.Test.YtpilccalgegadaaHashNum
namespace Go.Proofs.Ytpilccalgegadaa
open Go.RowKit
set_option linter.unusedVariables false
set_option linter.unusedSimpArgs false

theorem sys_lit : ((sysOf (⟨#[112, 114, 105, 110, 116, 102]⟩ : ByteArray).data.toList : Nat) : Int) = 125371814 := by decide +kernel
theorem gnu_lit : gnuOf (⟨#[112, 114, 105, 110, 116, 102]⟩ : ByteArray).data.toList = 359345080 := by decide +kernel
theorem up_s1 (w : World) : Calls Try.prog 23 #[.string ⟨#[112, 114, 105, 110, 116, 102]⟩] w fun e w' => e = .returned (.int .u32 125371814) ∧ w = w' := by
  have := sysv_any ⟨#[112, 114, 105, 110, 116, 102]⟩ w (by decide)
  rw [sys_lit] at this
  exact this
theorem up_g1 (w : World) : Calls Try.prog 32 #[.string ⟨#[112, 114, 105, 110, 116, 102]⟩] w fun e w' => e = .returned (.int .u32 359345080) ∧ w = w' := by
  have := gnu_any ⟨#[112, 114, 105, 110, 116, 102]⟩ w (by decide)
  rw [gnu_lit] at this
  exact this
theorem up_s2 (w : World) : Calls Try.prog 23 #[.string ⟨#[]⟩] w fun e w' => e = .returned (.int .u32 0) ∧ w = w' := sysv_any ⟨#[]⟩ w (by decide)
theorem up_g2 (w : World) : Calls Try.prog 32 #[.string ⟨#[]⟩] w fun e w' => e = .returned (.int .u32 5381) ∧ w = w' := gnu_any ⟨#[]⟩ w (by decide)




















end Go.Proofs.Ytpilccalgegadaa
