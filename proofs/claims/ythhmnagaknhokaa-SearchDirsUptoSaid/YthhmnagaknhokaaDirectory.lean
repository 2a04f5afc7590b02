/- Layer 14: the directory of a path; a text with its tokens put in. -/
import Derived.Test.YthhmnagaknhokaaToken
namespace Go.Proofs.Ythhmnagaknhokaa
open Go.RowKit
set_option linter.unusedVariables false
set_option linter.unusedSimpArgs false

theorem extract_take (s : ByteArray) (m : Nat) : s.extract 0 m = ⟨(s.data.toList.take m).toArray⟩ := by
  apply ByteArray.ext
  apply Array.ext'
  simp [ByteArray.data_extract]
theorem extract_drop (s : ByteArray) (m : Nat) : s.extract m s.size = ⟨(s.data.toList.drop m).toArray⟩ := by
  apply ByteArray.ext
  apply Array.ext'
  simp [ByteArray.data_extract]
  rw [List.take_of_length_le (by simp)]

set_option maxHeartbeats 2000000 in
theorem directory_any (s : ByteArray) (w : World) (hs : s.size ≤ 140737488355328) :
    Calls Try.prog 13 #[.string s] w fun e w' => e = .returned (.string ⟨(dirF s).toArray⟩) ∧ w = w' := by
  have HL := Lib.hid ((Try.strings_LastIndexByte s 47 (by omega) w).mono (fun e w' h => (⟨h.1, h.2.symm⟩ : _ ∧ w = w')))
  obtain ⟨R, hR⟩ : ∃ R, dirF s = R := ⟨_, rfl⟩
  rw [hR]
  rcases Lib.lastIndexByte_spec s 47 with ⟨h1, -⟩ | ⟨i, hi, h1, -, -⟩
  · rw [h1] at HL
    have HE : Hid (R = []) := Lib.hid (by rw [← hR]; unfold dirF lastF; rw [h1]; rfl)
    clear h1 hR
    go_enter Try.func13, Try.ntmps13
    go_wp2_with fail
    refine HL.out.mono ?_
    rintro e w' ⟨rfl, rfl⟩
    go_wp2_with fail
    go_ret
    rw [HE.out]
    exact ⟨rfl, rfl⟩
  · rw [h1] at HL
    have HE : Hid (R = s.data.toList.take (Nat.max i 1)) := Lib.hid (by rw [← hR]; unfold dirF lastF; rw [h1, if_neg (by omega)]; rfl)
    have hm : max (i : Int) 1 = ((Nat.max i 1 : Nat) : Int) := by
      show max (i : Int) 1 = ((max i 1 : Nat) : Int)
      omega
    have hm2 : Nat.max i 1 ≤ s.size := by show max i 1 ≤ s.size; omega
    have hneg : ¬ (i : Int) < 0 := by omega
    generalize Nat.max i 1 = m at *
    have hm0 : (0 : Int) ≤ (m : Int) := by omega
    have hm3 : (m : Int) ≤ (s.size : Int) := by omega
    clear h1 hR hi
    go_enter Try.func13, Try.ntmps13
    go_wp2_with fail
    refine HL.out.mono ?_
    rintro e w' ⟨rfl, rfl⟩
    go_wp2_with fail
    go_ret
    rw [HE.out, ← extract_take]
    exact ⟨rfl, rfl⟩
end Go.Proofs.Ythhmnagaknhokaa
