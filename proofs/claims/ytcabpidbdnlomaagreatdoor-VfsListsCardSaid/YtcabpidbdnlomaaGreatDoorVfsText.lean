/- Layer 3: texts of paths: cut at each slash; has it 1 to so many bytes, none of them 0; the directory; the path of a name. -/
import Derived.Test.YtcabpidbdnlomaaGreatDoorBase
import Derived.Test.YtcabpidbdnlomaaGreatDoorShelf
import Derived.WalkMore
import Derived.Lib.SplitLaws
import Derived.Lib.IndexBytes
namespace Go.Proofs.YtcabpidbdnlomaaGreatDoor
open Go.RowKit
set_option linter.unusedVariables false
set_option linter.unusedSimpArgs false

def slash : ByteArray := ⟨#[47]⟩
/-- a text, cut at each slash -/
def slashF (s : ByteArray) : List ByteArray := Lib.splitB slash 0 (Lib.countB s slash) s
theorem slash_size : slash.size = 1 := rfl
theorem slashF_len (s : ByteArray) : (slashF s).length = Lib.countB s slash + 1 := Lib.splitB_all slash (by decide) 0 _ s rfl
theorem slashF_le (s : ByteArray) : (slashF s).length ≤ s.size + 1 := by
  rw [slashF_len]
  have := Lib.countB_le slash (by decide) s.size s (Nat.le_refl _)
  omega

theorem split_slash (s : ByteArray) (w : World) (hs : s.size < 4294967281) :
    Calls Tryz.prog 31 #[.string s, .string ⟨#[47]⟩] w fun e w' => e = .returned (.slice (some ⟨w.heap.size, 0, none⟩) (slashF s).length (slashF s).length) ∧ w' = w.alloc (.cells ((slashF s).map Value.string).toArray 9) := by
  have hle := Lib.countB_le slash (by decide) s.size s (Nat.le_refl _)
  have hlen := slashF_len s
  have hI : ∀ (x : ByteArray) (c : Array Value), x.size ≤ s.size → Calls Tryz.prog 69 #[.string x, .string slash] (w.alloc (.cells c 9)) fun e w' => e = .returned (.int .i64 (Lib.indexB x slash)) ∧ w' = w.alloc (.cells c 9) := fun x c hx => by
    refine (Tryz.strings_Index_one x 47 _).mono fun e w' ⟨he, hw⟩ => ⟨?_, hw⟩
    rw [he]
    show _ = Ending.returned (Value.int .i64 (Lib.index x.data.toList [47]))
    rw [Lib.index_one]
  have hC : Calls Tryz.prog 68 #[.string s, .string slash] w fun e w' => e = .returned (.int .i64 (Lib.countB s slash)) ∧ w' = w := by
    refine (Tryz.strings_Count_one s 47 w).mono fun e w' ⟨he, hw⟩ => ⟨?_, hw⟩
    rw [he]
    show _ = Ending.returned (Value.int .i64 ((Lib.count s.data.toList [47] : Nat) : Int))
    rw [Lib.count_one]
    rfl
  have c := Any.strings_genSplit_core Tryz.lays221 (by kernel_rfl) s slash 0 (-1) (Lib.countB s slash + 1) w hs (by decide) (Nat.zero_le _) hI hC (by decide) (by decide) (by rw [if_pos (by decide)]; omega)
  have c2 : Calls Tryz.prog 50 #[.string s, .string ⟨#[47]⟩, .int .i64 0, .int .i64 (-1)] w fun e w' => e = .returned (.slice (some ⟨w.heap.size, 0, none⟩) (slashF s).length (slashF s).length) ∧ w' = w.alloc (.cells ((slashF s).map Value.string).toArray 9) := by
    refine Calls.mono c ?_
    rintro e w' ⟨rfl, rfl⟩
    rw [Nat.add_sub_cancel]
    have e1 : Lib.splitB slash 0 (Lib.countB s slash) s = slashF s := rfl
    rw [e1, ← hlen, Lib.cellsOf_full]
    exact ⟨rfl, rfl⟩
  have HC2 := Lib.hid c2
  clear c c2 hI hC hlen hle
  go_enter Tryz.func31, Tryz.ntmps31
  go_wp2_with fail
  refine HC2.out.mono ?_
  rintro e w' ⟨rfl, rfl⟩
  go_wp2_with fail
  go_ret
  exact ⟨rfl, rfl⟩

/-- has a text 1 to so many bytes, none of them 0? -/
def withinF (s : ByteArray) (most : Nat) : Bool := decide (1 ≤ s.size) && (decide (s.size ≤ most) && decide (Lib.indexByte s.data.toList 0 < 0))
theorem within3_any (s : ByteArray) (most : Nat) (w : World) (hm : most ≤ 1048576) :
    Calls Tryz.prog 30 #[.string s, .int .i64 (most : Int)] w fun e w' => e = .returned (.bool (withinF s most)) ∧ w = w' := by
  have HI : Hid _ := Lib.hid ((Tryz.strings_IndexByte s 0 w).mono (fun e w' h => (⟨h.1, h.2.symm⟩ : _ ∧ w = w')))
  by_cases h1 : 1 ≤ s.size
  · by_cases h2 : s.size ≤ most
    · have hF : withinF s most = decide (Lib.indexByte s.data.toList 0 < 0) := by unfold withinF; simp [h1, h2]
      have HF := Lib.hid hF
      have e0 : (0 : Int).toNat.toUInt8 = 0 := rfl
      rw [e0] at HI
      have h1' : (1 : Int) ≤ (s.size : Int) := by omega
      have h2' : (s.size : Int) ≤ (most : Int) := by omega
      clear hF e0 h1 h2
      rw [HF.out]
      generalize Lib.indexByte s.data.toList 0 = ix at *
      go_enter Tryz.func30, Tryz.ntmps30
      go_wp2_with fail
      refine HI.out.mono ?_
      rintro e w' ⟨rfl, rfl⟩
      go_wp2_with fail
      go_ret
      exact ⟨rfl, rfl⟩
    · have hF : withinF s most = false := by unfold withinF; simp [h2]
      rw [hF]
      have h1' : (1 : Int) ≤ (s.size : Int) := by omega
      have h2' : ¬ (s.size : Int) ≤ (most : Int) := by omega
      clear hF h1 h2 HI
      go_enter Tryz.func30, Tryz.ntmps30
      go_wp2_with fail
      go_ret
      exact ⟨rfl, rfl⟩
  · have hF : withinF s most = false := by unfold withinF; simp [h1]
    rw [hF]
    have h1' : ¬ (1 : Int) ≤ (s.size : Int) := by omega
    clear hF h1 HI
    go_enter Tryz.func30, Tryz.ntmps30
    go_wp2_with fail
    go_ret
    exact ⟨rfl, rfl⟩
end Go.Proofs.YtcabpidbdnlomaaGreatDoor
