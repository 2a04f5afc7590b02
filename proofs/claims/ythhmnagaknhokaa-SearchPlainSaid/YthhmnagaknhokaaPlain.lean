/- Layer 14: the statement on texts without a dollar. -/
import Derived.Test.YthhmnagaknhokaaSearchUp
namespace Go.Proofs.Ythhmnagaknhokaa
open Go.RowKit
set_option linter.unusedVariables false
set_option linter.unusedSimpArgs false

theorem of_list (s : ByteArray) : (⟨s.data.toList.toArray⟩ : ByteArray) = s := by
  apply ByteArray.ext
  simp
theorem app_list (a b : ByteArray) : (a ++ b).data.toList = a.data.toList ++ b.data.toList := by
  rw [ByteArray.data_append, Array.toList_append]
theorem back_list (a : ByteArray) (l : List UInt8) (h : a.data.toList = l) : (⟨l.toArray⟩ : ByteArray) = a := by
  subst h
  exact of_list a
theorem tok_origin (r : List UInt8) : tokF ([36, 123, 79, 82, 73, 71, 73, 78, 125] ++ r) = (1, 9) := by
  have h0 : ([36, 123, 79, 82, 73, 71, 73, 78, 125] ++ r).head? = some 36 := rfl
  unfold tokF
  rw [if_pos h0, tokGo, if_pos (by unfold hitB Lib.hasPrefix; rw [List.isPrefixOf_iff_prefix]; exact ⟨r, rfl⟩)]
  rfl
theorem tok_lib (r : List UInt8) : tokF ([36, 123, 76, 73, 66, 125] ++ r) = (2, 6) := by
  unfold tokF
  have h1 : hitB 1 ([36, 123, 76, 73, 66, 125] ++ r) = false := rfl
  have h2 : hitP 1 ([36, 123, 76, 73, 66, 125] ++ r) = false := rfl
  have h0 : ([36, 123, 76, 73, 66, 125] ++ r).head? = some 36 := rfl
  rw [if_pos h0, tokGo, if_neg (by rw [h1]; simp), if_neg (by rw [h2]; simp), tokGo, if_pos (by unfold hitB Lib.hasPrefix; rw [List.isPrefixOf_iff_prefix]; exact ⟨r, rfl⟩)]
  rfl
theorem tok_plat : tokF [36, 123, 80, 76, 65, 84, 70, 79, 82, 77, 125] = (3, 11) := by decide +kernel
def NoDollar (s : ByteArray) : Prop := ∀ c ∈ s.data.toList, c ≠ 36
theorem exp_plain (s origin : ByteArray) (h : NoDollar s) : expF s origin = (s.data.toList, false) := by
  unfold expF
  have h1 := expGo_plain (dirF origin) [] s.data.toList s.size [] false h (by simp)
  rw [List.append_nil] at h1
  rw [h1, expGo_nil, List.nil_append]
theorem exp_origin (s origin : ByteArray) (h : NoDollar s) : expF (⟨#[36, 123, 79, 82, 73, 71, 73, 78, 125]⟩ ++ s) origin = (dirF origin ++ s.data.toList, true) := by
  unfold expF
  have hs : (⟨#[36, 123, 79, 82, 73, 71, 73, 78, 125]⟩ ++ s : ByteArray).size = (8 + s.size) + 1 := by rw [ByteArray.size_append]; show 9 + _ = _; omega
  have hl : (⟨#[36, 123, 79, 82, 73, 71, 73, 78, 125]⟩ ++ s : ByteArray).data.toList = [36, 123, 79, 82, 73, 71, 73, 78, 125] ++ s.data.toList := app_list _ _
  rw [hs, hl, expGo_step (by simp), tok_origin]
  have e1 : ([36, 123, 79, 82, 73, 71, 73, 78, 125] ++ s.data.toList).drop 9 = s.data.toList := rfl
  have e2 : textF (dirF origin) ([36, 123, 79, 82, 73, 71, 73, 78, 125] ++ s.data.toList) 1 = dirF origin := rfl
  simp only [e1, e2]
  have h1 := expGo_plain (dirF origin) [] s.data.toList (8 + s.size) ([] ++ dirF origin) (false || (1 : Nat) == 1) h (by simp)
  rw [List.append_nil] at h1
  rw [h1, expGo_nil]
  rfl
theorem exp_lib (s origin : ByteArray) (h : NoDollar s) : expF (⟨#[36, 123, 76, 73, 66, 125]⟩ ++ s ++ ⟨#[36, 123, 80, 76, 65, 84, 70, 79, 82, 77, 125]⟩) origin = (libF ++ s.data.toList ++ platF, false) := by
  unfold expF
  have hs : (⟨#[36, 123, 76, 73, 66, 125]⟩ ++ s ++ ⟨#[36, 123, 80, 76, 65, 84, 70, 79, 82, 77, 125]⟩ : ByteArray).size = (16 + s.size) + 1 := by rw [ByteArray.size_append, ByteArray.size_append]; show 6 + _ + 11 = _; omega
  have hl : (⟨#[36, 123, 76, 73, 66, 125]⟩ ++ s ++ ⟨#[36, 123, 80, 76, 65, 84, 70, 79, 82, 77, 125]⟩ : ByteArray).data.toList = [36, 123, 76, 73, 66, 125] ++ (s.data.toList ++ [36, 123, 80, 76, 65, 84, 70, 79, 82, 77, 125]) := by rw [app_list, app_list, List.append_assoc]
  rw [hs, hl, expGo_step (by simp), tok_lib]
  have e1 : ([36, 123, 76, 73, 66, 125] ++ (s.data.toList ++ [36, 123, 80, 76, 65, 84, 70, 79, 82, 77, 125])).drop 6 = s.data.toList ++ [36, 123, 80, 76, 65, 84, 70, 79, 82, 77, 125] := rfl
  have e2 : textF (dirF origin) ([36, 123, 76, 73, 66, 125] ++ (s.data.toList ++ [36, 123, 80, 76, 65, 84, 70, 79, 82, 77, 125])) 2 = libF := rfl
  simp only [e1, e2]
  have hsz : s.data.toList.length = s.size := by simp
  rw [expGo_plain (dirF origin) _ s.data.toList (16 + s.size) ([] ++ libF) (false || (2 : Nat) == 1) h (by rw [hsz]; simp; omega), show 16 + s.size = (15 + s.size) + 1 from by omega, expGo_step (by simp), tok_plat]
  have e3 : ([36, 123, 80, 76, 65, 84, 70, 79, 82, 77, 125] : List UInt8).drop 11 = [] := rfl
  have e4 : textF (dirF origin) [36, 123, 80, 76, 65, 84, 70, 79, 82, 77, 125] 3 = platF := rfl
  simp only [e3, e4]
  rw [expGo_nil]
  rfl

set_option maxRecDepth 100000 in
set_option maxHeartbeats 4000000 in
theorem plain_at (s origin : ByteArray) (w : World) (hs : s.size ≤ 140737488351232) (ho : origin.size ≤ 140737488351232) :
    Calls Try.prog 3 #[.string s, .string origin] w fun e w' => e = .returned (.bool true) ∧ Below w.heap.size w w' := by
  have HE1 := Lib.hid (fun (h : NoDollar s) (w1 : World) => (show Calls Try.prog 6 #[.string s, .string origin] w1 (ExpAns (s.data.toList, false) w1) from by
    have := expand_any s origin w1 (by omega) (by omega) (by rw [exp_plain s origin h]; simp; omega)
    rwa [exp_plain s origin h] at this))
  have HE2 := Lib.hid (fun (h : NoDollar s) (w1 : World) => (show Calls Try.prog 6 #[.string (⟨#[36, 123, 79, 82, 73, 71, 73, 78, 125]⟩ ++ s), .string ⟨#[47, 120, 47, 121]⟩] w1 (ExpAns ([47, 120] ++ s.data.toList, true) w1) from by
    have hd : dirF ⟨#[47, 120, 47, 121]⟩ = [47, 120] := by decide +kernel
    have he := exp_origin s ⟨#[47, 120, 47, 121]⟩ h
    rw [hd] at he
    have hsz : (⟨#[36, 123, 79, 82, 73, 71, 73, 78, 125]⟩ ++ s : ByteArray).size = 9 + s.size := by rw [ByteArray.size_append]; rfl
    have := expand_any (⟨#[36, 123, 79, 82, 73, 71, 73, 78, 125]⟩ ++ s) ⟨#[47, 120, 47, 121]⟩ w1 (by rw [hsz]; omega) (by decide) (by rw [he]; simp; omega)
    rwa [he] at this))
  have HE3 := Lib.hid (fun (h : NoDollar s) (w1 : World) => (show Calls Try.prog 6 #[.string (⟨#[36, 123, 76, 73, 66, 125]⟩ ++ s ++ ⟨#[36, 123, 80, 76, 65, 84, 70, 79, 82, 77, 125]⟩), .string origin] w1 (ExpAns (libF ++ s.data.toList ++ platF, false) w1) from by
    have he := exp_lib s origin h
    have hsz : (⟨#[36, 123, 76, 73, 66, 125]⟩ ++ s ++ ⟨#[36, 123, 80, 76, 65, 84, 70, 79, 82, 77, 125]⟩ : ByteArray).size = 17 + s.size := by rw [ByteArray.size_append, ByteArray.size_append]; show 6 + _ + 11 = _; omega
    have := expand_any (⟨#[36, 123, 76, 73, 66, 125]⟩ ++ s ++ ⟨#[36, 123, 80, 76, 65, 84, 70, 79, 82, 77, 125]⟩) origin w1 (by rw [hsz]; omega) (by omega) (by rw [he]; simp [libF, platF]; omega)
    rwa [he] at this))
  have HK : Hid (∀ k, (hk : k < s.size) → s.data.toList.take (k + 1) = s.data.toList.take k ++ [s[k]]) := Lib.hid (fun k hk => by rw [List.take_succ_eq_append_getElem (by simpa using hk)]; rfl)
  have HALL : Hid ((∀ c ∈ s.data.toList.take s.size, c ≠ 36) → NoDollar s) := Lib.hid (fun h c hc => h c (by rw [List.take_of_length_le (by simp)]; exact hc))
  have HS := Lib.hid hs
  go_enter Try.func3, Try.ntmps3
  go_wp2_with fail
  refine (up_true w).mono ?_
  rintro e w1 ⟨rfl, hb1⟩
  have B1 := Lib.hid hb1
  clear hb1
  go_wp2_with fail
  go_loopg [6] s.size (fun g i wr => ∃ k : Nat, k + g = s.size ∧ i = .int .i64 (k : Int) ∧ Hid (∀ c ∈ s.data.toList.take k, c ≠ 36) ∧ w1 = wr)
  case atStart => exact ⟨0, by omega, rfl, Lib.hid (by simp), rfl⟩
  case round =>
    obtain ⟨k, hk, rfl, HN, rfl⟩ := hrel
    cases gk with
    | zero =>
      have hke : k = s.size := by omega
      subst hke
      have HND := Lib.hid (HALL.out HN.out)
      clear hk
      go_wp2_with fail
      refine (HE1.out HND.out _).mono ?_
      rintro e w2 ⟨rfl, hb2⟩
      have B2 := Lib.hid (bstep B1.out hb2)
      clear hb2
      go_wp2_with fail
      refine (HE2.out HND.out _).mono ?_
      rintro e w3 ⟨rfl, hb3⟩
      have B3 := Lib.hid (bstep B2.out hb3)
      clear hb3
      go_wp2_with fail
      refine (HE3.out HND.out _).mono ?_
      rintro e w4 ⟨rfl, hb4⟩
      have B4 := Lib.hid (bstep B3.out hb4)
      have q2 : ((⟨#[47, 120]⟩ : ByteArray) ++ s).toList = 47 :: 120 :: s.data.toList := by rw [ByteArray.toList_eq, app_list]; rfl
      have q3 : ((⟨#[108, 105, 98, 54, 52]⟩ : ByteArray) ++ s ++ ⟨#[120, 56, 54, 95, 54, 52]⟩).toList = libF ++ (s.data.toList ++ platF) := by rw [ByteArray.toList_eq, app_list, app_list, List.append_assoc]; rfl
      have q1 : s.toList = s.data.toList := ByteArray.toList_eq s
      clear hb4
      go_wp2_with fail
      go_ret
      exact ⟨rfl, B4.out⟩
    | succ g =>
      have hlt : k < s.size := by omega
      have hks := HK.out k hlt
      have hki : IntKind.i64.wrap ((k : Int) + 1) = (k : Int) + 1 := by rw [IntKind.wrap_i64]; omega
      by_cases h36 : s[k] = 36
      · have ht : ((s[k].toNat : Int) == 36) = true := by rw [h36]; rfl
        clear hks hki
        go_wp2_with fail
        go_ret
        exact ⟨rfl, B1.out⟩
      · have ht : ((s[k].toNat : Int) == 36) = false := by
          rw [beq_eq_false_iff_ne]
          intro e
          exact h36 (UInt8.toNat_inj.1 (by have : s[k].toNat = 36 := by omega
                                           rw [this]; rfl))
        have HN2 : Hid (∀ c ∈ s.data.toList.take (k + 1), c ≠ 36) := Lib.hid (fun c hc => by
          rw [hks] at hc
          rcases List.mem_append.1 hc with h | h
          · exact HN.out c h
          · simp only [List.mem_singleton] at h
            rw [h]
            exact h36)
        clear hks hki
        go_wp2_with fail
        go_roundg g
        case measure => omega
        case rel => exact ⟨k + 1, by omega, by go_num, HN2, rfl⟩
end Go.Proofs.Ythhmnagaknhokaa
