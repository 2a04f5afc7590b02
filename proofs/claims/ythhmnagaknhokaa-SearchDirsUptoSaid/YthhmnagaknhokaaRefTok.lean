/- Layer 14, the document's answer: a path's directory, a byte that goes on with a name, a text's beginning. -/
import Derived.Test.YthhmnagaknhokaaExpand
namespace Go.Proofs.Ythhmnagaknhokaa
open Go.RowKit
set_option linter.unusedVariables false
set_option linter.unusedSimpArgs false

theorem goes_any (c : UInt8) (w : World) : Calls Try.prog 37 #[.int .u8 (c.toNat : Int)] w fun e w' => e = .returned (.bool (isW c)) ∧ w = w' := by
  obtain ⟨R, hR⟩ : ∃ R, isW c = R := ⟨_, rfl⟩
  have HR : Hid ((c.toNat == 95 || (decide (48 ≤ c.toNat) && decide (c.toNat ≤ 57)) || (decide (65 ≤ c.toNat) && decide (c.toNat ≤ 90)) || (decide (97 ≤ c.toNat) && decide (c.toNat ≤ 122))) = R) := Lib.hid (by
    rw [← hR]
    unfold isW
    have e1 : (c == 95) = (c.toNat == 95) := by rw [Bool.eq_iff_iff, beq_iff_eq, beq_iff_eq, ← UInt8.toNat_inj]; rfl
    have e2 : ∀ (x : UInt8), decide (x ≤ c) = decide (x.toNat ≤ c.toNat) := fun x => by rw [Bool.eq_iff_iff, decide_eq_true_eq, decide_eq_true_eq, UInt8.le_iff_toNat_le]
    have e3 : ∀ (x : UInt8), decide (c ≤ x) = decide (c.toNat ≤ x.toNat) := fun x => by rw [Bool.eq_iff_iff, decide_eq_true_eq, decide_eq_true_eq, UInt8.le_iff_toNat_le]
    rw [e1, e2, e2, e2, e3, e3, e3]
    rfl)
  rw [hR]
  have hc : c.toNat < 256 := UInt8.toNat_lt c
  clear hR
  generalize c.toNat = x at *
  go_enter Try.func37, Try.ntmps37
  go_wp2
  all_goals
    go_ret
    refine ⟨?_, rfl⟩
    rw [← HR.out]
    refine congrArg (fun b => Ending.returned (.bool b)) ?_
    rw [Bool.eq_iff_iff]
    simp only [Bool.or_eq_true, Bool.and_eq_true, beq_iff_eq, decide_eq_true_eq]
    try simp
    try omega

theorem begins_any (s t : ByteArray) (w : World) (hs : s.size ≤ 140737488355328) (ht : t.size ≤ 140737488355328) :
    Calls Try.prog 36 #[.string s, .string t] w fun e w' => e = .returned (.bool (Lib.hasPrefix s.data.toList t.data.toList)) ∧ w = w' := by
  obtain ⟨R, hR⟩ : ∃ R, Lib.hasPrefix s.data.toList t.data.toList = R := ⟨_, rfl⟩
  rw [hR]
  rcases Nat.lt_or_ge s.size t.size with hlt | hge
  · have HR : Hid (R = false) := Lib.hid (by
      rw [← hR]
      cases h : Lib.hasPrefix s.data.toList t.data.toList with
      | false => rfl
      | true =>
        have h1 : t.data.toList.length ≤ s.data.toList.length := Lib.hasPrefix_le h
        have e1 : t.data.toList.length = t.size := by simp
        have e2 : s.data.toList.length = s.size := by simp
        omega)
    have hd : decide ((t.size : Int) ≤ (s.size : Int)) = false := decide_eq_false (by omega)
    have hd2 : ¬ (t.size : Int) ≤ (s.size : Int) := by omega
    clear hR
    go_enter Try.func36, Try.ntmps36
    go_wp2
    go_ret
    rw [HR.out]
    exact ⟨rfl, rfl⟩
  · have HR : Hid (((s.extract 0 t.size).toList == t.toList) = R) := Lib.hid (by
      rw [← hR, ← Lib.hasPrefix_raw, decide_eq_true hge, Bool.true_and])
    have hd2 : (t.size : Int) ≤ (s.size : Int) := by omega
    clear hR
    go_enter Try.func36, Try.ntmps36
    go_wp2
    go_ret
    rw [← HR.out]
    exact ⟨rfl, rfl⟩

theorem slash_first (s : ByteArray) (h1 : Lib.lastIndexByte s 47 = ((0 : Nat) : Int)) : s.data.toList.take 1 = [47] := by
  rcases Lib.lastIndexByte_spec s 47 with ⟨h2, -⟩ | ⟨j, hj, h2, h3, -⟩
  · rw [h1] at h2; exact absurd h2 (by decide)
  · have h0 : j = 0 := by rw [h1] at h2; omega
    subst h0
    obtain ⟨⟨l⟩⟩ := s
    cases l with
    | nil => exact absurd hj (by decide)
    | cons c l =>
      have h4 : (c.toNat : Int) = 47 := h3
      have h5 : c = 47 := UInt8.toNat_inj.1 (by show c.toNat = 47; omega)
      rw [h5]; rfl
set_option maxHeartbeats 2000000 in
theorem refDir_any (s : ByteArray) (w : World) (hs : s.size ≤ 140737488355328) :
    Calls Try.prog 35 #[.string s] w fun e w' => e = .returned (.string ⟨(dirF s).toArray⟩) ∧ w = w' := by
  obtain ⟨R, hR⟩ : ∃ R, dirF s = R := ⟨_, rfl⟩
  have HR := Lib.hid hR
  rw [hR]
  clear hR
  go_enter Try.func35, Try.ntmps35
  go_wp2
  go_loopg [3, 4] s.size (fun g at' i wr => ∃ k : Nat, ∃ p : Int, k + g = s.size ∧ i = .int .i64 (k : Int) ∧ at' = .int .i64 p ∧ Hid (Lib.lastIdx s 47 k = p) ∧ w = wr)
  case atStart => exact ⟨0, -1, by omega, rfl, rfl, Lib.hid rfl, rfl⟩
  case round =>
    obtain ⟨k, p, hk, rfl, rfl, HP, rfl⟩ := hrel
    cases gk with
    | zero =>
      have hke : k = s.size := by omega
      subst hke
      clear hk
      have hlast : lastF s = p := HP.out
      rcases Lib.lastIndexByte_spec s 47 with ⟨h1, -⟩ | ⟨i, hi, h1, -, -⟩
      · have hp : p = -1 := by rw [← hlast]; exact h1
        subst hp
        have HE : Hid (R = []) := Lib.hid (by rw [← HR.out]; unfold dirF; rw [hlast]; rfl)
        clear hlast h1 HP HR
        go_wp2
        go_ret
        rw [HE.out]
        exact ⟨rfl, rfl⟩
      · have hp : p = (i : Int) := by rw [← hlast]; exact h1
        subst hp
        cases i with
        | zero =>
          have HE : Hid (R = [47]) := Lib.hid (by
            rw [← HR.out]; unfold dirF; rw [hlast, if_neg (by decide)]
            exact slash_first s h1)
          clear hlast h1 HP HR
          go_wp2
          go_ret
          rw [HE.out]
          exact ⟨rfl, rfl⟩
        | succ i =>
          have HE : Hid (R = s.data.toList.take (i + 1)) := Lib.hid (by
            rw [← HR.out]; unfold dirF; rw [hlast, if_neg (by omega)]
            have : ((↑(i + 1) : Int)).toNat = i + 1 := by omega
            rw [this]
            have : Nat.max (i + 1) 1 = i + 1 := by show max (i + 1) 1 = i + 1; omega
            rw [this])
          clear hlast h1 HP HR
          have hne : ((((i + 1 : Nat) : Int)) == -1) = false := beq_eq_false_iff_ne.2 (by omega)
          have hne0 : ((((i + 1 : Nat) : Int)) == 0) = false := beq_eq_false_iff_ne.2 (by omega)
          have hm0 : (0 : Int) ≤ ((i + 1 : Nat) : Int) := by omega
          have hm3 : ((i + 1 : Nat) : Int) ≤ (s.size : Int) := by omega
          generalize i + 1 = m at *
          go_wp2
          go_ret
          rw [HE.out, ← extract_take]
          exact ⟨rfl, rfl⟩
    | succ g =>
      have hlt : k < s.size := by omega
      have hb : s.data[k]! = s[k] := by
        rw [getElem!_pos s.data k hlt]
        rfl
      by_cases h47 : (s[k].toNat : Int) = 47
      · have HN : Hid (Lib.lastIdx s 47 (k + 1) = (k : Int)) := Lib.hid (Lib.lastIdx_hit s 47 k (by rw [hb]; exact h47))
        have ht : ((s[k].toNat : Int) == 47) = true := beq_iff_eq.2 h47
        clear hb
        go_wp2_with fail
        go_roundg g
        case measure => omega
        case rel => exact ⟨k + 1, _, by omega, by go_num, rfl, HN, rfl⟩
      · have HN : Hid (Lib.lastIdx s 47 (k + 1) = p) := Lib.hid ((Lib.lastIdx_miss s 47 k (by rw [hb]; exact h47)).trans HP.out)
        have ht : ((s[k].toNat : Int) == 47) = false := beq_eq_false_iff_ne.2 h47
        clear hb
        go_wp2_with fail
        go_roundg g
        case measure => omega
        case rel => exact ⟨k + 1, _, by omega, by go_num, rfl, HN, rfl⟩
end Go.Proofs.Ythhmnagaknhokaa
