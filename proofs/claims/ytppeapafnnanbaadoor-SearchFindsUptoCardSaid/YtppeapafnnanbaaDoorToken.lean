/- Layer 14: the token with which a text begins; the directory of a path. -/
import Derived.Test.YtppeapafnnanbaaDoorSearchF
import Derived.Deep.LoopGhost
import Derived.OwnWalk
import Derived.IntWalk
import Derived.WalkMore
namespace Go.Proofs.YtppeapafnnanbaaDoor
open Go.RowKit
set_option linter.unusedVariables false
set_option linter.unusedSimpArgs false

theorem isWord_any (c : UInt8) (w : World) : Calls Tryd.prog 46 #[.int .u8 (c.toNat : Int)] w fun e w' => e = .returned (.bool (isW c)) ∧ w = w' := by
  obtain ⟨R, hR⟩ : ∃ R, isW c = R := ⟨_, rfl⟩
  have HR : Hid ((c.toNat == 95 || (decide (48 ≤ c.toNat) && decide (c.toNat ≤ 57)) || (decide (65 ≤ c.toNat) && decide (c.toNat ≤ 90)) || (decide (97 ≤ c.toNat) && decide (c.toNat ≤ 122))) = R) := Lib.hid (by
    rw [← hR]
    unfold isW
    have e1 : (c == 95) = (c.toNat == 95) := by rw [Bool.eq_iff_iff, beq_iff_eq, beq_iff_eq, ← UInt8.toNat_inj]; rfl
    have e2 : ∀ (x : UInt8), decide (x ≤ c) = decide (x.toNat ≤ c.toNat) := fun x => by rw [Bool.eq_iff_iff, decide_eq_true_eq, decide_eq_true_eq, UInt8.le_iff_toNat_le]
    have e3 : ∀ (x : UInt8), decide (c ≤ x) = decide (c.toNat ≤ x.toNat) := fun x => by rw [Bool.eq_iff_iff, decide_eq_true_eq, decide_eq_true_eq, UInt8.le_iff_toNat_le]
    rw [e1, e2, e2, e2, e3, e3, e3]
    rfl)
  rw [hR]
  have hc : c.toNat < 256 := UInt8.toNat_lt c
  clear hR
  generalize c.toNat = x at *
  go_enter Tryd.func46, Tryd.ntmps46
  go_wp2
  all_goals
    go_ret
    refine ⟨?_, rfl⟩
    rw [← HR.out]
    refine congrArg (fun b => Ending.returned (.bool b)) ?_
    rw [Bool.eq_iff_iff]
    simp only [Bool.or_eq_true, Bool.and_eq_true, beq_iff_eq, decide_eq_true_eq]
    try simp
    try omega

theorem arr0 (w : World) (a b c : ByteArray) : (Instr.index 99 (.agg #[.string a, .string b, .string c]) (.int .i64 0)).run Tryd.prog w = .ok (.string a) w := by
  simp [Instr.index, run_underlying Tryd.underlying99, asIntOf, part, Tryd.sizeOf9, Tryd.isAgg9, go_sem]
theorem arr1 (w : World) (a b c : ByteArray) : (Instr.index 99 (.agg #[.string a, .string b, .string c]) (.int .i64 1)).run Tryd.prog w = .ok (.string b) w := by
  simp [Instr.index, run_underlying Tryd.underlying99, asIntOf, part, Tryd.sizeOf9, Tryd.isAgg9, go_sem]
theorem arr2 (w : World) (a b c : ByteArray) : (Instr.index 99 (.agg #[.string a, .string b, .string c]) (.int .i64 2)).run Tryd.prog w = .ok (.string c) w := by
  simp [Instr.index, run_underlying Tryd.underlying99, asIntOf, part, Tryd.sizeOf9, Tryd.isAgg9, go_sem]

/-- a prefix with braces; behind the dollar -/
theorem braced_lit (k : Nat) (n : ByteArray) (hn : n.data.toList = nameF k) (s : ByteArray) : Lib.hasPrefix s.data.toList (({ data := #[36, 123] } : ByteArray) ++ n ++ { data := #[125] }).data.toList = hitB k s.data.toList := by
  have e : (({ data := #[36, 123] } : ByteArray) ++ n ++ { data := #[125] }).data.toList = bracedF k := by
    rw [ByteArray.data_append, ByteArray.data_append, Array.toList_append, Array.toList_append, hn]
    rfl
  rw [e]
  rfl
theorem braced_size (k : Nat) (n : ByteArray) (hn : n.data.toList = nameF k) : (({ data := #[36, 123] } : ByteArray) ++ n ++ { data := #[125] }).size = (bracedF k).length := by
  rw [ByteArray.size_append, ByteArray.size_append]
  have : n.size = (nameF k).length := by rw [← hn]; simp
  rw [this]
  simp [bracedF]
  show 2 + _ + 1 = _
  omega
theorem tail_lit (s : ByteArray) : (s.extract 1 s.size).data.toList = s.data.toList.drop 1 := by
  simp [ByteArray.data_extract]
  rw [List.take_of_length_le (by simp)]

set_option maxRecDepth 100000 in
set_option maxHeartbeats 4000000 in
theorem token_any (s : ByteArray) (w : World) (h0 : 0 < s.size) (hs : s.size ≤ 140737488355328) :
    Calls Tryd.prog 20 #[.string s] w fun e w' => e = .returned (.tuple #[.string ⟨(nameF (tokF s.data.toList).1).toArray⟩, .int .i64 ((tokF s.data.toList).2 : Int)]) ∧ w = w' := by
  have hhd : s.data.toList.head? = some s[0] := by
    obtain ⟨⟨l⟩⟩ := s
    cases l with
    | nil => exact absurd h0 (by decide)
    | cons c l => rfl
  have HB := Lib.hid (fun (p : ByteArray) (w1 : World) => Tryd.strings_HasPrefix s p w1)
  obtain ⟨R, hR⟩ : ∃ R, tokF s.data.toList = R := ⟨_, rfl⟩
  have HR := Lib.hid hR
  rw [hR]
  clear hR
  by_cases h36 : s[0] = 36
  · have ht : ((s[0].toNat : Int) != 36) = false := by rw [h36]; rfl
    have HG : Hid (tokGo s.data.toList 3 1 = R) := Lib.hid (by rw [← HR.out]; unfold tokF; rw [if_pos (by rw [hhd, h36])])
    clear hhd h36 HR
    go_enter Tryd.func20, Tryd.ntmps20
    go_wp2
    go_loopg [13] 3 (fun g i wr => ∃ k : Nat, k + g = 3 ∧ i = .int .i64 (k : Int) ∧ Hid (tokGo s.data.toList g (k + 1) = R) ∧ w = wr)
    case atStart => exact ⟨0, by omega, rfl, HG, rfl⟩
    case round =>
      obtain ⟨k, hk, rfl, HT, rfl⟩ := hrel
      cases gk with
      | zero =>
        have hk3 : k = 3 := by omega
        subst hk3
        have HE : Hid (R = (0, 1)) := Lib.hid (by rw [← HT.out]; rfl)
        go_wp2
        go_ret2
        rw [HE.out]
        exact ⟨rfl, rfl⟩
      | succ g =>
        obtain rfl : g = 2 - k := by omega
        rcases (show k = 0 ∨ k = 1 ∨ k = 2 by omega) with rfl | rfl | rfl
        · have A0 := fun (w1 : World) => arr0 w1 ⟨#[79, 82, 73, 71, 73, 78]⟩ ⟨#[76, 73, 66]⟩ ⟨#[80, 76, 65, 84, 70, 79, 82, 77]⟩
          have HP1 := Lib.hid ((Tryd.strings_HasPrefix s (({ data := #[36, 123] } : ByteArray) ++ { data := #[79, 82, 73, 71, 73, 78] } ++ { data := #[125] }) w).mono (fun e w' h => (⟨h.1, h.2.symm⟩ : _ ∧ w = w')))
          rw [braced_lit 1 ⟨#[79, 82, 73, 71, 73, 78]⟩ rfl s] at HP1
          have HCP := Lib.hid ((Tryd.strings_CutPrefix (s.extract 1 s.size) ⟨#[79, 82, 73, 71, 73, 78]⟩ w).mono (fun e w' h => (⟨h.1, h.2.symm⟩ : _ ∧ w = w')))
          rw [tail_lit s] at HCP
          have HPN := Lib.hid (show hitP 1 s.data.toList = (Lib.hasPrefix (s.data.toList.drop 1) (⟨#[79, 82, 73, 71, 73, 78]⟩ : ByteArray).data.toList && endsF ((s.data.toList.drop 1).drop 6)) from rfl)
          have HTP := Lib.hid (fun (h : Lib.hasPrefix (s.data.toList.drop 1) (⟨#[79, 82, 73, 71, 73, 78]⟩ : ByteArray).data.toList = true) => (show Lib.trimPrefix (s.data.toList.drop 1) (⟨#[79, 82, 73, 71, 73, 78]⟩ : ByteArray).data.toList = (s.data.toList.drop 1).drop 6 from by unfold Lib.trimPrefix; rw [if_pos h]; rfl))
          go_wp2_with fail
          refine HP1.out.mono ?_
          rintro e w' ⟨rfl, rfl⟩
          cases hb : hitB 1 s.data.toList with
          | true =>
            have HE : Hid (R = (1, (bracedF 1).length)) := Lib.hid (by rw [← HT.out, tokGo, if_pos hb])
            clear hb
            go_wp2_with fail
            go_ret2
            rw [HE.out]
            exact ⟨rfl, rfl⟩
          | false =>
            have HN := Lib.hid hb
            clear hb
            go_wp2_with fail
            refine HCP.out.mono ?_
            rintro e w' ⟨rfl, rfl⟩
            generalize Lib.trimPrefix (s.data.toList.drop 1) (⟨#[79, 82, 73, 71, 73, 78]⟩ : ByteArray).data.toList = T at *
            cases hp : Lib.hasPrefix (s.data.toList.drop 1) (⟨#[79, 82, 73, 71, 73, 78]⟩ : ByteArray).data.toList with
            | false =>
              have HX : Hid (tokGo s.data.toList 2 (0 + 1 + 1) = R) := Lib.hid (by rw [← HT.out]; conv => rhs; rw [tokGo]; rw [if_neg (by rw [HN.out]; simp), if_neg (by rw [HPN.out, hp]; simp)])
              clear hp HPN HTP
              go_wp2_with fail
              go_roundg 2
              case measure => omega
              case rel => exact ⟨1, by omega, by go_num, HX, rfl⟩
            | true =>
              have hT := HTP.out hp
              have HPQ : Hid (hitP 1 s.data.toList = endsF T) := Lib.hid (by rw [HPN.out, hp, hT]; rfl)
              clear hp HPN HTP hT
              cases T with
              | nil =>
                have HE : Hid (R = (1, 1 + (nameF 1).length)) := Lib.hid (by rw [← HT.out, tokGo, if_neg (by rw [HN.out]; simp), if_pos (by rw [HPQ.out]; rfl)])
                go_wp2_with fail
                go_ret2
                rw [HE.out]
                exact ⟨rfl, rfl⟩
              | cons c r =>
                have HW := Lib.hid (isWord_any c w)
                go_wp2_with fail
                refine Calls.mono HW.out ?_
                rintro e w' ⟨rfl, rfl⟩
                cases hw : isW c with
                | true =>
                  have HX : Hid (tokGo s.data.toList 2 (0 + 1 + 1) = R) := Lib.hid (by rw [← HT.out]; conv => rhs; rw [tokGo]; rw [if_neg (by rw [HN.out]; simp), if_neg (by rw [HPQ.out]; simp [endsF, hw])])
                  clear hw HPQ
                  go_wp2_with fail
                  go_roundg 2
                  case measure => omega
                  case rel => exact ⟨1, by omega, by go_num, HX, rfl⟩
                | false =>
                  have HE : Hid (R = (1, 1 + (nameF 1).length)) := Lib.hid (by rw [← HT.out, tokGo, if_neg (by rw [HN.out]; simp), if_pos (by rw [HPQ.out]; simp [endsF, hw])])
                  clear hw HPQ
                  go_wp2_with fail
                  go_ret2
                  rw [HE.out]
                  exact ⟨rfl, rfl⟩
        · have A0 := fun (w1 : World) => arr1 w1 ⟨#[79, 82, 73, 71, 73, 78]⟩ ⟨#[76, 73, 66]⟩ ⟨#[80, 76, 65, 84, 70, 79, 82, 77]⟩
          have HP1 := Lib.hid ((Tryd.strings_HasPrefix s (({ data := #[36, 123] } : ByteArray) ++ { data := #[76, 73, 66] } ++ { data := #[125] }) w).mono (fun e w' h => (⟨h.1, h.2.symm⟩ : _ ∧ w = w')))
          rw [braced_lit 2 ⟨#[76, 73, 66]⟩ rfl s] at HP1
          have HCP := Lib.hid ((Tryd.strings_CutPrefix (s.extract 1 s.size) ⟨#[76, 73, 66]⟩ w).mono (fun e w' h => (⟨h.1, h.2.symm⟩ : _ ∧ w = w')))
          rw [tail_lit s] at HCP
          have HPN := Lib.hid (show hitP 2 s.data.toList = (Lib.hasPrefix (s.data.toList.drop 1) (⟨#[76, 73, 66]⟩ : ByteArray).data.toList && endsF ((s.data.toList.drop 1).drop 3)) from rfl)
          have HTP := Lib.hid (fun (h : Lib.hasPrefix (s.data.toList.drop 1) (⟨#[76, 73, 66]⟩ : ByteArray).data.toList = true) => (show Lib.trimPrefix (s.data.toList.drop 1) (⟨#[76, 73, 66]⟩ : ByteArray).data.toList = (s.data.toList.drop 1).drop 3 from by unfold Lib.trimPrefix; rw [if_pos h]; rfl))
          go_wp2_with fail
          refine HP1.out.mono ?_
          rintro e w' ⟨rfl, rfl⟩
          cases hb : hitB 2 s.data.toList with
          | true =>
            have HE : Hid (R = (2, (bracedF 2).length)) := Lib.hid (by rw [← HT.out, tokGo, if_pos hb])
            clear hb
            go_wp2_with fail
            go_ret2
            rw [HE.out]
            exact ⟨rfl, rfl⟩
          | false =>
            have HN := Lib.hid hb
            clear hb
            go_wp2_with fail
            refine HCP.out.mono ?_
            rintro e w' ⟨rfl, rfl⟩
            generalize Lib.trimPrefix (s.data.toList.drop 1) (⟨#[76, 73, 66]⟩ : ByteArray).data.toList = T at *
            cases hp : Lib.hasPrefix (s.data.toList.drop 1) (⟨#[76, 73, 66]⟩ : ByteArray).data.toList with
            | false =>
              have HX : Hid (tokGo s.data.toList 1 (1 + 1 + 1) = R) := Lib.hid (by rw [← HT.out]; conv => rhs; rw [tokGo]; rw [if_neg (by rw [HN.out]; simp), if_neg (by rw [HPN.out, hp]; simp)])
              clear hp HPN HTP
              go_wp2_with fail
              go_roundg 1
              case measure => omega
              case rel => exact ⟨2, by omega, by go_num, HX, rfl⟩
            | true =>
              have hT := HTP.out hp
              have HPQ : Hid (hitP 2 s.data.toList = endsF T) := Lib.hid (by rw [HPN.out, hp, hT]; rfl)
              clear hp HPN HTP hT
              cases T with
              | nil =>
                have HE : Hid (R = (2, 1 + (nameF 2).length)) := Lib.hid (by rw [← HT.out, tokGo, if_neg (by rw [HN.out]; simp), if_pos (by rw [HPQ.out]; rfl)])
                go_wp2_with fail
                go_ret2
                rw [HE.out]
                exact ⟨rfl, rfl⟩
              | cons c r =>
                have HW := Lib.hid (isWord_any c w)
                go_wp2_with fail
                refine Calls.mono HW.out ?_
                rintro e w' ⟨rfl, rfl⟩
                cases hw : isW c with
                | true =>
                  have HX : Hid (tokGo s.data.toList 1 (1 + 1 + 1) = R) := Lib.hid (by rw [← HT.out]; conv => rhs; rw [tokGo]; rw [if_neg (by rw [HN.out]; simp), if_neg (by rw [HPQ.out]; simp [endsF, hw])])
                  clear hw HPQ
                  go_wp2_with fail
                  go_roundg 1
                  case measure => omega
                  case rel => exact ⟨2, by omega, by go_num, HX, rfl⟩
                | false =>
                  have HE : Hid (R = (2, 1 + (nameF 2).length)) := Lib.hid (by rw [← HT.out, tokGo, if_neg (by rw [HN.out]; simp), if_pos (by rw [HPQ.out]; simp [endsF, hw])])
                  clear hw HPQ
                  go_wp2_with fail
                  go_ret2
                  rw [HE.out]
                  exact ⟨rfl, rfl⟩
        · have A0 := fun (w1 : World) => arr2 w1 ⟨#[79, 82, 73, 71, 73, 78]⟩ ⟨#[76, 73, 66]⟩ ⟨#[80, 76, 65, 84, 70, 79, 82, 77]⟩
          have HP1 := Lib.hid ((Tryd.strings_HasPrefix s (({ data := #[36, 123] } : ByteArray) ++ { data := #[80, 76, 65, 84, 70, 79, 82, 77] } ++ { data := #[125] }) w).mono (fun e w' h => (⟨h.1, h.2.symm⟩ : _ ∧ w = w')))
          rw [braced_lit 3 ⟨#[80, 76, 65, 84, 70, 79, 82, 77]⟩ rfl s] at HP1
          have HCP := Lib.hid ((Tryd.strings_CutPrefix (s.extract 1 s.size) ⟨#[80, 76, 65, 84, 70, 79, 82, 77]⟩ w).mono (fun e w' h => (⟨h.1, h.2.symm⟩ : _ ∧ w = w')))
          rw [tail_lit s] at HCP
          have HPN := Lib.hid (show hitP 3 s.data.toList = (Lib.hasPrefix (s.data.toList.drop 1) (⟨#[80, 76, 65, 84, 70, 79, 82, 77]⟩ : ByteArray).data.toList && endsF ((s.data.toList.drop 1).drop 8)) from rfl)
          have HTP := Lib.hid (fun (h : Lib.hasPrefix (s.data.toList.drop 1) (⟨#[80, 76, 65, 84, 70, 79, 82, 77]⟩ : ByteArray).data.toList = true) => (show Lib.trimPrefix (s.data.toList.drop 1) (⟨#[80, 76, 65, 84, 70, 79, 82, 77]⟩ : ByteArray).data.toList = (s.data.toList.drop 1).drop 8 from by unfold Lib.trimPrefix; rw [if_pos h]; rfl))
          go_wp2_with fail
          refine HP1.out.mono ?_
          rintro e w' ⟨rfl, rfl⟩
          cases hb : hitB 3 s.data.toList with
          | true =>
            have HE : Hid (R = (3, (bracedF 3).length)) := Lib.hid (by rw [← HT.out, tokGo, if_pos hb])
            clear hb
            go_wp2_with fail
            go_ret2
            rw [HE.out]
            exact ⟨rfl, rfl⟩
          | false =>
            have HN := Lib.hid hb
            clear hb
            go_wp2_with fail
            refine HCP.out.mono ?_
            rintro e w' ⟨rfl, rfl⟩
            generalize Lib.trimPrefix (s.data.toList.drop 1) (⟨#[80, 76, 65, 84, 70, 79, 82, 77]⟩ : ByteArray).data.toList = T at *
            cases hp : Lib.hasPrefix (s.data.toList.drop 1) (⟨#[80, 76, 65, 84, 70, 79, 82, 77]⟩ : ByteArray).data.toList with
            | false =>
              have HX : Hid (tokGo s.data.toList 0 (2 + 1 + 1) = R) := Lib.hid (by rw [← HT.out]; conv => rhs; rw [tokGo]; rw [if_neg (by rw [HN.out]; simp), if_neg (by rw [HPN.out, hp]; simp)])
              clear hp HPN HTP
              go_wp2_with fail
              go_roundg 0
              case measure => omega
              case rel => exact ⟨3, by omega, by go_num, HX, rfl⟩
            | true =>
              have hT := HTP.out hp
              have HPQ : Hid (hitP 3 s.data.toList = endsF T) := Lib.hid (by rw [HPN.out, hp, hT]; rfl)
              clear hp HPN HTP hT
              cases T with
              | nil =>
                have HE : Hid (R = (3, 1 + (nameF 3).length)) := Lib.hid (by rw [← HT.out, tokGo, if_neg (by rw [HN.out]; simp), if_pos (by rw [HPQ.out]; rfl)])
                go_wp2_with fail
                go_ret2
                rw [HE.out]
                exact ⟨rfl, rfl⟩
              | cons c r =>
                have HW := Lib.hid (isWord_any c w)
                go_wp2_with fail
                refine Calls.mono HW.out ?_
                rintro e w' ⟨rfl, rfl⟩
                cases hw : isW c with
                | true =>
                  have HX : Hid (tokGo s.data.toList 0 (2 + 1 + 1) = R) := Lib.hid (by rw [← HT.out]; conv => rhs; rw [tokGo]; rw [if_neg (by rw [HN.out]; simp), if_neg (by rw [HPQ.out]; simp [endsF, hw])])
                  clear hw HPQ
                  go_wp2_with fail
                  go_roundg 0
                  case measure => omega
                  case rel => exact ⟨3, by omega, by go_num, HX, rfl⟩
                | false =>
                  have HE : Hid (R = (3, 1 + (nameF 3).length)) := Lib.hid (by rw [← HT.out, tokGo, if_neg (by rw [HN.out]; simp), if_pos (by rw [HPQ.out]; simp [endsF, hw])])
                  clear hw HPQ
                  go_wp2_with fail
                  go_ret2
                  rw [HE.out]
                  exact ⟨rfl, rfl⟩
  · have ht : ((s[0].toNat : Int) != 36) = true := by
      rw [bne_iff_ne]
      intro e
      exact h36 (UInt8.toNat_inj.1 (by have : s[0].toNat = 36 := by omega
                                       rw [this]; rfl))
    have HE : Hid (R = (0, 1)) := Lib.hid (by rw [← HR.out]; unfold tokF; rw [if_neg (by rw [hhd]; simpa using h36)])
    clear hhd HR
    go_enter Tryd.func20, Tryd.ntmps20
    go_wp2
    go_ret2
    rw [HE.out]
    exact ⟨rfl, rfl⟩
end Go.Proofs.YtppeapafnnanbaaDoor
/- Layer 14: the directory of a path; a text with its tokens put in. -/
namespace Go.Proofs.YtppeapafnnanbaaDoor
open Go.RowKit
set_option linter.unusedVariables false
set_option linter.unusedSimpArgs false

theorem extract_take (s : ByteArray) (m : Nat) : s.extract 0 m = ⟨(s.data.toList.take m).toArray⟩ := by
  apply ByteArray.ext
  apply Array.ext'
  simp [ByteArray.data_extract]
theorem extract_drop (s : ByteArray) (m : Nat) : s.extract m s.size = ⟨(s.data.toList.drop m).toArray⟩ := by
  apply ByteArray.ext
  apply Array.ext'
  simp [ByteArray.data_extract]
  rw [List.take_of_length_le (by simp)]

set_option maxHeartbeats 2000000 in
theorem directory_any (s : ByteArray) (w : World) (hs : s.size ≤ 140737488355328) :
    Calls Tryd.prog 23 #[.string s] w fun e w' => e = .returned (.string ⟨(dirF s).toArray⟩) ∧ w = w' := by
  have HL := Lib.hid ((Tryd.strings_LastIndexByte s 47 (by omega) w).mono (fun e w' h => (⟨h.1, h.2.symm⟩ : _ ∧ w = w')))
  obtain ⟨R, hR⟩ : ∃ R, dirF s = R := ⟨_, rfl⟩
  rw [hR]
  rcases Lib.lastIndexByte_spec s 47 with ⟨h1, -⟩ | ⟨i, hi, h1, -, -⟩
  · rw [h1] at HL
    have HE : Hid (R = []) := Lib.hid (by rw [← hR]; unfold dirF lastF; rw [h1]; rfl)
    clear h1 hR
    go_enter Tryd.func23, Tryd.ntmps23
    go_wp2_with fail
    refine HL.out.mono ?_
    rintro e w' ⟨rfl, rfl⟩
    go_wp2_with fail
    go_ret
    rw [HE.out]
    exact ⟨rfl, rfl⟩
  · rw [h1] at HL
    have HE : Hid (R = s.data.toList.take (Nat.max i 1)) := Lib.hid (by rw [← hR]; unfold dirF lastF; rw [h1, if_neg (by omega)]; rfl)
    have hm : max (i : Int) 1 = ((Nat.max i 1 : Nat) : Int) := by
      show max (i : Int) 1 = ((max i 1 : Nat) : Int)
      omega
    have hm2 : Nat.max i 1 ≤ s.size := by show max i 1 ≤ s.size; omega
    have hneg : ¬ (i : Int) < 0 := by omega
    generalize Nat.max i 1 = m at *
    have hm0 : (0 : Int) ≤ (m : Int) := by omega
    have hm3 : (m : Int) ≤ (s.size : Int) := by omega
    clear h1 hR hi
    go_enter Tryd.func23, Tryd.ntmps23
    go_wp2_with fail
    refine HL.out.mono ?_
    rintro e w' ⟨rfl, rfl⟩
    go_wp2_with fail
    go_ret
    rw [HE.out, ← extract_take]
    exact ⟨rfl, rfl⟩
end Go.Proofs.YtppeapafnnanbaaDoor
