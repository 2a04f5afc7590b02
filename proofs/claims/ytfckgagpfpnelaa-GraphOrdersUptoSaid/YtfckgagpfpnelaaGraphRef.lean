/- Layer 16, the document's own answer: what is reached, by breadth. -/
import Derived.Test.YtfckgagpfpnelaaGraphF
import Derived.Test.YtfckgagpfpnelaaGrow
import Derived.Deep.LoopGhost
import Derived.BigQuiet
import Derived.WalkSmall
namespace Go.Proofs.Ytfckgagpfpnelaa
open Go.RowKit
set_option linter.unusedVariables false
set_option linter.unusedSimpArgs false

theorem slice64 : IntSlice Try.prog 23 3 .i64 8 := ⟨Try.underlying23, by kernel_rfl⟩

/-- numbers of 64 bits -/
def I64s (xs : List Int) : Prop := ∀ x ∈ xs, -9223372036854775808 ≤ x ∧ x < 9223372036854775808
theorem I64s.at {xs : List Int} (h : I64s xs) {i : Nat} (hi : i < xs.length) : -9223372036854775808 ≤ xs.getD i 0 ∧ xs.getD i 0 < 9223372036854775808 := by
  refine h _ ?_
  simp [List.getD, List.getElem?_eq_getElem hi]
theorem toI_i64 {l : List Nat} {n : Nat} (h : Good n l) (hn : n ≤ 1048576) : I64s (toI l) := by
  intro x hx
  obtain ⟨y, hy, rfl⟩ := List.mem_map.1 hx
  have := h.2 y hy
  omega

theorem has_any (a : Option Addr) (cap : Nat) (xs : List Int) (x : Int) (w : World) (h : Row .i64 w a xs) (hl : xs.length ≤ 140737488351232) :
    Calls Try.prog 28 #[.slice a xs.length cap, .int .i64 x] w fun e w' => e = .returned (.bool (decide (x ∈ xs))) ∧ w = w' := by
  have H := Lib.hid h
  clear h
  obtain ⟨r, hr⟩ : ∃ r, decide (x ∈ xs) = r := ⟨_, rfl⟩
  rw [hr]
  have HR : Hid (decide (x ∈ xs.drop 0) = r) := Lib.hid (by simpa using hr)
  clear hr
  go_enter Try.func28, Try.ntmps28
  go_wp2
  go_loopg [5] xs.length (fun g i wr => ∃ k : Nat, k + g = xs.length ∧ i = .int .i64 (k : Int) ∧ w = wr ∧ Hid (decide (x ∈ xs.drop k) = r))
  case atStart => exact ⟨0, by omega, rfl, rfl, HR⟩
  case round =>
    obtain ⟨k, hk, rfl, rfl, hrun⟩ := hrel
    cases gk with
    | zero =>
      obtain rfl : k = xs.length := by omega
      go_wp2
      go_ret
      refine ⟨?_, rfl⟩
      rw [← hrun.out, List.drop_length]
      rfl
    | succ g =>
      obtain ⟨b, o, rfl, hc⟩ := H.out k (by omega)
      have hd : xs.drop k = xs.getD k 0 :: xs.drop (k + 1) := by rw [List.drop_eq_getElem_cons (by omega), getD_at (by omega)]
      have HD := Lib.hid hd
      clear hd
      generalize xs.getD k 0 = y at *
      have hlt : k < xs.length := by omega
      by_cases hxy : y = x
      · subst hxy
        go_wp2
        go_ret
        refine ⟨?_, by trivial⟩
        rw [← hrun.out, HD.out]
        simp
      · have hq : (y == x) = false := by rw [beq_eq_false_iff_ne]; exact hxy
        have HX := Lib.hid hxy
        clear hxy
        go_wp2
        go_roundg g
        case measure => omega
        case rel =>
          refine ⟨k + 1, by omega, by go_num, rfl, Lib.hid ?_⟩
          rw [← hrun.out, HD.out]
          have : x ≠ y := fun e => HX.out e.symm
          simp [this]

theorem layF_one (n : Nat) (l : List Nat) (xs : List Int) {k : Nat} (hk : k < xs.length) : layF n l (xs.take (k + 1)) = if isObj n (xs.getD k 0) = true ∧ (xs.getD k 0).toNat ∉ layF n l (xs.take k) then layF n l (xs.take k) ++ [(xs.getD k 0).toNat] else layF n l (xs.take k) := by
  rw [List.take_succ_eq_append_getElem hk, layF_append, getD_at hk]
  rfl
theorem layF_le (n : Nat) (l : List Nat) (xs : List Int) (h : Good n l) : (layF n l xs).length ≤ n := nodup_le (layF_good xs l h)
theorem mem_toI {l : List Nat} {x : Int} (h : 0 ≤ x) : x ∈ toI l ↔ x.toNat ∈ l := by
  unfold toI
  rw [List.mem_map]
  constructor
  · rintro ⟨y, hy, rfl⟩
    simpa using hy
  · intro hx
    exact ⟨x.toNat, hx, by omega⟩

set_option maxRecDepth 100000 in
set_option maxHeartbeats 4000000 in
theorem refLay_any (w0 w : World) (n : Nat) (l : List Nat) (al : Option Addr) (cl : Nat) (am : Option Addr) (cm : Nat) (xs : List Int) (hn : n ≤ 1048576) (hg : Good n l) (hb : Below w0.heap.size w0 w) (ho : OwnI w w0.heap.size 3 .i64 (.slice al l.length cl) (toI l))
    (hr : Row .i64 w0 am xs) (hx : I64s xs) (hxl : xs.length ≤ 140737488351232) :
    Calls Try.prog 21 #[.slice al l.length cl, .slice am xs.length cm, .int .i64 (n : Int)] w fun e w' => ∃ ad c, e = .returned (.slice ad (layF n l xs).length c) ∧ OwnI w' w0.heap.size 3 .i64 (.slice ad (layF n l xs).length c) (toI (layF n l xs)) ∧ Below w0.heap.size w0 w' := by
  have HR := Lib.hid hr
  have HX := Lib.hid hx
  have HG := Lib.hid hg
  have HL := Lib.hid (fun k (hk : k < xs.length) => layF_one n l xs hk)
  have HLE := Lib.hid (layF_le n l)
  obtain ⟨R, hR⟩ : ∃ R, layF n l xs = R := ⟨_, rfl⟩
  rw [hR]
  have HRR : Hid (layF n l (xs.take xs.length) = R) := Lib.hid (by rw [List.take_length]; exact hR)
  have HO := Lib.hid ho
  have HB := Lib.hid hb
  clear hr hx hg hR ho hb
  go_enter Try.func21, Try.ntmps21
  go_wp2
  go_loopg [0, 7] xs.length (fun g v i wr => ∃ (k : Nat) (ad : Option Addr) (c : Nat) (l' : List Nat), k + g = xs.length ∧ i = .int .i64 (k : Int) ∧ v = .slice ad l'.length c ∧ Hid (layF n l (xs.take k) = l') ∧ Hid (OwnI wr w0.heap.size 3 .i64 (.slice ad l'.length c) (toI l')) ∧ Hid (Below w0.heap.size w0 wr))
  case atStart => exact ⟨0, al, cl, l, by omega, rfl, rfl, Lib.hid (by simp [layF]), HO, HB⟩
  case round =>
    obtain ⟨k, ad, c, l', hk, rfl, rfl, HK, OW, BW⟩ := hrel
    cases gk with
    | zero =>
      have hk' : k = xs.length := by omega
      subst hk'
      have : l' = R := HK.out.symm.trans HRR.out
      subst this
      go_wp2
      go_ret
      exact ⟨ad, c, rfl, OW.out, BW.out⟩
    | succ g =>
      have hlt : k < xs.length := by omega
      obtain ⟨b, o, rfl, hc⟩ := (HR.out.below BW.out) k hlt
      have hxb := HX.out.at hlt
      have HS := Lib.hid (HL.out k hlt)
      have hll : l'.length ≤ n := by rw [← HK.out]; exact HLE.out _ HG.out
      have HH := Lib.hid (fun y => has_any ad c (toI l') y wr OW.out.at.2.1 (by rw [toI_length]; omega))
      rw [toI_length] at HH
      rw [HK.out] at HS
      generalize xs.getD k 0 = x at *
      go_wp2_with fail
      refine (HH.out _).mono ?_
      rintro e w5 ⟨rfl, rfl⟩
      by_cases h0 : 0 ≤ x
      · by_cases h1 : x < (n : Int)
        · have hobj : isObj n x = true := isObj_iff.2 ⟨h0, by omega⟩
          by_cases hm : x.toNat ∈ l'
          · have hd : decide (x ∈ toI l') = true := by rw [decide_eq_true_eq]; exact (mem_toI h0).2 hm
            rw [hd]
            have HS' : Hid (layF n l (xs.take (k + 1)) = l') := Lib.hid (by rw [HS.out, if_neg (fun h => h.2 hm)])
            clear hd hm hobj
            go_wp2
            go_roundg g
            case measure => omega
            case rel => exact ⟨k + 1, ad, c, l', by omega, by go_num, rfl, HS', OW, BW⟩
          · have hd : decide (x ∈ toI l') = false := by rw [decide_eq_false_iff_not]; exact fun h => hm ((mem_toI h0).1 h)
            rw [hd]
            have HS' : Hid (layF n l (xs.take (k + 1)) = l' ++ [x.toNat]) := Lib.hid (by rw [HS.out, if_pos ⟨hobj, hm⟩])
            have HT : Hid (toI l' ++ [x] = toI (l' ++ [x.toNat])) := Lib.hid (by simp [toI]; omega)
            clear hd hm hobj
            go_wp2_with (at_builtin; (refine wpList_push_k rfl (.tmp 38) (.tmp 43) slice64 rfl w0.heap.size w0 (.slice ad l'.length c) (toI l') l'.length x rfl (by rfl) (toI_length _) OW.out (by unfold maxLen; omega) (by omega) BW.out BW.out.size ?_); intro ad5 c5 w6 hown5 hbe5 hkp5; have O5 := Lib.hid hown5; have HB5 := Lib.hid hbe5; clear hown5 hbe5 hkp5)
            go_roundg g
            case measure => omega
            case rel =>
              refine ⟨k + 1, ad5, c5, l' ++ [x.toNat], by omega, by go_num, by simp, HS', Lib.hid ?_, HB5⟩
              have := O5.out
              rw [HT.out] at this
              simpa using this
        · have HS' : Hid (layF n l (xs.take (k + 1)) = l') := Lib.hid (by rw [HS.out, if_neg (fun h => by have := isObj_iff.1 h.1; omega)])
          go_wp2
          go_roundg g
          case measure => omega
          case rel => exact ⟨k + 1, ad, c, l', by omega, by go_num, rfl, HS', OW, BW⟩
      · have HS' : Hid (layF n l (xs.take (k + 1)) = l') := Lib.hid (by rw [HS.out, if_neg (fun h => by have := isObj_iff.1 h.1; omega)])
        go_wp2
        go_roundg g
        case measure => omega
        case rel => exact ⟨k + 1, ad, c, l', by omega, by go_num, rfl, HS', OW, BW⟩
end Go.Proofs.Ytfckgagpfpnelaa
