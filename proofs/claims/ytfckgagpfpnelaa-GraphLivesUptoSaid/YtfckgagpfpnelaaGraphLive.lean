/- Layer 16: which objects are left: the program's answer and the document's. -/
import Derived.Test.YtfckgagpfpnelaaGraphRefBegin
namespace Go.Proofs.Ytfckgagpfpnelaa
open Go.RowKit
set_option linter.unusedVariables false
set_option linter.unusedSimpArgs false

/-- the places of what is asked for -/
def askedTo (counts : List Int) (k : Nat) : List Nat := (List.range k).filter fun i => decide (0 < counts.getD i 0)
def asked (counts : List Int) : List Int := toI (askedTo counts counts.length)
theorem askedTo_succ (counts : List Int) (k : Nat) : askedTo counts (k + 1) = if 0 < counts.getD k 0 then askedTo counts k ++ [k] else askedTo counts k := by
  unfold askedTo
  rw [List.range_succ, List.filter_append]
  by_cases h : 0 < counts.getD k 0
  · rw [if_pos h]
    simp only [List.filter_cons, List.filter_nil, decide_eq_true h, if_true]
  · rw [if_neg h]
    simp only [List.filter_cons, List.filter_nil, decide_eq_false h, Bool.false_eq_true, if_false, List.append_nil]
theorem askedTo_le (counts : List Int) (k : Nat) : (askedTo counts k).length ≤ k := by
  unfold askedTo
  have := List.length_filter_le (fun i => decide (0 < counts.getD i 0)) (List.range k)
  simpa using this
theorem askedTo_lt {counts : List Int} {k x : Nat} (h : x ∈ askedTo counts k) : x < k := by
  unfold askedTo at h
  exact List.mem_range.1 (List.mem_filter.1 h).1
theorem asked_i64 {counts : List Int} (h : counts.length ≤ 1048576) : I64s (asked counts) := by
  intro x hx
  obtain ⟨y, hy, rfl⟩ := List.mem_map.1 hx
  have := askedTo_lt hy
  omega

/-- marks that are answered -/
def MarkAns (n : Nat) (l : List Nat) (w : World) (e : Ending) (w' : World) : Prop :=
  ∃ g, e = .returned (.slice (some ⟨g, 0, none⟩) n n) ∧ OwnB w' w.heap.size 4 g n l ∧ Below w.heap.size w w'

set_option maxRecDepth 100000 in
set_option maxHeartbeats 4000000 in
theorem live_any (w : World) (da : Option Addr) (dc : Nat) (deps : List (List Int)) (ca : Option Addr) (cc : Nat) (counts : List Int) (hn : deps.length ≤ 1048576) (hd : DRow w da deps) (hr : Row .i64 w ca counts) (hx : I64s counts) (hcl : counts.length ≤ 1048576) :
    Calls Try.prog 14 #[.slice da deps.length dc, .slice ca counts.length cc] w (MarkAns deps.length (scopeF deps (asked counts)) w) := by
  have HSC := Lib.hid (fun (w1 : World) (hb : Below w.heap.size w w1) (ra : Option Addr) (rc : Nat) (roots : List Int) => scope_any w1 da dc deps ra rc roots hn (hd.below hb))
  have HR := Lib.hid hr
  have HX := Lib.hid hx
  have HA := Lib.hid (asked_i64 hcl)
  have HAL := Lib.hid (askedTo_le counts)
  have HAS := Lib.hid (askedTo_succ counts)
  have HAD : Hid (asked counts = toI (askedTo counts counts.length)) := Lib.hid rfl
  have HGD := Lib.hid (scopeF_good deps (asked counts))
  obtain ⟨n, hnn⟩ : ∃ n, deps.length = n := ⟨_, rfl⟩
  rw [hnn] at HSC HGD hn ⊢
  obtain ⟨S, hS⟩ : ∃ S, scopeF deps (asked counts) = S := ⟨_, rfl⟩
  rw [hS] at HGD ⊢
  have HS := Lib.hid hS
  clear hd hr hx hnn hS
  go_enter Try.func14, Try.ntmps14
  go_wp2
  go_loopg [5, 13] counts.length (fun g v i wr => ∃ (k : Nat) (ad : Option Addr) (c : Nat), k + g = counts.length ∧ i = .int .i64 (k : Int) ∧ v = .slice ad (askedTo counts k).length c ∧ Hid (OwnI wr w.heap.size 3 .i64 (.slice ad (askedTo counts k).length c) (toI (askedTo counts k))) ∧ Hid (Below w.heap.size w wr))
  case atStart => exact ⟨0, none, 0, by omega, rfl, rfl, Lib.hid (OwnI.nil _ _ _ _), Lib.hid (Below.refl _ _)⟩
  case round =>
    obtain ⟨k, ad, c, hk, rfl, rfl, OW, BW⟩ := hrel
    cases gk with
    | succ g =>
      have hlk : k < counts.length := by omega
      obtain ⟨b3, o3, rfl, hc3⟩ := (HR.out.below BW.out) k hlk
      have hxb := HX.out.at hlk
      have HK := Lib.hid (HAS.out k)
      have hal := HAL.out k
      generalize counts.getD k 0 = z at *
      by_cases hz : 0 < z
      · have HK' := Lib.hid (HK.out.trans (if_pos hz))
        obtain ⟨A, hA⟩ : ∃ A, askedTo counts k = A := ⟨_, rfl⟩
        rw [hA] at OW HK' hal ⊢
        clear hA HK
        go_wp2_with (at_builtin; go_loud (refine wpList_push_k rfl (.tmp 20) (.tmp 22) slice64 rfl w.heap.size w (.slice ad A.length c) (toI A) A.length (k : Int) rfl (by rfl) (toI_length _) OW.out (by unfold maxLen; omega) (by omega) BW.out BW.out.size ?_); intro ad5 c5 w6 hown5 hbe5 hkp5; have O5 := Lib.hid hown5; have HB5 := Lib.hid hbe5; clear hown5 hbe5 hkp5)
        go_roundg g
        case measure => omega
        case rel =>
          refine ⟨k + 1, ad5, c5, by omega, by go_num, by rw [HK'.out]; simp, Lib.hid ?_, HB5⟩
          have hT : toI A ++ [(k : Int)] = toI (A ++ [k]) := by simp [toI]
          have := O5.out
          rw [hT] at this
          rw [HK'.out]
          simpa using this
      · have HK' := Lib.hid (HK.out.trans (if_neg hz))
        go_wp2
        go_roundg g
        case measure => omega
        case rel => exact ⟨k + 1, ad, c, by omega, by go_num, by rw [HK'.out], by rw [HK'.out]; exact OW, BW⟩
    | zero =>
      have hke : k = counts.length := by omega
      subst hke
      have hal := HAL.out counts.length
      have HRA : Hid (∀ w1, Below wr.heap.size wr w1 → Row .i64 w1 ad (asked counts)) := Lib.hid (fun w1 hb => by rw [HAD.out]; exact (OW.out.below hb).at.2.1)
      have hlen : (askedTo counts counts.length).length = (asked counts).length := by rw [HAD.out, toI_length]
      rw [hlen] at OW hal ⊢
      have HAD' := HAD
      clear hlen
      go_wp2_with (at_make; go_loud (refine wpList_make_marks rfl (.tmp 26) (.tmp 26) bools boolInfo rfl w.heap.size w n .i64 .i64 (n : Int) (n : Int) rfl rfl rfl rfl hn BW.out BW.out.size ?_); intro lb w4 ho4 hg4 hb4 hb4'; have O4 := Lib.hid ho4; have B4 := Lib.hid hb4; have R4 := Lib.hid (HRA.out _ hb4'); clear ho4 hg4 hb4 hb4' HRA)
      refine (HSC.out _ B4.out ad c (asked counts) R4.out HA.out (by omega)).mono ?_
      rintro e w5 ⟨a5, c5, rfl, ho5, hb5⟩
      rw [HS.out] at ho5 ⊢
      have O5 := Lib.hid ho5
      have M5 := Lib.hid (O4.out.below hb5)
      have B5 := Lib.hid (bstep B4.out hb5)
      have S4 := Lib.hid O4.out.blockGe.2
      clear ho5 hb5 O4 B4 R4 OW
      have hsl := nodup_le HGD.out
      go_wp2
      go_loopg [32] S.length (fun g i wr => ∃ k : Nat, k + g = S.length ∧ i = .int .i64 (k : Int) ∧ Hid (OwnB wr w.heap.size 4 lb n (S.take k)) ∧ Hid (OwnI wr w4.heap.size 3 .i64 (.slice a5 S.length c5) (toI S)) ∧ Hid (Below w.heap.size w wr))
      case atStart => exact ⟨0, by omega, rfl, Lib.hid (by simpa using M5.out), O5, B5⟩
      case round =>
        obtain ⟨k, hk, rfl, MK, OK, BK⟩ := hrel
        cases gk with
        | zero =>
          have hke : k = S.length := by omega
          subst hke
          have HM := Lib.hid MK.out
          rw [List.take_length] at HM
          go_wp2
          go_ret
          exact ⟨lb, rfl, HM.out, BK.out⟩
        | succ g =>
          have hlk : k < S.length := by omega
          obtain ⟨b6, o6, rfl, hc6⟩ := OK.out.at.2.1 k (by rw [toI_length]; exact hlk)
          rw [toI_getD] at hc6
          have hyn : S.getD k 0 < n := HGD.out.2 _ (by simp [List.getD, List.getElem?_eq_getElem hlk])
          have HTK : Hid (S.take (k + 1) = S.take k ++ [S.getD k 0]) := Lib.hid (by rw [List.take_succ_eq_append_getElem hlk]; simp [List.getD, List.getElem?_eq_getElem hlk])
          generalize S.getD k 0 = y at *
          have hmk := MK.out.cell hyn
          have hmf := MK.out.free y
          go_wp2
          go_roundg g
          case measure => omega
          case rel =>
            refine ⟨k + 1, by omega, by go_num, Lib.hid ?_, Lib.hid (OK.out.setO (by
              rcases own_apart MK.out OK.out (by decide) with h1 | h1
              · rw [h1]; simp
              · exact h1) _), Lib.hid (BK.out.setCell MK.out.blockGe.1 _)⟩
            rw [HTK.out]
            exact MK.out.set hyn
end Go.Proofs.Ytfckgagpfpnelaa
