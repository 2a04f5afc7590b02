/- Layer 16, the statements' own walks: orders, what lives, rings, one count more. -/
import Derived.Test.YtfckgagpfpnelaaGraphUp
namespace Go.Proofs.Ytfckgagpfpnelaa
open Go.RowKit
set_option linter.unusedVariables false
set_option linter.unusedSimpArgs false

def tot (L : List (List Int)) : Nat := (L.map List.length).sum
theorem tot_take {L : List (List Int)} {k : Nat} (h : k < L.length) : tot (L.take (k + 1)) = tot (L.take k) + (L.getD k []).length := by
  unfold tot
  rw [List.take_succ_eq_append_getElem h, List.map_append, List.sum_append]
  simp [List.getD, List.getElem?_eq_getElem h]
theorem tot_le (L : List (List Int)) (k : Nat) : tot (L.take k) ≤ tot L := by
  unfold tot
  conv => rhs; rw [← List.take_append_drop k L, List.map_append, List.sum_append]
  omega

def BoolAns (w : World) (e : Ending) (w' : World) : Prop := ∃ r, e = .returned (.bool r) ∧ w' = w
set_option maxRecDepth 100000 in
set_option maxHeartbeats 4000000 in
theorem small_any (w : World) (da : Option Addr) (dc : Nat) (deps : List (List Int)) (hb : deps.length + tot deps ≤ 1048576) (hd : DRow w da deps) :
    Calls Try.prog 8 #[.slice da deps.length dc] w (BoolAns w) := by
  have HD := Lib.hid hd
  have HT := Lib.hid (fun k (h : k < deps.length) => tot_take h)
  have HL := Lib.hid (tot_le deps)
  have HT0 : Hid (tot (deps.take 0) = 0) := Lib.hid (by simp [tot])
  generalize tot deps = T at *
  clear hd
  go_enter Try.func8, Try.ntmps8
  go_wp2
  go_loopg [3, 4] deps.length (fun g n i wr => ∃ k s : Nat, k + g = deps.length ∧ i = .int .i64 (k : Int) ∧ n = .int .i64 ((deps.length : Int) + (s : Int)) ∧ Hid (tot (deps.take k) = s) ∧ w = wr)
  case atStart => exact ⟨0, 0, by omega, rfl, by simp, HT0, rfl⟩
  case round =>
    obtain ⟨k, s, hk, rfl, rfl, HS, rfl⟩ := hrel
    have hs1 := HL.out k
    rw [HS.out] at hs1
    cases gk with
    | zero =>
      have hke : k = deps.length := by omega
      subst hke
      by_cases hle : (deps.length : Int) + (s : Int) ≤ 4000
      · go_wp2
        go_ret
        exact ⟨true, rfl, by trivial⟩
      · go_wp2
        go_ret
        exact ⟨false, rfl, by trivial⟩
    | succ g =>
      have hlk : k < deps.length := by omega
      have h2 := HT.out k hlk
      rw [HS.out] at h2
      have h3 := HL.out (k + 1)
      rw [h2] at h3
      have HS2 := Lib.hid h2
      clear h2
      obtain ⟨b2, o2, ai, ci, rfl, hlt2, hcd, -, -, -⟩ := HD.out k hlk
      generalize (deps.getD k []).length = q at *
      go_wp2
      go_roundg g
      case measure => omega
      case rel => exact ⟨k + 1, s + q, by omega, by go_num, by go_num, HS2, rfl⟩

/-- the answer of two lists' comparison -/
theorem same_lists (w0 w : World) (R : List Nat) (a b : Option Addr) (c d : Nat) (hb : Below w0.heap.size w0 w) (hl : R.length ≤ 1048576) (ha : Row .i64 w a (toI R)) (hb2 : Row .i64 w b (toI R)) :
    Calls Try.prog 9 #[.slice a R.length c, .slice b R.length d] w fun e w' => e = .returned (.bool true) ∧ Below w0.heap.size w0 w' ∧ Below w.heap.size w w' :=
  up_same w0 w a b c d R.length (toI R) hb (toI_length _) (by omega) ha hb2

set_option maxRecDepth 100000 in
set_option maxHeartbeats 4000000 in
theorem orders_at (w : World) (da : Option Addr) (dc : Nat) (deps : List (List Int)) (ra : Option Addr) (rc : Nat) (roots : List Int) (hb : deps.length + tot deps ≤ 1048576) (hd : DRow w da deps) (hr : Row .i64 w ra roots) (hx : I64s roots) (hxl : roots.length ≤ 140737488351232) :
    Calls Try.prog 3 #[.slice da deps.length dc, .slice ra roots.length rc] w fun e w' => e = .returned (.bool true) ∧ Below w.heap.size w w' := by
  have HU := Lib.hid (up_true w)
  have HD := Lib.hid hd
  have HR := Lib.hid hr
  have hdn : deps.length ≤ 1048576 := by omega
  have HSM := Lib.hid (fun (w1 : World) (h : Below w.heap.size w w1) => small_any w1 da dc deps hb (hd.below h))
  have H1 := Lib.hid (fun (w1 : World) (h : Below w.heap.size w w1) => scope_any w1 da dc deps ra rc roots hdn (hd.below h) (hr.below h) hx hxl)
  have H2 := Lib.hid (fun (w1 : World) (h : Below w.heap.size w w1) => refScope_any w1 da dc deps ra rc roots hdn (hd.below h) (hr.below h) hx hxl)
  have H3 := Lib.hid (fun (w1 : World) (h : Below w.heap.size w w1) => begin_any w1 da dc deps ra rc roots hdn (hd.below h) (hr.below h) hx hxl)
  have H4 := Lib.hid (fun (w1 : World) (h : Below w.heap.size w w1) => refBegin_any w1 da dc deps ra rc roots hdn (hd.below h) (hr.below h) hx hxl)
  have HS := Lib.hid (same_lists w)
  have hl1 := nodup_le (scopeF_good deps roots)
  have hl2 := nodup_le (beginF_good deps roots)
  generalize scopeF deps roots = R1 at *
  generalize beginF deps roots = R2 at *
  clear hd hr hx
  generalize deps.length = n at *
  generalize roots.length = m at *
  go_enter Try.func3, Try.ntmps3
  go_wp2_with fail
  refine HU.out.mono ?_
  rintro e w1 ⟨rfl, hb1⟩
  have B1 := Lib.hid hb1; clear hb1
  go_wp2_with fail
  refine (HSM.out w1 B1.out).mono ?_
  rintro e w2 ⟨r, rfl, rfl⟩
  cases r with
  | false =>
    go_wp2
    go_ret
    exact ⟨rfl, B1.out⟩
  | true =>
    go_wp2_with fail
    refine ((H1.out _ B1.out).mono fun e w' ht => ListAns.at ht B1.out).mono ?_
    rintro e w3 ⟨a3, c3, rfl, hr3, hb3, hs3⟩
    have R3 := Lib.hid hr3; have B3 := Lib.hid hb3; clear hr3 hb3 hs3
    go_wp2_with fail
    refine ((H2.out _ B3.out).mono fun e w' ht => ListAns.at ht B3.out).mono ?_
    rintro e w4 ⟨a4, c4, rfl, hr4, hb4, hs4⟩
    have R4 := Lib.hid hr4; have B4 := Lib.hid hb4; have R34 := Lib.hid (R3.out.below hs4); clear hr4 hb4 hs4
    go_wp2_with fail
    refine (HS.out w4 R1 _ _ _ _ B4.out (by omega) R34.out R4.out).mono ?_
    rintro e w5 ⟨rfl, hb5, hs5⟩
    have B5 := Lib.hid hb5; clear hb5 hs5 R3 R4 R34
    go_wp2_with fail
    refine ((H3.out _ B5.out).mono fun e w' ht => ListAns.at ht B5.out).mono ?_
    rintro e w6 ⟨a6, c6, rfl, hr6, hb6, hs6⟩
    have R6 := Lib.hid hr6; have B6 := Lib.hid hb6; clear hr6 hb6 hs6
    go_wp2_with fail
    refine ((H4.out _ B6.out).mono fun e w' ht => ListAns.at ht B6.out).mono ?_
    rintro e w7 ⟨a7, c7, rfl, hr7, hb7, hs7⟩
    have R7 := Lib.hid hr7; have B7 := Lib.hid hb7; have R67 := Lib.hid (R6.out.below hs7); clear hr7 hb7 hs7
    go_wp2_with fail
    refine (HS.out w7 R2 _ _ _ _ B7.out (by omega) R67.out R7.out).mono ?_
    rintro e w8 ⟨rfl, hb8, hs8⟩
    have B8 := Lib.hid hb8; clear hb8 hs8
    go_wp2_with fail
    go_ret
    exact ⟨rfl, B8.out⟩

set_option maxRecDepth 100000 in
set_option maxHeartbeats 4000000 in
theorem lives_at (w : World) (da : Option Addr) (dc : Nat) (deps : List (List Int)) (ca : Option Addr) (cc : Nat) (counts : List Int) (hb : deps.length + tot deps ≤ 1048576) (hd : DRow w da deps) (hr : Row .i64 w ca counts) (hx : I64s counts) (hxl : counts.length ≤ 1048576) :
    Calls Try.prog 4 #[.slice da deps.length dc, .slice ca counts.length cc] w fun e w' => e = .returned (.bool true) ∧ Below w.heap.size w w' := by
  have HU := Lib.hid (up_true w)
  have hdn : deps.length ≤ 1048576 := by omega
  have HSM := Lib.hid (fun (w1 : World) (h : Below w.heap.size w w1) => small_any w1 da dc deps hb (hd.below h))
  have H1 := Lib.hid (fun (w1 : World) (h : Below w.heap.size w w1) => live_any w1 da dc deps ca cc counts hdn (hd.below h) (hr.below h) hx hxl)
  have H2 := Lib.hid (fun (w1 : World) (h : Below w.heap.size w w1) => refLive_any w1 da dc deps ca cc counts hdn (hd.below h) (hr.below h) hx hxl)
  have H3 := Lib.hid (fun (w1 : World) (h : Below w.heap.size w w1) => loop_any w1 da dc deps hdn (hd.below h))
  have H4 := Lib.hid (fun (w1 : World) (h : Below w.heap.size w w1) => refLoop_any w1 da dc deps hdn (hd.below h))
  generalize scopeF deps (asked counts) = S at *
  generalize loopB deps = R at *
  clear hd hr hx
  generalize deps.length = n at *
  generalize counts.length = m at *
  go_enter Try.func4, Try.ntmps4
  go_wp2_with fail
  refine HU.out.mono ?_
  rintro e w1 ⟨rfl, hb1⟩
  have B1 := Lib.hid hb1; clear hb1
  go_wp2_with fail
  refine (HSM.out w1 B1.out).mono ?_
  rintro e w2 ⟨r, rfl, rfl⟩
  cases r with
  | false =>
    go_wp2
    go_ret
    exact ⟨rfl, B1.out⟩
  | true =>
    go_wp2_with fail
    refine (H1.out _ B1.out).mono ?_
    rintro e w3 ⟨g3, rfl, ho3, hb3⟩
    have O3 := Lib.hid ho3; have B3 := Lib.hid (bstep B1.out hb3); clear ho3 hb3
    go_wp2_with fail
    refine (H2.out _ B3.out).mono ?_
    rintro e w4 ⟨g4, rfl, ho4, hb4⟩
    have O4 := Lib.hid ho4; have O34 := Lib.hid (O3.out.below hb4); have B4 := Lib.hid (bstep B3.out hb4); clear ho4 hb4
    go_wp2
    go_loopg [8] n (fun g i wr => ∃ k : Nat, k + g = n ∧ i = .int .i64 (k : Int) ∧ Hid (Below w4.heap.size w4 wr))
    case atStart => exact ⟨0, by omega, rfl, Lib.hid (Below.refl _ _)⟩
    case round =>
      obtain ⟨k, hk, rfl, BW⟩ := hrel
      cases gk with
      | zero =>
        have hke : k = n := by omega
        subst hke
        have B5 := Lib.hid (bstep B4.out BW.out)
        go_wp2_with fail
        refine (H3.out _ B5.out).mono ?_
        rintro e w6 ⟨rfl, hb6⟩
        have B6 := Lib.hid (bstep B5.out hb6); clear hb6
        go_wp2_with fail
        refine (H4.out _ B6.out).mono ?_
        rintro e w7 ⟨rfl, hb7⟩
        have B7 := Lib.hid (bstep B6.out hb7); clear hb7
        go_wp2
        go_ret
        exact ⟨by simp, B7.out⟩
      | succ g =>
        have hlk : k < n := by omega
        have hc3 := (O34.out.below BW.out).cell hlk
        have hc4 := (O4.out.below BW.out).cell hlk
        generalize decide (k ∈ S) = q at *
        go_wp2
        go_quiet (fail)
        go_wp2
        go_roundg g
        case measure => omega
        case rel => exact ⟨k + 1, by omega, by go_num, Lib.hid (below_drewN BW.out _)⟩

theorem Reach.sub {deps : List (List Int)} {r r' : List Int} (h : ∀ x : Nat, (x : Int) ∈ r → (x : Int) ∈ r') {x : Nat} (hx : Reach deps r x) : Reach deps r' x := by
  induction hx with
  | root h1 h2 => exact .root (h _ h1) h2
  | step _ h2 ih => exact .step ih h2
/-- a count more loses nothing -/
theorem more_sub {deps : List (List Int)} {counts : List Int} {i k : Nat} (h : k ∈ scopeF deps (asked counts)) : k ∈ scopeF deps (asked (counts.set i 1)) := by
  refine mem_scopeF.2 (Reach.sub (fun x hx => ?_) (mem_scopeF.1 h))
  obtain ⟨h1, h2⟩ := mem_asked.1 hx
  refine mem_asked.2 ⟨by rw [List.length_set]; exact h1, ?_⟩
  by_cases hix : i = x
  · subst hix
    simp [List.getD, h1]
  · simp only [List.getD, List.getElem?_set_ne hix] at h2 ⊢
    exact h2
theorem OwnI.shape {w : World} {B n cap : Nat} {e : TypeId} {k : IntKind} {ad : Option Addr} {xs : List Int} (h : OwnI w B e k (.slice ad n cap) xs) (hn : 0 < n) : ∃ g, ad = some ⟨g, 0, none⟩ := by
  rcases h.2 with ⟨h1, h2⟩ | ⟨g, c, cur, hv, -⟩
  · simp at h1; omega
  · simp only [Value.slice.injEq] at hv
    exact ⟨g, hv.1⟩

set_option maxRecDepth 100000 in
set_option maxHeartbeats 4000000 in
theorem more_at (w : World) (da : Option Addr) (dc : Nat) (deps : List (List Int)) (ca : Option Addr) (cc : Nat) (counts : List Int) (x : Int) (hb : deps.length + tot deps ≤ 1048576) (hd : DRow w da deps) (hr : Row .i64 w ca counts) (hx : I64s counts) (hxl : counts.length ≤ 1048576) (hcn : ca = none → counts.length = 0 ∧ cc = 0) (hx1 : -9223372036854775808 ≤ x) (hx2 : x < 9223372036854775808) :
    Calls Try.prog 6 #[.slice da deps.length dc, .slice ca counts.length cc, .int .i64 x] w fun e w' => e = .returned (.bool true) ∧ Below w.heap.size w w' := by
  have HU := Lib.hid (up_true w)
  have hdn : deps.length ≤ 1048576 := by omega
  have HSM := Lib.hid (fun (w1 : World) (h : Below w.heap.size w w1) => small_any w1 da dc deps hb (hd.below h))
  have H1 := Lib.hid (fun (w1 : World) (h : Below w.heap.size w w1) => live_any w1 da dc deps ca cc counts hdn (hd.below h) (hr.below h) hx hxl)
  have H2 := Lib.hid (fun (w1 : World) (h : Below w.heap.size w w1) => live_any w1 da dc deps)
  have HD := Lib.hid hd
  have HR := Lib.hid hr
  have HX := Lib.hid hx
  have HCN := Lib.hid hcn
  obtain ⟨n, hnn⟩ : ∃ n, deps.length = n := ⟨_, rfl⟩
  obtain ⟨m, hmm⟩ : ∃ m, counts.length = m := ⟨_, rfl⟩
  rw [hnn] at hdn HSM H1 H2 ⊢
  rw [hmm] at hxl H1 HCN ⊢
  have HN := Lib.hid hnn
  have HM := Lib.hid hmm
  clear hd hr hx hnn hmm hb hcn
  go_enter Try.func6, Try.ntmps6
  go_wp2_with fail
  refine HU.out.mono ?_
  rintro e w1 ⟨rfl, hb1⟩
  have B1 := Lib.hid hb1; clear hb1
  go_wp2_with fail
  refine (HSM.out w1 B1.out).mono ?_
  rintro e w2 ⟨r, rfl, rfl⟩
  cases r with
  | false =>
    go_wp2
    go_ret
    exact ⟨rfl, B1.out⟩
  | true =>
    by_cases h0 : x < 0
    · go_wp2
      go_ret
      exact ⟨rfl, B1.out⟩
    · by_cases hm : (m : Int) ≤ x
      · go_wp2
        go_ret
        exact ⟨rfl, B1.out⟩
      · obtain ⟨y, rfl⟩ := Int.eq_ofNat_of_zero_le (Int.not_lt.1 h0)
        have hym : y < m := by omega
        have hm' : (y : Int) < (m : Int) := by omega
        clear h0 hm hx1 hx2
        go_wp2_with fail
        refine (H1.out _ B1.out).mono ?_
        rintro e w3 ⟨g3, rfl, ho3, hb3⟩
        have O3 := Lib.hid ho3; have B3 := Lib.hid (bstep B1.out hb3); clear ho3 hb3
        have R3 := Lib.hid (HR.out.below B3.out)
        have HRF := Lib.hid (Below.refl w3.heap.size w3)
        have HZM : Hid (0 + m = m) := Lib.hid (Nat.zero_add m)
        go_wp2_with (at_builtin; go_loud (refine wpList_pushes rfl (.tmp 30) (.tmp 31) slice64 rfl w3.heap.size w3 (.slice none 0 0) [] 0 ca cc m counts rfl (by rfl) rfl HM.out R3.out (by rw [HM.out]; exact HCN.out) (OwnI.nil _ _ _ _) (by unfold maxLen; omega) (by omega) HRF.out (Nat.le_refl _) ?_); intro ad5 c5 w5 hown5 hbe5; rw [HZM.out] at hown5 ⊢; rw [List.nil_append] at hown5; obtain ⟨g5, rfl⟩ := hown5.shape (Nat.lt_of_le_of_lt (Nat.zero_le y) hym); have hc5 := hown5.get y _ (List.getElem?_eq_getElem (by rw [HM.out]; exact hym)); have hf5 := hown5.free y; have O5 := Lib.hid (hown5.put HM.out y 1); have B5 := Lib.hid (hbe5.setCell (p := ⟨g5, y, none⟩) hown5.blockGe.1 (.int .i64 1)); clear hown5 hbe5)
        have hml : (counts.set y 1).length = m := by rw [List.length_set]; exact HM.out
        have hms : I64s (counts.set y 1) := by
          intro z hz
          rcases List.mem_or_eq_of_mem_set hz with h | h
          · exact HX.out z h
          · omega
        have hsub : ∀ k, k ∈ scopeF deps (asked counts) → k ∈ scopeF deps (asked (counts.set y 1)) := fun k h => more_sub h
        have B6 := Lib.hid (bstep B3.out B5.out)
        have HQ := H2.out _ B6.out (some ⟨g5, 0, none⟩) c5 (counts.set y 1) hdn (HD.out.below B6.out) O5.out.at.2.1 hms (by rw [hml]; exact hxl)
        rw [hml] at HQ
        have HQH := Lib.hid HQ
        have HSU := Lib.hid hsub
        generalize scopeF deps (asked (counts.set y 1)) = S2 at *
        generalize scopeF deps (asked counts) = S1 at *
        have O36 := Lib.hid (O3.out.below B5.out)
        clear HQ hsub hms hml O3 H1 H2 HU HSM O5 hc5 hf5
        refine HQH.out.mono ?_
        rintro e w7 ⟨g7, rfl, ho7, hb7⟩
        have O7 := Lib.hid ho7; have O37 := Lib.hid (O36.out.below hb7); have B7 := Lib.hid (bstep B6.out hb7); clear ho7 hb7 O36 HQH
        obtain ⟨b1, hb1⟩ : ∃ b1, ca = some b1 := by
          cases ca with
          | none => have := (HCN.out rfl).1; omega
          | some b1 => exact ⟨b1, rfl⟩
        subst hb1
        obtain ⟨cb, co, hcb, hcc⟩ := (HR.out.below B7.out) y (by rw [HM.out]; exact hym)
        obtain rfl := Option.some.inj hcb
        generalize counts.getD y 0 = z at *
        go_wp2
        go_loopg [11] n (fun g i wr => ∃ k : Nat, k + g = n ∧ i = .int .i64 (k : Int) ∧ w7 = wr)
        case atStart => exact ⟨0, by omega, rfl, rfl⟩
        case round =>
          obtain ⟨k, hk, rfl, rfl⟩ := hrel
          cases gk with
          | zero =>
            have hke : k = n := by omega
            subst hke
            go_wp2
            go_ret
            exact ⟨rfl, B7.out⟩
          | succ g =>
            have hlk : k < n := by omega
            have hc3 := O37.out.cell hlk
            have hc4 := O7.out.cell hlk
            by_cases h1 : k ∈ S1
            · have h2 := HSU.out k h1
              rw [decide_eq_true h1] at hc3
              rw [decide_eq_true h2] at hc4
              clear h1 h2
              go_wp2
              go_roundg g
              case measure => omega
              case rel => exact ⟨k + 1, by omega, by go_num, rfl⟩
            · rw [decide_eq_false h1] at hc3
              generalize decide (k ∈ S2) = q at *
              clear h1
              go_wp2
              go_roundg g
              case measure => omega
              case rel => exact ⟨k + 1, by omega, by go_num, rfl⟩
end Go.Proofs.Ytfckgagpfpnelaa
