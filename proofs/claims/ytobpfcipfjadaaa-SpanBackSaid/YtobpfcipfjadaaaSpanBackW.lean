/- Layer 1, P1.8: what is put is got, and nothing else is changed; numbers come back from their bytes; what was brought up stays. -/
import Derived.Test.YtobpfcipfjadaaaSpanLaws
import Derived.Deep.DeepCutAuto
namespace Go.Proofs.Ytobpfcipfjadaaa
open Go.RowKit
set_option linter.unusedVariables false
set_option linter.unusedSimpArgs false

/-- Put, all its ways at once -/
theorem put_all (a : Option Addr) (cap : Nat) (xs : List Int) (off : Nat) (n : Int) (v : Nat) (w : World) (h : Row .u8 w a xs) (hl : xs.length ≤ 140737488351232) (hn : a = none → xs.length = 0 ∧ cap = 0)
    (ho : off < 18446744073709551616) (hv64 : v < 18446744073709551616) :
    Calls Try.prog 18 #[.slice a xs.length cap, .int .u64 off, .int .i64 n, .int .u64 v] w fun e w' =>
      (∃ b c m, e = .returned (.tuple #[.slice b xs.length c, .nilIface]) ∧ n = ((m : Nat) : Int) ∧ wide n = true ∧ off ≤ xs.length ∧ m ≤ xs.length - off ∧ v < 256 ^ m ∧ Row .u8 w' b (putAt xs off (le m v)) ∧ xs.length ≤ c ∧ (b = none → xs.length = 0 ∧ c = 0) ∧ Below w.heap.size w w') ∨
      (∃ T x, e = .returned (.tuple #[.slice none 0 0, .iface T x]) ∧ Below w.heap.size w w') := by
  rcases Bool.eq_false_or_eq_true (wide n) with hw | hw
  · obtain ⟨m, rfl, hm8⟩ : ∃ m : Nat, n = (m : Int) ∧ m ≤ 8 := ⟨n.toNat, by simp [wide] at hw; omega, by simp [wide] at hw; omega⟩
    have hm1 : 1 ≤ m := (most_wide hw).2.1
    by_cases h1 : off ≤ xs.length ∧ m ≤ xs.length - off
    · by_cases hv : v < 256 ^ m
      · refine (put_yes a cap xs off m v w h hl hn hw h1.1 h1.2 hv hv64).mono ?_
        rintro e w' ⟨r, rfl, ho, hb⟩
        have hlen : (putAt xs off (le m v)).length = xs.length := putAt_length (by rw [le_length]; omega)
        obtain ⟨g, cp, rfl, hB, hgs, hcp⟩ := own_shape ho (by omega)
        obtain ⟨-, b, c, he, hrow, hc, -⟩ := own_row ho
        simp only [Value.slice.injEq] at he
        obtain ⟨rfl, -, rfl⟩ := he
        exact .inl ⟨_, _, m, rfl, rfl, hw, h1.1, h1.2, hv, hrow, hcp, (fun e => by cases e), hb⟩
      · refine (put_over a cap xs off m v w hl ho hw h1.1 h1.2 hv).mono ?_
        rintro e w' ⟨rfl, rfl⟩
        exact .inr ⟨_, _, rfl, Below.refl _ _⟩
    · refine (put_range a cap xs off m v w hl ho hw h1).mono ?_
      rintro e w' ⟨rfl, rfl⟩
      exact .inr ⟨_, _, rfl, (Below.refl _ _).alloc (Nat.le_refl _) _⟩
  · refine (put_width a cap xs.length off n v w hw).mono ?_
    rintro e w' ⟨rfl, rfl⟩
    exact .inr ⟨_, _, rfl, Below.refl _ _⟩

theorem putAt_bytes {xs : List Int} {off m v : Nat} (h : Bytes xs) : Bytes (putAt xs off (le m v)) := by
  intro x hx
  simp only [putAt, List.mem_append] at hx
  rcases hx with (hx | hx) | hx
  · exact h x (List.mem_of_mem_take hx)
  · exact le_bytes m v x hx
  · exact h x (List.mem_of_mem_drop hx)

theorem cutOf_putAt {xs ys : List Int} {off : Nat} (h : off ≤ xs.length) : cutOf (putAt xs off ys) off ys.length = ys := by
  have h1 : (xs.take off).length = off := by simp; omega
  simp only [cutOf, putAt, List.append_assoc]
  rw [List.drop_left' h1, List.take_left' rfl]

theorem putAt_other {xs ys : List Int} {off i : Nat} (h : off + ys.length ≤ xs.length) (hi : ¬ (off ≤ i ∧ i - off < ys.length)) : (putAt xs off ys).getD i 0 = xs.getD i 0 := by
  have h1 : (xs.take off).length = off := by simp; omega
  have h2 : (xs.take off ++ ys).length = off + ys.length := by simp; omega
  simp only [putAt, List.getD]
  by_cases h3 : i < off
  · rw [List.append_assoc, List.getElem?_append_left (by omega), List.getElem?_take, if_pos h3]
  · rw [List.getElem?_append_right (by omega), h2, List.getElem?_drop]
    congr 2
    omega

/-- what Join may have left in its two results -/
def JoinOk (ys : List Int) (n : Int) (p e : Value) (w : World) : Prop :=
  ∃ b c m, p = .slice b (joinF m ys).length c ∧ e = .nilIface ∧ n = ((m : Nat) : Int) ∧ wide n = true ∧ room m ys = true ∧ Row .u8 w b (joinF m ys) ∧ (joinF m ys).length ≤ c ∧ (b = none → (joinF m ys).length = 0 ∧ c = 0)
def JoinWays (ys : List Int) (n : Int) (p e : Value) (w : World) : Prop := JoinOk ys n p e w ∨ ∃ T x, e = .iface T x
def JoinTest (ys : List Int) (n : Int) (p e : Value) (w : World) (t : Value) : Prop := (t = .bool true ∧ JoinOk ys n p e w) ∨ t = .bool false

theorem join_all (n : Int) (a : Option Addr) (cap : Nat) (ys : List Int) (w : World) (h : Row .u64 w a ys) (hx : U64s ys) (hl : ys.length * 8 ≤ 140737488351232) :
    Calls Try.prog 15 #[.int .i64 n, .slice a ys.length cap] w fun e w' => ∃ p x, e = .returned (.tuple #[p, x]) ∧ JoinWays ys n p x w' ∧ Below w.heap.size w w' := by
  rcases Bool.eq_false_or_eq_true (wide n) with hw | hw
  · obtain ⟨m, rfl, hm8⟩ : ∃ m : Nat, n = (m : Int) ∧ m ≤ 8 := ⟨n.toNat, by simp [wide] at hw; omega, by simp [wide] at hw; omega⟩
    refine (join_any m hw a cap ys w h hx hl).mono ?_
    rintro e w' (⟨hroom, v, rfl, ho, hb⟩ | ⟨hroom, rfl, hb⟩)
    · have hsh := ho.2
      obtain ⟨hlen, b, c, rfl, hrow, hc, -⟩ := own_row ho
      refine ⟨_, _, rfl, .inl ⟨b, c, m, rfl, rfl, rfl, hw, hroom, hrow, hc, ?_⟩, hb⟩
      intro hbn
      subst hbn
      rcases hsh with ⟨h1, h2⟩ | ⟨g, cp, cur, h1, -⟩
      · simp only [Value.slice.injEq, true_and] at h1
        exact h1
      · simp at h1
    · exact ⟨_, _, rfl, .inr ⟨_, _, rfl⟩, hb⟩
  · refine (join_width n a cap ys.length w hw).mono ?_
    rintro e w' ⟨rfl, rfl⟩
    exact ⟨_, _, rfl, .inr ⟨_, _, rfl⟩, Below.refl _ _⟩

theorem joinF_append (m : Nat) (a b : List Int) : joinF m (a ++ b) = joinF m a ++ joinF m b := by simp only [joinF, List.map_append, List.flatten_append]
theorem joinF_cons (m : Nat) (y : Int) (b : List Int) : joinF m (y :: b) = le m y.toNat ++ joinF m b := rfl

theorem cutOf_join {m : Nat} {ys : List Int} {k : Nat} (hk : k < ys.length) : cutOf (joinF m ys) (k * m) m = le m ys[k].toNat := by
  have e : ys = ys.take k ++ (ys[k] :: ys.drop (k + 1)) := by rw [← List.drop_eq_getElem_cons hk, List.take_append_drop]
  have hl : (joinF m (ys.take k)).length = k * m := by rw [joinF_length, List.length_take, Nat.min_eq_left (by omega), Nat.mul_comm]
  have e2 : joinF m ys = joinF m (ys.take k) ++ (le m ys[k].toNat ++ joinF m (ys.drop (k + 1))) := by
    have : joinF m ys = joinF m (ys.take k ++ (ys[k] :: ys.drop (k + 1))) := by rw [← e]
    rw [this, joinF_append, joinF_cons]
  rw [e2]
  simp only [cutOf]
  rw [List.drop_left' hl, List.take_left' (le_length _ _)]

theorem join_bytes (m : Nat) (ys : List Int) : Bytes (joinF m ys) := by
  intro x hx
  simp only [joinF, List.mem_flatten, List.mem_map] at hx
  obtain ⟨l, ⟨y, -, rfl⟩, hx⟩ := hx
  exact le_bytes _ _ x hx

theorem get_join (b : Option Addr) (c m : Nat) (ys : List Int) (w : World) (h : Row .u8 w b (joinF m ys)) (hn : b = none → (joinF m ys).length = 0 ∧ c = 0) (hc : (joinF m ys).length ≤ c) (hw : wide m = true) (hr : room m ys = true) (hy : U64s ys) (hl : ys.length * 8 ≤ 140737488351232) (k : Nat) (hk : k < ys.length) :
    Calls Try.prog 19 #[.slice b (joinF m ys).length c, .int .u64 ((k : Int) * (m : Int)), .int .i64 m] w fun e w' => e = .returned (.tuple #[.int .u64 ys[k], .nilIface]) ∧ Below w.heap.size w w' := by
  have hm8 := (most_wide hw).2.2
  have hkm : k * m ≤ (joinF m ys).length := by rw [joinF_length, Nat.mul_comm]; exact Nat.mul_le_mul_left _ (by omega)
  have hkm2 : m ≤ (joinF m ys).length - k * m := by
    rw [joinF_length, Nat.mul_comm m]
    have := Nat.mul_le_mul_right m (show k + 1 ≤ ys.length from hk)
    rw [Nat.succ_mul] at this
    omega
  have hjl : (joinF m ys).length ≤ 140737488351232 := by
    rw [joinF_length]
    have := Nat.mul_le_mul_right ys.length hm8
    omega
  have hlt : ys[k].toNat < 256 ^ m := room_yes.1 hr _ (List.getElem_mem hk)
  have h := get_yes b c (joinF m ys) (k * m) m w h (join_bytes m ys) hjl hn hc hw hkm hkm2
  rw [cutOf_join hk, leval_le, Nat.mod_eq_of_lt hlt, Int.toNat_of_nonneg (hy _ (List.getElem_mem hk)).1, Int.natCast_mul] at h
  exact h

theorem join_at (m len k : Nat) (hm : m ≤ 8) (hl : len * 8 ≤ 140737488351232) (hk : k < len) : (0 : Int) ≤ (k : Int) * (m : Int) ∧ (k : Int) * (m : Int) ≤ 140737488355328 := by
  have := Nat.mul_le_mul (show k ≤ len from by omega) hm
  have h2 : (k : Int) * (m : Int) = ((k * m : Nat) : Int) := by rw [Int.natCast_mul]
  rw [h2]
  omega

/-- what Put may have left in its two results -/
def PutOk (xs : List Int) (off v : Nat) (n : Int) (p e : Value) (w : World) : Prop :=
  ∃ b c m, p = .slice b xs.length c ∧ e = .nilIface ∧ n = ((m : Nat) : Int) ∧ wide n = true ∧ off ≤ xs.length ∧ m ≤ xs.length - off ∧ v < 256 ^ m ∧ Row .u8 w b (putAt xs off (le m v)) ∧ xs.length ≤ c ∧ (b = none → xs.length = 0 ∧ c = 0)
def PutWays (xs : List Int) (off v : Nat) (n : Int) (p e : Value) (w : World) : Prop := PutOk xs off v n p e w ∨ ∃ T x, e = .iface T x
def PutTest (xs : List Int) (off v : Nat) (n : Int) (p e : Value) (w : World) (t : Value) : Prop := (t = .bool true ∧ PutOk xs off v n p e w) ∨ t = .bool false

set_option maxRecDepth 100000 in
set_option maxHeartbeats 4000000 in
theorem walk_SpanBack (a0 : Option Addr) (len0 cap0 : Nat) (z0 : List Int) (a1 a2 a3 : Int) (a4 : Option Addr) (len4 cap4 : Nat) (z4 : List Int) (a5 : Int) (w : World)
    (w0 : IsRow .u8 w a0 len0 cap0 z0) (s0 : cap0 * 1 ≤ 140737488351232) (w1 : (Lit.int .u64 a1).wf = true) (w2 : (Lit.int .i64 a2).wf = true) (w3 : (Lit.int .u64 a3).wf = true)
    (w4 : IsRow .u64 w a4 len4 cap4 z4) (s4 : cap4 * 8 ≤ 140737488351232) (w5 : (Lit.int .u64 a5).wf = true) :
    Calls Try.prog 6 #[.slice a0 len0 cap0, .int .u64 a1, .int .i64 a2, .int .u64 a3, .slice a4 len4 cap4, .int .u64 a5] w fun e w' => e = .returned (.bool true) ∧ Below w.heap.size w w' := by
  obtain ⟨xs, rfl, hrow, hwf, hlc, hlm, hnil⟩ := w0.row
  have hby : Bytes xs := fun x hx => wf_u8_bounds (hwf x hx)
  obtain ⟨ys, rfl, hrow4, hwf4, hlc4, hlm4, -⟩ := w4.row
  have hy : U64s ys := fun x hx => wf_u64_bounds (hwf4 x hx)
  obtain ⟨p1, q1⟩ := wf_u64_bounds w1
  obtain ⟨off, rfl⟩ := Int.eq_ofNat_of_zero_le p1
  obtain ⟨p3, q3⟩ := wf_u64_bounds w3
  obtain ⟨v, rfl⟩ := Int.eq_ofNat_of_zero_le p3
  obtain ⟨p5, q5⟩ := wf_u64_bounds w5
  obtain ⟨u, rfl⟩ := Int.eq_ofNat_of_zero_le p5
  have hoff : off < 18446744073709551616 := by rw [M64_eq] at q1; omega
  have hv : v < 18446744073709551616 := by rw [M64_eq] at q3; omega
  have hu : u < 18446744073709551616 := by rw [M64_eq] at q5; omega
  have hl1 : xs.length ≤ 140737488351232 := by omega
  have hshown := Lib.hid (shown_true w)
  have hput := Lib.hid (fun (w1 : World) (h : Below w.heap.size w w1) => put_all a0 cap0 xs off a2 v w1 (hrow.below h) hl1 hnil hoff hv)
  have HU := Lib.hid hu
  have HL1 := Lib.hid hl1
  have HOFF := Lib.hid hoff
  clear hu hoff hv hl1
  have HROW := Lib.hid hrow
  have HBY := Lib.hid hby
  clear w0 w1 w2 w3 w4 w5 p1 q1 p3 q3 p5 q5 hrow hwf hwf4 hby hnil
  have HY := Lib.hid hy; clear hy
  have HROW4 := Lib.hid hrow4; clear hrow4
  go_enter Try.func6, Try.ntmps6
  go_upto_region 2 with (go_at_call 7; refine (Hid.out hshown).mono ?_; rintro e w1 ⟨rfl, hb⟩)
  go_cut [14, 15] (fun p e wx => Below w.heap.size w wx ∧ PutWays xs off v a2 p e wx)
  case first =>
    go_wp2_with fail
    refine (Hid.out hput _ hb).mono ?_
    rintro e w2 (⟨b, c, m, rfl, h1, h2, h3, h4, h5, h6, h7, h8, h9⟩ | ⟨T, x, rfl, h9⟩)
    · have hok : PutWays xs off v a2 (.slice b xs.length c) .nilIface w2 := .inl ⟨b, c, m, rfl, rfl, h1, h2, h3, h4, h5, h6, h7, h8⟩
      clear h1 h2 h3 h4 h5 h6 h7 h8
      go_wp2_with fail
      go_meet
      case rel => exact ⟨hb.trans (h9.mono hb.size), hok⟩
    · have hok : PutWays xs off v a2 (.slice none 0 0) (.iface T x) w2 := .inr ⟨T, x, rfl⟩
      go_wp2_with fail
      go_meet
      case rel => exact ⟨hb.trans (h9.mono hb.size), hok⟩
  case rest =>
    obtain ⟨hb2, hw⟩ := hcut
    clear hput hb hshown
    obtain ⟨wb, rfl⟩ : ∃ wb : World, wb = wc := ⟨_, rfl⟩
    go_upto_region 3 with fail
    go_cut [39] (fun t wx => wb = wx ∧ PutTest xs off v a2 u14 u15 wb t)
    case first =>
      rcases hw with h | ⟨T, x, rfl⟩
      · obtain ⟨b, c, m, rfl, rfl, hr⟩ := h
        have ht : PutTest xs off v a2 (.slice b xs.length c) .nilIface wb (.bool true) := .inl ⟨rfl, b, c, m, rfl, rfl, hr⟩
        clear hr
        go_wp2_with fail
        go_meet
        case rel => exact ⟨by trivial, ht⟩
      · have ht : PutTest xs off v a2 u14 (.iface T x) wb (.bool false) := .inr rfl
        go_wp2_with fail
        go_meet
        case rel => exact ⟨by trivial, ht⟩
    case rest =>
      obtain ⟨rfl, ht⟩ := hcut
      clear hw
      go_upto_if 39 with fail
      go_cut [12] (fun _ wx => Below w.heap.size w wx)
      case first =>
        rcases ht with ⟨rfl, hok⟩ | rfl
        · obtain ⟨b, c, m, rfl, rfl, rfl, h2, h3, h4, h5, h6, h7, h8⟩ := hok
          have H2 := Lib.hid h2; have H5 := Lib.hid h5; have H6 := Lib.hid h6; have H8 := Lib.hid h8
          have hlen : (putAt xs off (le m v)).length = xs.length := putAt_length (by rw [le_length]; omega)
          have hget := Lib.hid (get_yes b c (putAt xs off (le m v)) off m wb h6 (putAt_bytes HBY.out) (by rw [hlen]; exact HL1.out) (by rw [hlen]; exact h8) (by rw [hlen]; exact h7) h2 (by rw [hlen]; exact h3) (by rw [hlen]; exact h4))
          have hcut' : cutOf (putAt xs off (le m v)) off m = le m v := by
            have := cutOf_putAt (ys := le m v) h3
            rwa [le_length] at this
          rw [hlen, hcut', leval_le, Nat.mod_eq_of_lt h5] at hget
          clear h2 h5 h6 h8 hlen hcut'
          go_wp2_with (go_at_call 19; refine (Hid.out hget).mono ?_; rintro e w4 ⟨rfl, hb4⟩)
          have hb24 := hb2.trans (hb4.mono hb2.size)
          have HRP := Lib.hid (H6.out.below hb4)
          have HOTH := Lib.hid (fun (i : Nat) (hi : ¬ (off ≤ i ∧ i - off < m)) => putAt_other (xs := xs) (ys := le m v) (off := off) (i := i) (by rw [le_length]; omega) (by rw [le_length]; exact hi))
          have HLEN := Lib.hid (putAt_length (xs := xs) (ys := le m v) (o := off) (by rw [le_length]; omega))
          have hlm' : xs.length ≤ 9223372036854775807 := by have := HL1.out; omega
          clear hlm hget hb4
          go_loopw [18] (fun i wr => ∃ k : Nat, k ≤ xs.length ∧ i = .int .i64 k ∧ Hid (Below w4.heap.size w4 wr)) (fun i _ => xs.length - (intOf i).toNat)
          case atStart => exact ⟨0, Nat.zero_le _, rfl, Lib.hid (Below.refl _ _)⟩
          case round =>
            obtain ⟨k, hk, rfl, hbr⟩ := hrel
            by_cases hlt : k < xs.length
            · by_cases hin : off ≤ k ∧ k - off < m
              · have d1 : decide ((off : Int) ≤ (k : Int)) = true := by rw [decide_eq_true_iff]; omega
                have d2 : decide ((k : Int) - (off : Int) < (m : Int)) = true := by rw [decide_eq_true_iff]; omega
                have d3 : (off : Int) ≤ (k : Int) := by omega
                have d4 : (k : Int) - (off : Int) < (m : Int) := by omega
                clear hin
                go_wp2_with fail
                go_quiet (fail)
                go_wp2
                go_roundw
                case rel => exact ⟨k + 1, by omega, by go_num, Lib.hid (below_drewN hbr.out _)⟩
                case measure => simp [intOf]; omega
              · have ho := HOTH.out k hin
                obtain ⟨b1, o1, rfl, hc1⟩ := HRP.out k (by rw [HLEN.out]; exact hlt)
                obtain ⟨b2, o2, rfl, hc2⟩ := HROW.out k hlt
                rw [ho] at hc1
                have hl1 : b1 < w4.heap.size := by simpa using World.block_lt_of_cell? w4 _ hc1
                have hl2 : b2 < w.heap.size := by simpa using World.block_lt_of_cell? w _ hc2
                have g1 : wr.cell? ⟨b1, o1 + k, none⟩ = some (.int .u8 (xs.getD k 0)) := by rw [hbr.out.cell (p := ⟨b1, o1 + k, none⟩) hl1]; exact hc1
                have g2 : wr.cell? ⟨b2, o2 + k, none⟩ = some (.int .u8 (xs.getD k 0)) := by
                  rw [(hb24.trans (hbr.out.mono hb24.size)).cell (p := ⟨b2, o2 + k, none⟩) hl2]; exact hc2
                clear hc1 hc2 ho hl1 hl2
                by_cases hge : off ≤ k
                · have hnl : ¬ k - off < m := fun h => hin ⟨hge, h⟩
                  have d1 : decide ((off : Int) ≤ (k : Int)) = true := by rw [decide_eq_true_iff]; omega
                  have d2 : decide ((k : Int) - (off : Int) < (m : Int)) = false := by rw [decide_eq_false_iff_not]; omega
                  have d3 : (off : Int) ≤ (k : Int) := by omega
                  clear hin hnl
                  go_wp2_with fail
                  go_quiet (fail)
                  go_wp2
                  go_roundw
                  case rel => exact ⟨k + 1, by omega, by go_num, Lib.hid (below_drewN hbr.out _)⟩
                  case measure => simp [intOf]; omega
                · have d1 : decide ((off : Int) ≤ (k : Int)) = false := by rw [decide_eq_false_iff_not]; omega
                  clear hin
                  go_wp2_with fail
                  go_quiet (fail)
                  go_wp2
                  go_roundw
                  case rel => exact ⟨k + 1, by omega, by go_num, Lib.hid (below_drewN hbr.out _)⟩
                  case measure => simp [intOf]; omega
            · go_wp2_with fail
              go_meet
              case rel => exact hb24.trans (hbr.out.mono hb24.size)
        · go_wp2_with fail
          go_meet
          case rel => exact hb2
      case rest =>
        have hb3 := hcut
        clear ht hb2 hcut
        obtain ⟨wd, rfl⟩ : ∃ wd : World, wd = wc := ⟨_, rfl⟩
        have hjoin := Lib.hid (join_all a2 a4 cap4 ys wd (HROW4.out.below hb3) HY.out (by omega))
        go_upto_region 13 with fail
        go_cut [20, 21] (fun p e wx => Below w.heap.size w wx ∧ JoinWays ys a2 p e wx)
        case first =>
          go_wp2_with fail
          refine (Hid.out hjoin).mono ?_
          rintro e w2 ⟨p, x, rfl, hw, hb5⟩
          go_wp2_with fail
          go_meet
          case rel => exact ⟨hb3.trans (hb5.mono hb3.size), hw⟩
        case rest =>
          obtain ⟨hb4, hw⟩ := hcut
          clear hjoin hb3
          obtain ⟨we, rfl⟩ : ∃ we : World, we = wc := ⟨_, rfl⟩
          go_upto_region 14 with fail
          go_cut [100] (fun t wx => we = wx ∧ JoinTest ys a2 u20 u21 we t)
          case first =>
            rcases hw with h | ⟨T, x, rfl⟩
            · obtain ⟨b, c, m, rfl, rfl, hr⟩ := h
              have ht : JoinTest ys a2 (.slice b (joinF m ys).length c) .nilIface we (.bool true) := .inl ⟨rfl, b, c, m, rfl, rfl, hr⟩
              clear hr
              go_wp2_with fail
              go_meet
              case rel => exact ⟨by trivial, ht⟩
            · have ht : JoinTest ys a2 u20 (.iface T x) we (.bool false) := .inr rfl
              go_wp2_with fail
              go_meet
              case rel => exact ⟨by trivial, ht⟩
          case rest =>
            obtain ⟨rfl, ht⟩ := hcut
            clear hw
            go_upto_if 100 with fail
            go_cut [12] (fun _ wx => Below w.heap.size w wx)
            case first =>
              rcases ht with ⟨rfl, hok⟩ | rfl
              · obtain ⟨b, c, m, rfl, rfl, rfl, h2, h3, h4, h5, h6⟩ := hok
                have H2 := Lib.hid h2; have H3 := Lib.hid h3; have H4 := Lib.hid h4; have H5 := Lib.hid h5; have H6 := Lib.hid h6
                obtain ⟨-, hm1, hm8⟩ := most_wide h2
                clear h2 h3 h4 h5 h6
                have HLM := Lib.hid (show ys.length ≤ 9223372036854775807 from by omega)
                have hgetk := Lib.hid (fun (k : Nat) (hk : k < ys.length) (wr : World) (hb : Below we.heap.size we wr) => get_join b c m ys wr (H4.out.below hb) H6.out H5.out H2.out H3.out HY.out (by omega) k hk)
                have hprod := Lib.hid (fun (k : Nat) (hk : k < ys.length) => join_at m ys.length k hm8 (by omega) hk)
                clear hm1 hm8
                go_wp2_with fail
                go_loopw [12, 22] (fun _ i wr => ∃ k : Nat, k ≤ ys.length ∧ i = .int .i64 k ∧ Hid (Below we.heap.size we wr)) (fun _ i _ => ys.length - (intOf i).toNat)
                case atStart => exact ⟨0, Nat.zero_le _, rfl, Lib.hid (Below.refl _ _)⟩
                case round =>
                  obtain ⟨k, hk, rfl, hbr⟩ := hrel
                  have hlm9 := HLM.out
                  by_cases hlt : k < ys.length
                  · have hg := Lib.hid (hgetk.out k hlt wr hbr.out)
                    obtain ⟨pr1, pr2⟩ := hprod.out k hlt
                    obtain ⟨b2, o2, rfl, hc2⟩ := HROW4.out k hlt
                    have hl2 : b2 < w.heap.size := by simpa using World.block_lt_of_cell? w _ hc2
                    have HC2 := Lib.hid (fun (w5 : World) (hb : Below w.heap.size w w5) => show w5.cell? ⟨b2, o2 + k, none⟩ = some (.int .u64 (ys.getD k 0)) from by
                      rw [hb.cell (p := ⟨b2, o2 + k, none⟩) hl2]; exact hc2)
                    clear hc2 hl2
                    go_wp2_with (go_at_call 19; refine (Hid.out hg).mono ?_; rintro e w5 ⟨rfl, hb5⟩; have HB5 := Lib.hid hb5; clear hb5; have hcell := HC2.out w5 ((hb4.trans (hbr.out.mono hb4.size)).trans (HB5.out.mono (by have := hb4.size; have := hbr.out.size; omega))))
                    go_roundw
                    case rel => exact ⟨k + 1, by omega, by go_num, Lib.hid (hbr.out.trans (HB5.out.mono hbr.out.size))⟩
                    case measure => simp [intOf]; omega
                  · go_wp2_with fail
                    go_meet
                    case rel => exact hb4.trans (hbr.out.mono hb4.size)
              · go_wp2_with fail
                go_meet
                case rel => exact hb4
            case rest =>
              have hb5 := hcut
              clear ht hb4 hcut
              have hu := HU.out
              have hpop : Pop.pop 4096 = 1 := Pop.pop_pow ⟨12, by omega⟩
              by_cases hfit : u + 4095 < 18446744073709551616
              · obtain ⟨U, hU⟩ : ∃ U, U = (u + 4095) / 4096 * 4096 := ⟨_, rfl⟩
                have e1 : upF u 4096 = ((U : Int), 0) := by unfold upF; rw [if_neg (by omega), if_pos (by omega), hU]
                have f1 : U + 4095 < 18446744073709551616 := by omega
                have f2 : (U + 4095) / 4096 * 4096 = U := by omega
                have e2 : upF U 4096 = ((U : Int), 0) := by unfold upF; rw [if_neg (by omega), if_pos (by omega), show U + (4096 - 1) = U + 4095 from rfl, f2]
                have hup1 := Lib.hid (fun (wx : World) => up_any u 4096 wx hu (by omega))
                have hup2 := Lib.hid (fun (wx : World) => up_any U 4096 wx (by omega) (by omega))
                rw [e1] at hup1
                rw [e2] at hup2
                simp only [errV_0] at hup1 hup2
                have g1 : ((U : Int) % 4096 == 0) = true := by rw [beq_iff_eq]; omega
                have g2 : (u : Int) ≤ (U : Int) := by omega
                have g3 : (U : Int) - (u : Int) < 4096 := by omega
                have g4 : (U : Int) % 4096 = 0 := by omega
                have G4 := Lib.hid g4
                clear e1 e2 f1 f2 hfit hpop hU hu g4
                go_wp2_with fail
                refine (Hid.out hup1 _).mono ?_
                rintro e w6 ⟨rfl, hb6⟩
                go_wp2_with fail
                refine (Hid.out hup2 _).mono ?_
                rintro e w7 ⟨rfl, hb7⟩
                go_wp2_with fail
                go_ret
                have hb56 := hb5.trans (hb6.mono hb5.size)
                exact ⟨rfl, hb56.trans (hb7.mono hb56.size)⟩
              · have e1 : upF u 4096 = (0, 28) := by unfold upF; rw [if_neg (by omega), if_neg (by omega)]
                have hup1 := Lib.hid (fun (wx : World) => up_any u 4096 wx hu (by omega))
                rw [e1] at hup1
                simp only [errV_28] at hup1
                have g1 : (18446744073709547520 : Int) < (u : Int) := by omega
                have he := run_eql_code
                clear e1 hfit hpop hu
                go_wp2_with fail
                refine (Hid.out hup1 _).mono ?_
                rintro e w6 ⟨rfl, hb6⟩
                go_wp2_with fail
                go_ret
                exact ⟨rfl, hb5.trans (hb6.mono hb5.size)⟩
end Go.Proofs.Ytobpfcipfjadaaa
