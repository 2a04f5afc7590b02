/- Layer 9: rels.Unpack answers what the lists say. -/
import Derived.Test.YtbmfjchpfhealaaRelsNum
import Derived.Test.YtbmfjchpfhealaaErrs
namespace Go.Proofs.Ytbmfjchpfhealaa
open Go.RowKit
set_option linter.unusedVariables false
set_option linter.unusedSimpArgs false

theorem slice64 : IntSlice Try.prog 27 23 .u64 8 := ⟨Try.underlying27, by kernel_rfl⟩

/-- what a call answers that tells an error and a list of its own -/
def Tells (f : Value → Nat → Ending) (r : Nat × List Nat) (w : World) (e : Ending) (w' : World) : Prop :=
  ∃ v, e = f v r.1 ∧ OwnI w' w.heap.size 23 .u64 v (toI r.2) ∧ Below w.heap.size w w'

def progEnd (v : Value) (c : Nat) : Ending := .returned (.tuple #[v, errV c])
def refEnd (v : Value) (c : Nat) : Ending := .returned (.tuple #[v, .int .i64 c])

theorem Tells.mk {f : Value → Nat → Ending} {F : Nat × List Nat} {c : Nat} {r : List Nat} {w w' : World} {e : Ending} {v : Value} (hu : F = (c, r)) (he : e = f v c) (ho : OwnI w' w.heap.size 23 .u64 v (toI r)) (hb : Below w.heap.size w w') : Tells f F w e w' := by
  subst hu
  exact ⟨v, he, ho, hb⟩

theorem and_one_even {v : Nat} (hv : v < 18446744073709551616) (h : v % 2 = 0) : bits .and .u64 (v : Int) 1 = 0 := by
  have := and_pow v 0 hv (by omega)
  rw [if_neg (by rw [← bit_one]; omega)] at this
  exact this
theorem and_one_odd {v : Nat} (hv : v < 18446744073709551616) (h : ¬ v % 2 = 0) : bits .and .u64 (v : Int) 1 = 1 := by
  have := and_pow v 0 hv (by omega)
  rw [if_pos (by rw [← bit_one]; omega)] at this
  exact this

set_option maxHeartbeats 1000000 in
theorem unpack_odd (a : Option Addr) (cap : Nat) (ys : List Nat) (w : World) (h : NRow w a ys) (hl : ys.length * 8 ≤ 140737488351232) (h1 : ys.headD 0 % 2 = 1) :
    Calls Try.prog 24 #[.slice a ys.length cap] w (Tells progEnd (3, []) w) := by
  have h0 : 0 < ys.length := by
    rcases ys with _ | ⟨y, ys⟩
    · simp at h1
    · simp
  obtain ⟨b, off, rfl, hb, hc, hy⟩ := h.at h0
  have hh : ys.headD 0 = ys.getD 0 0 := by cases ys <;> rfl
  rw [hh] at h1
  have ha := and_one_odd hy (by omega)
  generalize ys.getD 0 0 = y at *
  have hne : bits .and .u64 (y : Int) 1 ≠ 0 := by rw [ha]; decide
  rw [Nat.add_zero] at hc
  go_enter Try.func24, Try.ntmps24
  go_wp2
  go_ret2
  exact ⟨_, rfl, OwnI.nil _ _ _ _, Below.refl _ _⟩

set_option maxRecDepth 100000 in
set_option maxHeartbeats 4000000 in
theorem unpack_run (a : Option Addr) (cap : Nat) (ys : List Nat) (w : World) (h : NRow w a ys) (hl : ys.length * 8 ≤ 140737488351232) (h1 : ¬ ys.headD 0 % 2 = 1) (h0 : 0 < ys.length) :
    Calls Try.prog 24 #[.slice a ys.length cap] w (Tells progEnd (unF ys) w) := by
  obtain ⟨b, off, rfl, hb, hc, hy⟩ := h.at h0
  have hh : ys.headD 0 = ys.getD 0 0 := by cases ys <;> rfl
  have h1' := h1
  rw [hh] at h1'
  have ha := and_one_even hy (by omega)
  have HH := Lib.hid h1
  have H := Lib.hid h
  clear hh h1 h
  generalize ys.getD 0 0 = y at *
  rw [Nat.add_zero] at hc
  go_enter Try.func24, Try.ntmps24
  go_wp2
  clear hc ha
  go_loopw [4, 5, 22] (fun u n i wr => ∃ (k nx : Nat) (out : List Nat) (ad : Option Addr) (cp : Nat), k ≤ ys.length ∧ i = .int .i64 k ∧ n = .int .u64 nx ∧ u = .slice ad out.length cp ∧ OwnI wr w.heap.size 23 .u64 (.slice ad out.length cp) (toI out) ∧ Below w.heap.size w wr ∧ out.length ≤ 16384 ∧ nx < 18446744073709551616 ∧ Hid (unRun (ys.take k) = (out, nx))) (fun _ _ i _ => ys.length - (intOf i).toNat)
  case atStart => exact ⟨0, 0, [], none, 0, Nat.zero_le _, rfl, rfl, rfl, OwnI.nil _ _ _ _, Below.refl _ _, by simp, by omega, Lib.hid rfl⟩
  case round =>
    obtain ⟨k, nx, out, ad, cp, hk, rfl, rfl, rfl, hown, hbe, hout, hnx, hrun⟩ := hrel
    have hsz := hbe.size
    by_cases hlt : k < ys.length
    · obtain ⟨b', off', e, -, hck, hx⟩ := (H.out.below hbe).at hlt
      simp only [Option.some.injEq, Addr.mk.injEq, and_true] at e
      obtain ⟨rfl, rfl⟩ := e
      by_cases h2 : ys.getD k 0 % 2 = 0
      · have hab := and_one_even hx h2
        have HR := Lib.hid (unRun_even hlt h2)
        generalize ys.getD k 0 = x at *
        by_cases h3 : out.length + 1 ≤ 16384
        · go_wp2_with (first
            | (at_builtin; refine wpList_push rfl (.tmp 29) (.tmp 31) slice64 rfl w.heap.size w _ (toI out) out.length (x : Int) rfl rfl (toI_length out) hown (by unfold maxLen; omega) (by omega) hbe hsz ?_; intro ad1 cp1 w1 hown1 hbe1; clear hown hbe))
          go_roundw
          case rel => exact ⟨k + 1, (x + 8) % 18446744073709551616, out ++ [x], ad1, cp1, by omega, by go_num, by go_num, by simp, by simpa [toI] using hown1, hbe1, by simpa using h3, Nat.mod_lt _ (by decide), Lib.hid (by rw [HR.out, hrun.out])⟩
          case measure => simp [intOf]; omega
        · go_wp2_with (first
            | (at_builtin; refine wpList_push rfl (.tmp 29) (.tmp 31) slice64 rfl w.heap.size w _ (toI out) out.length (x : Int) rfl rfl (toI_length out) hown (by unfold maxLen; omega) (by omega) hbe hsz ?_; intro ad1 cp1 w1 hown1 hbe1; clear hown hbe))
          go_ret2
          exact Tells.mk (unF_long HH.out (k := k + 1) (by rw [HR.out, hrun.out]; simp; omega)) rfl (OwnI.nil _ _ _ _) hbe1
      · have hab := and_one_odd hx h2
        have HR := Lib.hid (unRun_odd hlt h2)
        rw [hrun.out] at HR
        generalize ys.getD k 0 = x at *
        go_wp2
        go_loopw [4, 35] (fun u c wr2 => ∃ (j : Nat) (ad2 : Option Addr) (cp2 : Nat), j ≤ 63 ∧ c = .int .u64 j ∧ u = .slice ad2 (out.length + (bitsK x nx j).length) cp2 ∧ OwnI wr2 w.heap.size 23 .u64 (.slice ad2 (out.length + (bitsK x nx j).length) cp2) (toI (out ++ bitsK x nx j)) ∧ Below w.heap.size w wr2) (fun _ c _ => 63 - (intOf c).toNat)
        case atStart => exact ⟨0, ad, cp, by omega, rfl, rfl, by rw [bitsK_zero, List.append_nil]; exact hown, hbe⟩
        case round =>
          clear hown hbe hsz
          obtain ⟨j, ad2, cp2, hj, rfl, rfl, hown, hbe⟩ := hrel
          have hsz := hbe.size
          have hbl := bitsK_length x nx j
          by_cases hj2 : j < 63
          · have htb := test_bit x j hx hj2
            cases hb2 : x.testBit (j + 1) with
            | true =>
              rw [hb2] at htb
              have HB := Lib.hid (bitsK_yes (nx := nx) hb2)
              have HL : Hid ((toI (out ++ bitsK x nx j)).length = out.length + (bitsK x nx j).length) := Lib.hid (by rw [toI_length, List.length_append])
              clear hb2
              generalize bitsK x nx j = done at *
              go_wp2_with (first
                | (at_builtin; refine wpList_push rfl (.tmp 43) (.tmp 48) slice64 rfl w.heap.size w _ _ (out.length + done.length) _ rfl rfl HL.out hown (by unfold maxLen; omega) (by omega) hbe hsz ?_; intro ad1 cp1 w1 hown1 hbe1; clear hown hbe))
              go_roundw
              case rel => exact ⟨j + 1, ad1, cp1, by omega, by go_num, by rw [HB.out]; simp; omega, by rw [HB.out]; rw [next_wrap] at hown1; simpa [toI, Nat.add_assoc] using hown1, hbe1⟩
              case measure => simp [intOf]; omega
            | false =>
              rw [hb2] at htb
              have HB := Lib.hid (bitsK_no (nx := nx) hb2)
              clear hb2
              generalize bitsK x nx j = done at *
              go_wp2
              go_roundw
              case rel => exact ⟨j + 1, ad2, cp2, by omega, by go_num, by rw [HB.out], by rw [HB.out]; exact hown, hbe⟩
              case measure => simp [intOf]; omega
          · obtain rfl : j = 63 := by omega
            generalize bitsK x nx 63 = done at *
            by_cases h3 : out.length + done.length ≤ 16384
            · go_wp2
              go_roundw
              case rel => exact ⟨k + 1, (nx + 504) % 18446744073709551616, out ++ done, ad2, cp2, by omega, by go_num, by go_num, by simp, by simpa using hown, hbe, by simpa using h3, Nat.mod_lt _ (by decide), HR⟩
              case measure => simp [intOf]; omega
            · go_wp2
              go_ret2
              exact Tells.mk (unF_long HH.out (k := k + 1) (by rw [HR.out]; simp; omega)) rfl (OwnI.nil _ _ _ _) hbe
    · have hk' : k = ys.length := by omega
      have HK := Lib.hid hk'; clear hk'
      go_wp2
      go_ret2
      have hr := hrun.out
      rw [HK.out, List.take_length] at hr
      exact Tells.mk (unF_yes HH.out (by rw [hr]; exact hout)) rfl (by rw [hr]; exact hown) hbe
theorem unpack_nil (a : Option Addr) (cap : Nat) (w : World) :
    Calls Try.prog 24 #[.slice a 0 cap] w (Tells progEnd (unF []) w) := by
  go_enter Try.func24, Try.ntmps24
  go_wp2
  go_loopw [4, 5, 22] (fun u n i wr => u = .slice none 0 0 ∧ i = .int .i64 0 ∧ wr = w) (fun _ _ i _ => 0 - (intOf i).toNat)
  case atStart => exact ⟨rfl, rfl, rfl⟩
  case round =>
    obtain ⟨rfl, rfl, rfl⟩ := hrel
    go_wp2
    go_ret2
    exact ⟨_, rfl, OwnI.nil _ _ _ _, Below.refl _ _⟩

theorem unpack_any (a : Option Addr) (cap : Nat) (ys : List Nat) (w : World) (h : NRow w a ys) (hl : ys.length * 8 ≤ 140737488351232) :
    Calls Try.prog 24 #[.slice a ys.length cap] w (Tells progEnd (unF ys) w) := by
  by_cases h1 : ys.headD 0 % 2 = 1
  · rw [unF_odd h1]
    exact unpack_odd a cap ys w h hl h1
  · by_cases h0 : 0 < ys.length
    · exact unpack_run a cap ys w h hl h1 h0
    · obtain rfl : ys = [] := List.eq_nil_of_length_eq_zero (by omega)
      exact unpack_nil a cap w
end Go.Proofs.Ytbmfjchpfhealaa
