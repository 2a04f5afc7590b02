/- Layer 8, VersMade: a number's bytes behind others; whether a text may be a name. -/
import Derived.Test.YtikpkblemegggaaTexts
import Derived.Test.YtikpkblemegggaaSysv
import Derived.Test.YtikpkblemegggaaLittle
import Derived.WalkMore
import Derived.Deep.LoopGhost
namespace Go.Proofs.Ytikpkblemegggaa
open Go.RowKit
set_option linter.unusedVariables false
set_option linter.unusedSimpArgs false

theorem slice8m : IntSlice Try.prog 22 5 .u8 1 := ⟨Try.underlying22, by kernel_rfl⟩
theorem Kept.refl (e : TypeId) (w : World) : Kept e w w := fun _ _ _ _ _ _ h => h
theorem Kept.trans {e : TypeId} {a b c : World} (h : Kept e a b) (k : Kept e b c) : Kept e a c := fun B' e' k' u ys hne ho => k B' e' k' u ys hne (h B' e' k' u ys hne ho)
theorem Kept.below {e : TypeId} {a b : World} (h : Below a.heap.size a b) : Kept e a b := fun B' e' k' u ys hne ho => ho.below h

/-- the digits of a number, the lowest first -/
def digs : Nat → Nat → List Nat
  | _, 0 => []
  | v, n + 1 => v % 256 :: digs (v / 256) n
theorem digs_length : ∀ (n v : Nat), (digs v n).length = n
  | 0, _ => rfl
  | n + 1, v => by rw [digs, List.length_cons, digs_length n]
theorem digs_lt : ∀ (n v : Nat), ∀ x ∈ digs v n, x < 256
  | 0, _ => fun x hx => by cases hx
  | n + 1, v => fun x hx => by
    rw [digs] at hx
    rcases List.mem_cons.1 hx with rfl | h
    · omega
    · exact digs_lt n _ x h
theorem digs_num : ∀ (n v : Nat), v < 256 ^ n → numOf (digs v n) = v
  | 0, v, h => by simp at h; subst h; rfl
  | n + 1, v, h => by
    rw [digs, numOf, digs_num n (v / 256) (by rw [Nat.div_lt_iff_lt_mul (by omega)]; rw [Nat.pow_succ] at h; exact h)]
    omega

def LayAns (B n : Nat) (R : List Nat) (w : World) (e : Ending) (w' : World) : Prop :=
  ∃ ad c, e = .returned (.slice ad n c) ∧ OwnI w' B 5 .u8 (.slice ad n c) (toI R) ∧ Below B w w' ∧ Kept 5 w w'

set_option maxRecDepth 100000 in
set_option maxHeartbeats 4000000 in
theorem lay_any (B : Nat) (ad0 : Option Addr) (c0 : Nat) (base : List Nat) (m v n : Nat) (w : World) (hown : OwnI w B 5 .u8 (.slice ad0 m c0) (toI base)) (hm : base.length = m) (hml : m ≤ 1048576) (hv : v < 4611686018427387904) (hn : n ≤ 8) (hB : B ≤ w.heap.size) :
    Calls Try.prog 12 #[.slice ad0 m c0, .int .i64 (v : Int), .int .i64 (n : Int)] w (LayAns B (m + n) (base ++ digs v n) w) := by
  have HO := Lib.hid hown
  have HM := Lib.hid hm
  have HB := Lib.hid hB
  clear hown hm hB
  obtain ⟨R, hR⟩ : ∃ R, base ++ digs v n = R := ⟨_, rfl⟩
  have HR := Lib.hid hR
  rw [hR]
  clear hR
  go_enter Try.func12, Try.ntmps12
  go_wp2
  go_loopg [0, 1, 7] n (fun g u x i wr => ∃ (k t : Nat) (ad : Option Addr) (c : Nat) (bs : List Nat), k + g = n ∧ i = .int .i64 (k : Int) ∧ x = .int .i64 (t : Int) ∧ t < 4611686018427387904 ∧ u = .slice ad (m + k) c ∧ Hid (OwnI wr B 5 .u8 (.slice ad (m + k) c) (toI bs)) ∧ Hid (bs ++ digs t g = R) ∧ Hid (bs.length = m + k) ∧ Hid (Below B w wr) ∧ Hid (Kept 5 w wr) ∧ Hid (B ≤ wr.heap.size))
  case atStart => exact ⟨0, v, ad0, c0, base, by omega, rfl, rfl, hv, rfl, HO, HR, HM, Lib.hid (Below.refl _ _), Lib.hid (Kept.refl _ _), HB⟩
  case round =>
    obtain ⟨k, t, ad, c, bs, hk, rfl, rfl, ht, rfl, OW, HE, HL, BW, KW, BB⟩ := hrel
    cases gk with
    | zero =>
      have hke : k = n := by omega
      subst hke
      go_wp2
      go_ret
      refine ⟨ad, c, by go_num, ?_, BW.out, KW.out⟩
      rw [show R = bs from by rw [← HE.out, digs, List.append_nil]]
      exact OW.out
    | succ g =>
      have hkn : k < n := by omega
      have hrem : ((t : Nat) : Int).tmod 256 = ((t % 256 : Nat) : Int) := by
        rw [Int.tmod_eq_emod_of_nonneg (by omega)]; omega
      have hquo : ((t : Nat) : Int).tdiv 256 = ((t / 256 : Nat) : Int) := by
        rw [Int.tdiv_eq_ediv_of_nonneg (by omega)]; omega
      have HE2 : Hid ((bs ++ [t % 256]) ++ digs (t / 256) g = R) := Lib.hid (by rw [List.append_assoc]; exact HE.out)
      have hq : t / 256 < 4611686018427387904 := by omega
      have hd : t % 256 < 256 := Nat.mod_lt _ (by omega)
      generalize t % 256 = d at *
      generalize t / 256 = q at *
      have hwd : IntKind.u8.wrap (d : Int) = (d : Int) := by rw [IntKind.wrap_u8]; omega
      have HQ := Lib.hid hq
      have hwq : wrap64 (q : Int) = (q : Int) := by unfold wrap64; omega
      have HIL : Hid ((toI bs).length = m + k) := Lib.hid (by rw [toI_length]; exact HL.out)
      clear hq hd ht
      go_wp2_with (at_builtin; go_loud (refine wpList_push_k rfl (.tmp 13) (.tmp 17) slice8m rfl B w (.slice ad (m + k) c) (toI bs) (m + k) (d : Int) rfl (by rfl) HIL.out OW.out (by unfold maxLen; omega) (by omega) BW.out BB.out ?_); intro ad5 c5 w6 hown5 hbe5 hk5; have O5 := Lib.hid hown5; have B5 := Lib.hid hbe5; have K5 := Lib.hid hk5; clear hown5 hbe5 hk5)
      go_roundg g
      case measure => omega
      case rel =>
        have o5 : OwnI w6 B 5 .u8 (.slice ad5 (m + k + 1) c5) (toI (bs ++ [d])) := by
          have := O5.out
          rw [toI_append]
          exact this
        exact ⟨k + 1, q, ad5, c5, bs ++ [d], by omega, by go_num, by rw [hwq], HQ.out, rfl, Lib.hid o5, HE2, Lib.hid (by rw [List.length_append, HL.out]; rfl), B5, Lib.hid (KW.out.trans K5.out), Lib.hid (Nat.le_trans HB.out B5.out.size)⟩

/-- may a text be a version's name here? -/
def namedF (s : ByteArray) : Bool := decide (0 < s.size ∧ s.size ≤ 255 ∧ ∀ b ∈ s.data.toList, ¬ b.toNat = 0)

set_option maxRecDepth 100000 in
set_option maxHeartbeats 4000000 in
theorem named_any (s : ByteArray) (w : World) (hs : s.size ≤ 9223372036854775807) :
    Calls Try.prog 11 #[.string s] w fun e w' => e = .returned (.bool (namedF s)) ∧ w = w' := by
  go_enter Try.func11, Try.ntmps11
  go_wp2
  go_loopg [3] s.size (fun g i wr => ∃ (k : Nat), k + g = s.size ∧ i = .int .i64 k ∧ Hid (∀ b ∈ s.data.toList.take k, ¬ b.toNat = 0) ∧ w = wr)
  case atStart => exact ⟨0, by omega, rfl, Lib.hid (fun b hb => by simp at hb), rfl⟩
  case round =>
    obtain ⟨k, hk, rfl, HA, rfl⟩ := hrel
    cases gk with
    | zero =>
      have hke : k = s.size := by omega
      have HALL : Hid (∀ b ∈ s.data.toList, ¬ b.toNat = 0) := Lib.hid (fun b hb => HA.out b (by rw [hke, List.take_of_length_le (by simp)]; exact hb))
      have hl : s.data.toList.length = s.size := by simp
      have hL : s.toList = s.data.toList := ByteArray.toList_eq s
      by_cases h0 : s.size = 0
      · have hs0 : s.toList = [] := by rw [hL]; exact List.length_eq_zero_iff.1 (by rw [hl]; exact h0)
        have HF : Hid (namedF s = false) := Lib.hid (by unfold namedF; exact decide_eq_false (fun h => by omega))
        have hs1 : s.toList.isEmpty = true := by rw [hs0]; rfl
        clear hL hl h0 hk HA
        go_wp2
        go_ret
        exact ⟨by rw [HF.out]; rfl, rfl⟩
      · have hs0 : ¬ s.toList = [] := by rw [hL]; intro h; rw [h] at hl; exact h0 hl.symm
        have HF : Hid (namedF s = decide ((s.size : Int) ≤ 255)) := Lib.hid (by
          unfold namedF
          rw [Bool.eq_iff_iff, decide_eq_true_eq, decide_eq_true_eq]
          exact ⟨fun h => by omega, fun h => ⟨by omega, by omega, HALL.out⟩⟩)
        have hs1 : s.toList.isEmpty = false := by
          cases h : s.toList with
          | nil => exact absurd h hs0
          | cons a l => rfl
        clear hL hl h0 hk HA
        go_wp2
        go_ret
        exact ⟨by rw [HF.out]; rfl, rfl⟩
    | succ g =>
      have hlt : k < s.size := by omega
      have HT := Lib.hid (take_bytes s k hlt)
      have hb : s[k].toNat < 256 := s[k].toNat_lt
      by_cases hz : s[k].toNat = 0
      · have HF : Hid (namedF s = false) := Lib.hid (by
          unfold namedF
          refine decide_eq_false (fun h => h.2.2 s[k] ?_ hz)
          refine List.mem_of_mem_take (i := k + 1) ?_
          rw [HT.out]
          simp)
        clear HT HA
        go_wp2
        go_ret
        exact ⟨by rw [HF.out]; rfl, rfl⟩
      · have HA2 : Hid (∀ b ∈ s.data.toList.take (k + 1), ¬ b.toNat = 0) := Lib.hid (fun b hb => by
          rw [HT.out] at hb
          rcases List.mem_append.1 hb with h | h
          · exact HA.out b h
          · rw [List.mem_singleton.1 h]; exact hz)
        clear HT HA
        go_wp2
        go_roundg g
        case measure => omega
        case rel => exact ⟨k + 1, by omega, by go_num, HA2, rfl⟩
end Go.Proofs.Ytikpkblemegggaa
