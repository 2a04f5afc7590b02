/- Layer 4: the document's own numbers in bytes. -/
import Derived.Test.YtmjfkcclhbpclaaDoorHeadRight
namespace Go.Proofs.YtmjfkcclhbpclaaDoor
open Go.RowKit
set_option linter.unusedVariables false
set_option linter.unusedSimpArgs false

theorem rnum_drop {bs : List Nat} {i : Nat} (h : i < bs.length) : numOf (bs.drop i) = bs.getD i 0 + 256 * numOf (bs.drop (i + 1)) := by
  rw [List.drop_eq_getElem_cons h, numOf, getD_getElem h]
theorem rnum_drop_lt {bs : List Nat} (hb : ∀ b ∈ bs, b < 256) (hl : bs.length ≤ 8) (i : Nat) (hi : i < bs.length) : 256 * numOf (bs.drop (i + 1)) + bs.getD i 0 < 18446744073709551616 := by
  have h1 := numOf_lt (bs.drop i) (fun x hx => hb x (List.mem_of_mem_drop hx))
  rw [rnum_drop hi] at h1
  have h2 : (256 : Nat) ^ (bs.drop i).length ≤ 256 ^ 8 := Nat.pow_le_pow_right (by omega) (by simp; omega)
  have h5 : (256 : Nat) ^ 8 = 18446744073709551616 := by decide
  omega
def RGetPost (bs : List Nat) (off n : Nat) (w : World) (e : Ending) (w' : World) : Prop := (∃ c : Int, e = .returned (.tuple #[.int .u64 (numF bs off n : Int), .int .i64 c])) ∧ Below w.heap.size w w'
set_option maxRecDepth 100000
set_option maxHeartbeats 8000000 in
theorem rget_any (a : Option Addr) (m cap off n : Nat) (bs : List Nat) (w : World) (h : BAny w a m cap bs) (ho : off < 18446744073709551616) (hw : wide n = true) :
    Calls Tryd.prog 58 #[.slice a m cap, .int .u64 (off : Int), .int .i64 (n : Int)] w (RGetPost bs off n w) := by
  have hn8 : n ≤ 8 := by simp [wide] at hw; omega
  have HWD := Lib.hid (widths_any (n : Int) w)
  rw [hw] at HWD
  have HCU := Lib.hid (rcut_any a m cap off n bs w h ho (by omega))
  unfold RCutPost at HCU
  have hnw : IntKind.u64.wrap (n : Int) = (n : Int) := by rw [IntKind.wrap_u64]; omega
  have hn8' : (n : Int) ≤ 8 := by omega
  by_cases hi : inB bs.length off n = true
  · have HPO : Hid (∀ v w', v = numF bs off n → Below w.heap.size w w' → RGetPost bs off n w (.returned (.tuple #[.int .u64 ((v : Nat) : Int), .int .i64 0])) w') := Lib.hid (fun v w' hv hb => ⟨⟨0, by rw [hv]⟩, hb⟩)
    simp only [if_pos hi] at HCU
    obtain ⟨part, hpart⟩ : ∃ part, (bs.drop off).take n = part := ⟨_, rfl⟩
    have HPL : Hid (part.length = n ∧ ∀ x ∈ part, x < 256) := Lib.hid (by
      unfold inB at hi
      have := of_decide_eq_true hi
      rw [← hpart]
      exact ⟨by rw [List.length_take, List.length_drop]; omega, fun x hx => h.row.2 x (List.mem_of_mem_drop (List.mem_of_mem_take hx))⟩)
    have HNF : Hid (numOf part = numF bs off n) := Lib.hid (by unfold numF; rw [if_pos hi, hpart])
    rw [hpart] at HCU
    have HL := Lib.hid (rnum_drop_lt HPL.out.2 (by rw [HPL.out.1]; exact hn8))
    generalize RGetPost bs off n w = P at *
    clear h hi hw hpart
    go_enter Tryd.func58, Tryd.ntmps58
    go_wp2_with fail
    refine HWD.out.mono ?_
    rintro e w2 ⟨rfl, rfl⟩
    go_wp2_with fail
    refine HCU.out.mono ?_
    rintro e w3 ⟨⟨ad, c, rfl, hr, hcc⟩, b3⟩
    have HR : Hid (BRow w3 ad part) := Lib.hid ⟨hr, HPL.out.2⟩
    have B3 := Lib.hid b3
    clear hr b3 hnw
    go_wp2_with fail
    go_loopg [11, 12] n (fun g v i wr => g ≤ n ∧ i = .int .i64 ((g : Int) - 1) ∧ v = .int .u64 ((numOf (part.drop g) : Nat) : Int) ∧ w3 = wr)
    case atStart => exact ⟨Nat.le_refl _, rfl, by rw [List.drop_eq_nil_of_le (by have := HPL.out.1; omega)]; rfl, rfl⟩
    case round =>
      obtain ⟨hg, rfl, rfl, rfl⟩ := hrel
      cases gk with
      | zero =>
        rw [List.drop_zero]
        go_wp2_with fail
        exact HPO.out _ _ HNF.out B3.out
      | succ g =>
        obtain ⟨b, o, rfl, -, hc, hb⟩ := HR.out.at (i := g) (by have := HPL.out.1; omega)
        have hlt := HL.out g (by have := HPL.out.1; omega)
        have HE := Lib.hid (rnum_drop (bs := part) (i := g) (by have := HPL.out.1; omega))
        have e0 : ((g + 1 : Nat) : Int) - 1 = (g : Int) := by omega
        rw [e0]
        generalize part.getD g 0 = x at *
        generalize numOf (part.drop (g + 1)) = v at *
        have hlt2 : (256 : Int) * (v : Int) + (x : Int) < 18446744073709551616 := by omega
        have hlt3 : (256 : Int) * (v : Int) < 18446744073709551616 := by omega
        have i1 : (g : Int) < (n : Int) := by omega
        clear hlt
        go_wp2_with fail
        go_roundg g
        case measure => omega
        case rel => exact ⟨by omega, by go_num, by rw [HE.out]; exact vint (by omega), rfl⟩
  · have HPO : Hid (∀ w', Below w.heap.size w w' → RGetPost bs off n w (.returned (.tuple #[.int .u64 0, .int .i64 4])) w') := Lib.hid (fun w' hb => ⟨⟨4, by unfold numF; rw [if_neg hi]; rfl⟩, hb⟩)
    simp only [if_neg hi] at HCU
    generalize RGetPost bs off n w = P at *
    clear h hi hw
    go_enter Tryd.func58, Tryd.ntmps58
    go_wp2_with fail
    refine HWD.out.mono ?_
    rintro e w2 ⟨rfl, rfl⟩
    go_wp2_with fail
    refine HCU.out.mono ?_
    rintro e w3 ⟨rfl, b3⟩
    have B3 := Lib.hid b3
    clear b3
    go_wp2_with fail
    exact HPO.out _ B3.out
set_option maxHeartbeats 8000000 in
theorem rnum_any (a : Option Addr) (m cap off n : Nat) (bs : List Nat) (w : World) (h : BAny w a m cap bs) (ho : off < 18446744073709551616) (hw : wide n = true) :
    Calls Tryd.prog 38 #[.slice a m cap, .int .u64 (off : Int), .int .i64 (n : Int)] w fun e w' => e = .returned (.int .u64 (numF bs off n : Int)) ∧ Below w.heap.size w w' := by
  have HG := Lib.hid (rget_any a m cap off n bs w h ho hw)
  unfold RGetPost at HG
  generalize numF bs off n = V at *
  clear h ho hw
  go_enter Tryd.func38, Tryd.ntmps38
  go_wp2_with fail
  refine HG.out.mono ?_
  rintro e w2 ⟨⟨c, rfl⟩, b2⟩
  have B2 := Lib.hid b2
  clear b2
  go_wp2_with fail
  go_ret
  exact ⟨rfl, B2.out⟩
set_option maxHeartbeats 8000000 in
theorem ramong_any (x : Nat) (sb n cap : Nat) (l : List Nat) (w : World) (h : URow w sb l) (hn : l.length = n) (hnl : n ≤ 1048576) :
    Calls Tryd.prog 60 #[.int .u32 (x : Int), .slice (some ⟨sb, 0, none⟩) n cap] w fun e w' => e = .returned (.bool (l.contains x)) ∧ w = w' := by
  have H := Lib.hid h
  have HL := Lib.hid hn
  have hnn : (n : Int) ≤ 1048576 := by omega
  have HC : Hid (∀ R, l.contains x = R → R = l.contains x) := Lib.hid (fun R h => h.symm)
  have HY : Hid (∀ k, (hk : k < l.length) → l[k] = x → l.contains x = true) := Lib.hid (fun k hk e => by rw [← e]; simp)
  have HN : Hid ((∀ k, (hk : k < l.length) → l[k] ≠ x) → l.contains x = false) := Lib.hid (fun hall => by
    cases hc : l.contains x with
    | false => rfl
    | true =>
      have hm : x ∈ l := by simpa using hc
      obtain ⟨k, hk, e⟩ := List.getElem_of_mem hm
      exact absurd e (hall k hk))
  generalize l.contains x = R at *
  clear h hn hnl
  go_enter Tryd.func60, Tryd.ntmps60
  go_wp2_with fail
  go_loopg [5] n (fun g i wr => ∃ k : Nat, k + g = n ∧ i = .int .i64 (k : Int) ∧ w = wr ∧ Hid (∀ j, (hj : j < l.length) → j < k → l[j] ≠ x))
  case atStart => exact ⟨0, by omega, rfl, rfl, Lib.hid (fun j _ h => by omega)⟩
  case round =>
    obtain ⟨k, hk, rfl, rfl, HJ⟩ := hrel
    cases gk with
    | zero =>
      have hkn : k = n := by omega
      have HE : Hid (R = false) := Lib.hid (HN.out (fun j hj => HJ.out j hj (by have := HL.out; omega)))
      subst hkn
      clear hk
      go_wp2_with fail
      go_ret
      exact ⟨by rw [HE.out]; rfl, rfl⟩
    | succ g =>
      have hkl : k < l.length := by have := HL.out; omega
      have c0 := H.out.2 k hkl
      obtain ⟨y, hy⟩ : ∃ y, l[k] = y := ⟨_, rfl⟩
      rw [hy] at c0
      have HK := Lib.hid hk
      have i0 : (0 : Int) ≤ (k : Int) := by omega
      have i1 : (k : Int) < (n : Int) := by omega
      by_cases hxy : y = x
      · have HE : Hid (R = true) := Lib.hid (HY.out k hkl (hy.trans hxy))
        have t : ((y : Int) == (x : Int)) = true := beq_iff_eq.2 (by omega)
        clear hk hkl hy hxy
        go_wp2_with fail
        go_ret
        exact ⟨by rw [HE.out]; first | rfl | rw [t], rfl⟩
      · have HJ2 : Hid (∀ j, (hj : j < l.length) → j < k + 1 → l[j] ≠ x) := Lib.hid (fun j hj hjk => by
          by_cases h : j < k
          · exact HJ.out j hj h
          · obtain rfl : j = k := by omega
            rw [hy]; exact hxy)
        have t : ((y : Int) == (x : Int)) = false := beq_eq_false_iff_ne.2 (by omega)
        clear hk hkl hy hxy
        go_wp2_with fail
        go_roundg g
        case measure => have := HK.out; omega
        case rel => exact ⟨k + 1, by have := HK.out; omega, by go_num, rfl, HJ2⟩
end Go.Proofs.YtmjfkcclhbpclaaDoor
