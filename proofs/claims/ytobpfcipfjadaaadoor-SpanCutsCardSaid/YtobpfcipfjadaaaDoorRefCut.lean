/- Layer 1, the document's own answers on bytes: a cut, a number read, a text. -/
import Derived.Test.YtobpfcipfjadaaaDoorSpanRef
import Derived.Test.YtobpfcipfjadaaaDoorSpanText
namespace Go.Proofs.YtobpfcipfjadaaaDoor
open Go.RowKit
set_option linter.unusedVariables false
set_option linter.unusedSimpArgs false

theorem cutOf_snoc (xs : List Int) (off k : Nat) (h : off + k < xs.length) : cutOf xs off (k + 1) = cutOf xs off k ++ [xs.getD (off + k) 0] := by
  simp only [cutOf]
  rw [take_snoc _ k (by simp; omega)]
  simp [List.getD, h]

set_option maxHeartbeats 1000000 in
theorem refCut_yes (a : Option Addr) (cap : Nat) (xs : List Int) (off n : Nat) (w : World) (h : Row .u8 w a xs) (hl : xs.length ≤ 140737488351232)
    (h1 : off ≤ xs.length) (h2 : n ≤ xs.length - off) :
    Calls Tryd.prog 9 #[.slice a xs.length cap, .int .u64 off, .int .u64 n] w fun e w' => ∃ v, e = .returned (.tuple #[v, .bool true]) ∧ w'.ownsRow w.heap.size 5 1 v n ((cutOf xs off n).map (Value.int .u8)) ∧ Below w.heap.size w w' := by
  obtain ⟨i0, hi, hz0, hz1, hz2⟩ := info_parts info8
  have HI := Lib.hid hi; have HZ0 := Lib.hid hz0; have HZ1 := Lib.hid hz1; have HZ2 := Lib.hid hz2
  clear hi hz0 hz1 hz2
  have hin := Lib.hid (refIn xs.length off n w (by omega) (by omega) (by omega))
  rw [inB_yes h1 h2] at hin
  have HC := Lib.hid h; clear h
  go_enter Tryd.func9, Tryd.ntmps9
  go_wp2_with (first
    | (go_at_call 22; refine (Hid.out hin).mono ?_; rintro e w' ⟨rfl, rfl⟩))
  go_loopw [9, 10] (fun b i wr => ∃ (k : Nat), k ≤ n ∧ i = .int .u64 k ∧ Hid (wr.ownsRow w.heap.size 5 1 b k ((cutOf xs off k).map (Value.int .u8))) ∧ Below w.heap.size w wr) (fun _ i _ => n - (intOf i).toNat)
  case atStart => exact ⟨0, Nat.zero_le _, rfl, Lib.hid (World.ownsRow_nil _ _ _ _), Below.refl _ _⟩
  case round =>
    obtain ⟨k, hk, rfl, hown, hbe⟩ := hrel
    have hsz := hbe.size
    by_cases hlt : k < n
    · obtain ⟨b0, o0, rfl, hck⟩ := HC.out (off + k) (by omega)
      have hb0 : b0 < w.heap.size := by simpa using World.block_lt_of_cell? w _ hck
      have hcr : wr.cell? ⟨b0, o0 + (off + k), none⟩ = some (.int .u8 (xs.getD (off + k) 0)) := by rw [hbe.cell (p := ⟨b0, o0 + (off + k), none⟩) hb0]; exact hck
      clear hck
      have HS := Lib.hid (cutOf_snoc xs off k (by omega))
      generalize xs.getD (off + k) 0 = x at *
      go_wp2_with (first
        | (at_builtin; refine wpList_append_own _ rfl (.tmp 24) (.tmp 31) 22 rfl w.heap.size 5 i0 (.int .u8 0) 1 1 Tryd.underlying22 HI.out HZ0.out HZ1.out HZ2.out rfl (by decide) _ k _ rfl (hown.out.alloc _) ⟨wr.heap.size, 0, none⟩ 1 1 [.int .u8 x] rfl rfl (cell_one_new _ _ _) (one_int _ _) (by unfold maxLen; omega) (by omega) (by simp; omega) ?_; intro v' w1 hown1 hgr1 _; have HO1 := Lib.hid hown1; clear hown1; have HG1 := Lib.hid hgr1; clear hgr1))
      go_roundw
      case rel =>
        refine ⟨k + 1, by omega, by go_num, Lib.hid ?_, ?_⟩
        · have h := HO1.out
          rw [HS.out, List.map_append]
          exact h
        · exact (hbe.alloc hsz _).grown HG1.out (by simp; omega) (fun j hj => (hown.out.lt j hj).1)
      case measure => simp [intOf]; omega
    · have hk' : k = n := by omega
      have HK := Lib.hid hk'; clear hk'
      go_wp2
      go_ret2
      refine ⟨_, rfl, ?_, hbe⟩
      have h := hown.out
      rw [HK.out] at h
      exact h

theorem refCut_no (a : Option Addr) (cap len : Nat) (off n : Nat) (w : World) (hl : len ≤ 140737488351232) (ho : off < 18446744073709551616) (hn : n < 18446744073709551616)
    (h1 : ¬ (off ≤ len ∧ n ≤ len - off)) :
    Calls Tryd.prog 9 #[.slice a len cap, .int .u64 off, .int .u64 n] w fun e w' => e = .returned (.tuple #[.slice none 0 0, .bool false]) ∧ w = w' := by
  have hin := Lib.hid (refIn len off n w (by omega) (by omega) (by omega))
  rw [inB_no h1] at hin
  clear h1
  go_enter Tryd.func9, Tryd.ntmps9
  go_wp2_with (first
    | (go_at_call 22; refine (Hid.out hin).mono ?_; rintro e w' ⟨rfl, rfl⟩))
  go_ret2
  exact ⟨rfl, rfl⟩

theorem leval_cons (b : Int) (t : List Int) : leval (b :: t) = b + 256 * leval t := rfl
theorem drop_getD (ys : List Int) (k : Nat) (h : k < ys.length) : ys.drop k = ys.getD k 0 :: ys.drop (k + 1) := by
  rw [List.drop_eq_getElem_cons h]; simp [List.getD, h]

set_option maxHeartbeats 1000000 in
theorem refGet_yes (a : Option Addr) (cap : Nat) (xs : List Int) (off n : Nat) (w : World) (h : Row .u8 w a xs) (hby : Bytes xs) (hl : xs.length ≤ 140737488351232)
    (hw : wide n = true) (h1 : off ≤ xs.length) (h2 : n ≤ xs.length - off) :
    Calls Tryd.prog 13 #[.slice a xs.length cap, .int .u64 off, .int .i64 n] w fun e w' => e = .returned (.tuple #[.int .u64 (leval (cutOf xs off n)), .int .i64 0]) ∧ Below w.heap.size w w' := by
  have hg := Lib.hid (widths_any (n : Int) w)
  rw [hw] at hg
  have hcut := Lib.hid (refCut_yes a cap xs off n w h hl h1 h2)
  have hn8 : n ≤ 8 := by simp [wide] at hw; omega
  have hcb : Bytes (cutOf xs off n) := fun y hy => hby y (List.mem_of_mem_drop (List.mem_of_mem_take hy))
  have hcl := cutOf_length (off := off) h2
  clear hw h hby
  generalize cutOf xs off n = ys at *
  have HL := Lib.hid hcl; clear hcl
  have HB := Lib.hid hcb; clear hcb
  go_enter Tryd.func13, Tryd.ntmps13
  go_wp2_with (first
    | (go_at_call 26; refine (Hid.out hg).mono ?_; rintro e w' ⟨rfl, rfl⟩)
    | (go_at_call 9; refine (Hid.out hcut).mono ?_; rintro e w1 ⟨v, rfl, ho, hb⟩; obtain ⟨hlen, a', c', rfl, hr, -⟩ := own_row ho; have HR := Lib.hid hr; have HLL := Lib.hid hlen; clear hr hlen ho))
  have hyl : ys.length = n := HL.out
  have hyl' : ys.length ≤ 8 := by omega
  have HL2 := Lib.hid hyl; clear hyl
  go_loop [11, 12] (fun v i => ∃ (k : Nat) (t : Int), k ≤ ys.length ∧ i = .int .i64 ((k : Int) - 1) ∧ v = .int .u64 t ∧ Hid (t = leval (ys.drop k))) (fun _ i => (intOf i + 1).toNat)
  case atStart => exact ⟨n, 0, by rw [HL.out]; exact Nat.le_refl _, rfl, rfl, Lib.hid (by rw [List.drop_eq_nil_of_le (by rw [HL.out]; exact Nat.le_refl _)]; rfl)⟩
  case round =>
    obtain ⟨k, t, hk, rfl, rfl, ht⟩ := hrel
    by_cases hlt : 0 < k
    · obtain ⟨k, rfl⟩ : ∃ j, k = j + 1 := ⟨k - 1, by omega⟩
      have hki : ((k + 1 : Nat) : Int) - 1 = (k : Int) := by omega
      rw [hki]
      obtain ⟨b, o, rfl, hck⟩ := HR.out k (by omega)
      have hm := HB.out (ys.getD k 0) (by simp [List.getD, show k < ys.length from by omega])
      obtain ⟨m1, m2⟩ := hm
      have hbd := leval_bounds (ys.drop (k + 1)) (fun y hy => HB.out y (List.mem_of_mem_drop hy))
      rw [← ht.out, show (ys.drop (k + 1)).length = ys.length - (k + 1) from by simp] at hbd
      have hp := pow_le64 (ys.length - (k + 1) + 1) (by omega)
      rw [show 8 * (ys.length - (k + 1) + 1) = 8 * (ys.length - (k + 1)) + 8 from by omega, Int.pow_add, show (2 : Int) ^ 8 = 256 from rfl] at hp
      have HS := Lib.hid (show leval (ys.drop k) = 256 * t + ys.getD k 0 from by
        rw [drop_getD ys k (by omega), leval_cons, ht.out]; omega)
      have hmul : 0 ≤ 256 * t ∧ 256 * t + 255 < 18446744073709551616 := by
        generalize (2 : Int) ^ (8 * (ys.length - (k + 1))) = p at *
        omega
      obtain ⟨hm1, hm2⟩ := hmul
      have ht0 : 0 ≤ t := hbd.1
      clear hbd hp
      generalize ys.getD k 0 = x at *
      go_wp2
      go_round
      case rel => exact ⟨k, 256 * t + x, by omega, by go_num, by go_num, Lib.hid HS.out.symm⟩
      case measure => simp [intOf]
    · obtain rfl : k = 0 := by omega
      have HT := Lib.hid (show t = leval ys from by rw [ht.out, List.drop_zero])
      go_wp2
      go_ret2
      exact ⟨ret2 (vint HT.out) rfl, hb⟩

theorem refGet_width (a : Option Addr) (cap len : Nat) (off n : Int) (w : World) (hw : wide n = false) :
    Calls Tryd.prog 13 #[.slice a len cap, .int .u64 off, .int .i64 n] w fun e w' => e = .returned (.tuple #[.int .u64 0, .int .i64 1]) ∧ w = w' := by
  have hg := Lib.hid (widths_any n w)
  rw [hw] at hg
  clear hw
  go_enter Tryd.func13, Tryd.ntmps13
  go_wp2_with (first
    | (go_at_call 26; refine (Hid.out hg).mono ?_; rintro e w' ⟨rfl, rfl⟩))
  go_ret2
  exact ⟨rfl, rfl⟩

theorem refGet_range (a : Option Addr) (cap len : Nat) (off n : Nat) (w : World) (hl : len ≤ 140737488351232) (ho : off < 18446744073709551616)
    (hw : wide n = true) (h1 : ¬ (off ≤ len ∧ n ≤ len - off)) :
    Calls Tryd.prog 13 #[.slice a len cap, .int .u64 off, .int .i64 n] w fun e w' => e = .returned (.tuple #[.int .u64 0, .int .i64 4]) ∧ w = w' := by
  have hg := Lib.hid (widths_any (n : Int) w)
  rw [hw] at hg
  have hn8 : n ≤ 8 := by simp [wide] at hw; omega
  have hcut := Lib.hid (refCut_no a cap len off n w hl ho (by omega) h1)
  clear hw h1
  go_enter Tryd.func13, Tryd.ntmps13
  go_wp2_with (first
    | (go_at_call 26; refine (Hid.out hg).mono ?_; rintro e w' ⟨rfl, rfl⟩)
    | (go_at_call 9; refine (Hid.out hcut).mono ?_; rintro e w' ⟨rfl, rfl⟩))
  go_ret2
  exact ⟨rfl, rfl⟩
end Go.Proofs.YtobpfcipfjadaaaDoor
