/- Layer 1, the document's own answers on bytes: numbers as bytes, joined; whether two lists of bytes are alike. -/
import Derived.Test.YtobpfcipfjadaaaSpanJoin
namespace Go.Proofs.Ytobpfcipfjadaaa
open Go.RowKit
set_option linter.unusedVariables false
set_option linter.unusedSimpArgs false

theorem one_int (k : IntKind) (x : Int) : ∀ u ∈ [Value.int k x], u.oneCell' = true := by
  intro u hu
  simp only [List.mem_cons, List.not_mem_nil, or_false] at hu
  subst hu
  rfl

set_option maxHeartbeats 1000000 in
theorem bytes_any (n v : Nat) (w : World) (hn : n ≤ 8) (hv : v < 18446744073709551616) :
    Calls Try.prog 28 #[.int .i64 n, .int .u64 v] w fun e w' => ∃ r, e = .returned (.tuple #[r, .bool (decide (v < 256 ^ n))]) ∧ w'.ownsRow w.heap.size 5 1 r n ((le n v).map (Value.int .u8)) ∧ Below w.heap.size w w' := by
  obtain ⟨i0, hi, hz0, hz1, hz2⟩ := info_parts info8
  have HI := Lib.hid hi; have HZ0 := Lib.hid hz0; have HZ1 := Lib.hid hz1; have HZ2 := Lib.hid hz2
  clear hi hz0 hz1 hz2
  go_enter Try.func28, Try.ntmps28
  go_wp2
  go_loopw [1, 6, 7] (fun x b i wr => ∃ (k : Nat) (t : Nat), k ≤ n ∧ i = .int .i64 k ∧ x = .int .u64 t ∧ Hid (t = v / 256 ^ k) ∧ t < 18446744073709551616 ∧ Hid (wr.ownsRow w.heap.size 5 1 b k ((le k v).map (Value.int .u8))) ∧ Below w.heap.size w wr) (fun _ _ i _ => n - (intOf i).toNat)
  case atStart => exact ⟨0, v, Nat.zero_le _, rfl, rfl, Lib.hid (by simp), hv, Lib.hid (World.ownsRow_nil _ _ _ _), Below.refl _ _⟩
  case round =>
    obtain ⟨k, t, hk, rfl, rfl, ht, htl, hown, hbe⟩ := hrel
    have hsz := hbe.size
    by_cases hlt : k < n
    · go_wp2_with (first
        | (at_builtin; refine wpList_append_own _ rfl (.tmp 13) (.tmp 17) 39 rfl w.heap.size 5 i0 (.int .u8 0) 1 1 Try.underlying39 HI.out HZ0.out HZ1.out HZ2.out rfl (by decide) _ k _ rfl (hown.out.alloc _) ⟨wr.heap.size, 0, none⟩ 1 1 [.int .u8 ((t : Int) % 256)] rfl rfl (cell_one_new _ _ _) (one_int _ _) (by unfold maxLen; omega) (by omega) (by simp; omega) ?_; intro v' w1 hown1 hgr1 _; have HO1 := Lib.hid hown1; clear hown1; have HG1 := Lib.hid hgr1; clear hgr1))
      go_roundw
      case rel =>
        refine ⟨k + 1, t / 256, by omega, by go_num, by go_num, Lib.hid ?_, by omega, Lib.hid ?_, ?_⟩
        · rw [ht.out, Nat.div_div_eq_div_mul, Nat.pow_succ]
        · have h := HO1.out
          rw [le_snoc, List.map_append, ← ht.out]
          exact h
        · exact (hbe.alloc hsz _).grown HG1.out (by simp; omega) (fun j hj => (hown.out.lt j hj).1)
      case measure => simp [intOf]; omega
    · have hk' : k = n := by omega
      have HK := Lib.hid hk'; clear hk'
      have hz : ((t : Int) == 0) = decide (v < 256 ^ n) := by
        have h1 : (t = 0) ↔ v < 256 ^ n := by
          rw [ht.out, HK.out]
          constructor
          · intro h; exact Nat.lt_of_div_eq_zero (Nat.pow_pos (by omega)) h
          · intro h; exact Nat.div_eq_of_lt h
        by_cases h : v < 256 ^ n
        · have := h1.2 h
          simp [h, this]
        · have : t ≠ 0 := fun e => h (h1.1 e)
          simp [h]; omega
      have HZ := Lib.hid hz; clear hz
      go_wp2
      go_ret2
      refine ⟨_, ret2 rfl (congrArg Value.bool HZ.out), ?_, hbe⟩
      have h := hown.out
      rw [HK.out] at h
      exact h

set_option maxHeartbeats 1000000 in
theorem same_any (a b : Option Addr) (c d : Nat) (xs ys : List Int) (w : World) (ha : Row .u8 w a xs) (hb : Row .u8 w b ys) (hx : xs.length ≤ maxLen) (hy : ys.length ≤ maxLen) :
    Calls Try.prog 17 #[.slice a xs.length c, .slice b ys.length d] w fun e w' => e = .returned (.bool (xs == ys)) ∧ Below w.heap.size w w' := by
  unfold maxLen at hx hy
  have HA := Lib.hid ha; clear ha
  have HB := Lib.hid hb; clear hb
  by_cases hl : xs.length = ys.length
  · have HL := Lib.hid hl
    have h0 : ((xs.length : Int) != (ys.length : Int)) = false := by simp [hl]
    clear hl
    go_enter Try.func17, Try.ntmps17
    go_wp2
    go_loopw [5] (fun i wr => ∃ k : Nat, k ≤ xs.length ∧ i = .int .i64 k ∧ Hid (xs.take k = ys.take k) ∧ Hid (wr.heap = w.heap ∧ Below w.heap.size w wr)) (fun i _ => xs.length - (intOf i).toNat)
    case atStart => exact ⟨0, Nat.zero_le _, rfl, Lib.hid rfl, Lib.hid ⟨rfl, Below.refl _ _⟩⟩
    case round =>
      obtain ⟨k, hk, rfl, heq, hdr⟩ := hrel
      by_cases hlt : k < xs.length
      · obtain ⟨b1, o1, rfl, hc1⟩ := HA.out k hlt
        obtain ⟨b2, o2, rfl, hc2⟩ := HB.out k (by have := HL.out; omega)
        have hly : k < ys.length := by have := HL.out; omega
        have hb1 : b1 < w.heap.size := by simpa using World.block_lt_of_cell? w _ hc1
        have hb2 : b2 < w.heap.size := by simpa using World.block_lt_of_cell? w _ hc2
        have g1 : wr.cell? ⟨b1, o1 + k, none⟩ = some (.int .u8 (xs.getD k 0)) := by rw [hdr.out.2.cell (p := ⟨b1, o1 + k, none⟩) hb1]; exact hc1
        have g2 : wr.cell? ⟨b2, o2 + k, none⟩ = some (.int .u8 (ys.getD k 0)) := by rw [hdr.out.2.cell (p := ⟨b2, o2 + k, none⟩) hb2]; exact hc2
        clear hc1 hc2
        by_cases hq : xs[k] = ys[k]
        · have hq2 : (xs[k] != ys[k]) = false := by simp [hq]
          have HQ := Lib.hid hq; clear hq
          go_wp2
          go_quiet (fail)
          go_wp2
          go_roundw
          case rel =>
            refine ⟨k + 1, by omega, by go_num, Lib.hid ?_, Lib.hid ⟨hdr.out.1, below_drewN hdr.out.2 _⟩⟩
            rw [take_snoc xs k hlt, take_snoc ys k hly, heq.out, HQ.out]
          case measure => simp [intOf]; omega
        · have hq2 : (xs[k] != ys[k]) = true := by simp [hq]
          have HQ := Lib.hid hq; clear hq
          go_wp2
          go_quiet (fail)
          go_wp2
          go_ret
          have h1 : (xs == ys) = false := by
            rw [beq_eq_false_iff_ne]
            intro e
            subst e
            exact HQ.out rfl
          rw [h1]
          exact ⟨rfl, below_drewN hdr.out.2 _⟩
      · have hk' : k = xs.length := by omega
        have HK := Lib.hid hk'; clear hk'
        go_wp2
        go_ret
        have h1 : (xs == ys) = true := by
          rw [beq_iff_eq]
          have := heq.out
          rw [HK.out, List.take_length, HL.out, List.take_length] at this
          exact this
        rw [h1]
        exact ⟨rfl, hdr.out.2⟩
  · have h0 : ((xs.length : Int) != (ys.length : Int)) = true := by simp; omega
    have h1 : (xs == ys) = false := by rw [beq_eq_false_iff_ne]; intro e; exact hl (by rw [e])
    rw [h1]
    clear hl h1
    go_enter Try.func17, Try.ntmps17
    go_wp2
    go_ret
    exact ⟨rfl, Below.refl _ _⟩

theorem own_cells {w : World} {B : Nat} {T : TypeId} {g n cap : Nat} {xs : List Value} (h : w.ownsRow B T 1 (.slice (some ⟨g, 0, none⟩) n cap) n xs) : ∀ j u, xs[j]? = some u → w.cell? ((⟨g, 0, none⟩ : Addr).add j) = some u :=
  h.cells rfl

theorem ints_one (k : IntKind) (zs : List Int) : ∀ u ∈ zs.map (Value.int k), u.oneCell' = true := ints_oneCell k zs

theorem refJoin_width (n : Int) (a : Option Addr) (cap len : Nat) (w : World) (hw : wide n = false) :
    Calls Try.prog 16 #[.int .i64 n, .slice a len cap] w fun e w' => e = .returned (.tuple #[.slice none 0 0, .int .i64 1]) ∧ w = w' := by
  have hg := Lib.hid (widths_any n w)
  rw [hw] at hg
  clear hw
  go_enter Try.func16, Try.ntmps16
  go_wp2_with (first
    | (go_at_call 27; refine (Hid.out hg).mono ?_; rintro e w' ⟨rfl, rfl⟩))
  go_ret2
  exact ⟨ret2 rfl rfl, rfl⟩

set_option maxHeartbeats 2000000 in
theorem refJoin_any (n : Nat) (hn : wide n = true) (a : Option Addr) (cap : Nat) (xs : List Int) (w : World) (h : Row .u64 w a xs) (hx : U64s xs) (hl : xs.length * 8 ≤ 140737488351232) :
    Calls Try.prog 16 #[.int .i64 n, .slice a xs.length cap] w fun e w' => (room n xs = true ∧ ∃ v, e = .returned (.tuple #[v, .int .i64 0]) ∧ w'.ownsRow w.heap.size 5 1 v (n * xs.length) ((joinF n xs).map (Value.int .u8)) ∧ Below w.heap.size w w') ∨ (room n xs = false ∧ e = .returned (.tuple #[.slice none 0 0, .int .i64 28]) ∧ Below w.heap.size w w') := by
  have hg := Lib.hid (widths_any (n : Int) w)
  rw [hn] at hg
  obtain ⟨-, hn1, hn8⟩ := most_wide hn
  clear hn
  obtain ⟨i0, hi, hz0, hz1, hz2⟩ := info_parts info8
  have HX := Lib.hid hx; clear hx
  have HC := Lib.hid h; clear h
  have HI := Lib.hid hi; have HZ0 := Lib.hid hz0; have HZ1 := Lib.hid hz1; have HZ2 := Lib.hid hz2
  clear hi hz0 hz1 hz2
  go_enter Try.func16, Try.ntmps16
  go_wp2_with (first
    | (go_at_call 27; refine (Hid.out hg).mono ?_; rintro e w' ⟨rfl, rfl⟩))
  go_loopw [7, 8] (fun b i wr => ∃ k : Nat, k ≤ xs.length ∧ i = .int .i64 k ∧ Hid (wr.ownsRow w.heap.size 5 1 b (n * k) ((joinF n (xs.take k)).map (Value.int .u8))) ∧ Below w.heap.size w wr ∧ Hid (∀ j, j < k → (xs.getD j 0).toNat < 256 ^ n)) (fun _ i _ => xs.length - (intOf i).toNat)
  case atStart => exact ⟨0, Nat.zero_le _, rfl, Lib.hid (World.ownsRow_nil _ _ _ _), Below.refl _ _, Lib.hid (fun j hj => by omega)⟩
  case round =>
    obtain ⟨k, hk, rfl, hown, hbe, hro⟩ := hrel
    by_cases hlt : k < xs.length
    · obtain ⟨b, off, rfl, hck⟩ := HC.out k hlt
      have hbl : b < w.heap.size := by simpa using World.block_lt_of_cell? w _ hck
      have hck' : wr.cell? ⟨b, off + k, none⟩ = some (.int .u64 (xs.getD k 0)) := by rw [hbe.cell (p := ⟨b, off + k, none⟩) hbl]; exact hck
      clear hck
      obtain ⟨m1, m2⟩ := HX.out xs[k] (List.getElem_mem hlt)
      rw [M64_eq] at m2
      have hsz := hbe.size
      obtain ⟨v, hv⟩ := Int.eq_ofNat_of_zero_le m1
      have hby := Lib.hid (bytes_any n v wr hn8 (by omega))
      rw [← hv] at hby
      have hvn : xs[k].toNat = v := by rw [hv]; rfl
      have HV := Lib.hid hvn; clear hvn
      have hb47 : n * k + n ≤ 140737488355328 := by
        have h1 : n * (k + 1) ≤ 8 * xs.length := Nat.mul_le_mul hn8 hlt
        rw [Nat.mul_succ] at h1
        omega
      have HM := Lib.hid (show n * k + n ≤ maxLen from by unfold maxLen; omega)
      have HB47 := Lib.hid (show (n * k + n) * 1 ≤ 140737488355328 from by omega)
      have HLN := Lib.hid (show ((le n v).map (Value.int .u8)).length = n * 1 from by simp [le_length])
      clear hv m1 m2 hb47
      by_cases hr : v < 256 ^ n
      · have hd : decide (v < 256 ^ n) = true := by simp [hr]
        rw [hd] at hby
        have HR := Lib.hid hr; clear hr hd
        go_wp2_with (first
          | (go_at_call 28; refine (Hid.out hby).mono ?_; rintro e w1 ⟨r, rfl, ho1, hb1⟩; obtain ⟨g, cp, rfl, hB, hgs, hcp⟩ := own_shape ho1 hn1; have HO1 := Lib.hid ho1; clear ho1; have HB1 := Lib.hid hb1; clear hb1; have HSZ1 := Lib.hid (Nat.le_trans hsz HB1.out.size))
          | (at_builtin; refine wpList_append_own _ rfl (.tmp 32) (.tmp 33) 39 rfl w.heap.size 5 i0 (.int .u8 0) 1 1 Try.underlying39 HI.out HZ0.out HZ1.out HZ2.out rfl (by decide) _ (n * k) ((joinF n (xs.take k)).map (Value.int .u8)) rfl (own_below hown.out HB1.out) ⟨g, 0, none⟩ n cp ((le n v).map (Value.int .u8)) rfl HLN.out (own_cells HO1.out) (ints_one _ _) HM.out HB47.out HSZ1.out ?_; intro v2 w2 hown2 hgr2 _; have HO2 := Lib.hid hown2; clear hown2; have HG2 := Lib.hid hgr2; clear hgr2))
        go_roundw
        case rel =>
          refine ⟨k + 1, by omega, by go_num, Lib.hid ?_, ?_, Lib.hid ?_⟩
          · have h := HO2.out
            rw [take_snoc xs k hlt, joinF_snoc, HV.out, List.map_append]
            exact h
          · refine Below.grown (hbe.trans (HB1.out.mono hsz)) HG2.out HSZ1.out ?_
            exact fun j hj => (hown.out.lt j hj).1
          · intro j hj
            by_cases hjk : j = k
            · subst hjk
              have := HR.out
              rw [← HV.out] at this
              simpa [List.getD, List.getElem?_eq_getElem hlt] using this
            · exact hro.out j (by omega)
        case measure => simp [intOf]; omega
      · have hd : decide (v < 256 ^ n) = false := by simp [hr]
        rw [hd] at hby
        have HR := Lib.hid hr; clear hr hd
        go_wp2_with (first
          | (go_at_call 28; refine (Hid.out hby).mono ?_; rintro e w1 ⟨r, rfl, ho1, hb1⟩; have HB1 := Lib.hid hb1; clear hb1 ho1))
        go_ret2
        exact .inr ⟨room_no (List.getElem_mem hlt) (by rw [HV.out]; exact HR.out), rfl, hbe.trans (HB1.out.mono hsz)⟩
    · have hk' : k = xs.length := by omega
      have HK := Lib.hid hk'; clear hk'
      go_wp2
      go_ret2
      refine .inl ⟨room_yes.2 ?_, _, rfl, ?_, hbe⟩
      · intro x hx
        obtain ⟨j, hj, rfl⟩ := List.mem_iff_getElem.1 hx
        have := hro.out j (by rw [HK.out]; exact hj)
        simpa [List.getD, List.getElem?_eq_getElem hj] using this
      · have := hown.out
        rw [HK.out, List.take_length] at this
        exact this
end Go.Proofs.Ytobpfcipfjadaaa
