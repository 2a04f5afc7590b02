/- Layer 1, the document's own answers on bytes: a number's bytes; whether two lists of bytes are alike. -/
import Derived.Test.YtobpfcipfjadaaaDoorSpanPut
import Derived.Test.YtobpfcipfjadaaaDoorOwn
namespace Go.Proofs.YtobpfcipfjadaaaDoor
open Go.RowKit
set_option linter.unusedVariables false
set_option linter.unusedSimpArgs false

theorem one_int (k : IntKind) (x : Int) : ∀ u ∈ [Value.int k x], u.oneCell' = true := by
  intro u hu
  simp only [List.mem_cons, List.not_mem_nil, or_false] at hu
  subst hu
  rfl

set_option maxHeartbeats 1000000 in
theorem bytes_any (n v : Nat) (w : World) (hn : n ≤ 8) (hv : v < 18446744073709551616) :
    Calls Tryd.prog 28 #[.int .i64 n, .int .u64 v] w fun e w' => ∃ r, e = .returned (.tuple #[r, .bool (decide (v < 256 ^ n))]) ∧ w'.ownsRow w.heap.size 5 1 r n ((le n v).map (Value.int .u8)) ∧ Below w.heap.size w w' := by
  obtain ⟨i0, hi, hz0, hz1, hz2⟩ := info_parts info8
  have HI := Lib.hid hi; have HZ0 := Lib.hid hz0; have HZ1 := Lib.hid hz1; have HZ2 := Lib.hid hz2
  clear hi hz0 hz1 hz2
  go_enter Tryd.func28, Tryd.ntmps28
  go_wp2
  go_loopw [1, 6, 7] (fun x b i wr => ∃ (k : Nat) (t : Nat), k ≤ n ∧ i = .int .i64 k ∧ x = .int .u64 t ∧ Hid (t = v / 256 ^ k) ∧ t < 18446744073709551616 ∧ Hid (wr.ownsRow w.heap.size 5 1 b k ((le k v).map (Value.int .u8))) ∧ Below w.heap.size w wr) (fun _ _ i _ => n - (intOf i).toNat)
  case atStart => exact ⟨0, v, Nat.zero_le _, rfl, rfl, Lib.hid (by simp), hv, Lib.hid (World.ownsRow_nil _ _ _ _), Below.refl _ _⟩
  case round =>
    obtain ⟨k, t, hk, rfl, rfl, ht, htl, hown, hbe⟩ := hrel
    have hsz := hbe.size
    by_cases hlt : k < n
    · go_wp2_with (first
        | (at_builtin; refine wpList_append_own _ rfl (.tmp 13) (.tmp 17) 22 rfl w.heap.size 5 i0 (.int .u8 0) 1 1 Tryd.underlying22 HI.out HZ0.out HZ1.out HZ2.out rfl (by decide) _ k _ rfl (hown.out.alloc _) ⟨wr.heap.size, 0, none⟩ 1 1 [.int .u8 ((t : Int) % 256)] rfl rfl (cell_one_new _ _ _) (one_int _ _) (by unfold maxLen; omega) (by omega) (by simp; omega) ?_; intro v' w1 hown1 hgr1 _; have HO1 := Lib.hid hown1; clear hown1; have HG1 := Lib.hid hgr1; clear hgr1))
      go_roundw
      case rel =>
        refine ⟨k + 1, t / 256, by omega, by go_num, by go_num, Lib.hid ?_, by omega, Lib.hid ?_, ?_⟩
        · rw [ht.out, Nat.div_div_eq_div_mul, Nat.pow_succ]
        · have h := HO1.out
          rw [le_snoc, List.map_append, ← ht.out]
          exact h
        · exact (hbe.alloc hsz _).grown HG1.out (by simp; omega) (fun j hj => (hown.out.lt j hj).1)
      case measure => simp [intOf]; omega
    · have hk' : k = n := by omega
      have HK := Lib.hid hk'; clear hk'
      have hz : ((t : Int) == 0) = decide (v < 256 ^ n) := by
        have h1 : (t = 0) ↔ v < 256 ^ n := by
          rw [ht.out, HK.out]
          constructor
          · intro h; exact Nat.lt_of_div_eq_zero (Nat.pow_pos (by omega)) h
          · intro h; exact Nat.div_eq_of_lt h
        by_cases h : v < 256 ^ n
        · have := h1.2 h
          simp [h, this]
        · have : t ≠ 0 := fun e => h (h1.1 e)
          simp [h]; omega
      have HZ := Lib.hid hz; clear hz
      go_wp2
      go_ret2
      refine ⟨_, ret2 rfl (congrArg Value.bool HZ.out), ?_, hbe⟩
      have h := hown.out
      rw [HK.out] at h
      exact h

set_option maxHeartbeats 1000000 in
theorem same_any (a b : Option Addr) (c d : Nat) (xs ys : List Int) (w : World) (ha : Row .u8 w a xs) (hb : Row .u8 w b ys) (hx : xs.length ≤ maxLen) (hy : ys.length ≤ maxLen) :
    Calls Tryd.prog 10 #[.slice a xs.length c, .slice b ys.length d] w fun e w' => e = .returned (.bool (xs == ys)) ∧ Below w.heap.size w w' := by
  unfold maxLen at hx hy
  have HA := Lib.hid ha; clear ha
  have HB := Lib.hid hb; clear hb
  by_cases hl : xs.length = ys.length
  · have HL := Lib.hid hl
    have h0 : ((xs.length : Int) != (ys.length : Int)) = false := by simp [hl]
    clear hl
    go_enter Tryd.func10, Tryd.ntmps10
    go_wp2
    go_loopw [5] (fun i wr => ∃ k : Nat, k ≤ xs.length ∧ i = .int .i64 k ∧ Hid (xs.take k = ys.take k) ∧ Hid (wr.heap = w.heap ∧ Below w.heap.size w wr)) (fun i _ => xs.length - (intOf i).toNat)
    case atStart => exact ⟨0, Nat.zero_le _, rfl, Lib.hid rfl, Lib.hid ⟨rfl, Below.refl _ _⟩⟩
    case round =>
      obtain ⟨k, hk, rfl, heq, hdr⟩ := hrel
      by_cases hlt : k < xs.length
      · obtain ⟨b1, o1, rfl, hc1⟩ := HA.out k hlt
        obtain ⟨b2, o2, rfl, hc2⟩ := HB.out k (by have := HL.out; omega)
        have hly : k < ys.length := by have := HL.out; omega
        have hb1 : b1 < w.heap.size := by simpa using World.block_lt_of_cell? w _ hc1
        have hb2 : b2 < w.heap.size := by simpa using World.block_lt_of_cell? w _ hc2
        have g1 : wr.cell? ⟨b1, o1 + k, none⟩ = some (.int .u8 (xs.getD k 0)) := by rw [hdr.out.2.cell (p := ⟨b1, o1 + k, none⟩) hb1]; exact hc1
        have g2 : wr.cell? ⟨b2, o2 + k, none⟩ = some (.int .u8 (ys.getD k 0)) := by rw [hdr.out.2.cell (p := ⟨b2, o2 + k, none⟩) hb2]; exact hc2
        clear hc1 hc2
        by_cases hq : xs[k] = ys[k]
        · have hq2 : (xs[k] != ys[k]) = false := by simp [hq]
          have HQ := Lib.hid hq; clear hq
          go_wp2
          go_quiet (fail)
          go_wp2
          go_roundw
          case rel =>
            refine ⟨k + 1, by omega, by go_num, Lib.hid ?_, Lib.hid ⟨hdr.out.1, below_drewN hdr.out.2 _⟩⟩
            rw [take_snoc xs k hlt, take_snoc ys k hly, heq.out, HQ.out]
          case measure => simp [intOf]; omega
        · have hq2 : (xs[k] != ys[k]) = true := by simp [hq]
          have HQ := Lib.hid hq; clear hq
          go_wp2
          go_quiet (fail)
          go_wp2
          go_ret
          have h1 : (xs == ys) = false := by
            rw [beq_eq_false_iff_ne]
            intro e
            subst e
            exact HQ.out rfl
          rw [h1]
          exact ⟨rfl, below_drewN hdr.out.2 _⟩
      · have hk' : k = xs.length := by omega
        have HK := Lib.hid hk'; clear hk'
        go_wp2
        go_ret
        have h1 : (xs == ys) = true := by
          rw [beq_iff_eq]
          have := heq.out
          rw [HK.out, List.take_length, HL.out, List.take_length] at this
          exact this
        rw [h1]
        exact ⟨rfl, hdr.out.2⟩
  · have h0 : ((xs.length : Int) != (ys.length : Int)) = true := by simp; omega
    have h1 : (xs == ys) = false := by rw [beq_eq_false_iff_ne]; intro e; exact hl (by rw [e])
    rw [h1]
    clear hl h1
    go_enter Tryd.func10, Tryd.ntmps10
    go_wp2
    go_ret
    exact ⟨rfl, Below.refl _ _⟩

end Go.Proofs.YtobpfcipfjadaaaDoor
