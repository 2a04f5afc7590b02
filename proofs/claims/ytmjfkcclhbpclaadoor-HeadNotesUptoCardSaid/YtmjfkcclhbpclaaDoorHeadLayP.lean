/- Layer 4: a program header is laid into bytes. -/
import Derived.Test.YtmjfkcclhbpclaaDoorHeadLay
namespace Go.Proofs.YtmjfkcclhbpclaaDoor
open Go.RowKit
set_option linter.unusedVariables false
set_option linter.unusedSimpArgs false

def valsF (q : PT) : List Nat := [q.off, q.vaddr, q.vaddr, q.filesz, q.memsz, q.align]
def put8 (xs : List Nat) (p : Nat) : List Nat → List Nat
  | [] => xs
  | v :: vs => put8 (putF xs p 8 v) (p + 8) vs
/-- a program header over what lies at a place -/
def putP (xs : List Nat) (p : Nat) (q : PT) : List Nat := put8 (putF (putF xs p 4 q.ty) (p + 4) 4 q.flags) (p + 8) (valsF q)
theorem put8_len : ∀ (vs xs : List Nat) (p : Nat), (put8 xs p vs).length = xs.length
  | [], xs, p => rfl
  | v :: vs, xs, p => by rw [put8, put8_len vs, putF_len]
theorem putP_len (xs : List Nat) (p : Nat) (q : PT) : (putP xs p q).length = xs.length := by rw [putP, put8_len, putF_len, putF_len]
set_option maxRecDepth 100000
theorem vidx0 (a0 a1 a2 a3 a4 a5 : Int) (w : World) : (Instr.index 96 (.agg #[.int .u64 a0, .int .u64 a1, .int .u64 a2, .int .u64 a3, .int .u64 a4, .int .u64 a5]) (.int .i64 0)).run Tryd.prog w = .ok (.int .u64 a0) w := by
  simp [Instr.index, run_underlying Tryd.underlying96, asIntOf, part, Tryd.sizeOf22, Tryd.isAgg22, go_sem]
theorem vidx1 (a0 a1 a2 a3 a4 a5 : Int) (w : World) : (Instr.index 96 (.agg #[.int .u64 a0, .int .u64 a1, .int .u64 a2, .int .u64 a3, .int .u64 a4, .int .u64 a5]) (.int .i64 1)).run Tryd.prog w = .ok (.int .u64 a1) w := by
  simp [Instr.index, run_underlying Tryd.underlying96, asIntOf, part, Tryd.sizeOf22, Tryd.isAgg22, go_sem]
theorem vidx2 (a0 a1 a2 a3 a4 a5 : Int) (w : World) : (Instr.index 96 (.agg #[.int .u64 a0, .int .u64 a1, .int .u64 a2, .int .u64 a3, .int .u64 a4, .int .u64 a5]) (.int .i64 2)).run Tryd.prog w = .ok (.int .u64 a2) w := by
  simp [Instr.index, run_underlying Tryd.underlying96, asIntOf, part, Tryd.sizeOf22, Tryd.isAgg22, go_sem]
theorem vidx3 (a0 a1 a2 a3 a4 a5 : Int) (w : World) : (Instr.index 96 (.agg #[.int .u64 a0, .int .u64 a1, .int .u64 a2, .int .u64 a3, .int .u64 a4, .int .u64 a5]) (.int .i64 3)).run Tryd.prog w = .ok (.int .u64 a3) w := by
  simp [Instr.index, run_underlying Tryd.underlying96, asIntOf, part, Tryd.sizeOf22, Tryd.isAgg22, go_sem]
theorem vidx4 (a0 a1 a2 a3 a4 a5 : Int) (w : World) : (Instr.index 96 (.agg #[.int .u64 a0, .int .u64 a1, .int .u64 a2, .int .u64 a3, .int .u64 a4, .int .u64 a5]) (.int .i64 4)).run Tryd.prog w = .ok (.int .u64 a4) w := by
  simp [Instr.index, run_underlying Tryd.underlying96, asIntOf, part, Tryd.sizeOf22, Tryd.isAgg22, go_sem]
theorem vidx5 (a0 a1 a2 a3 a4 a5 : Int) (w : World) : (Instr.index 96 (.agg #[.int .u64 a0, .int .u64 a1, .int .u64 a2, .int .u64 a3, .int .u64 a4, .int .u64 a5]) (.int .i64 5)).run Tryd.prog w = .ok (.int .u64 a5) w := by
  simp [Instr.index, run_underlying Tryd.underlying96, asIntOf, part, Tryd.sizeOf22, Tryd.isAgg22, go_sem]
def valsV (q : PT) : Value := .agg #[.int .u64 (q.off : Int), .int .u64 (q.vaddr : Int), .int .u64 (q.vaddr : Int), .int .u64 (q.filesz : Int), .int .u64 (q.memsz : Int), .int .u64 (q.align : Int)]
theorem vidx (q : PT) (hq : q.wf) (k : Nat) (hk : k < 6) : ∃ v vs, (valsF q).drop k = v :: vs ∧ (valsF q).drop (k + 1) = vs ∧ v < 18446744073709551616 ∧ ∀ w, (Instr.index 96 (valsV q) (.int .i64 (k : Int))).run Tryd.prog w = .ok (.int .u64 (v : Int)) w := by
  obtain ⟨-, -, h2, h3, h4, h5, h6⟩ := hq
  rcases (show k = 0 ∨ k = 1 ∨ k = 2 ∨ k = 3 ∨ k = 4 ∨ k = 5 by omega) with rfl | rfl | rfl | rfl | rfl | rfl
  · exact ⟨_, _, rfl, rfl, h2, vidx0 _ _ _ _ _ _⟩
  · exact ⟨_, _, rfl, rfl, h3, vidx1 _ _ _ _ _ _⟩
  · exact ⟨_, _, rfl, rfl, h3, vidx2 _ _ _ _ _ _⟩
  · exact ⟨_, _, rfl, rfl, h4, vidx3 _ _ _ _ _ _⟩
  · exact ⟨_, _, rfl, rfl, h5, vidx4 _ _ _ _ _ _⟩
  · exact ⟨_, _, rfl, rfl, h6, vidx5 _ _ _ _ _ _⟩
/-- a block has changed alone, among those that stood -/
structure OnlyS (g : Nat) (w w' : World) : Prop where
  blw : ∀ n, n ≤ g → Below n w w'
  oth : ∀ j, j ≠ g → j < w.heap.size → w'.heap[j]? = w.heap[j]?
theorem Only.s {g : Nat} {w w' : World} (h : Only g w w') : OnlyS g w w' := ⟨h.blw, fun j hj _ => h.oth j hj⟩
theorem OnlyS.trans {g : Nat} {w w' w'' : World} (h : OnlyS g w w') (h' : OnlyS g w' w'') : OnlyS g w w'' := ⟨fun n hn => (h.blw n hn).trans (h'.blw n hn), fun j hj hl => (h'.oth j hj (Nat.lt_of_lt_of_le hl (h.blw 0 (Nat.zero_le _)).size)).trans (h.oth j hj hl)⟩
theorem OnlyS.alloc (g : Nat) (w : World) (o : Obj) (hg : g < w.heap.size) : OnlyS g w (w.alloc o) := ⟨fun n hn => (Below.refl n w).alloc (by omega) o, fun j hj hl => heap_alloc_old _ _ hl⟩
set_option maxHeartbeats 16000000 in
theorem layProg_any (g off m cap : Nat) (q : PT) (hq : q.wf) (xs : List Nat) (w : World) (hb : w.heap[g]? = some (.cells (u8c xs) 5)) (h1 : 56 ≤ m) (h2 : off + m ≤ xs.length) (hm : m ≤ 1048576) (hc : m ≤ cap) :
    Calls Tryd.prog 20 #[.slice (some ⟨g, off, none⟩) m cap, q.hv] w fun e w' => e = .returned (.tuple #[]) ∧ w'.heap[g]? = some (.cells (u8c (putP xs off q)) 5) ∧ OnlyS g w w' := by
  have HI : Hid (∀ k : Nat, k < 6 → ∃ v vs, (valsF q).drop k = v :: vs ∧ (valsF q).drop (k + 1) = vs ∧ v < 18446744073709551616 ∧ ∀ w, (Instr.index 96 (valsV q) (.int .i64 (k : Int))).run Tryd.prog w = .ok (.int .u64 (v : Int)) w) := Lib.hid (fun k hk => vidx q hq k hk)
  have HLY : Hid (∀ (at_ n v : Nat) (ys : List Nat) wx, wx.heap[g]? = some (.cells (u8c ys) 5) → at_ + n ≤ 56 → ys.length = xs.length → n ≤ 8 → v < 18446744073709551616 → Calls Tryd.prog 19 #[.slice (some ⟨g, off, none⟩) m cap, .int .i64 (at_ : Int), .int .i64 (n : Int), .int .u64 (v : Int)] wx fun e w' => e = .returned (.tuple #[]) ∧ w'.heap[g]? = some (.cells (u8c (putF ys (off + at_) n v)) 5) ∧ Only g wx w') := Lib.hid (fun at_ n v ys wx h h3 h4 h5 h6 => lay_any g off m cap at_ n v ys wx h (by omega) (by omega) hm hc h5 h6)
  obtain ⟨FV, hFV⟩ : ∃ FV, valsV q = FV := ⟨_, rfl⟩
  rw [hFV] at HI
  have HPP : Hid (putP xs off q = put8 (putF (putF xs (off + 0) 4 q.ty) (off + 4) 4 q.flags) (off + 8) (valsF q)) := Lib.hid rfl
  generalize putP xs off q = R at *
  generalize hVS : valsF q = VS at *
  obtain ⟨a0, a1, a2, a3, a4, a5, a6⟩ := q
  obtain ⟨g0, g1, -⟩ := hq
  unfold valsV at hFV
  unfold PT.hv PT.cells
  simp only [] at *
  have r0 : IntKind.u64.wrap (a0 : Int) = (a0 : Int) := by rw [IntKind.wrap_u64]; omega
  have r1 : IntKind.u64.wrap (a1 : Int) = (a1 : Int) := by rw [IntKind.wrap_u64]; omega
  obtain ⟨w1, hw1⟩ : ∃ w1, w.alloc (.cells #[.int .u32 (a0 : Int), .int .u32 (a1 : Int), .int .u64 (a2 : Int), .int .u64 (a3 : Int), .int .u64 (a4 : Int), .int .u64 (a5 : Int), .int .u64 (a6 : Int)] 37) = w1 := ⟨_, rfl⟩
  obtain ⟨pb, hpb⟩ : ∃ pb, w.heap.size = pb := ⟨_, rfl⟩
  have O1 : Hid (OnlyS g w w1) := Lib.hid (by rw [← hw1]; exact OnlyS.alloc _ _ _ (lt_of_block hb))
  have P1 : Hid (w1.heap[pb]? = some (.cells #[.int .u32 (a0 : Int), .int .u32 (a1 : Int), .int .u64 (a2 : Int), .int .u64 (a3 : Int), .int .u64 (a4 : Int), .int .u64 (a5 : Int), .int .u64 (a6 : Int)] 37)) := Lib.hid (by rw [← hw1, ← hpb]; exact heap_alloc_new _ _)
  have HNE : Hid (pb ≠ g) := Lib.hid (by have := lt_of_block hb; omega)
  have B1 : Hid (w1.heap[g]? = some (.cells (u8c xs) 5)) := Lib.hid (by rw [← hw1, heap_alloc_old _ _ (lt_of_block hb)]; exact hb)
  have HL1 := Lib.hid (HLY.out 0 4 a0 xs w1 B1.out (by omega) rfl (by omega) (by omega))
  obtain ⟨c0, c1, c2, c3, c4, c5, c6⟩ := out_cells P1.out
  have HG1 : Hid (a1 < 18446744073709551616) := Lib.hid (by omega)
  clear hb h1 h2 hm hc g0 g1
  go_enter Tryd.func20, Tryd.ntmps20
  go_wp2_with fail
  refine HL1.out.mono ?_
  rintro e w2 ⟨rfl, b2, o2⟩
  have B2 := Lib.hid b2
  have O2 := Lib.hid (O1.out.trans o2.s)
  have P2 := Lib.hid ((o2.oth _ HNE.out).trans P1.out)
  have HL2 := Lib.hid (HLY.out 4 4 a1 _ w2 B2.out (by omega) (by rw [putF_len]) (by omega) HG1.out)
  clear b2 o2 c0 c1 c2 c3 c4 c5 c6 hw1 hpb
  obtain ⟨c0, c1, c2, c3, c4, c5, c6⟩ := out_cells P2.out
  go_wp2_with fail
  refine HL2.out.mono ?_
  rintro e w3 ⟨rfl, b3, o3⟩
  have B3 := Lib.hid b3
  have O3 := Lib.hid (O2.out.trans o3.s)
  have P3 := Lib.hid ((o3.oth _ HNE.out).trans P2.out)
  clear b3 o3 c0 c1 c2 c3 c4 c5 c6
  obtain ⟨c0, c1, c2, c3, c4, c5, c6⟩ := out_cells P3.out
  go_wp2_with fail
  clear hFV c0 c1 c2 c3 c4 c5 c6
  go_loopg [29] 6 (fun g2 iv wr => ∃ (k : Nat) (ys : List Nat), k + g2 = 6 ∧ iv = .int .i64 (k : Int) ∧ Hid (wr.heap[g]? = some (.cells (u8c ys) 5)) ∧ Hid (ys.length = xs.length ∧ put8 ys (off + (8 + 8 * k)) (VS.drop k) = R) ∧ Hid (OnlyS g w wr))
  case atStart => exact ⟨0, _, by omega, rfl, B3, Lib.hid ⟨by rw [putF_len, putF_len], HPP.out.symm⟩, O3⟩
  case round =>
    obtain ⟨k, ys, hk, rfl, HB, HY, HO⟩ := hrel
    cases gk with
    | zero =>
      obtain rfl : k = 6 := by omega
      have HE : Hid (ys = R) := Lib.hid (by
        have := HY.out.2
        rw [← hVS] at this
        exact this)
      clear hk
      go_wp2_with fail
      go_returns
      exact ⟨rfl, by rw [← HE.out]; exact HB.out, HO.out⟩
    | succ g2 =>
      have hk6 : k < 6 := by omega
      obtain ⟨v, vs, hd, hd2, hv, hidx⟩ := HI.out k hk6
      have HK := Lib.hid hk
      have HD : Hid (put8 (putF ys (off + (8 + 8 * k)) 8 v) (off + (8 + 8 * (k + 1))) (VS.drop (k + 1)) = R) := Lib.hid (by
        have := HY.out.2
        rw [hd, put8] at this
        rw [hd2, show off + (8 + 8 * (k + 1)) = off + (8 + 8 * k) + 8 by omega]
        exact this)
      have HL : Hid (Calls Tryd.prog 19 #[.slice (some ⟨g, off, none⟩) m cap, .int .i64 (8 + 8 * (k : Int)), .int .i64 8, .int .u64 (v : Int)] wr fun e w' => e = .returned (.tuple #[]) ∧ w'.heap[g]? = some (.cells (u8c (putF ys (off + (8 + 8 * k)) 8 v)) 5) ∧ Only g wr w') := Lib.hid (by
        have := HLY.out (8 + 8 * k) 8 v ys wr HB.out (by omega) HY.out.1 (by omega) hv
        rw [show ((8 + 8 * k : Nat) : Int) = 8 + 8 * (k : Int) by omega] at this
        exact this)
      have i0 : (0 : Int) ≤ (k : Int) := by omega
      have i1 : (k : Int) < 6 := by omega
      have tk : decide ((k : Int) < 6) = true := decide_eq_true (by omega)
      have w1 : IntKind.i64.wrap (8 * (k : Int)) = 8 * (k : Int) := by rw [IntKind.wrap_i64]; omega
      have w2 : IntKind.i64.wrap (8 + 8 * (k : Int)) = 8 + 8 * (k : Int) := by rw [IntKind.wrap_i64]; omega
      clear hd hd2 hv hk
      go_wp2_with fail
      clear hidx
      refine HL.out.mono ?_
      rintro e w5 ⟨rfl, b5, o5⟩
      have B5 := Lib.hid b5
      have O5 := Lib.hid (HO.out.trans o5.s)
      clear b5 o5
      go_wp2_with fail
      go_roundg g2
      case measure => have := HK.out; omega
      case rel => exact ⟨k + 1, _, by have := HK.out; omega, by go_num, B5, Lib.hid ⟨by rw [putF_len]; exact HY.out.1, HD.out⟩, O5⟩
end Go.Proofs.YtmjfkcclhbpclaaDoor
