/- Layer 4: two heads that are alike are found alike (shackleref04.Same). -/
import Derived.Test.YtmjfkcclhbpclaaDoorHeadRight
import Derived.BigQuiet
import Derived.WalkSmall
import Derived.Test.YtmjfkcclhbpclaaDoorHeadBkM
import Derived.Test.YtmjfkcclhbpclaaDoorHeadShown
import Derived.Deep.DeepCutAuto
namespace Go.Proofs.YtmjfkcclhbpclaaDoor
open Go.RowKit
set_option linter.unusedVariables false
set_option linter.unusedSimpArgs false
set_option maxRecDepth 100000

set_option maxHeartbeats 8000000 in
theorem prog_neq (a0 a1 a2 a3 a4 a5 a6 : Int) (w : World) : (binOp .neq 37 (.agg #[.int .u32 a0, .int .u32 a1, .int .u64 a2, .int .u64 a3, .int .u64 a4, .int .u64 a5, .int .u64 a6]) (.agg #[.int .u32 a0, .int .u32 a1, .int .u64 a2, .int .u64 a3, .int .u64 a4, .int .u64 a5, .int .u64 a6])).run Tryd.prog w = .ok (.bool false) w := by
  go_simp
set_option maxHeartbeats 16000000 in
theorem rsame_true (K : Int) (e : Nat) (pa pb : Option Addr) (n pc qc : Nat) (ps : List PT) (w : World) (ha : PRow w pa ps) (hb : PRow w pb ps) (hl : ps.length = n) (hn : n ≤ 140737488351232) :
    Calls Tryd.prog 10 #[.agg #[.int .i64 K, .int .u64 (e : Int), .slice pa n pc], .agg #[.int .i64 K, .int .u64 (e : Int), .slice pb n qc]] w fun e w' => e = .returned (.bool true) ∧ Below w.heap.size w w' := by
  have hnl : (n : Int) ≤ 140737488351232 := by omega
  obtain ⟨w1, hw1⟩ : ∃ w1, w.alloc (.cells #[.int .i64 K, .int .u64 (e : Int), .slice pa n pc] 25) = w1 := ⟨_, rfl⟩
  obtain ⟨b1, hb1⟩ : ∃ b1, w.heap.size = b1 := ⟨_, rfl⟩
  obtain ⟨w2, hw2⟩ : ∃ w2, w1.alloc (.cells #[.int .i64 K, .int .u64 (e : Int), .slice pb n qc] 25) = w2 := ⟨_, rfl⟩
  obtain ⟨b2, hb2⟩ : ∃ b2, w1.heap.size = b2 := ⟨_, rfl⟩
  have B1 : Hid (Below w.heap.size w w1) := Lib.hid (by rw [← hw1]; exact ballo (Below.refl _ _) _)
  have B12 : Hid (Below w1.heap.size w1 w2) := Lib.hid (by rw [← hw2]; exact ballo (Below.refl _ _) _)
  have B2 := Lib.hid (bstep B1.out B12.out)
  have X1 : Hid (w1.heap[b1]? = some (.cells #[.int .i64 K, .int .u64 (e : Int), .slice pa n pc] 25)) := Lib.hid (by rw [← hw1, ← hb1]; exact heap_alloc_new _ _)
  have X2 := Lib.hid ((B12.out.block _ (lt_of_block X1.out)).trans X1.out)
  have Y2 : Hid (w2.heap[b2]? = some (.cells #[.int .i64 K, .int .u64 (e : Int), .slice pb n qc] 25)) := Lib.hid (by rw [← hw2, ← hb2]; exact heap_alloc_new _ _)
  have HA := Lib.hid (ha.below B2.out)
  have HB := Lib.hid (hb.below B2.out)
  have HL := Lib.hid hl
  have k0 : w2.cell? ⟨b1, 0, none⟩ = some (.int .i64 K) := by rw [cell_of_row _ _ 0 _ _ _ X2.out]; rfl
  have k1 : w2.cell? ⟨b1, 1, none⟩ = some (.int .u64 (e : Int)) := by rw [cell_of_row _ _ 1 _ _ _ X2.out]; rfl
  have k2 : w2.cell? ⟨b1, 2, none⟩ = some (.slice pa n pc) := by rw [cell_of_row _ _ 2 _ _ _ X2.out]; rfl
  have l0 : w2.cell? ⟨b2, 0, none⟩ = some (.int .i64 K) := by rw [cell_of_row _ _ 0 _ _ _ Y2.out]; rfl
  have l1 : w2.cell? ⟨b2, 1, none⟩ = some (.int .u64 (e : Int)) := by rw [cell_of_row _ _ 1 _ _ _ Y2.out]; rfl
  have l2 : w2.cell? ⟨b2, 2, none⟩ = some (.slice pb n qc) := by rw [cell_of_row _ _ 2 _ _ _ Y2.out]; rfl
  have tK : (K != K) = false := by simp
  have tE : ((e : Int) != (e : Int)) = false := by simp
  have tN : ((n : Int) != (n : Int)) = false := by simp
  clear ha hb hl hn
  go_enter Tryd.func10, Tryd.ntmps10
  go_wp2_with fail
  clear hw1 hw2 hb1 hb2 k0 k1 k2 l0 l1 l2 tK tE tN
  go_loopg [5] n (fun g iv wr => ∃ k : Nat, k + g = n ∧ iv = .int .i64 (k : Int) ∧ Hid (Below w2.heap.size w2 wr))
  case atStart => exact ⟨0, by omega, rfl, Lib.hid (Below.refl _ _)⟩
  case round =>
    obtain ⟨k, hk, rfl, HBR⟩ := hrel
    have XR := Lib.hid ((HBR.out.block _ (lt_of_block X2.out)).trans X2.out)
    have YR := Lib.hid ((HBR.out.block _ (lt_of_block Y2.out)).trans Y2.out)
    have k2 : wr.cell? ⟨b1, 2, none⟩ = some (.slice pa n pc) := by rw [cell_of_row _ _ 2 _ _ _ XR.out]; rfl
    have l2 : wr.cell? ⟨b2, 2, none⟩ = some (.slice pb n qc) := by rw [cell_of_row _ _ 2 _ _ _ YR.out]; rfl
    cases gk with
    | zero =>
      have hkn : k = n := by omega
      subst hkn
      clear hk
      go_wp2_with fail
      go_ret
      exact ⟨rfl, bstep B2.out HBR.out⟩
    | succ g =>
      have hkl : k < ps.length := by have := HL.out; omega
      obtain ⟨-, ba, oa, hpa, -, hca⟩ := (HA.out.below HBR.out) k hkl
      obtain ⟨-, bb, ob, hpb, -, hcb⟩ := (HB.out.below HBR.out) k hkl
      obtain ⟨q, hq⟩ : ∃ q, ps[k] = q := ⟨_, rfl⟩
      rw [hq] at hca hcb
      have c0 := hca 0 (by omega)
      have c1 := hca 1 (by omega)
      have c2 := hca 2 (by omega)
      have c3 := hca 3 (by omega)
      have c4 := hca 4 (by omega)
      have c5 := hca 5 (by omega)
      have c6 := hca 6 (by omega)
      have d0 := hcb 0 (by omega)
      have d1 := hcb 1 (by omega)
      have d2 := hcb 2 (by omega)
      have d3 := hcb 3 (by omega)
      have d4 := hcb 4 (by omega)
      have d5 := hcb 5 (by omega)
      have d6 := hcb 6 (by omega)
      simp only [PT.cells, List.getElem?_cons_zero, List.getElem?_cons_succ, Nat.add_zero] at c0 c1 c2 c3 c4 c5 c6 d0 d1 d2 d3 d4 d5 d6
      have HK := Lib.hid hk
      have i0 : (0 : Int) ≤ (k : Int) := by omega
      have i1 : (k : Int) < (n : Int) := by omega
      clear hca hcb hq hkl hk
      obtain ⟨a0, a1, a2, a3, a4, a5, a6⟩ := q
      simp only [] at c0 c1 c2 c3 c4 c5 c6 d0 d1 d2 d3 d4 d5 d6
      have hne := prog_neq (a0 : Int) (a1 : Int) (a2 : Int) (a3 : Int) (a4 : Int) (a5 : Int) (a6 : Int)
      subst hpa
      subst hpb
      go_wp2_with fail
      go_quiet (fail)
      have BD := Lib.hid (below_drewN HBR.out nq)
      generalize wr.drewN nq = wn at *
      clear c0 c1 c2 c3 c4 c5 c6 d0 d1 d2 d3 d4 d5 d6 hne k2 l2
      go_wp2_with fail
      go_roundg g
      case measure => have := HK.out; omega
      case rel => exact ⟨k + 1, by have := HK.out; omega, by go_num, BD⟩
end Go.Proofs.YtmjfkcclhbpclaaDoor
/- Layer 4: Read of a file that is too long, whatever its length; heads of two kinds are not alike; rows that are owned can be read. -/
namespace Go.Proofs.YtmjfkcclhbpclaaDoor
open Go.RowKit
set_option linter.unusedVariables false
set_option linter.unusedSimpArgs false
set_option maxRecDepth 100000

theorem own_prow {w : World} {B n pc : Nat} {pa : Option Addr} {ps : List PT} (h : OwnS w B 37 7 (.slice pa n pc) (ps.map PT.cells)) (hw : ∀ p ∈ ps, p.wf) : PRow w pa ps := by
  obtain ⟨h1, h2, h3, -⟩ := OwnS.at h
  intro i hi
  refine ⟨hw _ (List.getElem_mem hi), ?_⟩
  obtain ⟨b, o, e, hlt, hc⟩ := h2 i (by simpa using hi)
  exact ⟨b, o, e, hlt, fun j hj => by simpa using hc j hj⟩
set_option maxHeartbeats 16000000 in
theorem hread_long (a : Option Addr) (m cap : Nat) (bs : List Nat) (w : World) (hm : bs.length = m) (h1 : 1048576 < m) :
    Calls Tryd.prog 9 #[.slice a m cap] w (ReadPost w bs) := by
  have HE : Hid (readF bs = .error (.code 2)) := Lib.hid (by unfold readF; rw [if_pos (by omega)])
  have HPE : Hid (∀ w', Below w.heap.size w w' → ReadPost w bs (.returned (.tuple #[.agg #[.int .i64 0, .int .u64 0, .slice none 0 0], .iface 38 (.int .i64 2)])) w') := Lib.hid (fun w' hb => ⟨by rw [HE.out]; exact ⟨_, rfl, rfl⟩, hb⟩)
  generalize ReadPost w bs = P at *
  obtain ⟨w1, hw1⟩ : ∃ w1, w.alloc (.cells #[.int .i64 0, .int .u64 0, .slice none 0 0] 25) = w1 := ⟨_, rfl⟩
  obtain ⟨hb0, hhb0⟩ : ∃ hb0, w.heap.size = hb0 := ⟨_, rfl⟩
  have B1 : Hid (Below w.heap.size w w1) := Lib.hid (by rw [← hw1]; exact ballo (Below.refl _ _) _)
  have R1 : Hid (w1.heap[hb0]? = some (.cells #[.int .i64 0, .int .u64 0, .slice none 0 0] 25)) := Lib.hid (by rw [← hw1, ← hhb0]; exact heap_alloc_new _ _)
  have g0 : w1.cell? ⟨hb0, 0, none⟩ = some (.int .i64 0) := by rw [cell_of_row _ _ 0 _ _ _ R1.out]; rfl
  have g1 : w1.cell? ⟨hb0, 1, none⟩ = some (.int .u64 0) := by rw [cell_of_row _ _ 1 _ _ _ R1.out]; rfl
  have g2 : w1.cell? ⟨hb0, 2, none⟩ = some (.slice none 0 0) := by rw [cell_of_row _ _ 2 _ _ _ R1.out]; rfl
  have f0 : w1.frozen? ⟨hb0, 0, none⟩ = false := frozen_of_row _ _ _ _ _ R1.out
  have f1 : w1.frozen? ⟨hb0, 1, none⟩ = false := frozen_of_row _ _ _ _ _ R1.out
  have f2 : w1.frozen? ⟨hb0, 2, none⟩ = false := frozen_of_row _ _ _ _ _ R1.out
  have HHB := Lib.hid hhb0
  have t1 : decide ((1048576 : Int) < (m : Int)) = true := decide_eq_true (by omega)
  obtain ⟨wf, hwf, z0, z1, z2, ez⟩ := set3_cells R1.out (.int .i64 0) (.int .u64 0) (.slice none 0 0)
  have EZ := Lib.hid ez
  clear h1 hm ez
  go_enter Tryd.func9, Tryd.ntmps9
  go_wp2_with fail
  refine bodyPost_ret (by simp [results, Tryd.results9, go_sem, z0, z1, z2]; try rfl) rfl ?_
  exact HPE.out wf (by rw [← EZ.out]; exact below_set3 B1.out (Nat.le_of_eq HHB.out) _ _ _)
theorem hread_wide (a : Option Addr) (m cap : Nat) (bs : List Nat) (w : World) (h : BRow w a bs) (hm : bs.length = m) (hn : a = none → m = 0 ∧ cap = 0) (hc : m ≤ cap) (hf : FixAt w) :
    Calls Tryd.prog 9 #[.slice a m cap] w (ReadPost w bs) := by
  by_cases h1 : 1048576 < m
  · exact hread_long a m cap bs w hm h1
  · exact hread_any a m cap bs w h hm (by omega) hn hc hf
set_option maxHeartbeats 16000000 in
theorem rsame_kind (K K' E E' : Int) (pa pb : Option Addr) (n pc n' qc : Nat) (w : World) (hne : K ≠ K') :
    Calls Tryd.prog 10 #[.agg #[.int .i64 K, .int .u64 E, .slice pa n pc], .agg #[.int .i64 K', .int .u64 E', .slice pb n' qc]] w fun e w' => e = .returned (.bool false) ∧ Below w.heap.size w w' := by
  obtain ⟨w1, hw1⟩ : ∃ w1, w.alloc (.cells #[.int .i64 K, .int .u64 E, .slice pa n pc] 25) = w1 := ⟨_, rfl⟩
  obtain ⟨b1, hb1⟩ : ∃ b1, w.heap.size = b1 := ⟨_, rfl⟩
  obtain ⟨w2, hw2⟩ : ∃ w2, w1.alloc (.cells #[.int .i64 K', .int .u64 E', .slice pb n' qc] 25) = w2 := ⟨_, rfl⟩
  obtain ⟨b2, hb2⟩ : ∃ b2, w1.heap.size = b2 := ⟨_, rfl⟩
  have B1 : Hid (Below w.heap.size w w1) := Lib.hid (by rw [← hw1]; exact ballo (Below.refl _ _) _)
  have B12 : Hid (Below w1.heap.size w1 w2) := Lib.hid (by rw [← hw2]; exact ballo (Below.refl _ _) _)
  have B2 := Lib.hid (bstep B1.out B12.out)
  have X1 : Hid (w1.heap[b1]? = some (.cells #[.int .i64 K, .int .u64 E, .slice pa n pc] 25)) := Lib.hid (by rw [← hw1, ← hb1]; exact heap_alloc_new _ _)
  have X2 := Lib.hid ((B12.out.block _ (lt_of_block X1.out)).trans X1.out)
  have Y2 : Hid (w2.heap[b2]? = some (.cells #[.int .i64 K', .int .u64 E', .slice pb n' qc] 25)) := Lib.hid (by rw [← hw2, ← hb2]; exact heap_alloc_new _ _)
  have k0 : w2.cell? ⟨b1, 0, none⟩ = some (.int .i64 K) := by rw [cell_of_row _ _ 0 _ _ _ X2.out]; rfl
  have l0 : w2.cell? ⟨b2, 0, none⟩ = some (.int .i64 K') := by rw [cell_of_row _ _ 0 _ _ _ Y2.out]; rfl
  have tK : (K != K') = true := bne_iff_ne.2 hne
  clear hne
  go_enter Tryd.func10, Tryd.ntmps10
  go_wp2_with fail
  go_ret
  exact ⟨rfl, B2.out⟩
end Go.Proofs.YtmjfkcclhbpclaaDoor
/- Layer 4: the law HeadBack. -/
namespace Go.Proofs.YtmjfkcclhbpclaaDoor
open Go.RowKit
set_option linter.unusedVariables false
set_option linter.unusedSimpArgs false
set_option maxRecDepth 100000

theorem put_lt (p n v : Nat) (xs : List Nat) (h : ∀ x ∈ xs, x < 256) : ∀ x ∈ putF xs p n v, x < 256 := by
  induction n with
  | zero => exact h
  | succ n ih =>
    intro x hx
    rw [putF] at hx
    rcases List.mem_or_eq_of_mem_set hx with hx | rfl
    · exact ih x hx
    · exact Nat.mod_lt _ (by omega)
theorem put8_lt : ∀ (vs xs : List Nat) (p : Nat), (∀ x ∈ xs, x < 256) → ∀ x ∈ put8 xs p vs, x < 256
  | [], xs, p, h => h
  | v :: vs, xs, p, h => by
    rw [put8]
    exact put8_lt vs _ _ (put_lt _ _ _ _ h)
theorem putPs_lt : ∀ (qs : List PT) (k : Nat) (xs : List Nat), (∀ x ∈ xs, x < 256) → ∀ x ∈ putPs xs k qs, x < 256
  | [], k, xs, h => h
  | q :: qs, k, xs, h => by
    rw [putPs]
    refine putPs_lt qs _ _ ?_
    rw [putP]
    exact put8_lt _ _ _ (put_lt _ _ _ _ (put_lt _ _ _ _ h))
theorem fixPut_lt : ∀ (l : List (Nat × Nat × Nat × Nat)) (xs : List Nat), (∀ x ∈ xs, x < 256) → ∀ x ∈ fixPut xs l, x < 256
  | [], xs, h => h
  | (a, n, x, y) :: l, xs, h => by
    rw [fixPut]
    exact fixPut_lt l _ (put_lt _ _ _ _ h)
theorem writeF_lt (k e : Nat) (ps : List PT) : ∀ x ∈ writeF k e ps, x < 256 :=
  putPs_lt _ _ _ (put_lt _ _ _ _ (put_lt _ _ _ _ (put_lt _ _ _ _ (put_lt _ _ _ _ (fixPut_lt _ _ (fun x hx => by rw [(List.mem_replicate.1 hx).2]; decide))))))
theorem toI_app (x y : List Nat) : toI x ++ toI y = toI (x ++ y) := by unfold toI; rw [List.map_append]
--WALK
/-- how writing ends -/
def WWays (K : Int) (E : Nat) (ps : List PT) (w2 : World) (v e : Value) (wx : World) : Prop :=
  (v = .slice none 0 0 ∧ e = .iface 38 (.int .i64 1)) ∨
  (e = .nilIface ∧ ∃ k g N, K = ((k : Nat) : Int) ∧ (k = 2 ∨ k = 3) ∧ ps.length ≤ 16 ∧ (writeF k E ps).length = N ∧ v = .slice (some ⟨g, 0, none⟩) N N ∧ wx.heap[g]? = some (.cells (u8c (writeF k E ps)) 5) ∧ w2.heap.size ≤ g)
def WPost (K : Int) (E : Nat) (ps : List PT) (w2 : World) (e : Ending) (w' : World) : Prop := (∃ v x, e = .returned (.tuple #[v, x]) ∧ WWays K E ps w2 v x w') ∧ Below w2.heap.size w2 w'
theorem write_ways (K : Int) (E : Nat) (pa : Option Addr) (pn pc : Nat) (ps : List PT) (w : World) (he : E < 18446744073709551616) (hp : PRow w pa ps) (hl : ps.length = pn) (hpn : pn ≤ 140737488351232) (hf : FixAt w) :
    Calls Tryd.prog 8 #[.agg #[.int .i64 K, .int .u64 (E : Int), .slice pa pn pc]] w (WPost K E ps w) := by
  by_cases hbad : (K ≠ 2 ∧ K ≠ 3) ∨ pn = 0 ∨ 16 < pn
  · refine (hwrite_bad K E pa pn pc w hpn hbad).mono ?_
    rintro e w' ⟨rfl, hb⟩
    exact ⟨⟨_, _, rfl, .inl ⟨rfl, rfl⟩⟩, hb⟩
  · obtain ⟨k, rfl⟩ : ∃ k : Nat, K = (k : Int) := ⟨K.toNat, by omega⟩
    refine (hwrite_ok k E pa pn pc ps w ?_ (by omega) he hp hl (by omega) (by omega) hf).mono ?_
    · rcases (show k = 2 ∨ k = 3 by omega) with rfl | rfl
      · exact .inl (by decide)
      · exact .inr ⟨by decide, by decide⟩
    · rintro e w' ⟨g, rfl, hg, hgl, hb⟩
      exact ⟨⟨_, _, rfl, .inr ⟨rfl, k, g, _, rfl, by omega, by omega, rfl, rfl, hg, hgl⟩⟩, hb⟩
theorem row_of_own {w : World} {B n cap : Nat} {ad : Option Addr} {xs : List Nat} (h : OwnI w B 5 .u8 (.slice ad n cap) (toI xs)) (hx : ∀ x ∈ xs, x < 256) : BRow w ad xs ∧ xs.length = n ∧ (ad = none → n = 0 ∧ cap = 0) ∧ n ≤ cap := by
  obtain ⟨hl, hrow, hn⟩ := OwnI.at h
  rw [toI_length] at hl hn
  exact ⟨⟨hrow, hx⟩, hl.symm, fun e => by have := hn e; omega, (OwnI.fit h).1⟩
theorem app_lt {x y : List Nat} (hx : ∀ b ∈ x, b < 256) (hy : ∀ b ∈ y, b < 256) : ∀ b ∈ x ++ y, b < 256 := fun b hb => by
  rcases List.mem_append.1 hb with hb | hb
  · exact hx b hb
  · exact hy b hb
set_option maxHeartbeats 64000000 in
theorem back_at (K : Int) (E : Nat) (pa : Option Addr) (pn pc : Nat) (ps : List PT) (ar : Option Addr) (mr cr : Nat) (rs : List Nat) (a : Option Addr) (m cap : Nat) (bs : List Nat) (w : World) (hr : BAny w ar mr cr rs) (h : BAny w a m cap bs) (hp : PRow w pa ps) (hl : ps.length = pn) (hpn : pn ≤ 140737488351232) (hE : E < 18446744073709551616) (hg : ErrType w) (hf : FixAt w) :
    Calls Tryd.prog 3 #[.agg #[.int .i64 K, .int .u64 (E : Int), .slice pa pn pc], .slice ar mr cr, .slice a m cap] w fun e w' => e = .returned (.bool true) ∧ Below w.heap.size w w' := by
  obtain ⟨w1, hw1⟩ : ∃ w1, w.alloc (.cells #[.int .i64 K, .int .u64 (E : Int), .slice pa pn pc] 25) = w1 := ⟨_, rfl⟩
  obtain ⟨hbk, hhbk⟩ : ∃ hbk, w.heap.size = hbk := ⟨_, rfl⟩
  have B1 : Hid (Below w.heap.size w w1) := Lib.hid (by rw [← hw1]; exact ballo (Below.refl _ _) _)
  have H1 : Hid (w1.heap[hbk]? = some (.cells #[.int .i64 K, .int .u64 (E : Int), .slice pa pn pc] 25)) := Lib.hid (by rw [← hw1, ← hhbk]; exact heap_alloc_new _ _)
  have HSH := Lib.hid (shown_any w1 (hg.below B1.out) (hf.below B1.out))
  have HWR : Hid (∀ wx, Below w.heap.size w wx → Calls Tryd.prog 8 #[.agg #[.int .i64 K, .int .u64 (E : Int), .slice pa pn pc]] wx (WPost K E ps wx)) := Lib.hid (fun wx hb => write_ways K E pa pn pc ps wx hE (hp.below hb) hl hpn (hf.below hb))
  have HBY := Lib.hid h
  have HRY := Lib.hid hr
  have HPR := Lib.hid hp
  have HPL : Hid (ps.length = pn ∧ pn ≤ 140737488351232 ∧ E < 18446744073709551616) := Lib.hid ⟨hl, hpn, hE⟩
  have HFX := Lib.hid hf
  have hrl : (mr : Int) ≤ 140737488351232 := by have := hr.most; omega
  have hbl : (m : Int) ≤ 140737488351232 := by have := h.most; omega
  clear h hr hp hl hpn hE hg hf
  go_enter Tryd.func3, Tryd.ntmps3
  go_upto_region 2 with (go_at_call 7; refine HSH.out.mono ?_; rintro e w2 ⟨rfl, b2⟩)
  have B2 := Lib.hid (bstep B1.out b2)
  have H2 := Lib.hid ((b2.block _ (lt_of_block H1.out)).trans H1.out)
  clear b2 hw1 hhbk HSH
  go_cut [8, 9] (fun v x wx => Hid (Below w2.heap.size w2 wx) ∧ Hid (WWays K E ps w2 v x wx))
  case first =>
    have q0 : w2.cell? ⟨hbk, 0, none⟩ = some (.int .i64 K) := by rw [cell_of_row _ _ 0 _ _ _ H2.out]; rfl
    have q1 : w2.cell? ⟨hbk, 1, none⟩ = some (.int .u64 (E : Int)) := by rw [cell_of_row _ _ 1 _ _ _ H2.out]; rfl
    have q2 : w2.cell? ⟨hbk, 2, none⟩ = some (.slice pa pn pc) := by rw [cell_of_row _ _ 2 _ _ _ H2.out]; rfl
    go_wp2_with fail
    refine (HWR.out w2 B2.out).mono ?_
    rintro e w3 ⟨⟨v, x, rfl, hw⟩, b3⟩
    have HB3 := Lib.hid b3
    have HW3 := Lib.hid hw
    clear b3
    rcases hw with ⟨rfl, rfl⟩ | ⟨rfl, k, g, N, -, -, -, -, rfl, -, -⟩
    · go_wp2_with fail
      go_meet
      case rel => exact ⟨HB3, HW3⟩
    · go_wp2_with fail
      go_meet
      case rel => exact ⟨HB3, HW3⟩
  case rest =>
    obtain ⟨HB3, HW3⟩ := hcut
    obtain ⟨w3, rfl⟩ : ∃ w3 : World, w3 = wc := ⟨_, rfl⟩
    have H3 := Lib.hid ((HB3.out.block _ (lt_of_block H2.out)).trans H2.out)
    go_upto_region 3 with fail
    go_cut [30] (fun t wx => w3 = wx ∧ (t = .bool false ∨ (t = .bool true ∧ Hid (WWays K E ps w2 u8 .nilIface w3))))
    case first =>
      rcases HW3.out with ⟨rfl, rfl⟩ | ⟨rfl, -⟩
      · go_wp2_with fail
        go_meet
        case rel => exact ⟨rfl, .inl rfl⟩
      · go_wp2_with fail
        go_meet
        case rel => exact ⟨rfl, .inr ⟨rfl, HW3⟩⟩
    case rest =>
      obtain ⟨rfl, HT⟩ := hcut
      clear HW3
      go_upto_if 30 with fail
      go_cut [10, 11, 12] (fun _ _ _ wx => Hid (Below w2.heap.size w2 wx))
      case first =>
        rcases HT with rfl | ⟨rfl, HW3⟩
        · go_wp2_with fail
          go_meet
          case rel => exact HB3
        · rcases HW3.out with ⟨-, hx⟩ | ⟨-, k, g, N, rfl, hk, h16, hN, rfl, hgr, hgl⟩
          cases hx
          have HN : Hid ((writeF k E ps).length = N ∧ N ≤ 1000) := Lib.hid ⟨hN, by rw [← hN, writeF_len]; omega⟩
          have OW : Hid (OwnI w3 w2.heap.size 5 .u8 (.slice (some ⟨g, 0, none⟩) N N) (toI (writeF k E ps))) := Lib.hid (by have := own_u8c hgr hgl (by rw [writeF_len]; omega); rwa [hN] at this)
          have HTD : Hid (ToldR k E ps (writeF k E ps ++ rs)) := Lib.hid (write_told k E ps rs hk HPL.out.2.2 (fun q hq => by
            obtain ⟨i, hi, rfl⟩ := List.getElem_of_mem hq
            exact (HPR.out i hi).1) h16)
          have HRB : Hid (BAny w3 ar mr cr rs) := Lib.hid (HRY.out.below (B2.out.trans (HB3.out.mono B2.out.size)))
          have HK : Hid (k = 2 ∨ k = 3) := Lib.hid hk
          have HSZ3 : Hid (w2.heap.size ≤ w3.heap.size) := Lib.hid HB3.out.size
          have HL1 : Hid ((toI (writeF k E ps)).length = N) := Lib.hid (by rw [toI_length, hN])
          have HL2 : Hid ((toI rs).length = mr) := Lib.hid (by rw [toI_length]; exact HRB.out.len)
          have HNR : Hid (ar = none → (toI rs).length = 0 ∧ cr = 0) := Lib.hid (fun e => by rw [HL2.out]; exact HRB.out.none e)
          have HMX : Hid (N + mr ≤ maxLen ∧ (N + mr) * 1 ≤ 140737488355328) := Lib.hid (by have := HN.out; unfold maxLen; omega)
          clear hN hgr hgl hk h16 HW3 HWR
          go_wp2_with (at_builtin; go_loud (
           refine wpList_pushes rfl (.tmp 32) (.tmp 33) slice8w rfl w2.heap.size w2 (.slice (some ⟨g, 0, none⟩) N N) (toI (writeF k E ps)) N ar cr mr (toI rs) rfl (by rfl) HL1.out HL2.out HRB.out.row.1 HNR.out OW.out HMX.out.1 HMX.out.2 HB3.out HSZ3.out ?_); intro ad4 c4 w4 hown4 hb4; have O4 := Lib.hid hown4; have B4 := Lib.hid hb4; clear hown4 hb4)
          have HRD : Hid (Calls Tryd.prog 9 #[.slice ad4 (N + mr) c4] w4 (ReadPost w4 (writeF k E ps ++ rs))) := Lib.hid (by
            have h1 := O4.out
            rw [toI_app] at h1
            obtain ⟨r1, r2, r3, r4⟩ := row_of_own h1 (app_lt (writeF_lt k E ps) HRB.out.row.2)
            exact hread_wide ad4 (N + mr) c4 _ w4 r1 r2 r3 r4 (HFX.out.below (B2.out.trans (B4.out.mono B2.out.size))))
          have H4 := Lib.hid ((B4.out.block _ (lt_of_block H2.out)).trans H2.out)
          refine HRD.out.mono ?_
          rintro e w5 ⟨hans, b5⟩
          have B5 : Hid (Below w2.heap.size w2 w5) := Lib.hid (B4.out.trans (b5.mono B4.out.size))
          have H5 := Lib.hid ((b5.block _ (lt_of_block H4.out)).trans H4.out)
          have B5z := Lib.hid b5
          have HBS : Hid (Below w.heap.size w w5) := Lib.hid (B2.out.trans (B5.out.mono B2.out.size))
          clear b5 HRD
          cases hrf : readF (writeF k E ps ++ rs) with
          | error x =>
            rw [hrf] at hans
            obtain ⟨v, rfl, hv⟩ := hans
            have hev := hv.ev
            have B56 : Hid (Below w5.heap.size w5 (w5.alloc (.cells #[.int .i64 0, .int .u64 0, .slice none 0 0] 25))) := Lib.hid (ballo (Below.refl _ _) _)
            have H6 := Lib.hid ((B56.out.block _ (lt_of_block H5.out)).trans H5.out)
            have HSA := Lib.hid (rsame_kind 0 (k : Int) 0 (E : Int) none pa 0 0 pn pc (w5.alloc (.cells #[.int .i64 0, .int .u64 0, .slice none 0 0] 25)) (by have := HK.out; omega))
            have q0 : (w5.alloc (.cells #[.int .i64 0, .int .u64 0, .slice none 0 0] 25)).cell? ⟨hbk, 0, none⟩ = some (.int .i64 (k : Int)) := by rw [cell_of_row _ _ 0 _ _ _ H6.out]; rfl
            have q1 : (w5.alloc (.cells #[.int .i64 0, .int .u64 0, .slice none 0 0] 25)).cell? ⟨hbk, 1, none⟩ = some (.int .u64 (E : Int)) := by rw [cell_of_row _ _ 1 _ _ _ H6.out]; rfl
            have q2 : (w5.alloc (.cells #[.int .i64 0, .int .u64 0, .slice none 0 0] 25)).cell? ⟨hbk, 2, none⟩ = some (.slice pa pn pc) := by rw [cell_of_row _ _ 2 _ _ _ H6.out]; rfl
            clear hrf hv
            rcases hev with ⟨sx, rfl⟩ | ⟨cx, rfl⟩
            all_goals (
              go_wp2_with fail
              refine HSA.out.mono ?_
              rintro e w7 ⟨rfl, b7⟩
              have B7 : Hid (Below w2.heap.size w2 w7) := Lib.hid (B5.out.trans ((bstep B56.out b7).mono B5.out.size))
              clear b7
              go_wp2_with fail
              go_meet
              case rel => exact B7)
          | ok r =>
            rw [hrf] at hans
            obtain rfl := told_read HTD.out hrf
            obtain ⟨pa2, pc2, rfl, hown, hwf⟩ := hans
            have hown : OwnS w5 w4.heap.size 37 7 (.slice pa2 ps.length pc2) (ps.map PT.cells) := hown
            rw [HPL.out.1] at hown
            have HOW := Lib.hid hown
            obtain ⟨w6, hw6⟩ : ∃ w6, w5.alloc (.cells #[.int .i64 (k : Int), .int .u64 (E : Int), .slice pa2 pn pc2] 25) = w6 := ⟨_, rfl⟩
            obtain ⟨rb, hrb⟩ : ∃ rb, w5.heap.size = rb := ⟨_, rfl⟩
            have B56 : Hid (Below w5.heap.size w5 w6) := Lib.hid (by rw [← hw6]; exact ballo (Below.refl _ _) _)
            have R6 : Hid (w6.heap[rb]? = some (.cells #[.int .i64 (k : Int), .int .u64 (E : Int), .slice pa2 pn pc2] 25)) := Lib.hid (by rw [← hw6, ← hrb]; exact heap_alloc_new _ _)
            have H6 := Lib.hid ((B56.out.block _ (lt_of_block H5.out)).trans H5.out)
            have HSA := Lib.hid (rsame_true (k : Int) E pa2 pa pn pc2 pc ps w6 (own_prow (HOW.out.below B56.out) hwf) (HPR.out.below (HBS.out.trans (B56.out.mono HBS.out.size))) HPL.out.1 HPL.out.2.1)
            have q0 : w6.cell? ⟨hbk, 0, none⟩ = some (.int .i64 (k : Int)) := by rw [cell_of_row _ _ 0 _ _ _ H6.out]; rfl
            have q1 : w6.cell? ⟨hbk, 1, none⟩ = some (.int .u64 (E : Int)) := by rw [cell_of_row _ _ 1 _ _ _ H6.out]; rfl
            have q2 : w6.cell? ⟨hbk, 2, none⟩ = some (.slice pa pn pc) := by rw [cell_of_row _ _ 2 _ _ _ H6.out]; rfl
            have z0 : w6.cell? ⟨rb, 0, none⟩ = some (.int .i64 (k : Int)) := by rw [cell_of_row _ _ 0 _ _ _ R6.out]; rfl
            have z1 : w6.cell? ⟨rb, 1, none⟩ = some (.int .u64 (E : Int)) := by rw [cell_of_row _ _ 1 _ _ _ R6.out]; rfl
            have z2 : w6.cell? ⟨rb, 2, none⟩ = some (.slice pa2 pn pc2) := by rw [cell_of_row _ _ 2 _ _ _ R6.out]; rfl
            clear hrf hown hwf
            simp only [HPL.out.1]
            go_wp2_with fail
            refine HSA.out.mono ?_
            rintro e w7 ⟨rfl, b7⟩
            have B7 : Hid (Below w2.heap.size w2 w7) := Lib.hid (B5.out.trans ((bstep B56.out b7).mono B5.out.size))
            clear b7
            go_wp2_with fail
            go_meet
            case rel => exact B7
      case rest =>
        clear HT H3 H1 H2 HPR HPL HRY hrl HWR
        obtain ⟨w8, rfl⟩ : ∃ w8 : World, w8 = wc := ⟨_, rfl⟩
        have B8 : Hid (Below w.heap.size w w8) := Lib.hid (B2.out.trans (hcut.out.mono B2.out.size))
        clear hcut HB3
        have HB8 := Lib.hid (HBY.out.below B8.out)
        have HRD : Hid (Calls Tryd.prog 9 #[.slice a m cap] w8 (ReadPost w8 bs)) := Lib.hid (by
          have h := HB8.out
          exact hread_any a m cap bs w8 h.row h.len h.most h.none h.cap (HFX.out.below B8.out))
        go_wp2_with fail
        refine HRD.out.mono ?_
        rintro e w9 ⟨hans, b9⟩
        have B9 := Lib.hid (bstep B8.out b9)
        clear HRD
        cases hrf : readF bs with
        | error x =>
          rw [hrf] at hans
          obtain ⟨v, rfl, hv⟩ := hans
          have hev := hv.ev
          have BA : Hid (Below w.heap.size w (w9.alloc (.cells #[.int .i64 0, .int .u64 0, .slice none 0 0] 25))) := Lib.hid (ballo B9.out _)
          clear hrf hv b9
          rcases hev with ⟨sx, rfl⟩ | ⟨cx, rfl⟩
          all_goals (
            go_wp2_with fail
            go_ret
            exact ⟨by first | rfl | simp, BA.out⟩)
        | ok r =>
          rw [hrf] at hans
          have hke := read_kept (HB8.out.row.2) hrf
          obtain ⟨k2, e2, qs⟩ := r
          obtain ⟨pa2, pc2, rfl, hown, hwf⟩ := hans
          obtain ⟨n2, hn2⟩ : ∃ n2, qs.length = n2 := ⟨_, rfl⟩
          have HKE : Hid (KeptR m ⟨k2, e2, qs⟩) := Lib.hid (by rw [← HB8.out.len]; exact hke)
          have hown : OwnS w9 w8.heap.size 37 7 (.slice pa2 qs.length pc2) (qs.map PT.cells) := hown
          have HN2 : Hid (qs.length = n2 ∧ n2 ≤ 16 ∧ 0 < n2 ∧ (k2 = 2 ∨ k2 = 3) ∧ e2 < 18446744073709551616) := Lib.hid ⟨hn2, by rw [← hn2]; exact hke.most, by rw [← hn2]; exact hke.some_, hke.kind, hke.entry⟩
          have HOW := Lib.hid hown
          have HWF := Lib.hid hwf
          obtain ⟨wA, hwA⟩ : ∃ wA, w9.alloc (.cells #[.int .i64 (k2 : Int), .int .u64 (e2 : Int), .slice pa2 n2 pc2] 25) = wA := ⟨_, rfl⟩
          obtain ⟨xb, hxb⟩ : ∃ xb, w9.heap.size = xb := ⟨_, rfl⟩
          have B9A : Hid (Below w9.heap.size w9 wA) := Lib.hid (by rw [← hwA]; exact ballo (Below.refl _ _) _)
          have BA := Lib.hid (bstep B9.out B9A.out)
          have XA : Hid (wA.heap[xb]? = some (.cells #[.int .i64 (k2 : Int), .int .u64 (e2 : Int), .slice pa2 n2 pc2] 25)) := Lib.hid (by rw [← hwA, ← hxb]; exact heap_alloc_new _ _)
          have PA : Hid (PRow wA pa2 qs) := Lib.hid (own_prow (HOW.out.below B9A.out) HWF.out)
          have n16 : (n2 : Int) ≤ 16 := by have := HN2.out; omega
          clear hke hown hwf hrf b9
          simp only [hn2]
          clear hn2
          go_wp2_with fail
          clear hwA hxb
          go_loopg [15, 16] n2 (fun g s15 s16 wr => ∃ k : Nat, k + g = n2 ∧ s16 = .int .i64 (k : Int) ∧ s15 = .int .u64 ((endP (qs.take k) : Nat) : Int) ∧ Hid (Below wA.heap.size wA wr))
          case atStart => exact ⟨0, by omega, rfl, by rw [List.take_zero]; rfl, Lib.hid (Below.refl _ _)⟩
          case round =>
            obtain ⟨k, hk, rfl, rfl, HBR⟩ := hrel
            have XR := Lib.hid ((HBR.out.block _ (lt_of_block XA.out)).trans XA.out)
            cases gk with
            | zero =>
              obtain ⟨N, hN⟩ : ∃ N, (writeF k2 e2 qs).length = N := ⟨_, rfl⟩
              have HN : Hid ((writeF k2 e2 qs).length = N ∧ N ≤ 1000) := Lib.hid ⟨hN, by rw [← hN, writeF_len]; have := HN2.out; omega⟩
              have BR := Lib.hid (bstep BA.out HBR.out)
              have y0 : wr.cell? ⟨xb, 0, none⟩ = some (.int .i64 (k2 : Int)) := by rw [cell_of_row _ _ 0 _ _ _ XR.out]; rfl
              have y1 : wr.cell? ⟨xb, 1, none⟩ = some (.int .u64 (e2 : Int)) := by rw [cell_of_row _ _ 1 _ _ _ XR.out]; rfl
              have y2 : wr.cell? ⟨xb, 2, none⟩ = some (.slice pa2 n2 pc2) := by rw [cell_of_row _ _ 2 _ _ _ XR.out]; rfl
              have HWC : Hid (Calls Tryd.prog 8 #[.agg #[.int .i64 (k2 : Int), .int .u64 (e2 : Int), .slice pa2 n2 pc2]] wr (WritePost wr (writeF k2 e2 qs))) := Lib.hid (by
                obtain ⟨q1, q2, q3, q4, q5⟩ := HN2.out
                refine hwrite_ok k2 e2 pa2 n2 pc2 qs wr ?_ (by omega) q5 (PA.out.below HBR.out) q1 (by omega) q2 (HFX.out.below BR.out)
                rcases q4 with rfl | rfl
                · exact .inl (by decide)
                · exact .inr ⟨by decide, by decide⟩)
              have HTD : Hid (ToldR k2 e2 qs (writeF k2 e2 qs ++ bs)) := Lib.hid (write_told k2 e2 qs bs HN2.out.2.2.2.1 HN2.out.2.2.2.2 HWF.out (by have := HN2.out; omega))
              have HKB : Hid (readF (writeF k2 e2 qs ++ bs) = if 1048576 < N + m then .error (.code 2) else .ok ⟨k2, e2, qs⟩) := Lib.hid (by
                have hl : (writeF k2 e2 qs ++ bs).length = N + m := by rw [List.length_append, HB8.out.len, HN.out.1]
                have := kept_back HKE.out HTD.out (by rw [hl]; omega)
                rwa [hl] at this)
              have hkk : k = n2 := by omega
              clear hN hk
              go_wp2_with fail
              refine HWC.out.mono ?_
              rintro e w5 ⟨g, rfl, hg, hgl, b5⟩
              rw [HN.out.1]
              have B5 := Lib.hid b5
              have Z5 : Hid (wr.heap.size ≤ w5.heap.size) := Lib.hid b5.size
              have OW : Hid (OwnI w5 wr.heap.size 5 .u8 (.slice (some ⟨g, 0, none⟩) N N) (toI (writeF k2 e2 qs))) := Lib.hid (by have := own_u8c hg hgl (by rw [HN.out.1]; have := HN.out.2; omega); rwa [HN.out.1] at this)
              have HB5 : Hid (BAny w5 a m cap bs) := Lib.hid (HBY.out.below (bstep BR.out b5))
              have HL1 : Hid ((toI (writeF k2 e2 qs)).length = N) := Lib.hid (by rw [toI_length, HN.out.1])
              have HL2 : Hid ((toI bs).length = m) := Lib.hid (by rw [toI_length]; exact HB5.out.len)
              have HNR : Hid (a = none → (toI bs).length = 0 ∧ cap = 0) := Lib.hid (fun e => by rw [HL2.out]; exact HB5.out.none e)
              have HMX : Hid (N + m ≤ maxLen ∧ (N + m) * 1 ≤ 140737488355328) := Lib.hid (by have := HN.out; have := HB5.out.most; unfold maxLen; omega)
              have X5 := Lib.hid ((b5.block _ (lt_of_block XR.out)).trans XR.out)
              clear hg hgl b5 HWC y0 y1 y2
              go_wp2_with (at_builtin; go_loud (
               refine wpList_pushes rfl (.tmp 120) (.tmp 121) slice8w rfl wr.heap.size wr (.slice (some ⟨g, 0, none⟩) N N) (toI (writeF k2 e2 qs)) N a cap m (toI bs) rfl (by rfl) HL1.out HL2.out HB5.out.row.1 HNR.out OW.out HMX.out.1 HMX.out.2 B5.out Z5.out ?_); intro ad6 c6 w6 hown6 hb6; have O6 := Lib.hid hown6; have B6 := Lib.hid hb6; clear hown6 hb6)
              have HRD : Hid (Calls Tryd.prog 9 #[.slice ad6 (N + m) c6] w6 (ReadPost w6 (writeF k2 e2 qs ++ bs))) := Lib.hid (by
                have h1 := O6.out
                rw [toI_app] at h1
                obtain ⟨r1, r2, r3, r4⟩ := row_of_own h1 (app_lt (writeF_lt k2 e2 qs) HB5.out.row.2)
                exact hread_wide ad6 (N + m) c6 _ w6 r1 r2 r3 r4 (HFX.out.below (bstep BR.out B6.out)))
              have X6 := Lib.hid ((B6.out.block _ (lt_of_block XR.out)).trans XR.out)
              refine HRD.out.mono ?_
              rintro e w7 ⟨hans, b7⟩
              have B7 := Lib.hid (bstep BR.out (bstep B6.out b7))
              have X7 := Lib.hid ((b7.block _ (lt_of_block X6.out)).trans X6.out)
              have P7 := Lib.hid (PA.out.below (bstep HBR.out (bstep B6.out b7)))
              clear b7 HRD
              rw [HKB.out] at hans
              have hmn : ((N : Int) + (m : Int)) ≤ 140737488355328 := by have := HMX.out; omega
              by_cases hbig : 1048576 < N + m
              · rw [if_pos hbig] at hans
                obtain ⟨v, rfl, hv⟩ := hans
                obtain rfl : v = .iface 38 (.int .i64 2) := hv
                have he := run_eql_code
                have hw : IntKind.i64.wrap ((N : Int) + (m : Int)) = (N : Int) + (m : Int) := by rw [IntKind.wrap_i64]; omega
                have hd : decide ((1048576 : Int) < (N : Int) + (m : Int)) = true := decide_eq_true (by omega)
                have BA : Hid (Below w.heap.size w (w7.alloc (.cells #[.int .i64 0, .int .u64 0, .slice none 0 0] 25))) := Lib.hid (ballo B7.out _)
                clear hbig
                go_wp2_with fail
                go_ret
                exact ⟨by first | rfl | simp, BA.out⟩
              · rw [if_neg hbig] at hans
                obtain ⟨pa3, pc3, rfl, hown, hwf⟩ := hans
                have hown : OwnS w7 w6.heap.size 37 7 (.slice pa3 qs.length pc3) (qs.map PT.cells) := hown
                rw [HN2.out.1] at hown
                obtain ⟨w8', hw8⟩ : ∃ w8', w7.alloc (.cells #[.int .i64 (k2 : Int), .int .u64 (e2 : Int), .slice pa3 n2 pc3] 25) = w8' := ⟨_, rfl⟩
                obtain ⟨yb, hyb⟩ : ∃ yb, w7.heap.size = yb := ⟨_, rfl⟩
                have B78 : Hid (Below w7.heap.size w7 w8') := Lib.hid (by rw [← hw8]; exact ballo (Below.refl _ _) _)
                have Y8 : Hid (w8'.heap[yb]? = some (.cells #[.int .i64 (k2 : Int), .int .u64 (e2 : Int), .slice pa3 n2 pc3] 25)) := Lib.hid (by rw [← hw8, ← hyb]; exact heap_alloc_new _ _)
                have X8 := Lib.hid ((B78.out.block _ (lt_of_block X7.out)).trans X7.out)
                have HSA := Lib.hid (rsame_true (k2 : Int) e2 pa2 pa3 n2 pc2 pc3 qs w8' (P7.out.below B78.out) (own_prow (hown.below B78.out) hwf) HN2.out.1 (by have := HN2.out; omega))
                have y0 : w8'.cell? ⟨xb, 0, none⟩ = some (.int .i64 (k2 : Int)) := by rw [cell_of_row _ _ 0 _ _ _ X8.out]; rfl
                have y1 : w8'.cell? ⟨xb, 1, none⟩ = some (.int .u64 (e2 : Int)) := by rw [cell_of_row _ _ 1 _ _ _ X8.out]; rfl
                have y2 : w8'.cell? ⟨xb, 2, none⟩ = some (.slice pa2 n2 pc2) := by rw [cell_of_row _ _ 2 _ _ _ X8.out]; rfl
                have u0 : w8'.cell? ⟨yb, 0, none⟩ = some (.int .i64 (k2 : Int)) := by rw [cell_of_row _ _ 0 _ _ _ Y8.out]; rfl
                have u1 : w8'.cell? ⟨yb, 1, none⟩ = some (.int .u64 (e2 : Int)) := by rw [cell_of_row _ _ 1 _ _ _ Y8.out]; rfl
                have u2 : w8'.cell? ⟨yb, 2, none⟩ = some (.slice pa3 n2 pc3) := by rw [cell_of_row _ _ 2 _ _ _ Y8.out]; rfl
                clear hown hwf hbig
                simp only [HN2.out.1]
                go_wp2_with fail
                refine HSA.out.mono ?_
                rintro e w9 ⟨rfl, b9⟩
                have BZ := Lib.hid (bstep B7.out (bstep B78.out b9))
                clear b9
                go_wp2_with fail
                go_ret
                exact ⟨by first | rfl | simp, BZ.out⟩
            | succ g =>
              have x2 : wr.cell? ⟨xb, 2, none⟩ = some (.slice pa2 n2 pc2) := by rw [cell_of_row _ _ 2 _ _ _ XR.out]; rfl
              have hkl : k < qs.length := by have := HN2.out; omega
              obtain ⟨q, hq⟩ : ∃ q, qs[k]? = some q := ⟨qs[k], List.getElem?_eq_getElem hkl⟩
              obtain ⟨hqw, ba, oa, hpa, -, hca⟩ := (PA.out.below HBR.out) k hkl
              have hqe : qs[k] = q := by rw [List.getElem?_eq_getElem hkl] at hq; exact Option.some.inj hq
              rw [hqe] at hca hqw
              have c0 := hca 0 (by omega)
              have c1 := hca 1 (by omega)
              have c2 := hca 2 (by omega)
              have c3 := hca 3 (by omega)
              have c4 := hca 4 (by omega)
              have c5 := hca 5 (by omega)
              have c6 := hca 6 (by omega)
              simp only [PT.cells, List.getElem?_cons_zero, List.getElem?_cons_succ, Nat.add_zero] at c0 c1 c2 c3 c4 c5 c6
              have HK := Lib.hid hk
              have HQ := Lib.hid hq
              have HQW := Lib.hid hqw
              have i0 : (0 : Int) ≤ (k : Int) := by omega
              have i1 : (k : Int) < (n2 : Int) := by omega
              have HT1 : Hid (q.ty = 1 → endP (qs.take k) ≤ q.vaddr / 4096 ∧ q.off + q.filesz ≤ m ∧ q.filesz ≤ q.memsz ∧ q.vaddr + q.memsz ≤ 140737488355328 ∧ endP (qs.take (k + 1)) = (q.vaddr + q.memsz + 4095) / 4096) := Lib.hid (fun ht => kept_load HKE.out (r := ⟨k2, e2, qs⟩) HQ.out ht)
              have HT2 : Hid (q.ty ≠ 1 → endP (qs.take (k + 1)) = endP (qs.take k)) := Lib.hid (fun ht => kept_other HKE.out (r := ⟨k2, e2, qs⟩) HQ.out ht)
              obtain ⟨EP, hEP⟩ : ∃ EP, endP (qs.take k) = EP := ⟨_, rfl⟩
              rw [hEP] at HT1 HT2
              simp only [hEP]
              clear hca hq hqe hqw hkl hk hEP
              obtain ⟨a0, a1, a2, a3, a4, a5, a6⟩ := q
              simp only [] at c0 c1 c2 c3 c4 c5 c6
              subst hpa
              have BN : Hid (Below wA.heap.size wA (wr.alloc (.cells #[.int .u32 (a0 : Int), .int .u32 (a1 : Int), .int .u64 (a2 : Int), .int .u64 (a3 : Int), .int .u64 (a4 : Int), .int .u64 (a5 : Int), .int .u64 (a6 : Int)] 37))) := Lib.hid (ballo HBR.out _)
              by_cases h1 : a0 = 1
              · obtain ⟨f1, f2, f3, f4, f5⟩ := HT1.out h1
                simp only [] at f1 f2 f3 f4 f5
                have HF5 := Lib.hid f5
                have t1 : ((a0 : Int) != 1) = false := by rw [h1]; rfl
                obtain ⟨Q, hQ⟩ : ∃ Q : Nat, Q = a3 / 4096 := ⟨_, rfl⟩
                obtain ⟨S, hS⟩ : ∃ S : Nat, S = a2 + a4 := ⟨_, rfl⟩
                obtain ⟨T, hT⟩ : ∃ T : Nat, T = a3 + a5 := ⟨_, rfl⟩
                obtain ⟨T2, hT2⟩ : ∃ T2 : Nat, T2 = a3 + a5 + 4095 := ⟨_, rfl⟩
                obtain ⟨EN, hEN⟩ : ∃ EN : Nat, EN = (a3 + a5 + 4095) / 4096 := ⟨_, rfl⟩
                have hm47 := HB8.out.most
                have s1 : IntKind.u64.wrap ((a3 : Int) / 4096) = (Q : Int) := by rw [IntKind.wrap_u64]; omega
                have s2 : IntKind.u64.wrap ((a2 : Int) + (a4 : Int)) = (S : Int) := by rw [IntKind.wrap_u64]; omega
                have s3 : IntKind.u64.wrap ((a3 : Int) + (a5 : Int)) = (T : Int) := by rw [IntKind.wrap_u64]; omega
                have s4 : IntKind.u64.wrap ((T : Int) + 4095) = (T2 : Int) := by rw [IntKind.wrap_u64]; omega
                have s5 : (T2 : Int).tdiv 4096 = (EN : Int) := by rw [Int.tdiv_eq_ediv_of_nonneg (by omega)]; omega
                have s6 : IntKind.u64.wrap (EN : Int) = (EN : Int) := by rw [IntKind.wrap_u64]; omega
                have s7 : IntKind.u64.wrap (m : Int) = (m : Int) := by rw [IntKind.wrap_u64]; omega
                have d1 : (EP : Int) ≤ (Q : Int) := by omega
                have d2 : (S : Int) ≤ (m : Int) := by omega
                have d3 : ¬ a5 < a4 := by omega
                have d4 : (T : Int) ≤ 140737488355328 := by omega
                have HEN : Hid (endP (qs.take (k + 1)) = EN) := Lib.hid (by rw [f5, hEN])
                clear f1 f2 f3 f4 f5 HT1 HT2 h1 hQ hS hT hT2 hEN hm47 HF5
                go_wp2_with fail
                go_roundg g
                case measure => have := HK.out; omega
                case rel => exact ⟨k + 1, by have := HK.out; omega, by go_num, by rw [HEN.out], BN⟩
              · have HF5 := Lib.hid (HT2.out h1)
                have t1 : ((a0 : Int) != 1) = true := bne_iff_ne.2 (by omega)
                clear HT1 HT2 h1
                go_wp2_with fail
                go_roundg g
                case measure => have := HK.out; omega
                case rel => exact ⟨k + 1, by have := HK.out; omega, by go_num, by rw [HF5.out], BN⟩
end Go.Proofs.YtmjfkcclhbpclaaDoor
