/- Layer 2: pages are mapped: where there is room. -/
import Derived.Test.YtmnjkaimpejohaaGreatDoorVmMap
namespace Go.Proofs.YtmnjkaimpejohaaGreatDoor
open Go.RowKit
set_option linter.unusedVariables false
set_option linter.unusedSimpArgs false

theorem vgrow_self {S : Nat → Prop} {w : World} {k : Nat} (h : S k) : VGrow S w w k := .inl h

set_option maxRecDepth 100000 in
set_option maxHeartbeats 16000000 in
theorem map_good (mb : Nat) (S : Nat → Prop) (q c : Nat) (V : Nat → Option Pg) (g : Nat) (F : Nat → Option Nat) (a m perm : Nat) (w : World) (h : VmAt w mb S q c V g F) (ha : a < 18446744073709551616) (hn2 : m < 9223372036854775808) (hc : checkF a m perm = 0) (ht : takeF V m (a / 4096) = none) (hq : c + m ≤ q) :
    Calls Tryz.prog 12 #[.pointer (some ⟨mb, 0, none⟩), .int .u64 (a : Int), .int .i64 (m : Int), .int .i64 (perm : Int)] w fun e w' => e = .returned .nilIface ∧ VKept S w w' ∧ ∃ F', VmAt w' mb (VGrow S w w') q (c + m) (mapV V (a / 4096) m perm) g F' := by
  obtain ⟨c1, c2, c3, c4, c5, c6⟩ := checkF_ok hc
  rw [Int.toNat_natCast] at c6
  have hcx := check_any a (m : Int) (perm : Int) w ha (by omega) (by omega)
  rw [hc] at hcx
  replace hcx : Calls Tryz.prog 18 #[.int .u64 (a : Int), .int .i64 (m : Int), .int .i64 (perm : Int)] w fun e w' => e = .returned .nilIface ∧ w = w' := hcx
  have HC := Lib.hid hcx
  have htx := taken_any mb S q c V g F (a / 4096) m w h c6
  have HFREE := Lib.hid (takeF_free ht)
  rw [ht] at htx
  simp only [barV] at htx
  have HT := Lib.hid htx
  have H := Lib.hid h
  have e1 : (a : Int).tdiv 4096 = ((a / 4096 : Nat) : Int) := by rw [Int.tdiv_eq_ediv_of_nonneg (by omega)]; omega
  have e2 : IntKind.u64.wrap ((a / 4096 : Nat) : Int) = ((a / 4096 : Nat) : Int) := by rw [IntKind.wrap_u64]; omega
  have e3 : IntKind.u64.wrap (m : Int) = (m : Int) := by rw [IntKind.wrap_u64]; omega
  have hqc := h.count
  have hqq := h.quota
  have e5 : IntKind.i64.wrap ((q : Int) - (c : Int)) = ((q - c : Nat) : Int) := by rw [IntKind.wrap_i64]; omega
  have e6 : ¬ ((q - c : Nat) : Int) < (m : Int) := by omega
  have e6b : decide (q - c < m) = false := decide_eq_false (by omega)
  have HQ : Hid (c + m ≤ q ∧ q ≤ 65536 ∧ a / 4096 + m ≤ 34359738368 ∧ perm < 8) := Lib.hid ⟨hq, hqq, c6, by omega⟩
  have HPO : Hid (newPg perm).Ok := Lib.hid (newPg_ok (by omega))
  have HBLT : Hid (Tryz.prog.built 76 [(1, .int .i64 (perm : Int))] = some (newPg perm).cells.toArray) := Lib.hid (page_built perm)
  obtain ⟨PG, hPG⟩ : ∃ PG, newPg perm = PG := ⟨_, rfl⟩
  have HPG := Lib.hid hPG
  rw [hPG] at HBLT HPO
  obtain ⟨C, hC⟩ : ∃ C, PG.cells.toArray = C := ⟨_, rfl⟩
  have HCE := Lib.hid hC
  rw [hC] at HBLT
  have HF0 : Hid (c = c) := Lib.hid rfl
  generalize q - c = z at *
  clear h ha hn2 hc ht c1 c2 c3 c4 c5 c6 hcx htx hqc hqq hq hPG hC
  generalize a / 4096 = k at *
  go_enter Tryz.func12, Tryz.ntmps12
  go_wp2_with (go_at_call 18; refine HC.out.mono ?_; rintro e w' ⟨rfl, rfl⟩)
  refine HT.out.mono ?_
  rintro e w1 ⟨rfl, hb1⟩
  have B1 := Lib.hid hb1
  have hV := H.out.below hb1
  have m0 : w1.drew.cell? ⟨mb, 0, none⟩ = some (.int .i64 (q : Int)) := by
    show w1.cell? _ = _
    rw [cell_of_row _ _ 0 _ _ _ hV.box]; rfl
  have m1 : w1.drew.cell? ⟨mb, 1, none⟩ = some (.map (some g)) := by
    show w1.cell? _ = _
    rw [cell_of_row _ _ 1 _ _ _ hV.box]; rfl
  have hlen : ∀ ty, (Builtin.len_ #[61] ty #[.map (some g)]).run Tryz.prog w1.drew = .ok (.int .i64 (c : Int)) w1.drew := fun ty => (hV.below (Below.refl _ _).drew).map.len Tryz.underlying61 ty
  have HV1 : Hid (VmAt w1.drew mb S q c V g F) := Lib.hid (hV.below (Below.refl _ _).drew)
  have BD1 : Hid (Below w.heap.size w w1.drew) := Lib.hid hb1.drew
  clear hb1 hV HC HT H
  go_wp2_with fail
  go_region_held3 (fun wx => wx.cell? ⟨mb, 0, none⟩ = some (.int .i64 (q : Int)) ∧ wx.cell? ⟨mb, 1, none⟩ = some (.map (some g)) ∧ ∀ ty, (Builtin.len_ #[61] ty #[.map (some g)]).run Tryz.prog wx = .ok (.int .i64 (c : Int)) wx) (exact ⟨m0, m1, hlen⟩) (fail)
  go_wp2_with fail
  clear m0 m1 hlen e5 e6 e6b e1 e2
  generalize w1.drew = wd at *
  go_loopg [13, 53] m (fun f y x wr => ∃ j : Nat, x = .int .u64 (j : Int) ∧ Hid (j + f = m) ∧ Hid (VKept S w wr ∧ ∃ F', VmAt wr mb (VGrow S w wr) q (c + j) (mapV V k j perm) g F'))
  case atStart => exact ⟨0, rfl, Lib.hid (by omega), Lib.hid ⟨VKept.of_below BD1.out, F, by rw [mapV_zero, Nat.add_zero]; exact HV1.out.mono (fun _ hs => .inl hs)⟩⟩
  case round =>
    obtain ⟨j, rfl, HJ, HR⟩ := hrel
    have hjm := HJ.out
    cases gk with
    | zero =>
      obtain rfl : j = m := by omega
      obtain ⟨r1, F', r2⟩ := HR.out
      have HE := Lib.hid (And.intro r1 r2)
      clear hjm HJ r1 r2 HV1 BD1 HFREE
      go_wp2_with fail
      go_ret
      exact ⟨rfl, HE.out.1, F', HE.out.2⟩
    | succ f =>
      have hjl : (j : Int) < (m : Int) := by omega
      obtain ⟨r1, F', r2⟩ := HR.out
      have hq9 := HQ.out
      have m1 : wr.cell? ⟨mb, 1, none⟩ = some (.map (some g)) := by rw [cell_of_row _ _ 1 _ _ _ r2.box]; rfl
      have hvk : mapV V k j perm (k + j) = none := by rw [mapV_off (by omega)]; exact HFREE.out _ (by omega) (by omega)
      obtain ⟨w2, hrun, hpm, hturn⟩ := (r2.map.of_block (w' := wr.alloc (.cells C 76)) (heap_alloc_old _ _ r2.map.lt)).store (T := 61) (E := 72) Tryz.underlying22 Tryz.underlying61 (k := k + j) (b := wr.heap.size) (by omega) (r2.at_none hvk) (by unfold maxLen; omega)
      have hadd := r2.add_page (p := PG) (w2 := w2) hvk (by omega) (by omega) HPO.out (by rw [Nat.add_assoc] at hpm ⊢; exact hpm) (by rw [HCE.out]; exact hturn)
      have hgr := hturn.grown
      have HN : Hid (VKept S w w2 ∧ ∃ F', VmAt w2 mb (VGrow S w w2) q (c + (j + 1)) (mapV V k (j + 1) perm) g F') := Lib.hid (by
        have hsz : wr.heap.size + 1 ≤ w2.heap.size := by have := hgr.size; simpa using this
        have hk2 : VKept (VGrow S w wr) wr w2 := ⟨hgr.os, hgr.tape, hgr.output, by omega, fun i hi hn => (hgr.block i (by simp; omega) (by
          intro e
          obtain rfl := Option.some.inj e
          exact hn r2.own)).trans (heap_alloc_old _ _ hi)⟩
        refine ⟨r1.trans hk2 (fun i hi hs => vgrow_old hi hs), upd F' (k + j) (some wr.heap.size), ?_⟩
        rw [mapV_succ, HPG.out, ← Nat.add_assoc]
        refine hadd.mono (fun i hi => ?_)
        rcases hi with (hi | ⟨h8, h9⟩) | rfl
        · exact .inl hi
        · exact .inr ⟨h8, by omega⟩
        · exact .inr ⟨r1.size, by omega⟩)
      have e7 : IntKind.u64.wrap ((k : Int) + (j : Int)) = ((k + j : Nat) : Int) := by rw [IntKind.wrap_u64]; omega
      have HJ2 : Hid ((j + 1) + f = m) := Lib.hid (by omega)
      have e8 : IntKind.u64.wrap ((j : Int) + 1) = ((j + 1 : Nat) : Int) := by rw [IntKind.wrap_u64]; omega
      clear r1 r2 hq9 hvk hpm hturn hadd hgr hjm HJ HR
      generalize k + j = kj at *
      obtain ⟨j2, hj2⟩ : ∃ j2, j + 1 = j2 := ⟨_, rfl⟩
      rw [hj2] at HN HJ2 e8
      clear hj2
      go_wp2_with (refine wpList_plain rfl fun _ hK => wp_buildas 76 _ rfl [(1, .int .i64 (perm : Int))] C (by rw [Array.toList_map]; rfl) HBLT.out (hK _ _ ?_))
      go_roundg f
      case measure => omega
      case rel => exact ⟨j2, rfl, HJ2, HN⟩
end Go.Proofs.YtmnjkaimpejohaaGreatDoor
