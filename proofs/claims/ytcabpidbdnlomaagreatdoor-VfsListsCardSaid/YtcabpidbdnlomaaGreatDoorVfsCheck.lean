/- Layer 3: may a node be laid? Its kind and its name. -/
import Derived.Test.YtcabpidbdnlomaaGreatDoorVfsMust
import Derived.Deep.RegionLaw
import Derived.Deep.RegionHeld3
namespace Go.Proofs.YtcabpidbdnlomaaGreatDoor
open Go.RowKit
set_option linter.unusedVariables false
set_option linter.unusedSimpArgs false

/-- may a node be laid? The error's number -/
def checkF (F : ByteArray → Option Ent) (n : Nd) : Nat :=
  if n.kind < 0 ∨ 3 < n.kind then 1
  else if namedF n = false then 30
  else if (F n.path).isSome = true then 5
  else if mustF F (parentF n.path) 1 ≠ 0 then mustF F (parentF n.path) 1
  else if n.kind = 3 then mustF F n.tgt 0 else 0
theorem errV1 : errV ((1 : Nat) : Int) = .iface 33 (.int .i64 1) := rfl
theorem errV5 : errV ((5 : Nat) : Int) = .iface 33 (.int .i64 5) := rfl
theorem named_size {n : Nd} (h : namedF n = true) : 1 ≤ n.path.size ∧ n.path.size ≤ 4096 := by
  unfold namedF at h
  simp only [Bool.and_eq_true] at h
  have h1 := h.1
  unfold cleanF at h1
  simp only [Bool.and_eq_true] at h1
  exact within_size h1.1

set_option maxRecDepth 100000 in
set_option maxHeartbeats 8000000 in
theorem check_kind (n : Nd) (w : World) (a : Value) (hk : n.kind < 0 ∨ 3 < n.kind) :
    Calls Tryz.prog 24 #[a, n.v] w fun e w' => e = .returned (errV ((1 : Nat) : Int)) ∧ Below w.heap.size w w' := by
  rw [errV1]
  obtain ⟨path, kind, da, dn, dc, tgt, su⟩ := n
  unfold Nd.v Nd.cells
  simp only [] at hk ⊢
  have HB : Hid (Below w.heap.size w (w.alloc (.cells #[.string path, .int .i64 kind, .slice da dn dc, .string tgt, .bool su] 49))) := Lib.hid ((Below.refl _ _).alloc (Nat.le_refl _) _)
  have HX : Hid ((w.alloc (.cells #[.string path, .int .i64 kind, .slice da dn dc, .string tgt, .bool su] 49)).heap[w.heap.size]? = some (.cells #[.string path, .int .i64 kind, .slice da dn dc, .string tgt, .bool su] 49)) := Lib.hid (heap_alloc_new _ _)
  have c1 := cell_of_row _ _ 1 _ _ _ HX.out
  simp only [List.getElem?_toArray, List.getElem?_cons_zero, List.getElem?_cons_succ] at c1
  by_cases h0 : kind < 0
  · have e1 : decide (kind < 0) = true := decide_eq_true h0
    clear hk h0
    go_enter Tryz.func24, Tryz.ntmps24
    go_wp2_with fail
    go_ret
    exact ⟨rfl, HB.out⟩
  · have e1 : decide (kind < 0) = false := decide_eq_false h0
    have e2 : decide (3 < kind) = true := decide_eq_true (by omega)
    clear hk h0
    go_enter Tryz.func24, Tryz.ntmps24
    go_wp2_with fail
    go_ret
    exact ⟨rfl, HB.out⟩

set_option maxRecDepth 100000 in
set_option maxHeartbeats 8000000 in
theorem check_name (n : Nd) (w : World) (a : Value) (h0 : 0 ≤ n.kind) (h3 : n.kind ≤ 3) (hn : namedF n = false) (hp : n.path.size ≤ 140737488355328) (ht : n.tgt.size ≤ 140737488355328) :
    Calls Tryz.prog 24 #[a, n.v] w fun e w' => e = .returned (errV ((30 : Nat) : Int)) ∧ Below w.heap.size w w' := by
  rw [errV30]
  have HN : Hid (∀ wx, Calls Tryz.prog 38 #[n.v] wx fun e w' => e = .returned (.bool (namedF n)) ∧ Below wx.heap.size wx w') := Lib.hid (fun wx => named_any n wx hp ht)
  rw [hn] at HN
  obtain ⟨path, kind, da, dn, dc, tgt, su⟩ := n
  unfold Nd.v Nd.cells at *
  simp only [] at h0 h3 HN ⊢
  have HB : Hid (Below w.heap.size w (w.alloc (.cells #[.string path, .int .i64 kind, .slice da dn dc, .string tgt, .bool su] 49))) := Lib.hid ((Below.refl _ _).alloc (Nat.le_refl _) _)
  have HX : Hid ((w.alloc (.cells #[.string path, .int .i64 kind, .slice da dn dc, .string tgt, .bool su] 49)).heap[w.heap.size]? = some (.cells #[.string path, .int .i64 kind, .slice da dn dc, .string tgt, .bool su] 49)) := Lib.hid (heap_alloc_new _ _)
  have HI : Hid ((Tryz.prog.info? 49).map (·.size) = some (#[.string path, .int .i64 kind, .slice da dn dc, .string tgt, .bool su] : Array Value).size) := Lib.hid (by kernel_rfl)
  have c1 := cell_of_row _ _ 1 _ _ _ HX.out
  simp only [List.getElem?_toArray, List.getElem?_cons_zero, List.getElem?_cons_succ] at c1
  have e1 : decide (kind < 0) = false := decide_eq_false (by omega)
  have e2 : decide (3 < kind) = false := decide_eq_false (by omega)
  clear h0 h3 hn hp ht
  go_enter Tryz.func24, Tryz.ntmps24
  go_wp2_with (refine wpList_load_row rfl 49 _ rfl w.heap.size rfl 49 #[.string path, .int .i64 kind, .slice da dn dc, .string tgt, .bool su] (0, 0) _ HX.out Tryz.underlying49 rfl HI.out ?_)
  refine (HN.out _).mono ?_
  rintro e w2 ⟨rfl, hb2⟩
  have B2 := Lib.hid (bstep HB.out hb2)
  clear hb2
  go_wp2_with fail
  go_ret
  exact ⟨rfl, B2.out⟩
end Go.Proofs.YtcabpidbdnlomaaGreatDoor
/- Layer 3: may a node be laid? What stands at its path, above it, and where it leads to. -/
namespace Go.Proofs.YtcabpidbdnlomaaGreatDoor
open Go.RowKit
set_option linter.unusedVariables false
set_option linter.unusedSimpArgs false

set_option maxRecDepth 100000 in
set_option maxHeartbeats 8000000 in
theorem check_twice (tb g c : Nat) (F : ByteArray → Option Ent) (n : Nd) (w : World) (h : TreeAt w tb g c F) (h0 : 0 ≤ n.kind) (h3 : n.kind ≤ 3) (hn : namedF n = true) (ht : n.tgt.size ≤ 140737488355328) (hf : (F n.path).isSome = true) :
    Calls Tryz.prog 24 #[.pointer (some ⟨tb, 0, none⟩), n.v] w fun e w' => e = .returned (errV ((5 : Nat) : Int)) ∧ Below w.heap.size w w' := by
  rw [errV5]
  have hps := named_size hn
  have HN : Hid (∀ wx, Calls Tryz.prog 38 #[n.v] wx fun e w' => e = .returned (.bool (namedF n)) ∧ Below wx.heap.size wx w') := Lib.hid (fun wx => named_any n wx (by omega) ht)
  rw [hn] at HN
  obtain ⟨path, kind, da, dn, dc, tgt, su⟩ := n
  unfold Nd.v Nd.cells at *
  simp only [] at h0 h3 HN hps hf ⊢
  have HB : Hid (Below w.heap.size w (w.alloc (.cells #[.string path, .int .i64 kind, .slice da dn dc, .string tgt, .bool su] 49))) := Lib.hid ((Below.refl _ _).alloc (Nat.le_refl _) _)
  have HX : Hid ((w.alloc (.cells #[.string path, .int .i64 kind, .slice da dn dc, .string tgt, .bool su] 49)).heap[w.heap.size]? = some (.cells #[.string path, .int .i64 kind, .slice da dn dc, .string tgt, .bool su] 49)) := Lib.hid (heap_alloc_new _ _)
  have HI : Hid ((Tryz.prog.info? 49).map (·.size) = some (#[.string path, .int .i64 kind, .slice da dn dc, .string tgt, .bool su] : Array Value).size) := Lib.hid (by kernel_rfl)
  have c1 := cell_of_row _ _ 1 _ _ _ HX.out
  simp only [List.getElem?_toArray, List.getElem?_cons_zero, List.getElem?_cons_succ] at c1
  have e1 : decide (kind < 0) = false := decide_eq_false (by omega)
  have e2 : decide (3 < kind) = false := decide_eq_false (by omega)
  have HT : Hid (TreeAt w tb g c F) := Lib.hid h
  obtain ⟨e5, he5⟩ : ∃ e5, F path = some e5 := Option.isSome_iff_exists.1 hf
  clear h0 h3 hn ht h hf
  go_enter Tryz.func24, Tryz.ntmps24
  go_wp2_with (refine wpList_load_row rfl 49 _ rfl w.heap.size rfl 49 #[.string path, .int .i64 kind, .slice da dn dc, .string tgt, .bool su] (0, 0) _ HX.out Tryz.underlying49 rfl HI.out ?_)
  refine (HN.out _).mono ?_
  rintro e w2 ⟨rfl, hb2⟩
  have B2 := Lib.hid (bstep HB.out hb2)
  have X2 := (hb2.block _ (lt_of_block HX.out)).trans HX.out
  have T2 := HT.out.below B2.out
  obtain ⟨xb, hxb⟩ : ∃ xb, w.heap.size = xb := ⟨_, rfl⟩
  rw [hxb] at X2
  have m0 : w2.cell? ⟨tb, 0, none⟩ = some (.map (some g)) := by
    have := cell_of_row _ _ 0 _ _ _ T2.box
    simpa using this
  have p0 : w2.cell? ⟨xb, 0, none⟩ = some (.string path) := by rw [cell_of_row _ _ 0 _ _ _ X2]; rfl
  have KS : Hid (∀ wx, Below w2.heap.size w2 wx → wx.cell? ⟨tb, 0, none⟩ = some (.map (some g)) ∧ wx.cell? ⟨xb, 0, none⟩ = some (.string path) ∧ (Instr.lookup 57 (.map (some g)) (.string path) true).run Tryz.prog wx = .ok (.tuple #[e5.v, .bool true]) wx) := Lib.hid (fun wx hb => by
    have tx := T2.below hb
    have hl := tx.map.look_ok (T := 57) (E := 56) Tryz.underlying9 Tryz.underlying57 (ent_zeroV wx) (k := path) (by unfold maxLen; omega)
    rw [he5] at hl
    exact ⟨(hb.cell (p := ⟨tb, 0, none⟩) (lt_of_block T2.box)).trans m0, (hb.cell (p := ⟨xb, 0, none⟩) (lt_of_block X2)).trans p0, hl⟩)
  obtain ⟨s5, k5, t5⟩ := e5
  unfold Ent.v at KS
  clear hb2 HT T2 X2 HX HN HI he5 hps c1 e1 e2 HB m0 p0
  rw [hxb]
  cases s5 with
  | none =>
    simp only [ptrV] at KS
    go_wp2_with fail
    go_region_held3 (fun wx => wx.cell? ⟨tb, 0, none⟩ = some (.map (some g)) ∧ wx.cell? ⟨xb, 0, none⟩ = some (.string path) ∧ (Instr.lookup 57 (.map (some g)) (.string path) true).run Tryz.prog wx = .ok (.tuple #[.agg #[.pointer none, .int .i64 k5, .string t5], .bool true]) wx)
      (first | exact KS.out _ (Below.refl _ _).drew | (refine KS.out _ ?_; (repeat' (first | exact Below.refl _ _ | refine Below.drew ?_ | (refine Below.alloc ?_ (by simp) _) | (refine Below.setCell ?_ (by simp) _))))) (fail)
    all_goals (go_wp2_with fail; go_ret)
    all_goals exact ⟨rfl, (B2.out.alloc B2.out.size _).drew⟩
  | some b5 =>
    simp only [ptrV] at KS
    go_wp2_with fail
    go_region_held3 (fun wx => wx.cell? ⟨tb, 0, none⟩ = some (.map (some g)) ∧ wx.cell? ⟨xb, 0, none⟩ = some (.string path) ∧ (Instr.lookup 57 (.map (some g)) (.string path) true).run Tryz.prog wx = .ok (.tuple #[.agg #[.pointer (some ⟨b5, 0, none⟩), .int .i64 k5, .string t5], .bool true]) wx)
      (first | exact KS.out _ (Below.refl _ _).drew | (refine KS.out _ ?_; (repeat' (first | exact Below.refl _ _ | refine Below.drew ?_ | (refine Below.alloc ?_ (by simp) _) | (refine Below.setCell ?_ (by simp) _))))) (fail)
    all_goals (go_wp2_with fail; go_ret)
    all_goals exact ⟨rfl, (B2.out.alloc B2.out.size _).drew⟩
end Go.Proofs.YtcabpidbdnlomaaGreatDoor
/- Layer 3: may a node be laid where nothing stands yet? Then of whatever node. -/
namespace Go.Proofs.YtcabpidbdnlomaaGreatDoor
open Go.RowKit
set_option linter.unusedVariables false
set_option linter.unusedSimpArgs false
theorem must_cases (F : ByteArray → Option Ent) (p : ByteArray) (k : Int) : mustF F p k = 0 ∨ mustF F p k = 6 ∨ mustF F p k = 16 := by
  unfold mustF
  split
  · exact .inr (.inl rfl)
  · split
    · exact .inl rfl
    · exact .inr (.inr rfl)

set_option maxRecDepth 100000 in
set_option maxHeartbeats 8000000 in
theorem check_free (tb g c : Nat) (F : ByteArray → Option Ent) (n : Nd) (w : World) (h : TreeAt w tb g c F) (h0 : 0 ≤ n.kind) (h3 : n.kind ≤ 3) (hn : namedF n = true) (ht : n.tgt.size ≤ 140737488355328) (hf : F n.path = none) :
    Calls Tryz.prog 24 #[.pointer (some ⟨tb, 0, none⟩), n.v] w fun e w' => e = .returned (errV ((checkF F n : Nat) : Int)) ∧ Below w.heap.size w w' := by
  have hps := named_size hn
  have HN : Hid (∀ wx, Calls Tryz.prog 38 #[n.v] wx fun e w' => e = .returned (.bool (namedF n)) ∧ Below wx.heap.size wx w') := Lib.hid (fun wx => named_any n wx (by omega) (by omega))
  rw [hn] at HN
  have hR0 : checkF F n = (if mustF F (parentF n.path) 1 ≠ 0 then mustF F (parentF n.path) 1 else if n.kind = 3 then mustF F n.tgt 0 else 0) := by
    unfold checkF
    rw [if_neg (by omega), if_neg (by rw [hn]; simp), if_neg (by rw [hf]; simp)]
  obtain ⟨R, hR⟩ : ∃ R, checkF F n = R := ⟨_, rfl⟩
  rw [hR]
  have HR := Lib.hid (hR0.symm.trans hR)
  have hpp := parent_size n.path hps.1
  have HM1 : Hid (∀ wx, Below w.heap.size w wx → Calls Tryz.prog 39 #[.pointer (some ⟨tb, 0, none⟩), .string (parentF n.path), .int .i64 1] wx fun e w' => e = .returned (errV ((mustF F (parentF n.path) 1 : Nat) : Int)) ∧ Below wx.heap.size wx w') := Lib.hid (fun wx hb => must_any tb g c F (parentF n.path) 1 wx (h.below hb) (by omega))
  have hsz3 : n.kind = 3 → n.tgt.size ≤ 4096 := fun hk3 => by
    unfold namedF at hn
    rw [if_neg (by omega), if_pos hk3, Bool.and_eq_true] at hn
    have h2 := hn.2
    unfold cleanF at h2
    simp only [Bool.and_eq_true] at h2
    exact (within_size h2.1).2
  have HM2 : Hid (n.kind = 3 → ∀ wx, Below w.heap.size w wx → Calls Tryz.prog 39 #[.pointer (some ⟨tb, 0, none⟩), .string n.tgt, .int .i64 0] wx fun e w' => e = .returned (errV ((mustF F n.tgt 0 : Nat) : Int)) ∧ Below wx.heap.size wx w') := Lib.hid (fun hk3 wx hb => must_any tb g c F n.tgt 0 wx (h.below hb) (by have := hsz3 hk3; omega))
  have HPA : Hid (∀ wx, Calls Tryz.prog 16 #[.string n.path] wx fun e w' => e = .returned (.string (parentF n.path)) ∧ wx = w') := Lib.hid (fun wx => parent_any n.path wx hps.1 (by omega))
  clear hR0 hR hpp
  obtain ⟨path, kind, da, dn, dc, tgt, su⟩ := n
  unfold Nd.v Nd.cells at *
  simp only [] at h0 h3 HN hps hf HM1 HM2 HPA HR ⊢
  have HB : Hid (Below w.heap.size w (w.alloc (.cells #[.string path, .int .i64 kind, .slice da dn dc, .string tgt, .bool su] 49))) := Lib.hid ((Below.refl _ _).alloc (Nat.le_refl _) _)
  have HX : Hid ((w.alloc (.cells #[.string path, .int .i64 kind, .slice da dn dc, .string tgt, .bool su] 49)).heap[w.heap.size]? = some (.cells #[.string path, .int .i64 kind, .slice da dn dc, .string tgt, .bool su] 49)) := Lib.hid (heap_alloc_new _ _)
  have HI : Hid ((Tryz.prog.info? 49).map (·.size) = some (#[.string path, .int .i64 kind, .slice da dn dc, .string tgt, .bool su] : Array Value).size) := Lib.hid (by kernel_rfl)
  have c1 := cell_of_row _ _ 1 _ _ _ HX.out
  simp only [List.getElem?_toArray, List.getElem?_cons_zero, List.getElem?_cons_succ] at c1
  have e1 : decide (kind < 0) = false := decide_eq_false (by omega)
  have e2 : decide (3 < kind) = false := decide_eq_false (by omega)
  have HT : Hid (TreeAt w tb g c F) := Lib.hid h
  have he5 := hf
  clear h0 h3 hn ht h hf hsz3
  go_enter Tryz.func24, Tryz.ntmps24
  go_wp2_with (refine wpList_load_row rfl 49 _ rfl w.heap.size rfl 49 #[.string path, .int .i64 kind, .slice da dn dc, .string tgt, .bool su] (0, 0) _ HX.out Tryz.underlying49 rfl HI.out ?_)
  refine (HN.out _).mono ?_
  rintro e w2 ⟨rfl, hb2⟩
  have B2 := Lib.hid (bstep HB.out hb2)
  have X2 := (hb2.block _ (lt_of_block HX.out)).trans HX.out
  have T2 := HT.out.below B2.out
  obtain ⟨xb, hxb⟩ : ∃ xb, w.heap.size = xb := ⟨_, rfl⟩
  rw [hxb] at X2
  have m0 : w2.cell? ⟨tb, 0, none⟩ = some (.map (some g)) := by
    have := cell_of_row _ _ 0 _ _ _ T2.box
    simpa using this
  have p0 : w2.cell? ⟨xb, 0, none⟩ = some (.string path) := by rw [cell_of_row _ _ 0 _ _ _ X2]; rfl
  have KS : Hid (∀ wx, Below w2.heap.size w2 wx → wx.cell? ⟨tb, 0, none⟩ = some (.map (some g)) ∧ wx.cell? ⟨xb, 0, none⟩ = some (.string path) ∧ (Instr.lookup 57 (.map (some g)) (.string path) true).run Tryz.prog wx = .ok (.tuple #[.agg #[.pointer none, .int .i64 0, .string ⟨#[]⟩], .bool false]) wx) := Lib.hid (fun wx hb => by
    have tx := T2.below hb
    have hl := tx.map.look_ok (T := 57) (E := 56) Tryz.underlying9 Tryz.underlying57 (ent_zeroV wx) (k := path) (by unfold maxLen; omega)
    rw [he5] at hl
    exact ⟨(hb.cell (p := ⟨tb, 0, none⟩) (lt_of_block T2.box)).trans m0, (hb.cell (p := ⟨xb, 0, none⟩) (lt_of_block X2)).trans p0, hl⟩)
  have HX2 := Lib.hid X2
  have HXB : Hid (w.heap.size ≤ xb ∧ xb < w2.heap.size) := Lib.hid ⟨by omega, lt_of_block X2⟩
  clear hb2 HT T2 X2 HX HN HI he5 hps c1 e1 e2 HB m0 p0
  rw [hxb]
  go_wp2_with fail
  go_region_held3 (fun wx => wx.cell? ⟨tb, 0, none⟩ = some (.map (some g)) ∧ wx.cell? ⟨xb, 0, none⟩ = some (.string path) ∧ (Instr.lookup 57 (.map (some g)) (.string path) true).run Tryz.prog wx = .ok (.tuple #[.agg #[.pointer none, .int .i64 0, .string ⟨#[]⟩], .bool false]) wx)
      (first | exact KS.out _ (Below.refl _ _).drew | (refine KS.out _ ?_; (repeat' (first | exact Below.refl _ _ | refine Below.drew ?_ | (refine Below.alloc ?_ (by simp) _) | (refine Below.setCell ?_ (by simp) _))))) (fail)
  all_goals (
    have B9 : Hid (Below w.heap.size w (w2.alloc (.cells #[.pointer none, .int .i64 0, .string ⟨#[]⟩] 56)).drew) := Lib.hid (B2.out.alloc B2.out.size _).drew
    have X9 : (w2.alloc (.cells #[.pointer none, .int .i64 0, .string ⟨#[]⟩] 56)).drew.heap[xb]? = some (.cells #[.string path, .int .i64 kind, .slice da dn dc, .string tgt, .bool su] 49) := (heap_alloc_old _ _ HXB.out.2).trans HX2.out
    generalize (w2.alloc (.cells #[.pointer none, .int .i64 0, .string ⟨#[]⟩] 56)).drew = w9 at *
    have q0 : w9.cell? ⟨xb, 0, none⟩ = some (.string path) := by rw [cell_of_row _ _ 0 _ _ _ X9]; rfl
    go_wp2_with fail
    refine (HPA.out _).mono ?_
    rintro e w10 ⟨rfl, rfl⟩
    go_wp2_with fail
    refine (HM1.out _ B9.out).mono ?_
    rintro e w10 ⟨rfl, hb10⟩
    have B10 := Lib.hid (bstep B9.out hb10)
    have X10 := (hb10.block _ (lt_of_block X9)).trans X9
    have r1 : w10.cell? ⟨xb, 1, none⟩ = some (.int .i64 kind) := by rw [cell_of_row _ _ 1 _ _ _ X10]; rfl
    have r3 : w10.cell? ⟨xb, 3, none⟩ = some (.string tgt) := by rw [cell_of_row _ _ 3 _ _ _ X10]; rfl
    clear hb10 X9 X10 q0 KS HX2
    have hcs : mustF F (parentF path) 1 = 0 ∨ mustF F (parentF path) 1 = 6 ∨ mustF F (parentF path) 1 = 16 := must_cases _ _ _
    rcases hcs with hm | hm | hm
    · rw [hm, errV0z]
      have hR := HR.out
      rw [hm, if_neg (by omega)] at hR
      by_cases hk3 : kind = 3
      · rw [if_pos hk3] at hR
        have HE := Lib.hid hR
        clear hR HR hm
        subst hk3
        go_wp2_with fail
        refine (HM2.out trivial _ B10.out).mono ?_
        rintro e w11 ⟨rfl, hb11⟩
        have B11 := Lib.hid (bstep B10.out hb11)
        go_wp2_with fail
        go_ret
        rw [← HE.out]
        exact ⟨rfl, B11.out⟩
      · rw [if_neg hk3] at hR
        have HE := Lib.hid hR
        have k3 : (kind == 3) = false := beq_eq_false_iff_ne.2 hk3
        clear hk3 hR HR hm
        go_wp2_with fail
        go_ret
        rw [← HE.out]
        exact ⟨rfl, B10.out⟩
    · have hR := HR.out
      rw [hm, if_pos (by omega)] at hR
      rw [hm, errV6]
      have HE := Lib.hid hR
      clear hm hR HR
      go_wp2_with fail
      go_ret
      rw [← HE.out]
      exact ⟨rfl, B10.out⟩
    · have hR := HR.out
      rw [hm, if_pos (by omega)] at hR
      rw [hm, errV16]
      have HE := Lib.hid hR
      clear hm hR HR
      go_wp2_with fail
      go_ret
      rw [← HE.out]
      exact ⟨rfl, B10.out⟩)

/-- whatever the node: the error's number is checkF's -/
theorem vcheck_any (tb g c : Nat) (F : ByteArray → Option Ent) (n : Nd) (w : World) (h : TreeAt w tb g c F) (hp : n.path.size ≤ 140737488355328) (ht : n.tgt.size ≤ 140737488355328) :
    Calls Tryz.prog 24 #[.pointer (some ⟨tb, 0, none⟩), n.v] w fun e w' => e = .returned (errV ((checkF F n : Nat) : Int)) ∧ Below w.heap.size w w' := by
  by_cases hk : n.kind < 0 ∨ 3 < n.kind
  · have hE : checkF F n = 1 := by unfold checkF; rw [if_pos hk]
    rw [hE]
    exact check_kind n w _ hk
  · have h0 : 0 ≤ n.kind := by omega
    have h3 : n.kind ≤ 3 := by omega
    cases hn : namedF n with
    | false =>
      have hE : checkF F n = 30 := by unfold checkF; rw [if_neg hk, if_pos hn]
      rw [hE]
      exact check_name n w _ h0 h3 hn (by omega) (by omega)
    | true =>
      cases hf : F n.path with
      | some e =>
        have hE : checkF F n = 5 := by unfold checkF; rw [if_neg hk, if_neg (by rw [hn]; simp), if_pos (by rw [hf]; rfl)]
        rw [hE]
        exact check_twice tb g c F n w h h0 h3 hn (by omega) (by rw [hf]; rfl)
      | none => exact check_free tb g c F n w h h0 h3 hn ht hf
end Go.Proofs.YtcabpidbdnlomaaGreatDoor
