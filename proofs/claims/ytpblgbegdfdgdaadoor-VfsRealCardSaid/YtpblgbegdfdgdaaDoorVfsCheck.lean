/- Layer 3: may a node be laid? Its kind and its name. -/
import Derived.Test.YtpblgbegdfdgdaaDoorVfsNamed
import Derived.Deep.RegionLaw
import Derived.Deep.RegionHeld3
namespace Go.Proofs.YtpblgbegdfdgdaaDoor
open Go.RowKit
set_option linter.unusedVariables false
set_option linter.unusedSimpArgs false

/-- may a node be laid? The error's number -/
def checkF (F : ByteArray → Option Ent) (n : Nd) : Nat :=
  if n.kind < 0 ∨ 3 < n.kind then 1
  else if namedF n = false then 30
  else if (F n.path).isSome = true then 5
  else if mustF F (parentF n.path) 1 ≠ 0 then mustF F (parentF n.path) 1
  else if n.kind = 3 then mustF F n.tgt 0 else 0
theorem errV1 : errV ((1 : Nat) : Int) = .iface 46 (.int .i64 1) := rfl
theorem errV5 : errV ((5 : Nat) : Int) = .iface 46 (.int .i64 5) := rfl
theorem named_size {n : Nd} (h : namedF n = true) : 1 ≤ n.path.size ∧ n.path.size ≤ 4096 := by
  unfold namedF at h
  simp only [Bool.and_eq_true] at h
  have h1 := h.1
  unfold cleanF at h1
  simp only [Bool.and_eq_true] at h1
  exact within_size h1.1

set_option maxRecDepth 100000 in
set_option maxHeartbeats 8000000 in
theorem check_kind (n : Nd) (w : World) (a : Value) (hk : n.kind < 0 ∨ 3 < n.kind) :
    Calls Tryd.prog 12 #[a, n.v] w fun e w' => e = .returned (errV ((1 : Nat) : Int)) ∧ Below w.heap.size w w' := by
  rw [errV1]
  obtain ⟨path, kind, da, dn, dc, tgt, su⟩ := n
  unfold Nd.v Nd.cells
  simp only [] at hk ⊢
  have HB : Hid (Below w.heap.size w (w.alloc (.cells #[.string path, .int .i64 kind, .slice da dn dc, .string tgt, .bool su] 36))) := Lib.hid ((Below.refl _ _).alloc (Nat.le_refl _) _)
  have HX : Hid ((w.alloc (.cells #[.string path, .int .i64 kind, .slice da dn dc, .string tgt, .bool su] 36)).heap[w.heap.size]? = some (.cells #[.string path, .int .i64 kind, .slice da dn dc, .string tgt, .bool su] 36)) := Lib.hid (heap_alloc_new _ _)
  have c1 := cell_of_row _ _ 1 _ _ _ HX.out
  simp only [List.getElem?_toArray, List.getElem?_cons_zero, List.getElem?_cons_succ] at c1
  by_cases h0 : kind < 0
  · have e1 : decide (kind < 0) = true := decide_eq_true h0
    clear hk h0
    go_enter Tryd.func12, Tryd.ntmps12
    go_wp2_with fail
    go_ret
    exact ⟨rfl, HB.out⟩
  · have e1 : decide (kind < 0) = false := decide_eq_false h0
    have e2 : decide (3 < kind) = true := decide_eq_true (by omega)
    clear hk h0
    go_enter Tryd.func12, Tryd.ntmps12
    go_wp2_with fail
    go_ret
    exact ⟨rfl, HB.out⟩

set_option maxRecDepth 100000 in
set_option maxHeartbeats 8000000 in
theorem check_name (n : Nd) (w : World) (a : Value) (h0 : 0 ≤ n.kind) (h3 : n.kind ≤ 3) (hn : namedF n = false) (hp : n.path.size ≤ 140737488355328) (ht : n.tgt.size ≤ 140737488355328) :
    Calls Tryd.prog 12 #[a, n.v] w fun e w' => e = .returned (errV ((30 : Nat) : Int)) ∧ Below w.heap.size w w' := by
  rw [errV30]
  have HN : Hid (∀ wx, Calls Tryd.prog 22 #[n.v] wx fun e w' => e = .returned (.bool (namedF n)) ∧ Below wx.heap.size wx w') := Lib.hid (fun wx => named_any n wx hp ht)
  rw [hn] at HN
  obtain ⟨path, kind, da, dn, dc, tgt, su⟩ := n
  unfold Nd.v Nd.cells at *
  simp only [] at h0 h3 HN ⊢
  have HB : Hid (Below w.heap.size w (w.alloc (.cells #[.string path, .int .i64 kind, .slice da dn dc, .string tgt, .bool su] 36))) := Lib.hid ((Below.refl _ _).alloc (Nat.le_refl _) _)
  have HX : Hid ((w.alloc (.cells #[.string path, .int .i64 kind, .slice da dn dc, .string tgt, .bool su] 36)).heap[w.heap.size]? = some (.cells #[.string path, .int .i64 kind, .slice da dn dc, .string tgt, .bool su] 36)) := Lib.hid (heap_alloc_new _ _)
  have HI : Hid ((Tryd.prog.info? 36).map (·.size) = some (#[.string path, .int .i64 kind, .slice da dn dc, .string tgt, .bool su] : Array Value).size) := Lib.hid (by kernel_rfl)
  have c1 := cell_of_row _ _ 1 _ _ _ HX.out
  simp only [List.getElem?_toArray, List.getElem?_cons_zero, List.getElem?_cons_succ] at c1
  have e1 : decide (kind < 0) = false := decide_eq_false (by omega)
  have e2 : decide (3 < kind) = false := decide_eq_false (by omega)
  clear h0 h3 hn hp ht
  go_enter Tryd.func12, Tryd.ntmps12
  go_wp2_with (refine wpList_load_row rfl 36 _ rfl w.heap.size rfl 36 #[.string path, .int .i64 kind, .slice da dn dc, .string tgt, .bool su] (0, 0) _ HX.out Tryd.underlying36 rfl HI.out ?_)
  refine (HN.out _).mono ?_
  rintro e w2 ⟨rfl, hb2⟩
  have B2 := Lib.hid (bstep HB.out hb2)
  clear hb2
  go_wp2_with fail
  go_ret
  exact ⟨rfl, B2.out⟩
end Go.Proofs.YtpblgbegdfdgdaaDoor
