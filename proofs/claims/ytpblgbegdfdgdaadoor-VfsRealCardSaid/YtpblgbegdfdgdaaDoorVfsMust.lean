/- Layer 3: what a node must find; may a node be named so? -/
import Derived.Test.YtpblgbegdfdgdaaDoorVfsFollow
namespace Go.Proofs.YtpblgbegdfdgdaaDoor
open Go.RowKit
set_option linter.unusedVariables false
set_option linter.unusedSimpArgs false

/-- is there what is of a kind? The error's number -/
def mustF (F : ByteArray → Option Ent) (path : ByteArray) (kind : Int) : Nat := match F path with
  | none => 6
  | some e => if e.kind = kind then 0 else 16
theorem errV0z : errV ((0 : Nat) : Int) = .nilIface := rfl

set_option maxRecDepth 100000 in
set_option maxHeartbeats 8000000 in
theorem must_any (tb g c : Nat) (F : ByteArray → Option Ent) (path : ByteArray) (kind : Int) (w : World) (h : TreeAt w tb g c F) (hp : path.size ≤ 1048576) :
    Calls Tryd.prog 23 #[.pointer (some ⟨tb, 0, none⟩), .string path, .int .i64 kind] w fun e w' => e = .returned (errV ((mustF F path kind : Nat) : Int)) ∧ Below w.heap.size w w' := by
  have ht0 : w.cell? ⟨tb, 0, none⟩ = some (.map (some g)) := by
    have := cell_of_row _ _ 0 _ _ _ h.box
    simpa using this
  have hl2 := h.map.look_ok (T := 50) (E := 49) Tryd.underlying9 Tryd.underlying50 (ent_zeroV w) (k := path) (by unfold maxLen; omega)
  obtain ⟨e2, he2⟩ : ∃ e2, (F path).getD Ent.zero = e2 := ⟨_, rfl⟩
  rw [he2] at hl2
  have HZ : Hid ((w.alloc (.cells #[.pointer none, .int .i64 0, .string ⟨#[]⟩] 49)).heap[w.heap.size]? = some (.cells #[.pointer none, .int .i64 0, .string ⟨#[]⟩] 49)) := Lib.hid (heap_alloc_new _ _)
  have HIE : Hid ((Tryd.prog.info? 49).map (·.size) = some (#[ptrV e2.sh, .int .i64 e2.kind, .string e2.to] : Array Value).size) := Lib.hid (by kernel_rfl)
  have HOE : Hid ((#[ptrV e2.sh, .int .i64 e2.kind, .string e2.to] : Array Value).all (·.oneCell') = true) := Lib.hid (by obtain ⟨s', k', t'⟩ := e2; cases s' <;> simp [ptrV, Value.oneCell'])
  obtain ⟨w8, hw8⟩ : ∃ w8, (w.alloc (.cells #[.pointer none, .int .i64 0, .string ⟨#[]⟩] 49)).setRow w.heap.size #[ptrV e2.sh, .int .i64 e2.kind, .string e2.to] = w8 := ⟨_, rfl⟩
  have HW8 := Lib.hid hw8
  have hx8 : w8.heap[w.heap.size]? = some (.cells #[ptrV e2.sh, .int .i64 e2.kind, .string e2.to] 49) := by rw [← hw8]; exact setRow_heap _ _ _ _ _ _ HZ.out
  have B8 : Hid (Below w.heap.size w w8) := Lib.hid (by
    rw [← hw8]
    have h := (Below.refl w.heap.size w).alloc (Nat.le_refl _) (.cells #[.pointer none, .int .i64 0, .string ⟨#[]⟩] 49)
    exact ⟨h.os, h.tape, h.output, by rw [setRow_size]; exact h.size, fun k hk => (setRow_other _ _ _ _ (by omega)).trans (h.block k hk)⟩)
  have d1 : w8.cell? ⟨w.heap.size, 1, none⟩ = some (.int .i64 e2.kind) := by rw [cell_of_row _ _ 1 _ _ _ hx8]; rfl
  unfold Ent.v at hl2
  clear hw8 hx8 h
  cases hfx : F path with
  | none =>
    have hm : mustF F path kind = 6 := by unfold mustF; rw [hfx]
    rw [hm, errV6]
    rw [hfx] at hl2
    clear hm hfx he2
    go_enter Tryd.func23, Tryd.ntmps23
    go_wp2_with (refine wpList_store_row rfl 49 _ _ rfl w.heap.size #[ptrV e2.sh, .int .i64 e2.kind, .string e2.to] rfl rfl 49 _ HZ.out HIE.out rfl HOE.out ?_; rw [HW8.out])
    go_ret
    exact ⟨rfl, B8.out⟩
  | some e3 =>
    obtain rfl : e3 = e2 := by rw [hfx] at he2; exact he2
    rw [hfx] at hl2
    by_cases hk : e3.kind = kind
    · have hm : mustF F path kind = 0 := by unfold mustF; rw [hfx]; exact if_pos hk
      rw [hm, errV0z]
      have hk4 : (e3.kind != kind) = false := by rw [hk]; simp
      clear hm hfx he2 hk
      go_enter Tryd.func23, Tryd.ntmps23
      go_wp2_with (refine wpList_store_row rfl 49 _ _ rfl w.heap.size #[ptrV e3.sh, .int .i64 e3.kind, .string e3.to] rfl rfl 49 _ HZ.out HIE.out rfl HOE.out ?_; rw [HW8.out])
      go_ret
      exact ⟨rfl, B8.out⟩
    · have hm : mustF F path kind = 16 := by unfold mustF; rw [hfx]; exact if_neg hk
      rw [hm, errV16]
      have hk4 : (e3.kind != kind) = true := by rw [bne_iff_ne]; exact hk
      clear hm hfx he2 hk
      go_enter Tryd.func23, Tryd.ntmps23
      go_wp2_with (refine wpList_store_row rfl 49 _ _ rfl w.heap.size #[ptrV e3.sh, .int .i64 e3.kind, .string e3.to] rfl rfl 49 _ HZ.out HIE.out rfl HOE.out ?_; rw [HW8.out])
      go_ret
      exact ⟨rfl, B8.out⟩
end Go.Proofs.YtpblgbegdfdgdaaDoor
