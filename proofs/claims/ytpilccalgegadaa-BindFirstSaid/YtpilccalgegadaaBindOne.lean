/- Layer 17, the examples at the head of the statements: an object of one symbol. -/
import Derived.Test.YtpilccalgegadaaBindF
import Derived.BigQuiet
import Derived.WalkMore
import Derived.Deep.LoopGhost
import Derived.StillTailTactics
import Derived.Test.YtpilccalgegadaaHashFirst
import Derived.Test.YtpilccalgegadaaOwnPut
import Derived.Deep.DeepCutAuto
namespace Go.Proofs.Ytpilccalgegadaa
open Go.RowKit
set_option linter.unusedVariables false
set_option linter.unusedSimpArgs false

/-- the dynamic section of the example -/
def DB : Array Value := #[.slice none 0 0, .int .u64 0, .int .u64 0, .int .u64 256, .int .u64 0, .int .u64 0, .int .u64 0, .int .u64 0, .int .u64 0, .int .u64 0, .int .u64 0, .int .u64 0, .int .u64 0, .int .u64 0, .bool false, .bool false, .bool false, .int .u64 0, .int .u64 0, .int .u64 0, .int .u64 0, .int .u64 0, .int .u64 0, .int .u64 0, .int .u64 0, .int .u64 0, .int .u64 0, .int .u64 0, .int .u64 0, .int .u64 0, .int .u64 0, .int .u64 0, .bool false, .bool false, .bool false, .bool false, .bool false]
/-- the example's object as a value -/
def OC (pB : Nat) (sy : Value) (bB : Nat) (has : Bool) (wa : Option Addr) (wl wc : Nat) (da : Option Addr) (dl dc : Nat) : Array Value :=
  #[.int .i64 0, .int .u64 0, .slice (some ⟨pB, 0, none⟩) 1 1, .bool false, .slice none 0 0, .int .u64 0, .int .u64 0, .int .u64 256, .int .u64 0, .int .u64 0, .int .u64 0, .int .u64 0, .int .u64 0, .int .u64 0, .int .u64 0, .int .u64 0, .int .u64 0, .int .u64 0, .bool false, .bool false, .bool false, .int .u64 0, .int .u64 0, .int .u64 0, .int .u64 0, .int .u64 0, .int .u64 0, .int .u64 0, .int .u64 0, .int .u64 0, .int .u64 0, .int .u64 0, .int .u64 0, .int .u64 0, .int .u64 0, .int .u64 0, .bool false, .bool false, .bool false, .bool false, .bool false, .string ⟨#[]⟩, .string ⟨#[]⟩, .string ⟨#[]⟩, .slice none 0 0, sy, .bool has, .slice wa wl wc, .slice da dl dc, .slice none 0 0, .slice none 0 0, .slice none 0 0, .slice none 0 0, .slice (some ⟨bB, 0, none⟩) 24 24]

theorem oc_one (pB : Nat) (sy : Value) (bB : Nat) (has : Bool) (wa : Option Addr) (wl wc : Nat) (da : Option Addr) (dl dc : Nat) (hs : sy.oneCell' = true) : (OC pB sy bB has wa wl wc da dl dc).all (·.oneCell') = true := by
  simp [OC, Value.oneCell'] at hs ⊢
  exact hs
theorem wp_build_as {P : Program} {o : Oper} {a : Act} {w : World} {K : Act → World → Prop} {Q : Exit → Act → World → Prop} (t : TypeId) (parts : Array (Nat × Operand)) (ho : o.op = .build t parts)
    (vals : List (Nat × Value)) (cells : Array Value) (hv : (parts.map fun (i, x) => (i, a.eval x)).toList = vals) (hb : P.built t vals = some cells) (h : K (a.put o.dst (.agg cells)) w) : o.wp P a w K Q := by
  subst hv
  exact wp_build t parts ho (by rw [hb]; rfl) (by rw [hb]; exact h)
def zero24b : Array Value := #[.int .u8 0, .int .u8 0, .int .u8 0, .int .u8 0, .int .u8 0, .int .u8 0, .int .u8 0, .int .u8 0, .int .u8 0, .int .u8 0, .int .u8 0, .int .u8 0, .int .u8 0, .int .u8 0, .int .u8 0, .int .u8 0, .int .u8 0, .int .u8 0, .int .u8 0, .int .u8 0, .int .u8 0, .int .u8 0, .int .u8 0, .int .u8 0]
theorem make24b (w : World) : (Instr.makeSlice 53 (.int .i64 24) (.int .i64 24)).run Try.prog w = .ok (.slice (some ⟨w.heap.size, 0, none⟩) 24 24) (w.alloc (.cells zero24b 5)) := by
  have F : IntSlice Try.prog 53 5 .u8 1 := ⟨Try.underlying53, by kernel_rfl⟩
  obtain ⟨i, hi, hz0, hz1, hz2⟩ := info_parts F.2
  rw [run_make w 53 5 i (.int .u8 0) Try.underlying53 hi hz0 .i64 .i64 24 24 (by decide) (by decide) (by rw [hz2]; decide) (by decide), hz1]
  have : madeCells (Value.int IntKind.u8 0).cells (Int.toNat 24 * 1) = zero24b := by
    apply Array.ext'
    have := made_rows (z := [Value.int .u8 0]) (n := 24) (sz := 1) rfl (by omega)
    exact this.trans rfl
  rw [this]
  rfl
theorem db_built : Try.prog.built 47 [(3, .int .u64 256)] = some DB := by kernel_rfl
theorem ob_built (pB bB : Nat) : Try.prog.built 55 [(12, .slice (some ⟨bB, 0, none⟩) 24 24), (0, .agg #[.int .i64 0, .int .u64 0, .slice (some ⟨pB, 0, none⟩) 1 1]), (2, .agg DB)] = some (OC pB (.slice none 0 0) bB false none 0 0 none 0 0) := by kernel_rfl

set_option maxRecDepth 100000 in
set_option maxHeartbeats 16000000 in
theorem one_any (wa : Option Addr) (wl wc : Nat) (da : Option Addr) (dl dc : Nat) (has : Bool) (w : World) (hhas : has = decide (¬ wa = none)) :
    Calls Try.prog 8 #[.slice wa wl wc, .slice da dl dc] w fun e w' => ∃ pB sB bB, e = .returned (.agg (OC pB (.slice (some ⟨sB, 0, none⟩) 2 2) bB has wa wl wc da dl dc)) ∧ Below w.heap.size w w' ∧ w'.heap[bB]? = some (.cells #[.int .u8 1, .int .u8 0, .int .u8 0, .int .u8 0, .int .u8 2, .int .u8 0, .int .u8 0, .int .u8 0, .int .u8 1, .int .u8 0, .int .u8 0, .int .u8 0, .int .u8 0, .int .u8 0, .int .u8 0, .int .u8 0, .int .u8 0, .int .u8 0, .int .u8 0, .int .u8 0, .int .u8 0, .int .u8 0, .int .u8 0, .int .u8 0] 5) ∧ w'.heap[pB]? = some (.cells #[.int .u32 1, .int .u32 0, .int .u64 0, .int .u64 256, .int .u64 24, .int .u64 0, .int .u64 0] 68) ∧ w'.heap[sB]? = some (.cells #[.string ⟨#[]⟩, .int .i64 0, .int .i64 0, .int .i64 0, .int .i64 0, .int .u64 0, .int .u64 0, .string ⟨#[102]⟩, .int .i64 1, .int .i64 2, .int .i64 0, .int .i64 7, .int .u64 16, .int .u64 0] 62) := by
  obtain ⟨D0, hD0⟩ : ∃ D0, DB = D0 := ⟨_, rfl⟩
  have HDB : Hid (Try.prog.built 47 [(3, .int .u64 256)] = some D0) := Lib.hid (by rw [← hD0]; exact db_built)
  have HOB := Lib.hid ob_built
  rw [hD0] at HOB
  have HD0 := Lib.hid hD0
  clear hD0
  have hZ0 : (w.alloc (.cells #[.int .i64 0, .int .u64 0, .slice none 0 0, .bool false, .slice none 0 0, .int .u64 0, .int .u64 0, .int .u64 0, .int .u64 0, .int .u64 0, .int .u64 0, .int .u64 0, .int .u64 0, .int .u64 0, .int .u64 0, .int .u64 0, .int .u64 0, .int .u64 0, .bool false, .bool false, .bool false, .int .u64 0, .int .u64 0, .int .u64 0, .int .u64 0, .int .u64 0, .int .u64 0, .int .u64 0, .int .u64 0, .int .u64 0, .int .u64 0, .int .u64 0, .int .u64 0, .int .u64 0, .int .u64 0, .int .u64 0, .bool false, .bool false, .bool false, .bool false, .bool false, .string ⟨#[]⟩, .string ⟨#[]⟩, .string ⟨#[]⟩, .slice none 0 0, .slice none 0 0, .bool false, .slice none 0 0, .slice none 0 0, .slice none 0 0, .slice none 0 0, .slice none 0 0, .slice none 0 0, .slice none 0 0] 55)).heap[w.heap.size]? = some (.cells #[.int .i64 0, .int .u64 0, .slice none 0 0, .bool false, .slice none 0 0, .int .u64 0, .int .u64 0, .int .u64 0, .int .u64 0, .int .u64 0, .int .u64 0, .int .u64 0, .int .u64 0, .int .u64 0, .int .u64 0, .int .u64 0, .int .u64 0, .int .u64 0, .bool false, .bool false, .bool false, .int .u64 0, .int .u64 0, .int .u64 0, .int .u64 0, .int .u64 0, .int .u64 0, .int .u64 0, .int .u64 0, .int .u64 0, .int .u64 0, .int .u64 0, .int .u64 0, .int .u64 0, .int .u64 0, .int .u64 0, .bool false, .bool false, .bool false, .bool false, .bool false, .string ⟨#[]⟩, .string ⟨#[]⟩, .string ⟨#[]⟩, .slice none 0 0, .slice none 0 0, .bool false, .slice none 0 0, .slice none 0 0, .slice none 0 0, .slice none 0 0, .slice none 0 0, .slice none 0 0, .slice none 0 0] 55) := heap_alloc_new _ _
  have hS0 : (w.alloc (.cells #[.int .i64 0, .int .u64 0, .slice none 0 0, .bool false, .slice none 0 0, .int .u64 0, .int .u64 0, .int .u64 0, .int .u64 0, .int .u64 0, .int .u64 0, .int .u64 0, .int .u64 0, .int .u64 0, .int .u64 0, .int .u64 0, .int .u64 0, .int .u64 0, .bool false, .bool false, .bool false, .int .u64 0, .int .u64 0, .int .u64 0, .int .u64 0, .int .u64 0, .int .u64 0, .int .u64 0, .int .u64 0, .int .u64 0, .int .u64 0, .int .u64 0, .int .u64 0, .int .u64 0, .int .u64 0, .int .u64 0, .bool false, .bool false, .bool false, .bool false, .bool false, .string ⟨#[]⟩, .string ⟨#[]⟩, .string ⟨#[]⟩, .slice none 0 0, .slice none 0 0, .bool false, .slice none 0 0, .slice none 0 0, .slice none 0 0, .slice none 0 0, .slice none 0 0, .slice none 0 0, .slice none 0 0] 55)).heap.size = w.heap.size + 1 := by simp
  have hB0 : Below w.heap.size w (w.alloc (.cells #[.int .i64 0, .int .u64 0, .slice none 0 0, .bool false, .slice none 0 0, .int .u64 0, .int .u64 0, .int .u64 0, .int .u64 0, .int .u64 0, .int .u64 0, .int .u64 0, .int .u64 0, .int .u64 0, .int .u64 0, .int .u64 0, .int .u64 0, .int .u64 0, .bool false, .bool false, .bool false, .int .u64 0, .int .u64 0, .int .u64 0, .int .u64 0, .int .u64 0, .int .u64 0, .int .u64 0, .int .u64 0, .int .u64 0, .int .u64 0, .int .u64 0, .int .u64 0, .int .u64 0, .int .u64 0, .int .u64 0, .bool false, .bool false, .bool false, .bool false, .bool false, .string ⟨#[]⟩, .string ⟨#[]⟩, .string ⟨#[]⟩, .slice none 0 0, .slice none 0 0, .bool false, .slice none 0 0, .slice none 0 0, .slice none 0 0, .slice none 0 0, .slice none 0 0, .slice none 0 0, .slice none 0 0] 55)) := (Below.refl _ _).alloc (Nat.le_refl _) _
  have HZ0 := Lib.hid hZ0
  have HS0 := Lib.hid hS0
  have HB0 := Lib.hid hB0
  clear hZ0 hS0 hB0
  go_enter Try.func8, Try.ntmps8
  go_upto_region 1 with fail
  generalize (w.alloc (.cells #[.int .i64 0, .int .u64 0, .slice none 0 0, .bool false, .slice none 0 0, .int .u64 0, .int .u64 0, .int .u64 0, .int .u64 0, .int .u64 0, .int .u64 0, .int .u64 0, .int .u64 0, .int .u64 0, .int .u64 0, .int .u64 0, .int .u64 0, .int .u64 0, .bool false, .bool false, .bool false, .int .u64 0, .int .u64 0, .int .u64 0, .int .u64 0, .int .u64 0, .int .u64 0, .int .u64 0, .int .u64 0, .int .u64 0, .int .u64 0, .int .u64 0, .int .u64 0, .int .u64 0, .int .u64 0, .int .u64 0, .bool false, .bool false, .bool false, .bool false, .bool false, .string ⟨#[]⟩, .string ⟨#[]⟩, .string ⟨#[]⟩, .slice none 0 0, .slice none 0 0, .bool false, .slice none 0 0, .slice none 0 0, .slice none 0 0, .slice none 0 0, .slice none 0 0, .slice none 0 0, .slice none 0 0] 55)) = w0 at *
  have hmk := make24b w0
  unfold zero24b at hmk
  go_upto_region 5 with fail
  clear hmk
  have hB1 : (w0.alloc (.cells #[.int .u8 1, .int .u8 0, .int .u8 0, .int .u8 0, .int .u8 2, .int .u8 0, .int .u8 0, .int .u8 0, .int .u8 1, .int .u8 0, .int .u8 0, .int .u8 0, .int .u8 0, .int .u8 0, .int .u8 0, .int .u8 0, .int .u8 0, .int .u8 0, .int .u8 0, .int .u8 0, .int .u8 0, .int .u8 0, .int .u8 0, .int .u8 0] 5)).heap[w0.heap.size]? = some (.cells #[.int .u8 1, .int .u8 0, .int .u8 0, .int .u8 0, .int .u8 2, .int .u8 0, .int .u8 0, .int .u8 0, .int .u8 1, .int .u8 0, .int .u8 0, .int .u8 0, .int .u8 0, .int .u8 0, .int .u8 0, .int .u8 0, .int .u8 0, .int .u8 0, .int .u8 0, .int .u8 0, .int .u8 0, .int .u8 0, .int .u8 0, .int .u8 0] 5) := heap_alloc_new _ _
  have hS1 : (w0.alloc (.cells #[.int .u8 1, .int .u8 0, .int .u8 0, .int .u8 0, .int .u8 2, .int .u8 0, .int .u8 0, .int .u8 0, .int .u8 1, .int .u8 0, .int .u8 0, .int .u8 0, .int .u8 0, .int .u8 0, .int .u8 0, .int .u8 0, .int .u8 0, .int .u8 0, .int .u8 0, .int .u8 0, .int .u8 0, .int .u8 0, .int .u8 0, .int .u8 0] 5)).heap.size = w0.heap.size + 1 := by simp
  have hL1 : Below w0.heap.size w0 (w0.alloc (.cells #[.int .u8 1, .int .u8 0, .int .u8 0, .int .u8 0, .int .u8 2, .int .u8 0, .int .u8 0, .int .u8 0, .int .u8 1, .int .u8 0, .int .u8 0, .int .u8 0, .int .u8 0, .int .u8 0, .int .u8 0, .int .u8 0, .int .u8 0, .int .u8 0, .int .u8 0, .int .u8 0, .int .u8 0, .int .u8 0, .int .u8 0, .int .u8 0] 5)) := (Below.refl _ _).alloc (Nat.le_refl _) _
  have HB1 := Lib.hid hB1
  have HS1 := Lib.hid hS1
  have HL1 := Lib.hid hL1
  clear hB1 hS1 hL1
  generalize (w0.alloc (.cells #[.int .u8 1, .int .u8 0, .int .u8 0, .int .u8 0, .int .u8 2, .int .u8 0, .int .u8 0, .int .u8 0, .int .u8 1, .int .u8 0, .int .u8 0, .int .u8 0, .int .u8 0, .int .u8 0, .int .u8 0, .int .u8 0, .int .u8 0, .int .u8 0, .int .u8 0, .int .u8 0, .int .u8 0, .int .u8 0, .int .u8 0, .int .u8 0] 5)) = w1 at *
  generalize w0.heap.size = bB at *
  obtain ⟨pB, hpB⟩ : ∃ pB, w1.heap.size = pB := ⟨_, rfl⟩
  have HPB := Lib.hid hpB
  obtain ⟨C0, hC0⟩ : ∃ C0, OC w1.heap.size (.slice none 0 0) bB false none 0 0 none 0 0 = C0 := ⟨_, rfl⟩
  have hob := HOB.out w1.heap.size bB
  rw [hC0] at hob
  have h54 : C0.size = 54 := by rw [← hC0]; rfl
  have hone : C0.all (·.oneCell') = true := by rw [← hC0]; exact oc_one _ _ _ _ _ _ _ _ _ _ rfl
  have c45 : C0[45]? = some (.slice none 0 0) := by rw [← hC0]; rfl
  have c46 : C0[46]? = some (.bool false) := by rw [← hC0]; rfl
  have c47 : C0[47]? = some (.slice none 0 0) := by rw [← hC0]; rfl
  have c48 : C0[48]? = some (.slice none 0 0) := by rw [← hC0]; rfl
  have c49 : C0[49]? = some (.slice none 0 0) := by rw [← hC0]; rfl
  have HC0 := Lib.hid hC0
  have hI : (Try.prog.info? 55).map (·.size) = some C0.size := by rw [h54]; kernel_rfl
  have hsc : (storeCells ⟨w1.heap.size + 1, 0, none⟩ C0.toList).run Try.prog ((w1.alloc (.cells #[.int .u32 1, .int .u32 0, .int .u64 0, .int .u64 256, .int .u64 24, .int .u64 0, .int .u64 0] 68)).alloc (.cells #[.int .i64 0, .int .u64 0, .slice none 0 0, .bool false, .slice none 0 0, .int .u64 0, .int .u64 0, .int .u64 0, .int .u64 0, .int .u64 0, .int .u64 0, .int .u64 0, .int .u64 0, .int .u64 0, .int .u64 0, .int .u64 0, .int .u64 0, .int .u64 0, .bool false, .bool false, .bool false, .int .u64 0, .int .u64 0, .int .u64 0, .int .u64 0, .int .u64 0, .int .u64 0, .int .u64 0, .int .u64 0, .int .u64 0, .int .u64 0, .int .u64 0, .int .u64 0, .int .u64 0, .int .u64 0, .int .u64 0, .bool false, .bool false, .bool false, .bool false, .bool false, .string ⟨#[]⟩, .string ⟨#[]⟩, .string ⟨#[]⟩, .slice none 0 0, .slice none 0 0, .bool false, .slice none 0 0, .slice none 0 0, .slice none 0 0, .slice none 0 0, .slice none 0 0, .slice none 0 0, .slice none 0 0] 55)) = .ok () ((w1.alloc (.cells #[.int .u32 1, .int .u32 0, .int .u64 0, .int .u64 256, .int .u64 24, .int .u64 0, .int .u64 0] 68)).alloc (.cells C0 55)) := by
    have h := run_storeCells_new (P := Try.prog) (w1.alloc (.cells #[.int .u32 1, .int .u32 0, .int .u64 0, .int .u64 256, .int .u64 24, .int .u64 0, .int .u64 0] 68)) 55 #[.int .i64 0, .int .u64 0, .slice none 0 0, .bool false, .slice none 0 0, .int .u64 0, .int .u64 0, .int .u64 0, .int .u64 0, .int .u64 0, .int .u64 0, .int .u64 0, .int .u64 0, .int .u64 0, .int .u64 0, .int .u64 0, .int .u64 0, .int .u64 0, .bool false, .bool false, .bool false, .int .u64 0, .int .u64 0, .int .u64 0, .int .u64 0, .int .u64 0, .int .u64 0, .int .u64 0, .int .u64 0, .int .u64 0, .int .u64 0, .int .u64 0, .int .u64 0, .int .u64 0, .int .u64 0, .int .u64 0, .bool false, .bool false, .bool false, .bool false, .bool false, .string ⟨#[]⟩, .string ⟨#[]⟩, .string ⟨#[]⟩, .slice none 0 0, .slice none 0 0, .bool false, .slice none 0 0, .slice none 0 0, .slice none 0 0, .slice none 0 0, .slice none 0 0, .slice none 0 0, .slice none 0 0] C0 hI (by rw [h54]; rfl) hone
    rw [show (w1.alloc (.cells #[.int .u32 1, .int .u32 0, .int .u64 0, .int .u64 256, .int .u64 24, .int .u64 0, .int .u64 0] 68)).heap.size = w1.heap.size + 1 by simp] at h
    exact h
  have hdb := HDB.out
  clear hC0 hI hone hpB
  go_upto_region 6 with (first
    | (refine wpList_plain rfl fun _ hK => wp_build_as 47 _ rfl [(3, .int .u64 256)] D0 (by rw [Array.toList_map]; rfl) hdb (hK _ _ ?_))
    | (refine wpList_plain rfl fun _ hK => wp_build_as 55 _ rfl [(12, .slice (some ⟨bB, 0, none⟩) 24 24), (0, .agg #[.int .i64 0, .int .u64 0, .slice (some ⟨w1.heap.size, 0, none⟩) 1 1]), (2, .agg D0)] C0 (by rw [Array.toList_map]; rfl) hob (hK _ _ ?_)))
  clear hsc hob hdb
  have hO2 : ((w1.alloc (.cells #[.int .u32 1, .int .u32 0, .int .u64 0, .int .u64 256, .int .u64 24, .int .u64 0, .int .u64 0] 68)).alloc (.cells C0 55)).heap[w1.heap.size + 1]? = some (.cells C0 55) := by
    have := heap_alloc_new (w1.alloc (.cells #[.int .u32 1, .int .u32 0, .int .u64 0, .int .u64 256, .int .u64 24, .int .u64 0, .int .u64 0] 68)) (.cells C0 55)
    simpa using this
  have hP2 : ((w1.alloc (.cells #[.int .u32 1, .int .u32 0, .int .u64 0, .int .u64 256, .int .u64 24, .int .u64 0, .int .u64 0] 68)).alloc (.cells C0 55)).heap[w1.heap.size]? = some (.cells #[.int .u32 1, .int .u32 0, .int .u64 0, .int .u64 256, .int .u64 24, .int .u64 0, .int .u64 0] 68) := (heap_alloc_old _ _ (by simp)).trans (heap_alloc_new _ _)
  have hS2 : ((w1.alloc (.cells #[.int .u32 1, .int .u32 0, .int .u64 0, .int .u64 256, .int .u64 24, .int .u64 0, .int .u64 0] 68)).alloc (.cells C0 55)).heap.size = w1.heap.size + 2 := by simp
  have hL2 : Below w1.heap.size w1 ((w1.alloc (.cells #[.int .u32 1, .int .u32 0, .int .u64 0, .int .u64 256, .int .u64 24, .int .u64 0, .int .u64 0] 68)).alloc (.cells C0 55)) := ((Below.refl _ _).alloc (Nat.le_refl _) _).alloc (by simp) _
  have HO2 := Lib.hid hO2
  have HP2 := Lib.hid hP2
  have HS2 := Lib.hid hS2
  have HL2 := Lib.hid hL2
  clear hO2 hP2 hS2 hL2
  generalize ((w1.alloc (.cells #[.int .u32 1, .int .u32 0, .int .u64 0, .int .u64 256, .int .u64 24, .int .u64 0, .int .u64 0] 68)).alloc (.cells C0 55)) = w2 at *
  obtain ⟨ob, hob⟩ : ∃ ob, w1.heap.size + 1 = ob := ⟨_, rfl⟩
  rw [hob] at HO2 ⊢
  have HOB2 := Lib.hid hob
  clear hob
  have E3 : (w2.alloc (.cells #[.string ⟨#[]⟩, .int .i64 0, .int .i64 0, .int .i64 0, .int .i64 0, .int .u64 0, .int .u64 0, .string ⟨#[102]⟩, .int .i64 1, .int .i64 2, .int .i64 0, .int .i64 7, .int .u64 16, .int .u64 0] 62)).heap[ob]? = some (.cells C0 55) := (heap_alloc_old _ _ (lt_of_block HO2.out)).trans HO2.out
  have v45 : (w2.alloc (.cells #[.string ⟨#[]⟩, .int .i64 0, .int .i64 0, .int .i64 0, .int .i64 0, .int .u64 0, .int .u64 0, .string ⟨#[102]⟩, .int .i64 1, .int .i64 2, .int .i64 0, .int .i64 7, .int .u64 16, .int .u64 0] 62)).cell? ⟨ob, 45, none⟩ = some (.slice none 0 0) := by rw [cell_of_row _ _ 45 _ _ _ E3]; exact c45
  have f45 := frozen_of_row _ ob 45 _ _ E3
  go_upto_region 7 with fail
  have hr1 : w.heap.size < bB := by have := HS0.out; omega
  have hbp : bB < w1.heap.size := by have := HS1.out; omega
  have hpo : w1.heap.size < ob := by have := HOB2.out; omega
  have hos : ob < w2.heap.size := by have := HS2.out; have := HOB2.out; omega
  have E4 : Hid (((w2.alloc (.cells #[.string ⟨#[]⟩, .int .i64 0, .int .i64 0, .int .i64 0, .int .i64 0, .int .u64 0, .int .u64 0, .string ⟨#[102]⟩, .int .i64 1, .int .i64 2, .int .i64 0, .int .i64 7, .int .u64 16, .int .u64 0] 62)).setCell ⟨ob, 45, none⟩ (.slice (some ⟨w2.heap.size, 0, none⟩) 2 2)).heap[ob]? = some (.cells (C0.setIfInBounds 45 (.slice (some ⟨w2.heap.size, 0, none⟩) 2 2)) 55)) := Lib.hid (heap_setCell_same _ ob 45 _ _ _ E3)
  have HO : Hid (∀ j, ¬ j = ob → j < w2.heap.size → ((w2.alloc (.cells #[.string ⟨#[]⟩, .int .i64 0, .int .i64 0, .int .i64 0, .int .i64 0, .int .u64 0, .int .u64 0, .string ⟨#[102]⟩, .int .i64 1, .int .i64 2, .int .i64 0, .int .i64 7, .int .u64 16, .int .u64 0] 62)).setCell ⟨ob, 45, none⟩ (.slice (some ⟨w2.heap.size, 0, none⟩) 2 2)).heap[j]? = w2.heap[j]?) := Lib.hid (fun j hj hl => (heap_setCell_other _ _ _ _ hj).trans (heap_alloc_old _ _ hl))
  have HSY : Hid (((w2.alloc (.cells #[.string ⟨#[]⟩, .int .i64 0, .int .i64 0, .int .i64 0, .int .i64 0, .int .u64 0, .int .u64 0, .string ⟨#[102]⟩, .int .i64 1, .int .i64 2, .int .i64 0, .int .i64 7, .int .u64 16, .int .u64 0] 62)).setCell ⟨ob, 45, none⟩ (.slice (some ⟨w2.heap.size, 0, none⟩) 2 2)).heap[w2.heap.size]? = some (.cells #[.string ⟨#[]⟩, .int .i64 0, .int .i64 0, .int .i64 0, .int .i64 0, .int .u64 0, .int .u64 0, .string ⟨#[102]⟩, .int .i64 1, .int .i64 2, .int .i64 0, .int .i64 7, .int .u64 16, .int .u64 0] 62)) := Lib.hid ((heap_setCell_other _ _ _ _ (by show ¬ w2.heap.size = ob; omega)).trans (heap_alloc_new _ _))
  have HBZ : Hid (((w2.alloc (.cells #[.string ⟨#[]⟩, .int .i64 0, .int .i64 0, .int .i64 0, .int .i64 0, .int .u64 0, .int .u64 0, .string ⟨#[102]⟩, .int .i64 1, .int .i64 2, .int .i64 0, .int .i64 7, .int .u64 16, .int .u64 0] 62)).setCell ⟨ob, 45, none⟩ (.slice (some ⟨w2.heap.size, 0, none⟩) 2 2)).heap[bB]? = some (.cells #[.int .u8 1, .int .u8 0, .int .u8 0, .int .u8 0, .int .u8 2, .int .u8 0, .int .u8 0, .int .u8 0, .int .u8 1, .int .u8 0, .int .u8 0, .int .u8 0, .int .u8 0, .int .u8 0, .int .u8 0, .int .u8 0, .int .u8 0, .int .u8 0, .int .u8 0, .int .u8 0, .int .u8 0, .int .u8 0, .int .u8 0, .int .u8 0] 5)) := Lib.hid (by rw [HO.out bB (by omega) (by omega), HL2.out.block bB (by omega)]; exact HB1.out)
  have HPZ : Hid (((w2.alloc (.cells #[.string ⟨#[]⟩, .int .i64 0, .int .i64 0, .int .i64 0, .int .i64 0, .int .u64 0, .int .u64 0, .string ⟨#[102]⟩, .int .i64 1, .int .i64 2, .int .i64 0, .int .i64 7, .int .u64 16, .int .u64 0] 62)).setCell ⟨ob, 45, none⟩ (.slice (some ⟨w2.heap.size, 0, none⟩) 2 2)).heap[w1.heap.size]? = some (.cells #[.int .u32 1, .int .u32 0, .int .u64 0, .int .u64 256, .int .u64 24, .int .u64 0, .int .u64 0] 68)) := Lib.hid (by rw [HO.out _ (by omega) (by omega)]; exact HP2.out)
  have HZZ : Hid (((w2.alloc (.cells #[.string ⟨#[]⟩, .int .i64 0, .int .i64 0, .int .i64 0, .int .i64 0, .int .u64 0, .int .u64 0, .string ⟨#[102]⟩, .int .i64 1, .int .i64 2, .int .i64 0, .int .i64 7, .int .u64 16, .int .u64 0] 62)).setCell ⟨ob, 45, none⟩ (.slice (some ⟨w2.heap.size, 0, none⟩) 2 2)).heap[w.heap.size]? = some (.cells #[.int .i64 0, .int .u64 0, .slice none 0 0, .bool false, .slice none 0 0, .int .u64 0, .int .u64 0, .int .u64 0, .int .u64 0, .int .u64 0, .int .u64 0, .int .u64 0, .int .u64 0, .int .u64 0, .int .u64 0, .int .u64 0, .int .u64 0, .int .u64 0, .bool false, .bool false, .bool false, .int .u64 0, .int .u64 0, .int .u64 0, .int .u64 0, .int .u64 0, .int .u64 0, .int .u64 0, .int .u64 0, .int .u64 0, .int .u64 0, .int .u64 0, .int .u64 0, .int .u64 0, .int .u64 0, .int .u64 0, .bool false, .bool false, .bool false, .bool false, .bool false, .string ⟨#[]⟩, .string ⟨#[]⟩, .string ⟨#[]⟩, .slice none 0 0, .slice none 0 0, .bool false, .slice none 0 0, .slice none 0 0, .slice none 0 0, .slice none 0 0, .slice none 0 0, .slice none 0 0, .slice none 0 0] 55)) := Lib.hid (by rw [HO.out _ (by omega) (by omega), HL2.out.block _ (by omega), HL1.out.block _ hr1]; exact HZ0.out)
  have HBW : Hid (Below w.heap.size w ((w2.alloc (.cells #[.string ⟨#[]⟩, .int .i64 0, .int .i64 0, .int .i64 0, .int .i64 0, .int .u64 0, .int .u64 0, .string ⟨#[102]⟩, .int .i64 1, .int .i64 2, .int .i64 0, .int .i64 7, .int .u64 16, .int .u64 0] 62)).setCell ⟨ob, 45, none⟩ (.slice (some ⟨w2.heap.size, 0, none⟩) 2 2))) := Lib.hid (by
    have h1 : Below w.heap.size w w1 := HB0.out.trans (HL1.out.mono (by have := HS0.out; omega))
    have h2 : Below w.heap.size w w2 := h1.trans (HL2.out.mono h1.size)
    rw [setCell_eq_setRow _ ob 45 _ _ _ _ E3]
    exact below_setRow (h2.alloc h2.size _) (by omega) _)
  clear E3 v45 f45
  generalize ((w2.alloc (.cells #[.string ⟨#[]⟩, .int .i64 0, .int .i64 0, .int .i64 0, .int .i64 0, .int .u64 0, .int .u64 0, .string ⟨#[102]⟩, .int .i64 1, .int .i64 2, .int .i64 0, .int .i64 7, .int .u64 16, .int .u64 0] 62)).setCell ⟨ob, 45, none⟩ (.slice (some ⟨w2.heap.size, 0, none⟩) 2 2)) = w3 at *
  obtain ⟨r, hr⟩ : ∃ r, w.heap.size = r := ⟨_, rfl⟩
  have HRR := Lib.hid hr
  rw [hr] at HZZ hr1 ⊢
  obtain ⟨sB, hsB⟩ : ∃ sB, w2.heap.size = sB := ⟨_, rfl⟩
  rw [hsB] at E4 HSY hos ⊢
  clear hr hsB
  obtain ⟨C1, hC1⟩ : ∃ C1, C0.setIfInBounds 45 (.slice (some ⟨sB, 0, none⟩) 2 2) = C1 := ⟨_, rfl⟩
  have HC1 := Lib.hid hC1
  rw [hC1] at E4
  have d46 : C1[46]? = some (.bool false) := by rw [← hC1, ← HC0.out]; rfl
  have d47 : C1[47]? = some (.slice none 0 0) := by rw [← hC1, ← HC0.out]; rfl
  have d48 : C1[48]? = some (.slice none 0 0) := by rw [← hC1, ← HC0.out]; rfl
  have d49 : C1[49]? = some (.slice none 0 0) := by rw [← hC1, ← HC0.out]; rfl
  clear hC1 c45 c46 c47 c48 c49 h54
  cases wa with
  | none =>
    obtain rfl : has = false := hhas
    have E5 := heap_setCell_same _ ob 46 _ _ (.bool false) E4.out
    have E6 := heap_setCell_same _ ob 47 _ _ (.slice none wl wc) E5
    have E7 := heap_setCell_same _ ob 48 _ _ (.slice da dl dc) E6
    have E8 := heap_setCell_same _ ob 49 _ _ (.slice none 0 0) E7
    have hCF : (((C1.setIfInBounds 46 (.bool false)).setIfInBounds 47 (.slice none wl wc)).setIfInBounds 48 (.slice da dl dc)).setIfInBounds 49 (.slice none 0 0) = OC w1.heap.size (.slice (some ⟨sB, 0, none⟩) 2 2) bB false none wl wc da dl dc := by rw [← HC1.out, ← HC0.out]; rfl
    have v46 : w3.cell? ⟨ob, 46, none⟩ = some (.bool false) := by rw [cell_of_row _ _ 46 _ _ _ E4.out]; exact d46
    have v47 : (w3.setCell ⟨ob, 46, none⟩ (.bool false)).cell? ⟨ob, 47, none⟩ = some (.slice none 0 0) := by rw [cell_of_row _ _ 47 _ _ _ E5, Array.getElem?_setIfInBounds_ne (by decide)]; exact d47
    have v48 : ((w3.setCell ⟨ob, 46, none⟩ (.bool false)).setCell ⟨ob, 47, none⟩ (.slice none wl wc)).cell? ⟨ob, 48, none⟩ = some (.slice none 0 0) := by rw [cell_of_row _ _ 48 _ _ _ E6, Array.getElem?_setIfInBounds_ne (by decide), Array.getElem?_setIfInBounds_ne (by decide)]; exact d48
    have v49 : (((w3.setCell ⟨ob, 46, none⟩ (.bool false)).setCell ⟨ob, 47, none⟩ (.slice none wl wc)).setCell ⟨ob, 48, none⟩ (.slice da dl dc)).cell? ⟨ob, 49, none⟩ = some (.slice none 0 0) := by rw [cell_of_row _ _ 49 _ _ _ E7, Array.getElem?_setIfInBounds_ne (by decide), Array.getElem?_setIfInBounds_ne (by decide), Array.getElem?_setIfInBounds_ne (by decide)]; exact d49
    have f46 := frozen_of_row w3 ob 46 _ _ E4.out
    have f47 := frozen_of_row (w3.setCell ⟨ob, 46, none⟩ (.bool false)) ob 47 _ _ E5
    have f48 := frozen_of_row ((w3.setCell ⟨ob, 46, none⟩ (.bool false)).setCell ⟨ob, 47, none⟩ (.slice none wl wc)) ob 48 _ _ E6
    have f49 := frozen_of_row (((w3.setCell ⟨ob, 46, none⟩ (.bool false)).setCell ⟨ob, 47, none⟩ (.slice none wl wc)).setCell ⟨ob, 48, none⟩ (.slice da dl dc)) ob 49 _ _ E7
    have HK : Hid (∀ j, ¬ j = ob → ((((w3.setCell ⟨ob, 46, none⟩ (.bool false)).setCell ⟨ob, 47, none⟩ (.slice none wl wc)).setCell ⟨ob, 48, none⟩ (.slice da dl dc)).setCell ⟨ob, 49, none⟩ (.slice none 0 0)).heap[j]? = w3.heap[j]?) := Lib.hid (fun j hj => (heap_setCell_other _ _ _ _ hj).trans ((heap_setCell_other _ _ _ _ hj).trans ((heap_setCell_other _ _ _ _ hj).trans (heap_setCell_other _ _ _ _ hj))))
    rw [hCF] at E8
    have HE8 := Lib.hid E8
    have HBL : Hid (Below r w ((((w3.setCell ⟨ob, 46, none⟩ (.bool false)).setCell ⟨ob, 47, none⟩ (.slice none wl wc)).setCell ⟨ob, 48, none⟩ (.slice da dl dc)).setCell ⟨ob, 49, none⟩ (.slice none 0 0))) := Lib.hid (by
      have hb := HBW.out
      rw [HRR.out] at hb
      rw [setCell_eq_setRow _ ob 49 _ _ _ _ E7, setCell_eq_setRow _ ob 48 _ _ _ _ E6, setCell_eq_setRow _ ob 47 _ _ _ _ E5, setCell_eq_setRow _ ob 46 _ _ _ _ E4.out]
      exact below_setRow (below_setRow (below_setRow (below_setRow hb (by omega) _) (by omega) _) (by omega) _) (by omega) _)
    clear E5 E6 E7 E8
    go_upto_region 8 with fail
    clear v46 v47 v48 v49 f46 f47 f48 f49
    obtain ⟨CF, hCFe⟩ : ∃ CF, OC w1.heap.size (.slice (some ⟨sB, 0, none⟩) 2 2) bB false none wl wc da dl dc = CF := ⟨_, rfl⟩
    have hone : CF.all (·.oneCell') = true := by rw [← hCFe]; exact oc_one _ _ _ _ _ _ _ _ _ _ rfl
    have h54 : CF.size = 54 := by rw [← hCFe]; rfl
    have hI : (Try.prog.info? 55).map (·.size) = some CF.size := by rw [h54]; kernel_rfl
    have HI := Lib.hid hI
    have HON2 := Lib.hid hone
    have hZZ4 : ((((w3.setCell ⟨ob, 46, none⟩ (.bool false)).setCell ⟨ob, 47, none⟩ (.slice none wl wc)).setCell ⟨ob, 48, none⟩ (.slice da dl dc)).setCell ⟨ob, 49, none⟩ (.slice none 0 0)).heap[r]? = some (.cells #[.int .i64 0, .int .u64 0, .slice none 0 0, .bool false, .slice none 0 0, .int .u64 0, .int .u64 0, .int .u64 0, .int .u64 0, .int .u64 0, .int .u64 0, .int .u64 0, .int .u64 0, .int .u64 0, .int .u64 0, .int .u64 0, .int .u64 0, .int .u64 0, .bool false, .bool false, .bool false, .int .u64 0, .int .u64 0, .int .u64 0, .int .u64 0, .int .u64 0, .int .u64 0, .int .u64 0, .int .u64 0, .int .u64 0, .int .u64 0, .int .u64 0, .int .u64 0, .int .u64 0, .int .u64 0, .int .u64 0, .bool false, .bool false, .bool false, .bool false, .bool false, .string ⟨#[]⟩, .string ⟨#[]⟩, .string ⟨#[]⟩, .slice none 0 0, .slice none 0 0, .bool false, .slice none 0 0, .slice none 0 0, .slice none 0 0, .slice none 0 0, .slice none 0 0, .slice none 0 0, .slice none 0 0] 55) := by rw [HK.out r (by omega)]; exact HZZ.out
    have HZ4 := Lib.hid hZZ4
    have hbB4 := (HK.out bB (by omega)).trans HBZ.out
    have hpB4 := (HK.out w1.heap.size (by omega)).trans HPZ.out
    have hsB4 := (HK.out sB (by omega)).trans HSY.out
    have he8 := HE8.out
    rw [hCFe] at he8
    have HE9 := Lib.hid he8
    have HBB4 := Lib.hid hbB4
    have HPB4 := Lib.hid hpB4
    have HSB4 := Lib.hid hsB4
    have HCFE := Lib.hid hCFe
    have H54 := Lib.hid h54
    clear hone h54 hI hZZ4 hbB4 hpB4 hsB4 he8 hCFe hCF
    generalize ((((w3.setCell ⟨ob, 46, none⟩ (.bool false)).setCell ⟨ob, 47, none⟩ (.slice none wl wc)).setCell ⟨ob, 48, none⟩ (.slice da dl dc)).setCell ⟨ob, 49, none⟩ (.slice none 0 0)) = w4 at *
    go_wp2_with (first
      | (refine wpList_load_row rfl 55 _ rfl ob rfl 55 CF (0, 0) _ HE9.out Try.underlying55 rfl HI.out ?_)
      | (refine wpList_store_row rfl 55 _ _ rfl r CF rfl rfl 55 _ HZ4.out HI.out (by rw [H54.out]; rfl) HON2.out ?_))
    refine bodyPost_ret_by (results_cell_row Try.results8 _ _ r 55 CF (0, 0) _ rfl (setRow_heap _ _ _ _ _ _ HZ4.out) Try.underlying55 rfl HI.out) rfl ?_
    refine ⟨w1.heap.size, sB, bB, by rw [HCFE.out], by rw [HRR.out]; exact below_setRow HBL.out (Nat.le_refl _) _, ?_, ?_, ?_⟩
    · rw [setRow_other _ _ _ _ (by omega)]; exact HBB4.out
    · rw [setRow_other _ _ _ _ (by omega)]; exact HPB4.out
    · rw [setRow_other _ _ _ _ (by omega)]; exact HSB4.out
  | some wx =>
    obtain rfl : has = true := hhas
    have E5 := heap_setCell_same _ ob 46 _ _ (.bool true) E4.out
    have E6 := heap_setCell_same _ ob 47 _ _ (.slice (some wx) wl wc) E5
    have E7 := heap_setCell_same _ ob 48 _ _ (.slice da dl dc) E6
    have E8 := heap_setCell_same _ ob 49 _ _ (.slice none 0 0) E7
    have hCF : (((C1.setIfInBounds 46 (.bool true)).setIfInBounds 47 (.slice (some wx) wl wc)).setIfInBounds 48 (.slice da dl dc)).setIfInBounds 49 (.slice none 0 0) = OC w1.heap.size (.slice (some ⟨sB, 0, none⟩) 2 2) bB true (some wx) wl wc da dl dc := by rw [← HC1.out, ← HC0.out]; rfl
    have v46 : w3.cell? ⟨ob, 46, none⟩ = some (.bool false) := by rw [cell_of_row _ _ 46 _ _ _ E4.out]; exact d46
    have v47 : (w3.setCell ⟨ob, 46, none⟩ (.bool true)).cell? ⟨ob, 47, none⟩ = some (.slice none 0 0) := by rw [cell_of_row _ _ 47 _ _ _ E5, Array.getElem?_setIfInBounds_ne (by decide)]; exact d47
    have v48 : ((w3.setCell ⟨ob, 46, none⟩ (.bool true)).setCell ⟨ob, 47, none⟩ (.slice (some wx) wl wc)).cell? ⟨ob, 48, none⟩ = some (.slice none 0 0) := by rw [cell_of_row _ _ 48 _ _ _ E6, Array.getElem?_setIfInBounds_ne (by decide), Array.getElem?_setIfInBounds_ne (by decide)]; exact d48
    have v49 : (((w3.setCell ⟨ob, 46, none⟩ (.bool true)).setCell ⟨ob, 47, none⟩ (.slice (some wx) wl wc)).setCell ⟨ob, 48, none⟩ (.slice da dl dc)).cell? ⟨ob, 49, none⟩ = some (.slice none 0 0) := by rw [cell_of_row _ _ 49 _ _ _ E7, Array.getElem?_setIfInBounds_ne (by decide), Array.getElem?_setIfInBounds_ne (by decide), Array.getElem?_setIfInBounds_ne (by decide)]; exact d49
    have f46 := frozen_of_row w3 ob 46 _ _ E4.out
    have f47 := frozen_of_row (w3.setCell ⟨ob, 46, none⟩ (.bool true)) ob 47 _ _ E5
    have f48 := frozen_of_row ((w3.setCell ⟨ob, 46, none⟩ (.bool true)).setCell ⟨ob, 47, none⟩ (.slice (some wx) wl wc)) ob 48 _ _ E6
    have f49 := frozen_of_row (((w3.setCell ⟨ob, 46, none⟩ (.bool true)).setCell ⟨ob, 47, none⟩ (.slice (some wx) wl wc)).setCell ⟨ob, 48, none⟩ (.slice da dl dc)) ob 49 _ _ E7
    have HK : Hid (∀ j, ¬ j = ob → ((((w3.setCell ⟨ob, 46, none⟩ (.bool true)).setCell ⟨ob, 47, none⟩ (.slice (some wx) wl wc)).setCell ⟨ob, 48, none⟩ (.slice da dl dc)).setCell ⟨ob, 49, none⟩ (.slice none 0 0)).heap[j]? = w3.heap[j]?) := Lib.hid (fun j hj => (heap_setCell_other _ _ _ _ hj).trans ((heap_setCell_other _ _ _ _ hj).trans ((heap_setCell_other _ _ _ _ hj).trans (heap_setCell_other _ _ _ _ hj))))
    rw [hCF] at E8
    have HE8 := Lib.hid E8
    have HBL : Hid (Below r w ((((w3.setCell ⟨ob, 46, none⟩ (.bool true)).setCell ⟨ob, 47, none⟩ (.slice (some wx) wl wc)).setCell ⟨ob, 48, none⟩ (.slice da dl dc)).setCell ⟨ob, 49, none⟩ (.slice none 0 0))) := Lib.hid (by
      have hb := HBW.out
      rw [HRR.out] at hb
      rw [setCell_eq_setRow _ ob 49 _ _ _ _ E7, setCell_eq_setRow _ ob 48 _ _ _ _ E6, setCell_eq_setRow _ ob 47 _ _ _ _ E5, setCell_eq_setRow _ ob 46 _ _ _ _ E4.out]
      exact below_setRow (below_setRow (below_setRow (below_setRow hb (by omega) _) (by omega) _) (by omega) _) (by omega) _)
    clear E5 E6 E7 E8
    go_upto_region 8 with fail
    clear v46 v47 v48 v49 f46 f47 f48 f49
    obtain ⟨CF, hCFe⟩ : ∃ CF, OC w1.heap.size (.slice (some ⟨sB, 0, none⟩) 2 2) bB true (some wx) wl wc da dl dc = CF := ⟨_, rfl⟩
    have hone : CF.all (·.oneCell') = true := by rw [← hCFe]; exact oc_one _ _ _ _ _ _ _ _ _ _ rfl
    have h54 : CF.size = 54 := by rw [← hCFe]; rfl
    have hI : (Try.prog.info? 55).map (·.size) = some CF.size := by rw [h54]; kernel_rfl
    have HI := Lib.hid hI
    have HON2 := Lib.hid hone
    have hZZ4 : ((((w3.setCell ⟨ob, 46, none⟩ (.bool true)).setCell ⟨ob, 47, none⟩ (.slice (some wx) wl wc)).setCell ⟨ob, 48, none⟩ (.slice da dl dc)).setCell ⟨ob, 49, none⟩ (.slice none 0 0)).heap[r]? = some (.cells #[.int .i64 0, .int .u64 0, .slice none 0 0, .bool false, .slice none 0 0, .int .u64 0, .int .u64 0, .int .u64 0, .int .u64 0, .int .u64 0, .int .u64 0, .int .u64 0, .int .u64 0, .int .u64 0, .int .u64 0, .int .u64 0, .int .u64 0, .int .u64 0, .bool false, .bool false, .bool false, .int .u64 0, .int .u64 0, .int .u64 0, .int .u64 0, .int .u64 0, .int .u64 0, .int .u64 0, .int .u64 0, .int .u64 0, .int .u64 0, .int .u64 0, .int .u64 0, .int .u64 0, .int .u64 0, .int .u64 0, .bool false, .bool false, .bool false, .bool false, .bool false, .string ⟨#[]⟩, .string ⟨#[]⟩, .string ⟨#[]⟩, .slice none 0 0, .slice none 0 0, .bool false, .slice none 0 0, .slice none 0 0, .slice none 0 0, .slice none 0 0, .slice none 0 0, .slice none 0 0, .slice none 0 0] 55) := by rw [HK.out r (by omega)]; exact HZZ.out
    have HZ4 := Lib.hid hZZ4
    have hbB4 := (HK.out bB (by omega)).trans HBZ.out
    have hpB4 := (HK.out w1.heap.size (by omega)).trans HPZ.out
    have hsB4 := (HK.out sB (by omega)).trans HSY.out
    have he8 := HE8.out
    rw [hCFe] at he8
    have HE9 := Lib.hid he8
    have HBB4 := Lib.hid hbB4
    have HPB4 := Lib.hid hpB4
    have HSB4 := Lib.hid hsB4
    have HCFE := Lib.hid hCFe
    have H54 := Lib.hid h54
    clear hone h54 hI hZZ4 hbB4 hpB4 hsB4 he8 hCFe hCF
    generalize ((((w3.setCell ⟨ob, 46, none⟩ (.bool true)).setCell ⟨ob, 47, none⟩ (.slice (some wx) wl wc)).setCell ⟨ob, 48, none⟩ (.slice da dl dc)).setCell ⟨ob, 49, none⟩ (.slice none 0 0)) = w4 at *
    go_wp2_with (first
      | (refine wpList_load_row rfl 55 _ rfl ob rfl 55 CF (0, 0) _ HE9.out Try.underlying55 rfl HI.out ?_)
      | (refine wpList_store_row rfl 55 _ _ rfl r CF rfl rfl 55 _ HZ4.out HI.out (by rw [H54.out]; rfl) HON2.out ?_))
    refine bodyPost_ret_by (results_cell_row Try.results8 _ _ r 55 CF (0, 0) _ rfl (setRow_heap _ _ _ _ _ _ HZ4.out) Try.underlying55 rfl HI.out) rfl ?_
    refine ⟨w1.heap.size, sB, bB, by rw [HCFE.out], by rw [HRR.out]; exact below_setRow HBL.out (Nat.le_refl _) _, ?_, ?_, ?_⟩
    · rw [setRow_other _ _ _ _ (by omega)]; exact HBB4.out
    · rw [setRow_other _ _ _ _ (by omega)]; exact HPB4.out
    · rw [setRow_other _ _ _ _ (by omega)]; exact HSB4.out
end Go.Proofs.Ytpilccalgegadaa
