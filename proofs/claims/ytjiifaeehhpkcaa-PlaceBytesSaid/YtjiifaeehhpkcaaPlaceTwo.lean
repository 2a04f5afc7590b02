/- Layer 15, the examples: the object of two segments. -/
import Derived.Test.YtjiifaeehhpkcaaPlaceMap
import Derived.Test.YtjiifaeehhpkcaaMakeN
import Derived.BigQuiet
import Derived.WalkMore
namespace Go.Proofs.Ytjiifaeehhpkcaa
open Go.RowKit
set_option linter.unusedVariables false
set_option linter.unusedSimpArgs false

theorem wp_build_asP {P : Program} {o : Oper} {a : Act} {w : World} {K : Act → World → Prop} {Q : Exit → Act → World → Prop} (t : TypeId) (parts : Array (Nat × Operand)) (ho : o.op = .build t parts)
    (vals : List (Nat × Value)) (cells : Array Value) (hv : (parts.map fun (i, x) => (i, a.eval x)).toList = vals) (hb : P.built t vals = some cells) (h : K (a.put o.dst (.agg cells)) w) : o.wp P a w K Q := by
  subst hv
  exact wp_build t parts ho (by rw [hb]; rfl) (by rw [hb]; exact h)
/-- the object as a value -/
def TC (pB bB : Nat) : Array Value := #[.int .i64 3, .int .u64 0, .slice (some ⟨pB, 0, none⟩) 3 3, .bool false, .slice none 0 0, .int .u64 0, .int .u64 0, .int .u64 0, .int .u64 0, .int .u64 0, .int .u64 0, .int .u64 0, .int .u64 0, .int .u64 0, .int .u64 0, .int .u64 0, .int .u64 0, .int .u64 0, .bool false, .bool false, .bool false, .int .u64 0, .int .u64 0, .int .u64 0, .int .u64 0, .int .u64 0, .int .u64 0, .int .u64 0, .int .u64 0, .int .u64 0, .int .u64 0, .int .u64 0, .int .u64 0, .int .u64 0, .int .u64 0, .int .u64 0, .bool false, .bool false, .bool false, .bool false, .bool false, .string ⟨#[]⟩, .string ⟨#[]⟩, .string ⟨#[]⟩, .slice none 0 0, .slice none 0 0, .bool false, .slice none 0 0, .slice none 0 0, .slice none 0 0, .slice none 0 0, .slice none 0 0, .slice none 0 0, .slice (some ⟨bB, 0, none⟩) 4104 4104]
def twoPs (va : Nat) : List PT := [⟨1, 5, 0, 0, 5, 5, 0⟩, ⟨1, 6, 4096, va, 8, 6144, 0⟩, ⟨1685382482, 0, 0, 8192, 0, 6144, 0⟩]
def twoB (va : Nat) : POb := ⟨3, twoPs va, List.replicate 4104 0⟩
theorem tc_built (pB bB : Nat) : Try.prog.built 39 [(0, .agg #[.int .i64 3, .int .u64 0, .slice (some ⟨pB, 0, none⟩) 3 3]), (12, .slice (some ⟨bB, 0, none⟩) 4104 4104)] = some (TC pB bB) := by kernel_rfl
def zer : Array Value := madeCells (Value.int IntKind.u8 0).cells (Int.toNat 4104 * 1)
theorem make4104 (w : World) : (Instr.makeSlice 37 (.int .i64 4104) (.int .i64 4104)).run Try.prog w = .ok (.slice (some ⟨w.heap.size, 0, none⟩) 4104 4104) (w.alloc (.cells zer 5)) := by
  have F : IntSlice Try.prog 37 5 .u8 1 := ⟨Try.underlying37, by kernel_rfl⟩
  obtain ⟨i, hi, hz0, hz1, hz2⟩ := info_parts F.2
  rw [run_make w 37 5 i (.int .u8 0) Try.underlying37 hi hz0 .i64 .i64 4104 4104 (by decide) (by decide) (by rw [hz2]; decide) (by decide), hz1]
  rfl
theorem made_at (n j : Nat) (hj : j < n) : (madeCells (Value.int IntKind.u8 0).cells (n * 1))[j]? = some (.int .u8 0) := by
  have h : (madeCells [Value.int IntKind.u8 0].toArray (n * 1)).toList = (List.replicate n [Value.int .u8 0]).flatten := made_rows (z := [Value.int .u8 0]) (n := n) (sz := 1) rfl (by omega)
  have h2 : (madeCells (Value.int IntKind.u8 0).cells (n * 1)).toList = (List.replicate n [Value.int .u8 0]).flatten := h
  rw [← Array.getElem?_toList, h2]
  have := flatten_at (sz := 1) (List.replicate n [Value.int .u8 0]) (fun r hr => by rw [(List.mem_replicate.1 hr).2]; rfl) j 0 (by rw [List.length_replicate]; exact hj) (by omega)
  rw [Nat.mul_one, Nat.add_zero] at this
  rw [this, List.getElem_replicate]
  rfl
theorem zer_at (j : Nat) (hj : j < 4104) : zer[j]? = some (.int .u8 0) := made_at 4104 j hj
/-- the example's object as it lies in memory -/
theorem two_cells {w : World} {pb bb va : Nat} (hp : w.heap[pb]? = some (.cells #[.int .u32 1, .int .u32 5, .int .u64 0, .int .u64 0, .int .u64 5, .int .u64 5, .int .u64 0, .int .u32 1, .int .u32 6, .int .u64 4096, .int .u64 (va : Int), .int .u64 8, .int .u64 6144, .int .u64 0, .int .u32 1685382482, .int .u32 0, .int .u64 0, .int .u64 8192, .int .u64 0, .int .u64 6144, .int .u64 0] 60)) (hb : w.heap[bb]? = some (.cells zer 5)) (hva : va < 18446744073709551616) : PCells w (TC pb bb) (twoB va) where
  size := rfl
  one := by simp [TC, Value.oneCell']
  c0 := rfl
  head := ⟨some ⟨pb, 0, none⟩, 3, rfl, fun i hi => by
    have hi3 : i < 3 := hi
    have hc : ∀ j v, (#[.int .u32 1, .int .u32 5, .int .u64 0, .int .u64 0, .int .u64 5, .int .u64 5, .int .u64 0, .int .u32 1, .int .u32 6, .int .u64 4096, .int .u64 (va : Int), .int .u64 8, .int .u64 6144, .int .u64 0, .int .u32 1685382482, .int .u32 0, .int .u64 0, .int .u64 8192, .int .u64 0, .int .u64 6144, .int .u64 0] : Array Value)[j]? = some v → w.cell? ⟨pb, j, none⟩ = some v := fun j v h => by rw [cell_of_row _ _ j _ _ _ hp]; exact h
    match i, hi3 with
    | 0, _ => exact ⟨(by show PT.wf ⟨1, 5, 0, 0, 5, 5, 0⟩; unfold PT.wf; decide), pb, 0, rfl, lt_of_block hp, fun j hj => match j, hj with
        | 0, _ => hc 0 _ rfl
        | 1, _ => hc 1 _ rfl
        | 2, _ => hc 2 _ rfl
        | 3, _ => hc 3 _ rfl
        | 4, _ => hc 4 _ rfl
        | 5, _ => hc 5 _ rfl
        | 6, _ => hc 6 _ rfl⟩
    | 1, _ => exact ⟨(by show PT.wf ⟨1, 6, 4096, va, 8, 6144, 0⟩; unfold PT.wf; simp only; omega), pb, 0, rfl, lt_of_block hp, fun j hj => match j, hj with
        | 0, _ => hc 7 _ rfl
        | 1, _ => hc 8 _ rfl
        | 2, _ => hc 9 _ rfl
        | 3, _ => hc 10 _ rfl
        | 4, _ => hc 11 _ rfl
        | 5, _ => hc 12 _ rfl
        | 6, _ => hc 13 _ rfl⟩
    | 2, _ => exact ⟨(by show PT.wf ⟨1685382482, 0, 0, 8192, 0, 6144, 0⟩; unfold PT.wf; decide), pb, 0, rfl, lt_of_block hp, fun j hj => match j, hj with
        | 0, _ => hc 14 _ rfl
        | 1, _ => hc 15 _ rfl
        | 2, _ => hc 16 _ rfl
        | 3, _ => hc 17 _ rfl
        | 4, _ => hc 18 _ rfl
        | 5, _ => hc 19 _ rfl
        | 6, _ => hc 20 _ rfl⟩⟩
  bytes := ⟨some ⟨bb, 0, none⟩, 4104, by rw [show (twoB va).bs.length = 4104 from List.length_replicate]; rfl, ⟨fun i hi => by
    have hi2 : i < 4104 := by rw [toI_length] at hi; rw [show (twoB va).bs.length = 4104 from List.length_replicate] at hi; exact hi
    refine ⟨bb, 0, rfl, ?_⟩
    rw [Nat.zero_add, cell_of_row _ _ i _ _ _ hb, zer_at i hi2, toI_getD]
    show _ = some (Value.int IntKind.u8 (((List.replicate 4104 0).getD i 0 : Nat) : Int))
    rw [getD_replicate]
    rfl, fun b hb' => by rw [(List.mem_replicate.1 hb').2]; decide⟩, by rw [show (twoB va).bs.length = 4104 from List.length_replicate]; decide⟩
  pl := by show 3 * 48 ≤ _; decide
  bl := by rw [show (twoB va).bs.length = 4104 from List.length_replicate]; decide

set_option maxRecDepth 100000 in
set_option maxHeartbeats 16000000 in
theorem two_any (w : World) : Calls Try.prog 16 #[] w fun e w' => e = .returned (.agg (TC (w.heap.size + 1) (w.heap.size + 2))) ∧ Below w.heap.size w w' ∧ w'.heap.size = w.heap.size + 3 ∧ w'.heap[w.heap.size + 1]? = some (.cells #[.int .u32 1, .int .u32 5, .int .u64 0, .int .u64 0, .int .u64 5, .int .u64 5, .int .u64 0, .int .u32 1, .int .u32 6, .int .u64 4096, .int .u64 8192, .int .u64 8, .int .u64 6144, .int .u64 0, .int .u32 1685382482, .int .u32 0, .int .u64 0, .int .u64 8192, .int .u64 0, .int .u64 6144, .int .u64 0] 60) ∧ w'.heap[w.heap.size + 2]? = some (.cells zer 5) := by
  obtain ⟨Z, hZ⟩ : ∃ Z, zer = Z := ⟨_, rfl⟩
  have hmk := make4104
  have HOB := Lib.hid (tc_built (w.heap.size + 1) (w.heap.size + 2))
  rw [hZ] at hmk
  rw [hZ]
  obtain ⟨C0, hC0⟩ : ∃ C0, TC (w.heap.size + 1) (w.heap.size + 2) = C0 := ⟨_, rfl⟩
  have h54 : C0.size = 54 := by rw [← hC0]; rfl
  have hone : C0.all (·.oneCell') = true := by rw [← hC0]; simp [TC, Value.oneCell']
  rw [hC0] at HOB ⊢
  have HI : Hid ((Try.prog.info? 39).map (·.size) = some C0.size) := Lib.hid (by rw [h54]; kernel_rfl)
  have HON := Lib.hid hone
  have H54 := Lib.hid h54
  have BZ : Hid (Below w.heap.size w (((w.alloc (.cells #[.int .i64 0, .int .u64 0, .slice none 0 0, .bool false, .slice none 0 0, .int .u64 0, .int .u64 0, .int .u64 0, .int .u64 0, .int .u64 0, .int .u64 0, .int .u64 0, .int .u64 0, .int .u64 0, .int .u64 0, .int .u64 0, .int .u64 0, .int .u64 0, .bool false, .bool false, .bool false, .int .u64 0, .int .u64 0, .int .u64 0, .int .u64 0, .int .u64 0, .int .u64 0, .int .u64 0, .int .u64 0, .int .u64 0, .int .u64 0, .int .u64 0, .int .u64 0, .int .u64 0, .int .u64 0, .int .u64 0, .bool false, .bool false, .bool false, .bool false, .bool false, .string ⟨#[]⟩, .string ⟨#[]⟩, .string ⟨#[]⟩, .slice none 0 0, .slice none 0 0, .bool false, .slice none 0 0, .slice none 0 0, .slice none 0 0, .slice none 0 0, .slice none 0 0, .slice none 0 0, .slice none 0 0] 39)).alloc (.cells #[.int .u32 1, .int .u32 5, .int .u64 0, .int .u64 0, .int .u64 5, .int .u64 5, .int .u64 0, .int .u32 1, .int .u32 6, .int .u64 4096, .int .u64 8192, .int .u64 8, .int .u64 6144, .int .u64 0, .int .u32 1685382482, .int .u32 0, .int .u64 0, .int .u64 8192, .int .u64 0, .int .u64 6144, .int .u64 0] 60)).alloc (.cells Z 5))) := Lib.hid ((((Below.refl _ _).alloc (Nat.le_refl _) _).alloc (by simp) _).alloc (by simp; omega) _)
  have HZ1 : Hid ((((w.alloc (.cells #[.int .i64 0, .int .u64 0, .slice none 0 0, .bool false, .slice none 0 0, .int .u64 0, .int .u64 0, .int .u64 0, .int .u64 0, .int .u64 0, .int .u64 0, .int .u64 0, .int .u64 0, .int .u64 0, .int .u64 0, .int .u64 0, .int .u64 0, .int .u64 0, .bool false, .bool false, .bool false, .int .u64 0, .int .u64 0, .int .u64 0, .int .u64 0, .int .u64 0, .int .u64 0, .int .u64 0, .int .u64 0, .int .u64 0, .int .u64 0, .int .u64 0, .int .u64 0, .int .u64 0, .int .u64 0, .int .u64 0, .bool false, .bool false, .bool false, .bool false, .bool false, .string ⟨#[]⟩, .string ⟨#[]⟩, .string ⟨#[]⟩, .slice none 0 0, .slice none 0 0, .bool false, .slice none 0 0, .slice none 0 0, .slice none 0 0, .slice none 0 0, .slice none 0 0, .slice none 0 0, .slice none 0 0] 39)).alloc (.cells #[.int .u32 1, .int .u32 5, .int .u64 0, .int .u64 0, .int .u64 5, .int .u64 5, .int .u64 0, .int .u32 1, .int .u32 6, .int .u64 4096, .int .u64 8192, .int .u64 8, .int .u64 6144, .int .u64 0, .int .u32 1685382482, .int .u32 0, .int .u64 0, .int .u64 8192, .int .u64 0, .int .u64 6144, .int .u64 0] 60)).alloc (.cells Z 5)).heap[w.heap.size]? = some (.cells #[.int .i64 0, .int .u64 0, .slice none 0 0, .bool false, .slice none 0 0, .int .u64 0, .int .u64 0, .int .u64 0, .int .u64 0, .int .u64 0, .int .u64 0, .int .u64 0, .int .u64 0, .int .u64 0, .int .u64 0, .int .u64 0, .int .u64 0, .int .u64 0, .bool false, .bool false, .bool false, .int .u64 0, .int .u64 0, .int .u64 0, .int .u64 0, .int .u64 0, .int .u64 0, .int .u64 0, .int .u64 0, .int .u64 0, .int .u64 0, .int .u64 0, .int .u64 0, .int .u64 0, .int .u64 0, .int .u64 0, .bool false, .bool false, .bool false, .bool false, .bool false, .string ⟨#[]⟩, .string ⟨#[]⟩, .string ⟨#[]⟩, .slice none 0 0, .slice none 0 0, .bool false, .slice none 0 0, .slice none 0 0, .slice none 0 0, .slice none 0 0, .slice none 0 0, .slice none 0 0, .slice none 0 0] 39)) := Lib.hid ((heap_alloc_old _ _ (by simp; omega)).trans ((heap_alloc_old _ _ (by simp)).trans (heap_alloc_new _ _)))
  have HZ2 : Hid ((((w.alloc (.cells #[.int .i64 0, .int .u64 0, .slice none 0 0, .bool false, .slice none 0 0, .int .u64 0, .int .u64 0, .int .u64 0, .int .u64 0, .int .u64 0, .int .u64 0, .int .u64 0, .int .u64 0, .int .u64 0, .int .u64 0, .int .u64 0, .int .u64 0, .int .u64 0, .bool false, .bool false, .bool false, .int .u64 0, .int .u64 0, .int .u64 0, .int .u64 0, .int .u64 0, .int .u64 0, .int .u64 0, .int .u64 0, .int .u64 0, .int .u64 0, .int .u64 0, .int .u64 0, .int .u64 0, .int .u64 0, .int .u64 0, .bool false, .bool false, .bool false, .bool false, .bool false, .string ⟨#[]⟩, .string ⟨#[]⟩, .string ⟨#[]⟩, .slice none 0 0, .slice none 0 0, .bool false, .slice none 0 0, .slice none 0 0, .slice none 0 0, .slice none 0 0, .slice none 0 0, .slice none 0 0, .slice none 0 0] 39)).alloc (.cells #[.int .u32 1, .int .u32 5, .int .u64 0, .int .u64 0, .int .u64 5, .int .u64 5, .int .u64 0, .int .u32 1, .int .u32 6, .int .u64 4096, .int .u64 8192, .int .u64 8, .int .u64 6144, .int .u64 0, .int .u32 1685382482, .int .u32 0, .int .u64 0, .int .u64 8192, .int .u64 0, .int .u64 6144, .int .u64 0] 60)).alloc (.cells Z 5)).heap[w.heap.size + 1]? = some (.cells #[.int .u32 1, .int .u32 5, .int .u64 0, .int .u64 0, .int .u64 5, .int .u64 5, .int .u64 0, .int .u32 1, .int .u32 6, .int .u64 4096, .int .u64 8192, .int .u64 8, .int .u64 6144, .int .u64 0, .int .u32 1685382482, .int .u32 0, .int .u64 0, .int .u64 8192, .int .u64 0, .int .u64 6144, .int .u64 0] 60)) := Lib.hid ((heap_alloc_old _ _ (by simp)).trans (by
    have := heap_alloc_new (w.alloc (.cells #[.int .i64 0, .int .u64 0, .slice none 0 0, .bool false, .slice none 0 0, .int .u64 0, .int .u64 0, .int .u64 0, .int .u64 0, .int .u64 0, .int .u64 0, .int .u64 0, .int .u64 0, .int .u64 0, .int .u64 0, .int .u64 0, .int .u64 0, .int .u64 0, .bool false, .bool false, .bool false, .int .u64 0, .int .u64 0, .int .u64 0, .int .u64 0, .int .u64 0, .int .u64 0, .int .u64 0, .int .u64 0, .int .u64 0, .int .u64 0, .int .u64 0, .int .u64 0, .int .u64 0, .int .u64 0, .int .u64 0, .bool false, .bool false, .bool false, .bool false, .bool false, .string ⟨#[]⟩, .string ⟨#[]⟩, .string ⟨#[]⟩, .slice none 0 0, .slice none 0 0, .bool false, .slice none 0 0, .slice none 0 0, .slice none 0 0, .slice none 0 0, .slice none 0 0, .slice none 0 0, .slice none 0 0] 39)) (.cells #[.int .u32 1, .int .u32 5, .int .u64 0, .int .u64 0, .int .u64 5, .int .u64 5, .int .u64 0, .int .u32 1, .int .u32 6, .int .u64 4096, .int .u64 8192, .int .u64 8, .int .u64 6144, .int .u64 0, .int .u32 1685382482, .int .u32 0, .int .u64 0, .int .u64 8192, .int .u64 0, .int .u64 6144, .int .u64 0] 60)
    simpa using this))
  have HZ3 : Hid ((((w.alloc (.cells #[.int .i64 0, .int .u64 0, .slice none 0 0, .bool false, .slice none 0 0, .int .u64 0, .int .u64 0, .int .u64 0, .int .u64 0, .int .u64 0, .int .u64 0, .int .u64 0, .int .u64 0, .int .u64 0, .int .u64 0, .int .u64 0, .int .u64 0, .int .u64 0, .bool false, .bool false, .bool false, .int .u64 0, .int .u64 0, .int .u64 0, .int .u64 0, .int .u64 0, .int .u64 0, .int .u64 0, .int .u64 0, .int .u64 0, .int .u64 0, .int .u64 0, .int .u64 0, .int .u64 0, .int .u64 0, .int .u64 0, .bool false, .bool false, .bool false, .bool false, .bool false, .string ⟨#[]⟩, .string ⟨#[]⟩, .string ⟨#[]⟩, .slice none 0 0, .slice none 0 0, .bool false, .slice none 0 0, .slice none 0 0, .slice none 0 0, .slice none 0 0, .slice none 0 0, .slice none 0 0, .slice none 0 0] 39)).alloc (.cells #[.int .u32 1, .int .u32 5, .int .u64 0, .int .u64 0, .int .u64 5, .int .u64 5, .int .u64 0, .int .u32 1, .int .u32 6, .int .u64 4096, .int .u64 8192, .int .u64 8, .int .u64 6144, .int .u64 0, .int .u32 1685382482, .int .u32 0, .int .u64 0, .int .u64 8192, .int .u64 0, .int .u64 6144, .int .u64 0] 60)).alloc (.cells Z 5)).heap[w.heap.size + 2]? = some (.cells Z 5)) := Lib.hid (by
    have := heap_alloc_new ((w.alloc (.cells #[.int .i64 0, .int .u64 0, .slice none 0 0, .bool false, .slice none 0 0, .int .u64 0, .int .u64 0, .int .u64 0, .int .u64 0, .int .u64 0, .int .u64 0, .int .u64 0, .int .u64 0, .int .u64 0, .int .u64 0, .int .u64 0, .int .u64 0, .int .u64 0, .bool false, .bool false, .bool false, .int .u64 0, .int .u64 0, .int .u64 0, .int .u64 0, .int .u64 0, .int .u64 0, .int .u64 0, .int .u64 0, .int .u64 0, .int .u64 0, .int .u64 0, .int .u64 0, .int .u64 0, .int .u64 0, .int .u64 0, .bool false, .bool false, .bool false, .bool false, .bool false, .string ⟨#[]⟩, .string ⟨#[]⟩, .string ⟨#[]⟩, .slice none 0 0, .slice none 0 0, .bool false, .slice none 0 0, .slice none 0 0, .slice none 0 0, .slice none 0 0, .slice none 0 0, .slice none 0 0, .slice none 0 0] 39)).alloc (.cells #[.int .u32 1, .int .u32 5, .int .u64 0, .int .u64 0, .int .u64 5, .int .u64 5, .int .u64 0, .int .u32 1, .int .u32 6, .int .u64 4096, .int .u64 8192, .int .u64 8, .int .u64 6144, .int .u64 0, .int .u32 1685382482, .int .u32 0, .int .u64 0, .int .u64 8192, .int .u64 0, .int .u64 6144, .int .u64 0] 60)) (.cells Z 5)
    simpa using this)
  have HZS : Hid ((((w.alloc (.cells #[.int .i64 0, .int .u64 0, .slice none 0 0, .bool false, .slice none 0 0, .int .u64 0, .int .u64 0, .int .u64 0, .int .u64 0, .int .u64 0, .int .u64 0, .int .u64 0, .int .u64 0, .int .u64 0, .int .u64 0, .int .u64 0, .int .u64 0, .int .u64 0, .bool false, .bool false, .bool false, .int .u64 0, .int .u64 0, .int .u64 0, .int .u64 0, .int .u64 0, .int .u64 0, .int .u64 0, .int .u64 0, .int .u64 0, .int .u64 0, .int .u64 0, .int .u64 0, .int .u64 0, .int .u64 0, .int .u64 0, .bool false, .bool false, .bool false, .bool false, .bool false, .string ⟨#[]⟩, .string ⟨#[]⟩, .string ⟨#[]⟩, .slice none 0 0, .slice none 0 0, .bool false, .slice none 0 0, .slice none 0 0, .slice none 0 0, .slice none 0 0, .slice none 0 0, .slice none 0 0, .slice none 0 0] 39)).alloc (.cells #[.int .u32 1, .int .u32 5, .int .u64 0, .int .u64 0, .int .u64 5, .int .u64 5, .int .u64 0, .int .u32 1, .int .u32 6, .int .u64 4096, .int .u64 8192, .int .u64 8, .int .u64 6144, .int .u64 0, .int .u32 1685382482, .int .u32 0, .int .u64 0, .int .u64 8192, .int .u64 0, .int .u64 6144, .int .u64 0] 60)).alloc (.cells Z 5)).heap.size = w.heap.size + 3) := Lib.hid (by simp)
  clear hZ hC0 h54 hone
  go_enter Try.func16, Try.ntmps16
  go_wp2_with (first
    | (refine wpList_plain rfl fun _ hK => wp_build_asP 39 _ rfl [(0, .agg #[.int .i64 3, .int .u64 0, .slice (some ⟨w.heap.size + 1, 0, none⟩) 3 3]), (12, .slice (some ⟨w.heap.size + 2, 0, none⟩) 4104 4104)] C0 (by rw [Array.toList_map]; rfl) HOB.out (hK _ _ ?_))
    | (refine wpList_store_row rfl 39 _ _ rfl w.heap.size C0 rfl rfl 39 _ HZ1.out HI.out (by rw [H54.out]; rfl) HON.out ?_))
  refine bodyPost_ret_by (results_cell_row Try.results16 _ _ w.heap.size 39 C0 (0, 0) _ rfl (setRow_heap _ _ _ _ _ _ HZ1.out) Try.underlying39 rfl HI.out) rfl ?_
  refine ⟨rfl, ⟨BZ.out.os, BZ.out.tape, BZ.out.output, by rw [setRow_size]; exact BZ.out.size, fun k hk => (setRow_other _ _ _ _ (by omega)).trans (BZ.out.block k hk)⟩, by rw [setRow_size]; exact HZS.out, ?_, ?_⟩
  · rw [setRow_other _ _ _ _ (by omega)]; exact HZ2.out
  · rw [setRow_other _ _ _ _ (by omega)]; exact HZ3.out
end Go.Proofs.Ytjiifaeehhpkcaa
