/- Layer 2: a memory as it stands in the program's own memory. -/
import Derived.Test.YtmnjkaimpejohaaGreatDoorPMap
import Derived.Test.YtmnjkaimpejohaaGreatDoorErrs
namespace Go.Proofs.YtmnjkaimpejohaaGreatDoor
open Go.RowKit
set_option linter.unusedVariables false
set_option linter.unusedSimpArgs false

/-- a page: its bytes, its permission -/
structure Pg where
  bytes : List Nat
  perm : Nat
def Pg.cells (p : Pg) : List Value := p.bytes.map (fun b => Value.int .u8 ((b : Nat) : Int)) ++ [.int .i64 (p.perm : Int)]
structure Pg.Ok (p : Pg) : Prop where
  len : p.bytes.length = 4096
  byte : ∀ b ∈ p.bytes, b < 256
  perm : p.perm < 8
/-- what has turned lies in the blocks of S, or is new -/
structure VKept (S : Nat → Prop) (w w' : World) : Prop where
  os : w'.os = w.os
  tape : w'.tape = w.tape
  output : w'.output = w.output
  size : w.heap.size ≤ w'.heap.size
  block : ∀ k, k < w.heap.size → ¬ S k → w'.heap[k]? = w.heap[k]?
/-- the blocks of S, and those that are new since w, as far as w' has them -/
def VGrow (S : Nat → Prop) (w w' : World) : Nat → Prop := fun k => S k ∨ (w.heap.size ≤ k ∧ k < w'.heap.size)

theorem VKept.refl (S : Nat → Prop) (w : World) : VKept S w w := ⟨rfl, rfl, rfl, Nat.le_refl _, fun _ _ _ => rfl⟩
theorem VKept.of_below {S : Nat → Prop} {w w' : World} (h : Below w.heap.size w w') : VKept S w w' := ⟨h.os, h.tape, h.output, h.size, fun k hk _ => h.block k hk⟩
theorem VKept.mono {S S' : Nat → Prop} {w w' : World} (h : VKept S w w') (hs : ∀ k, k < w.heap.size → S k → S' k) : VKept S' w w' := ⟨h.os, h.tape, h.output, h.size, fun k hk hn => h.block k hk (fun hs' => hn (hs k hk hs'))⟩
theorem VKept.trans {S S' : Nat → Prop} {a b c : World} (h : VKept S a b) (k : VKept S' b c) (hs : ∀ j, j < a.heap.size → S' j → S j) : VKept S a c :=
  ⟨k.os.trans h.os, k.tape.trans h.tape, k.output.trans h.output, Nat.le_trans h.size k.size, fun j hj hn => (k.block j (Nat.lt_of_lt_of_le hj h.size) (fun h' => hn (hs j hj h'))).trans (h.block j hj hn)⟩
theorem VKept.below {S : Nat → Prop} {w w' : World} (h : VKept S w w') {n : Nat} (hn : n ≤ w.heap.size) (hs : ∀ k, k < n → ¬ S k) : Below n w w' := ⟨h.os, h.tape, h.output, h.size, fun k hk => h.block k (Nat.lt_of_lt_of_le hk hn) (hs k hk)⟩
theorem vgrow_old {S : Nat → Prop} {w w' : World} {k : Nat} (hk : k < w.heap.size) (h : VGrow S w w' k) : S k := by
  rcases h with h | ⟨h, -⟩
  · exact h
  · omega

/-- block mb is a memory: its quota, how many pages it has, its pages by their numbers; its blocks lie in S -/
structure VmAt (w : World) (mb : Nat) (S : Nat → Prop) (q c : Nat) (V : Nat → Option Pg) (g : Nat) (F : Nat → Option Nat) : Prop where
  box : w.heap[mb]? = some (.cells #[.int .i64 (q : Int), .map (some g)] 63)
  map : PM w Tryz.prog 22 g F c
  page : ∀ k b, F k = some b → S b ∧ ∃ p, V k = some p ∧ p.Ok ∧ w.heap[b]? = some (.cells p.cells.toArray 76)
  out : ∀ k, F k = none → V k = none
  inj : ∀ k k' b, F k = some b → F k' = some b → k = k'
  own : S g
  low : ∀ k, V k ≠ none → k < 34359738368
  quota : q ≤ 65536
  count : c ≤ q

section
variable {w : World} {mb : Nat} {S : Nat → Prop} {q c : Nat} {V : Nat → Option Pg} {g : Nat} {F : Nat → Option Nat}
theorem VmAt.lt (h : VmAt w mb S q c V g F) : mb < w.heap.size := (Array.getElem?_eq_some_iff.1 h.box).1
/-- it stands while nothing of its own is written -/
theorem VmAt.kept {w' : World} (h : VmAt w mb S q c V g F) (hk : ∀ k, k < w.heap.size → (k = mb ∨ S k) → w'.heap[k]? = w.heap[k]?) : VmAt w' mb S q c V g F where
  box := (hk mb h.lt (.inl rfl)).trans h.box
  map := h.map.of_block (hk g h.map.lt (.inr h.own))
  page := fun k b hb => by
    obtain ⟨hs, p, h1, h2, h3⟩ := h.page k b hb
    exact ⟨hs, p, h1, h2, (hk b (Array.getElem?_eq_some_iff.1 h3).1 (.inr hs)).trans h3⟩
  out := h.out
  inj := h.inj
  own := h.own
  low := h.low
  quota := h.quota
  count := h.count
theorem VmAt.below {w' : World} (h : VmAt w mb S q c V g F) (hb : Below w.heap.size w w') : VmAt w' mb S q c V g F := h.kept (fun k hk _ => hb.block k hk)
theorem VmAt.mono {S' : Nat → Prop} (h : VmAt w mb S q c V g F) (hs : ∀ k, S k → S' k) : VmAt w mb S' q c V g F where
  box := h.box
  map := h.map
  page := fun k b hb => by
    obtain ⟨h0, h1⟩ := h.page k b hb
    exact ⟨hs b h0, h1⟩
  out := h.out
  inj := h.inj
  own := hs g h.own
  low := h.low
  quota := h.quota
  count := h.count
theorem VmAt.at_page (h : VmAt w mb S q c V g F) {k : Nat} {p : Pg} (hv : V k = some p) : ∃ b, F k = some b ∧ S b ∧ p.Ok ∧ w.heap[b]? = some (.cells p.cells.toArray 76) := by
  cases hf : F k with
  | none => rw [h.out k hf] at hv; cases hv
  | some b =>
    obtain ⟨h0, p', h1, h2, h3⟩ := h.page k b hf
    obtain rfl : p' = p := by rw [h1] at hv; exact Option.some.inj hv
    exact ⟨b, rfl, h0, h2, h3⟩
theorem VmAt.at_none (h : VmAt w mb S q c V g F) {k : Nat} (hv : V k = none) : F k = none := by
  cases hf : F k with
  | none => rfl
  | some b =>
    obtain ⟨-, p', h1, -⟩ := h.page k b hf
    rw [h1] at hv; cases hv
end


theorem vnew_any (q : Nat) (w : World) (hq : q ≤ 65536) : Calls Tryz.prog 10 #[.int .i64 (q : Int)] w fun e w' => e = .returned (.tuple #[.pointer (some ⟨w.heap.size + 1, 0, none⟩), .nilIface]) ∧ Below w.heap.size w w' ∧ w'.heap.size = w.heap.size + 2 ∧ VmAt w' (w.heap.size + 1) (fun k => k = w.heap.size) q 0 (fun _ => none) w.heap.size (fun _ => none) := by
  have h1 : ¬ (q : Int) < 0 := by omega
  have h2 : ¬ (65536 : Int) < (q : Int) := by omega
  have hmm := @run_makeMap Tryz.prog
  go_enter Tryz.func10, Tryz.ntmps10
  go_wp2_with fail
  go_ret2
  refine ⟨rfl, ((Below.refl _ _).alloc (Nat.le_refl _) _).alloc (by simp) _, by simp, ?_, ?_, (fun k b h => by cases h), (fun _ _ => rfl), (fun k k' b h => by cases h), rfl, (fun k h => absurd rfl h), hq, by omega⟩
  · have := heap_alloc_new (w.alloc (.map #[] 0)) (.cells #[.int .i64 (q : Int), .map (some w.heap.size)] 63)
    simpa using this
  · exact (PM.made w Tryz.prog 22).of_block (heap_alloc_old _ _ (by simp))



def belowF (a n : Nat) : Bool := decide (a < 140737488355328 ∧ n ≤ (140737488355328 - a) / 4096)
theorem below_any (a n : Nat) (w : World) (ha : a < 18446744073709551616) (hn : n < 18446744073709551616) : Calls Tryz.prog 31 #[.int .u64 (a : Int), .int .u64 (n : Int)] w fun e w' => e = .returned (.bool (belowF a n)) ∧ w = w' := by
  obtain ⟨B, hB⟩ : ∃ B, belowF a n = B := ⟨_, rfl⟩
  rw [hB]
  by_cases h1 : a < 140737488355328
  · have h2 : IntKind.u64.wrap (140737488355328 - (a : Int)) = ((140737488355328 - a : Nat) : Int) := by rw [IntKind.wrap_u64]; omega
    have h3 : ((140737488355328 - a : Nat) : Int).tdiv 4096 = (((140737488355328 - a) / 4096 : Nat) : Int) := by rw [Int.tdiv_eq_ediv_of_nonneg (by omega)]; omega
    have h4 : IntKind.u64.wrap (((140737488355328 - a) / 4096 : Nat) : Int) = (((140737488355328 - a) / 4096 : Nat) : Int) := by rw [IntKind.wrap_u64]; omega
    have h5 : decide (n ≤ (140737488355328 - a) / 4096) = B := by
      rw [← hB]; unfold belowF
      rw [decide_eq_decide]
      omega
    have h6 : (a : Int) < 140737488355328 := by omega
    generalize (140737488355328 - a) / 4096 = m at *
    generalize 140737488355328 - a = d at *
    clear hB
    go_enter Tryz.func31, Tryz.ntmps31
    go_wp2_with fail
    go_ret
    exact ⟨rfl, rfl⟩
  · have h6 : ¬ (a : Int) < 140737488355328 := by omega
    obtain rfl : B = false := by rw [← hB]; unfold belowF; simp; omega
    clear hB
    go_enter Tryz.func31, Tryz.ntmps31
    go_wp2_with fail
    go_ret
    exact ⟨rfl, rfl⟩

end Go.Proofs.YtmnjkaimpejohaaGreatDoor
