/- A world that is another but for one block, and what is new. Nothing of the program is named. -/
import Derived.Test.YtnaejlfjlennhaaGreatDoorLittle
import Derived.Test.YtnaejlfjlennhaaGreatDoorBox
import Derived.Deep.MidRow
import Derived.Test.YtnaejlfjlennhaaGreatDoorDynSlice
import Derived.StillTailTactics
import Derived.Laws.BitsAllLaws
import Derived.Test.YtnaejlfjlennhaaGreatDoorErrs
namespace Go.Proofs.YtnaejlfjlennhaaGreatDoor
open Go.RowKit
set_option linter.unusedVariables false
set_option linter.unusedSimpArgs false

theorem own_off {w : World} {B sz n : Nat} {e T : TypeId} {v : Value} {xs : List Value} {b : Nat} {cs : Array Value} (h : w.ownsRow B e sz v n xs) (hb : w.heap[b]? = some (.cells cs T)) (hne : e ≠ T) : v.ownBlock ≠ some b := by
  intro hv
  rcases h.2 with ⟨rfl, -⟩ | ⟨g, cap, cur, rfl, -, hg, -⟩
  · cases hv
  · have : g = b := by simpa [Value.ownBlock] using hv
    subst this
    rw [hb] at hg
    simp only [Option.some.injEq, Obj.cells.injEq] at hg
    exact hne hg.2.1.symm
/-- all that stood in w stands in w', but for the block bo -/
structure Near (bo : Nat) (w w' : World) : Prop where
  below : Below bo w w'
  rest : ∀ k, bo < k → k < w.heap.size → w'.heap[k]? = w.heap[k]?
theorem Near.refl (bo : Nat) (w : World) : Near bo w w := ⟨Below.refl _ _, fun _ _ _ => rfl⟩
theorem Near.size {bo : Nat} {w w' : World} (h : Near bo w w') : w.heap.size ≤ w'.heap.size := h.below.size
theorem Near.of {bo : Nat} {w w' : World} (h : Below w.heap.size w w') (hb : bo < w.heap.size) : Near bo w w' := ⟨h.mono (by omega), fun k _ hk => h.block k hk⟩
theorem Near.trans {bo : Nat} {a b c : World} (h : Near bo a b) (k : Near bo b c) : Near bo a c :=
  ⟨h.below.trans k.below, fun j h1 h2 => (k.rest j h1 (by have := h.size; omega)).trans (h.rest j h1 h2)⟩
theorem Near.step {bo : Nat} {a b c : World} (h : Near bo a b) (k : Below b.heap.size b c) (hb : bo < a.heap.size) : Near bo a c := h.trans (Near.of k (by have := h.size; omega))
theorem Near.set {bo : Nat} {a b : World} (h : Near bo a b) (j : Nat) (v : Value) : Near bo a (b.setCell ⟨bo, j, none⟩ v) :=
  ⟨h.below.setCell (Nat.le_refl _) v, fun k h1 h2 => (Below.heap_setCell _ _ _ _ (by show k ≠ bo; omega)).trans (h.rest k h1 h2)⟩
theorem Near.block {bo : Nat} {w w' : World} (h : Near bo w w') {g : Nat} (hg : g < w.heap.size) (hne : g ≠ bo) : w'.heap[g]? = w.heap[g]? := by
  rcases Nat.lt_or_gt_of_ne hne with h1 | h1
  · exact h.below.block g h1
  · exact h.rest g h1 hg
/-- behind an append to a row of one's own that isn't the block -/
theorem Near.grown {bo : Nat} {a b c : World} {row : Option Nat} (h : Near bo a b) (hg : b.grownBy c row) (hb : bo < a.heap.size) (hr : ∀ k, row = some k → a.heap.size ≤ k) : Near bo a c :=
  ⟨h.below.grown hg (by have := h.size; omega) (fun k hk => by have := hr k hk; omega), fun k h1 h2 => (hg.block k (by have := h.size; omega) (fun e => by have := hr k e.symm; omega)).trans (h.rest k h1 h2)⟩
theorem OwnS.near {bo : Nat} {w w' : World} {B : Nat} {e T : TypeId} {sz : Nat} {v : Value} {rows : List (List Value)} {C : Array Value} (h : OwnS w B e sz v rows) (hb : w.heap[bo]? = some (.cells C T)) (hne : e ≠ T) (hn : Near bo w w') : OwnS w' B e sz v rows := by
  have h0 := own_off h.1 hb hne
  obtain ⟨⟨h1, h2⟩, h3⟩ := h
  refine ⟨⟨h1, ?_⟩, h3⟩
  rcases h2 with h2 | ⟨g, cap, cur, rfl, hB, hg, r⟩
  · exact .inl h2
  · exact .inr ⟨g, cap, cur, rfl, hB, by rw [hn.block (lt_of_block hg) (fun e => h0 (by rw [e]; rfl))]; exact hg, r⟩
theorem OwnI.near {bo : Nat} {w w' : World} {B : Nat} {e T : TypeId} {k : IntKind} {v : Value} {xs : List Int} {C : Array Value} (h : OwnI w B e k v xs) (hb : w.heap[bo]? = some (.cells C T)) (hne : e ≠ T) (hn : Near bo w w') : OwnI w' B e k v xs := by
  have h0 := own_off h hb hne
  obtain ⟨h1, h2⟩ := h
  refine ⟨h1, ?_⟩
  rcases h2 with h2 | ⟨g, cap, cur, rfl, hB, hg, r⟩
  · exact .inl h2
  · exact .inr ⟨g, cap, cur, rfl, hB, by rw [hn.block (lt_of_block hg) (fun e => h0 (by rw [e]; rfl))]; exact hg, r⟩
/-- the block itself, behind a store -/
theorem block_set {w : World} {bo j : Nat} {C : Array Value} {T : TypeId} {v : Value} (h : w.heap[bo]? = some (.cells C T)) : (w.setCell ⟨bo, j, none⟩ v).heap[bo]? = some (.cells (C.setIfInBounds j v) T) := heap_setCell_same _ bo j _ _ _ h
/-- a list of values in the midst of a block -/
theorem range_of {w : World} {bo o : Nat} {C : Array Value} {T : TypeId} {cs : List Value} (h : w.heap[bo]? = some (.cells C T)) (hc : ∀ j v, cs[j]? = some v → C[o + j]? = some v) : w.rangeAt bo o cs := by
  intro j v hv
  rw [cell_of_row _ _ (o + j) _ _ _ h]
  exact hc j v hv
end Go.Proofs.YtnaejlfjlennhaaGreatDoor
/- Layer 9: relocations in bytes, as the program reads them. -/
namespace Go.Proofs.YtnaejlfjlennhaaGreatDoor
open Go.RowKit
set_option linter.unusedVariables false
set_option linter.unusedSimpArgs false

/-- a relocation -/
structure RT where
  off : Int
  ty : Int
  sym : Int
  add : Int
def RT.cells (r : RT) : List Value := [.int .u64 r.off, .int .i64 r.ty, .int .i64 r.sym, .int .i64 r.add]
/-- what 24 bytes tell -/
def relOf (bs : List Nat) : RT := ⟨(numOf (bs.take 8) : Nat), (numOf ((bs.drop 8).take 8) % 4294967296 : Nat), (numOf ((bs.drop 8).take 8) / 4294967296 : Nat), wrap64 (numOf ((bs.drop 16).take 8) : Nat)⟩

theorem number_still (a : Option Addr) (cap : Nat) (bs : List Nat) (w : World) (n : Nat) (hn : bs.length = n) (h : BRow w a bs) (hl : n ≤ 8) :
    Calls Tryz.prog 48 #[.slice a n cap] w fun e w' => e = .returned (.int .u64 ((numOf bs : Nat) : Int)) ∧ w' = w := by
  subst hn
  refine (number_any a cap bs w h hl).mono ?_
  rintro e w' ⟨rfl, rfl⟩
  exact ⟨rfl, rfl⟩

set_option maxRecDepth 100000 in
set_option maxHeartbeats 4000000 in
theorem rel_any (b o cap : Nat) (bs : List Nat) (w : World) (h : BRow w (some ⟨b, o, none⟩) bs) (hl : bs.length = 24) (hc : 24 ≤ cap) :
    Calls Tryz.prog 96 #[.slice (some ⟨b, o, none⟩) 24 cap] w fun e w' => e = .returned (.agg (relOf bs).cells.toArray) ∧ Below w.heap.size w w' := by
  have hn8 : ¬ cap = 8 := by omega
  have hn16 : ¬ cap = 16 := by omega
  have cutA : ∀ w', Below w.heap.size w w' → ∀ k, BRow w' (some ⟨b, o + k, none⟩) ((bs.drop k).take 8) := fun w' hb k => by
    have := (h.below hb).cut k 8
    simpa [WideShapes.add_plain] using this
  have HN := Lib.hid (fun (w' : World) (hb : Below w.heap.size w w') (c : Nat) => number_still (some ⟨b, o + 8, none⟩) c ((bs.drop 8).take 8) w' 8 (by simp; omega) (cutA w' hb 8) (by omega))
  have HN0 := Lib.hid (fun (w' : World) (hb : Below w.heap.size w w') (c : Nat) => number_still (some ⟨b, o, none⟩) c (bs.take 8) w' 8 (by simp; omega) (by simpa using cutA w' hb 0) (by omega))
  have HN16 := Lib.hid (fun (w' : World) (hb : Below w.heap.size w w') (c : Nat) => number_still (some ⟨b, o + 16, none⟩) c ((bs.drop 16).take 8) w' 8 (by simp; omega) (cutA w' hb 16) (by omega))
  have hv : relOf bs = ⟨(numOf (bs.take 8) : Nat), (numOf ((bs.drop 8).take 8) % 4294967296 : Nat), (numOf ((bs.drop 8).take 8) / 4294967296 : Nat), wrap64 (numOf ((bs.drop 16).take 8) : Nat)⟩ := rfl
  have hlt : numOf ((bs.drop 8).take 8) < 18446744073709551616 := by
    have h1 := numOf_lt ((bs.drop 8).take 8) (fun x hx => h.2 x (List.mem_of_mem_drop (List.mem_of_mem_take hx)))
    have h2 : ((bs.drop 8).take 8).length = 8 := by simp; omega
    rw [h2] at h1
    have h5 : (256 : Nat) ^ 8 = 18446744073709551616 := by decide
    omega
  rw [hv]
  clear hv cutA h
  generalize numOf (bs.take 8) = n0 at *
  generalize numOf ((bs.drop 8).take 8) = n1 at *
  generalize numOf ((bs.drop 16).take 8) = n2 at *
  have HA : Hid (bits .and .u64 (n1 : Int) 4294967295 = ((n1 % 4294967296 : Nat) : Int)) := Lib.hid (by
    have := u64_and_nat n1 4294967295 hlt (by omega)
    rw [show ((4294967295 : Nat) : Int) = 4294967295 from rfl] at this
    rw [this, show (4294967295 : Nat) = 2 ^ 32 - 1 from rfl, Nat.and_two_pow_sub_one_eq_mod])
  go_enter Tryz.func96, Tryz.ntmps96
  go_wp2_with fail
  have HB1 : Hid (Below w.heap.size w (w.alloc (.cells #[.int .u64 0, .int .i64 0, .int .i64 0, .int .i64 0] 46))) := Lib.hid ((Below.refl _ _).alloc (Nat.le_refl _) _)
  refine (HN.out _ HB1.out _).mono ?_
  rintro e w2 ⟨rfl, rfl⟩
  go_wp2_with fail
  have HB2 : Hid (Below w.heap.size w (w.alloc (.cells #[.int .u64 0, .int .i64 0, .int .i64 0, .int .i64 0] 46)).drew) := Lib.hid HB1.out.drew
  have HC0 := HN0.out _ HB2.out cap
  have HC16 := HN16.out _ HB2.out (cap - 16)
  have i8 : (8 : Int) ≤ (cap : Int) := by omega
  have i16 : (16 : Int) ≤ (cap : Int) := by omega
  have i24 : (24 : Int) ≤ (cap : Int) := by omega
  have e16 : ((cap : Int) - 16).toNat = cap - 16 := by omega
  refine wp_region_still_tail 14 (by kernel_rfl) (by kernel_rfl) ?_
  simp only [List.take_succ_cons, List.take_zero, List.drop_succ_cons, List.drop_zero]
  change wpStill _ _ (World.drew (w.alloc (.cells #[.int .u64 0, .int .i64 0, .int .i64 0, .int .i64 0] 46))) _ _ _
  still_step
  still_step
  still_call HC0
  still_step
  still_step
  still_step
  still_step
  still_step
  still_step
  still_step
  still_step
  still_call HC16
  still_step
  still_step
  refine wpStill_nil ?_
  change wpList _ _ _ _ _ (World.drew (w.alloc (.cells #[.int .u64 0, .int .i64 0, .int .i64 0, .int .i64 0] 46)))
  clear HC0 HC16
  go_wp2
  go_returns
  have hw : wrap64 ((n1 % 4294967296 : Nat) : Int) = ((n1 % 4294967296 : Nat) : Int) := by unfold wrap64; omega
  have hd : (n1 : Int) / 4294967296 = ((n1 / 4294967296 : Nat) : Int) := by omega
  rw [HA.out, hw, hd]
  exact ⟨rfl, ((Below.refl _ _).alloc (Nat.le_refl _) _).drew⟩
end Go.Proofs.YtnaejlfjlennhaaGreatDoor
/- Layer 9: addresses packed and unpacked, as lists. Nothing of the program is named. -/
namespace Go.Proofs.YtnaejlfjlennhaaGreatDoor
open Go.RowKit
set_option linter.unusedVariables false
set_option linter.unusedSimpArgs false

/-- the addresses of the first k bits of an odd number -/
def bitsK (v nx k : Nat) : List Nat := (List.range k).filterMap fun i => if v.testBit (i + 1) then some ((nx + 8 * i) % 18446744073709551616) else none
theorem bitsK_zero (v nx : Nat) : bitsK v nx 0 = [] := rfl
theorem bitsK_succ (v nx k : Nat) : bitsK v nx (k + 1) = bitsK v nx k ++ (if v.testBit (k + 1) then [(nx + 8 * k) % 18446744073709551616] else []) := by
  unfold bitsK
  rw [List.range_succ, List.filterMap_append]
  congr 1
  by_cases h : v.testBit (k + 1) <;> simp [h]
theorem bitsK_yes {v nx k : Nat} (h : v.testBit (k + 1) = true) : bitsK v nx (k + 1) = bitsK v nx k ++ [(nx + 8 * k) % 18446744073709551616] := by rw [bitsK_succ, if_pos h]
theorem bitsK_no {v nx k : Nat} (h : v.testBit (k + 1) = false) : bitsK v nx (k + 1) = bitsK v nx k := by rw [bitsK_succ, if_neg (by simp [h]), List.append_nil]
theorem bitsK_length (v nx k : Nat) : (bitsK v nx k).length ≤ k := by
  induction k with
  | zero => simp [bitsK]
  | succ k ih => rw [bitsK_succ, List.length_append]; split <;> simp <;> omega
theorem bitsK_lt (v nx k : Nat) : ∀ y ∈ bitsK v nx k, y < 18446744073709551616 := by
  intro y hy
  obtain ⟨i, -, hi⟩ := List.mem_filterMap.1 hy
  split at hi
  · cases hi; exact Nat.mod_lt _ (by decide)
  · cases hi

def unStep (s : List Nat × Nat) (v : Nat) : List Nat × Nat :=
  if v % 2 = 0 then (s.1 ++ [v], (v + 8) % 18446744073709551616) else (s.1 ++ bitsK v s.2 63, (s.2 + 504) % 18446744073709551616)
def unRun (ys : List Nat) : List Nat × Nat := ys.foldl unStep ([], 0)
theorem unRun_snoc (ys : List Nat) (v : Nat) : unRun (ys ++ [v]) = unStep (unRun ys) v := by simp [unRun]
theorem unRun_take {ys : List Nat} {k : Nat} (h : k < ys.length) : unRun (ys.take (k + 1)) = unStep (unRun (ys.take k)) (ys.getD k 0) := by
  rw [List.take_succ_eq_append_getElem h, unRun_snoc, getD_getElem h]
theorem unStep_len (s : List Nat × Nat) (v : Nat) : s.1.length ≤ (unStep s v).1.length := by unfold unStep; split <;> simp
theorem unFold_len (s : List Nat × Nat) (ys : List Nat) : s.1.length ≤ (ys.foldl unStep s).1.length := by
  induction ys generalizing s with
  | nil => simp
  | cons y ys ih => exact Nat.le_trans (unStep_len s y) (ih _)
theorem unRun_len (ys : List Nat) (k : Nat) : (unRun (ys.take k)).1.length ≤ (unRun ys).1.length := by
  have : unRun ys = (ys.drop k).foldl unStep (unRun (ys.take k)) := by
    unfold unRun
    rw [← List.foldl_append, List.take_append_drop]
  rw [this]
  exact unFold_len _ _
theorem unRun_even {ys : List Nat} {k : Nat} (h : k < ys.length) (h2 : ys.getD k 0 % 2 = 0) : unRun (ys.take (k + 1)) = ((unRun (ys.take k)).1 ++ [ys.getD k 0], (ys.getD k 0 + 8) % 18446744073709551616) := by
  rw [unRun_take h, unStep, if_pos h2]
theorem unRun_odd {ys : List Nat} {k : Nat} (h : k < ys.length) (h2 : ¬ ys.getD k 0 % 2 = 0) : unRun (ys.take (k + 1)) = ((unRun (ys.take k)).1 ++ bitsK (ys.getD k 0) (unRun (ys.take k)).2 63, ((unRun (ys.take k)).2 + 504) % 18446744073709551616) := by
  rw [unRun_take h, unStep, if_neg h2]
theorem unRun_next_lt (ys : List Nat) : (unRun ys).2 < 18446744073709551616 := by
  rcases List.eq_nil_or_concat ys with rfl | ⟨xs, v, rfl⟩
  · decide
  · rw [List.concat_eq_append, unRun_snoc, unStep]
    split <;> exact Nat.mod_lt _ (by decide)

/-- what Unpack answers: the error's number, and the addresses -/
def unRF (ys : List Nat) : Nat × List Nat :=
  if ys.headD 0 % 2 = 1 then (3, []) else if 16384 < (unRun ys).1.length then (2, []) else (0, (unRun ys).1)

theorem unF_odd {ys : List Nat} (h : ys.headD 0 % 2 = 1) : unRF ys = (3, []) := by rw [unRF, if_pos h]
theorem unF_long {ys : List Nat} (h : ¬ ys.headD 0 % 2 = 1) {k : Nat} (h2 : 16384 < (unRun (ys.take k)).1.length) : unRF ys = (2, []) := by
  have := unRun_len ys k
  rw [unRF, if_neg h, if_pos (by omega)]
theorem unF_yes {ys : List Nat} (h : ¬ ys.headD 0 % 2 = 1) (h2 : (unRun ys).1.length ≤ 16384) : unRF ys = (0, (unRun ys).1) := by
  rw [unRF, if_neg h, if_neg (by omega)]

theorem bit_one (v : Nat) : v % 2 = 1 ↔ v.testBit 0 = true := by simp [Nat.testBit_zero]
theorem bit_of (v i : Nat) : v.testBit i = decide (v / 2 ^ i % 2 = 1) := Nat.testBit_eq_decide_div_mod_eq

theorem and_two_pow (v j : Nat) : v &&& 2 ^ j = if v.testBit j then 2 ^ j else 0 := by
  apply Nat.eq_of_testBit_eq
  intro i
  rw [Nat.testBit_and, Nat.testBit_two_pow]
  by_cases h : j = i
  · subst h
    cases hv : v.testBit j <;> simp
  · cases hv : v.testBit j <;> simp [h, Nat.testBit_two_pow]

/-- v & 2^j -/
theorem and_pow (v j : Nat) (hv : v < 18446744073709551616) (hj : j < 64) : bits .and .u64 (v : Int) ((2 ^ j : Nat) : Int) = if v.testBit j then ((2 ^ j : Nat) : Int) else 0 := by
  have hp : 2 ^ j < 18446744073709551616 := by
    rw [show (18446744073709551616 : Nat) = 2 ^ 64 from rfl]
    exact Nat.pow_lt_pow_right (by omega) hj
  rw [u64_and_nat v (2 ^ j) hv hp, and_two_pow]
  cases v.testBit j <;> simp

theorem shl_wrap (j : Nat) (hj : j < 63) : IntKind.u64.wrap ((2 : Int) * 2 ^ j) = ((2 ^ (j + 1) : Nat) : Int) := by
  have hp : 2 ^ (j + 1) < 18446744073709551616 := by
    rw [show (18446744073709551616 : Nat) = 2 ^ 64 from rfl]
    exact Nat.pow_lt_pow_right (by omega) (by omega)
  have e : (2 : Int) * 2 ^ j = ((2 ^ (j + 1) : Nat) : Int) := by
    rw [Nat.pow_succ, Int.natCast_mul, Int.natCast_pow, Int.mul_comm]
    rfl
  rw [e, IntKind.wrap_u64]
  generalize 2 ^ (j + 1) = p at *
  omega
theorem test_bit (v j : Nat) (hv : v < 18446744073709551616) (hj : j < 63) : (bits .and .u64 (v : Int) (IntKind.u64.wrap ((2 : Int) * 2 ^ j)) != 0) = v.testBit (j + 1) := by
  rw [shl_wrap j hj, and_pow v (j + 1) hv (by omega)]
  cases v.testBit (j + 1)
  · rfl
  · rw [if_pos rfl, bne_iff_ne]
    have : 0 < 2 ^ (j + 1) := Nat.two_pow_pos _
    generalize 2 ^ (j + 1) = p at *
    omega
theorem next_wrap (nx j : Nat) : IntKind.u64.wrap ((nx : Int) + 8 * (j : Int)) = (((nx + 8 * j) % 18446744073709551616 : Nat) : Int) := by
  rw [IntKind.wrap_u64]
  omega
theorem half_pow (v j : Nat) : v / 2 ^ j / 2 = v / 2 ^ (j + 1) := by rw [Nat.div_div_eq_div_mul, Nat.pow_succ]
theorem half_bit (v j : Nat) : v.testBit (j + 1) = decide (v / 2 ^ j / 2 % 2 = 1) := by rw [half_pow, bit_of]
end Go.Proofs.YtnaejlfjlennhaaGreatDoor
/- Layer 9: rels.Unpack answers what the lists say. -/
namespace Go.Proofs.YtnaejlfjlennhaaGreatDoor
open Go.RowKit
set_option linter.unusedVariables false
set_option linter.unusedSimpArgs false

theorem slice64 : IntSlice Tryz.prog 28 24 .u64 8 := ⟨Tryz.underlying28, by kernel_rfl⟩

/-- what a call answers that tells an error and a list of its own -/
def Tells (f : Value → Nat → Ending) (r : Nat × List Nat) (w : World) (e : Ending) (w' : World) : Prop :=
  ∃ v, e = f v r.1 ∧ OwnI w' w.heap.size 24 .u64 v (toI r.2) ∧ Below w.heap.size w w'

def progEnd (v : Value) (c : Nat) : Ending := .returned (.tuple #[v, errV c])
def refEnd (v : Value) (c : Nat) : Ending := .returned (.tuple #[v, .int .i64 c])

theorem Tells.mk {f : Value → Nat → Ending} {F : Nat × List Nat} {c : Nat} {r : List Nat} {w w' : World} {e : Ending} {v : Value} (hu : F = (c, r)) (he : e = f v c) (ho : OwnI w' w.heap.size 24 .u64 v (toI r)) (hb : Below w.heap.size w w') : Tells f F w e w' := by
  subst hu
  exact ⟨v, he, ho, hb⟩

theorem and_one_even {v : Nat} (hv : v < 18446744073709551616) (h : v % 2 = 0) : bits .and .u64 (v : Int) 1 = 0 := by
  have := and_pow v 0 hv (by omega)
  rw [if_neg (by rw [← bit_one]; omega)] at this
  exact this
theorem and_one_odd {v : Nat} (hv : v < 18446744073709551616) (h : ¬ v % 2 = 0) : bits .and .u64 (v : Int) 1 = 1 := by
  have := and_pow v 0 hv (by omega)
  rw [if_pos (by rw [← bit_one]; omega)] at this
  exact this

set_option maxHeartbeats 1000000 in
theorem unpack_odd (a : Option Addr) (cap : Nat) (ys : List Nat) (w : World) (h : NRow w a ys) (hl : ys.length * 8 ≤ 140737488351232) (h1 : ys.headD 0 % 2 = 1) :
    Calls Tryz.prog 64 #[.slice a ys.length cap] w (Tells progEnd (3, []) w) := by
  have h0 : 0 < ys.length := by
    rcases ys with _ | ⟨y, ys⟩
    · simp at h1
    · simp
  obtain ⟨b, off, rfl, hb, hc, hy⟩ := h.at h0
  have hh : ys.headD 0 = ys.getD 0 0 := by cases ys <;> rfl
  rw [hh] at h1
  have ha := and_one_odd hy (by omega)
  generalize ys.getD 0 0 = y at *
  have hne : bits .and .u64 (y : Int) 1 ≠ 0 := by rw [ha]; decide
  rw [Nat.add_zero] at hc
  go_enter Tryz.func64, Tryz.ntmps64
  go_wp2
  go_ret2
  exact ⟨_, rfl, OwnI.nil _ _ _ _, Below.refl _ _⟩

set_option maxRecDepth 100000 in
set_option maxHeartbeats 4000000 in
theorem unpack_run (a : Option Addr) (cap : Nat) (ys : List Nat) (w : World) (h : NRow w a ys) (hl : ys.length * 8 ≤ 140737488351232) (h1 : ¬ ys.headD 0 % 2 = 1) (h0 : 0 < ys.length) :
    Calls Tryz.prog 64 #[.slice a ys.length cap] w (Tells progEnd (unRF ys) w) := by
  obtain ⟨b, off, rfl, hb, hc, hy⟩ := h.at h0
  have hh : ys.headD 0 = ys.getD 0 0 := by cases ys <;> rfl
  have h1' := h1
  rw [hh] at h1'
  have ha := and_one_even hy (by omega)
  have HH := Lib.hid h1
  have H := Lib.hid h
  clear hh h1 h
  generalize ys.getD 0 0 = y at *
  rw [Nat.add_zero] at hc
  go_enter Tryz.func64, Tryz.ntmps64
  go_wp2
  clear hc ha
  go_loopw [4, 5, 22] (fun u n i wr => ∃ (k nx : Nat) (out : List Nat) (ad : Option Addr) (cp : Nat), k ≤ ys.length ∧ i = .int .i64 k ∧ n = .int .u64 nx ∧ u = .slice ad out.length cp ∧ OwnI wr w.heap.size 24 .u64 (.slice ad out.length cp) (toI out) ∧ Below w.heap.size w wr ∧ out.length ≤ 16384 ∧ nx < 18446744073709551616 ∧ Hid (unRun (ys.take k) = (out, nx))) (fun _ _ i _ => ys.length - (intOf i).toNat)
  case atStart => exact ⟨0, 0, [], none, 0, Nat.zero_le _, rfl, rfl, rfl, OwnI.nil _ _ _ _, Below.refl _ _, by simp, by omega, Lib.hid rfl⟩
  case round =>
    obtain ⟨k, nx, out, ad, cp, hk, rfl, rfl, rfl, hown, hbe, hout, hnx, hrun⟩ := hrel
    have hsz := hbe.size
    by_cases hlt : k < ys.length
    · obtain ⟨b', off', e, -, hck, hx⟩ := (H.out.below hbe).at hlt
      simp only [Option.some.injEq, Addr.mk.injEq, and_true] at e
      obtain ⟨rfl, rfl⟩ := e
      by_cases h2 : ys.getD k 0 % 2 = 0
      · have hab := and_one_even hx h2
        have HR := Lib.hid (unRun_even hlt h2)
        generalize ys.getD k 0 = x at *
        by_cases h3 : out.length + 1 ≤ 16384
        · go_wp2_with (first
            | (at_builtin; refine wpList_push rfl (.tmp 29) (.tmp 31) slice64 rfl w.heap.size w _ (toI out) out.length (x : Int) rfl rfl (toI_length out) hown (by unfold maxLen; omega) (by omega) hbe hsz ?_; intro ad1 cp1 w1 hown1 hbe1; clear hown hbe))
          go_roundw
          case rel => exact ⟨k + 1, (x + 8) % 18446744073709551616, out ++ [x], ad1, cp1, by omega, by go_num, by go_num, by simp, by simpa [toI] using hown1, hbe1, by simpa using h3, Nat.mod_lt _ (by decide), Lib.hid (by rw [HR.out, hrun.out])⟩
          case measure => simp [intOf]; omega
        · go_wp2_with (first
            | (at_builtin; refine wpList_push rfl (.tmp 29) (.tmp 31) slice64 rfl w.heap.size w _ (toI out) out.length (x : Int) rfl rfl (toI_length out) hown (by unfold maxLen; omega) (by omega) hbe hsz ?_; intro ad1 cp1 w1 hown1 hbe1; clear hown hbe))
          go_ret2
          exact Tells.mk (unF_long HH.out (k := k + 1) (by rw [HR.out, hrun.out]; simp; omega)) rfl (OwnI.nil _ _ _ _) hbe1
      · have hab := and_one_odd hx h2
        have HR := Lib.hid (unRun_odd hlt h2)
        rw [hrun.out] at HR
        generalize ys.getD k 0 = x at *
        go_wp2
        go_loopw [4, 35] (fun u c wr2 => ∃ (j : Nat) (ad2 : Option Addr) (cp2 : Nat), j ≤ 63 ∧ c = .int .u64 j ∧ u = .slice ad2 (out.length + (bitsK x nx j).length) cp2 ∧ OwnI wr2 w.heap.size 24 .u64 (.slice ad2 (out.length + (bitsK x nx j).length) cp2) (toI (out ++ bitsK x nx j)) ∧ Below w.heap.size w wr2) (fun _ c _ => 63 - (intOf c).toNat)
        case atStart => exact ⟨0, ad, cp, by omega, rfl, rfl, by rw [bitsK_zero, List.append_nil]; exact hown, hbe⟩
        case round =>
          clear hown hbe hsz
          obtain ⟨j, ad2, cp2, hj, rfl, rfl, hown, hbe⟩ := hrel
          have hsz := hbe.size
          have hbl := bitsK_length x nx j
          by_cases hj2 : j < 63
          · have htb := test_bit x j hx hj2
            cases hb2 : x.testBit (j + 1) with
            | true =>
              rw [hb2] at htb
              have HB := Lib.hid (bitsK_yes (nx := nx) hb2)
              have HL : Hid ((toI (out ++ bitsK x nx j)).length = out.length + (bitsK x nx j).length) := Lib.hid (by rw [toI_length, List.length_append])
              clear hb2
              generalize bitsK x nx j = done at *
              go_wp2_with (first
                | (at_builtin; refine wpList_push rfl (.tmp 43) (.tmp 48) slice64 rfl w.heap.size w _ _ (out.length + done.length) _ rfl rfl HL.out hown (by unfold maxLen; omega) (by omega) hbe hsz ?_; intro ad1 cp1 w1 hown1 hbe1; clear hown hbe))
              go_roundw
              case rel => exact ⟨j + 1, ad1, cp1, by omega, by go_num, by rw [HB.out]; simp; omega, by rw [HB.out]; rw [next_wrap] at hown1; simpa [toI, Nat.add_assoc] using hown1, hbe1⟩
              case measure => simp [intOf]; omega
            | false =>
              rw [hb2] at htb
              have HB := Lib.hid (bitsK_no (nx := nx) hb2)
              clear hb2
              generalize bitsK x nx j = done at *
              go_wp2
              go_roundw
              case rel => exact ⟨j + 1, ad2, cp2, by omega, by go_num, by rw [HB.out], by rw [HB.out]; exact hown, hbe⟩
              case measure => simp [intOf]; omega
          · obtain rfl : j = 63 := by omega
            generalize bitsK x nx 63 = done at *
            by_cases h3 : out.length + done.length ≤ 16384
            · go_wp2
              go_roundw
              case rel => exact ⟨k + 1, (nx + 504) % 18446744073709551616, out ++ done, ad2, cp2, by omega, by go_num, by go_num, by simp, by simpa using hown, hbe, by simpa using h3, Nat.mod_lt _ (by decide), HR⟩
              case measure => simp [intOf]; omega
            · go_wp2
              go_ret2
              exact Tells.mk (unF_long HH.out (k := k + 1) (by rw [HR.out]; simp; omega)) rfl (OwnI.nil _ _ _ _) hbe
    · have hk' : k = ys.length := by omega
      have HK := Lib.hid hk'; clear hk'
      go_wp2
      go_ret2
      have hr := hrun.out
      rw [HK.out, List.take_length] at hr
      exact Tells.mk (unF_yes HH.out (by rw [hr]; exact hout)) rfl (by rw [hr]; exact hown) hbe
theorem unpack_nil (a : Option Addr) (cap : Nat) (w : World) :
    Calls Tryz.prog 64 #[.slice a 0 cap] w (Tells progEnd (unRF []) w) := by
  go_enter Tryz.func64, Tryz.ntmps64
  go_wp2
  go_loopw [4, 5, 22] (fun u n i wr => u = .slice none 0 0 ∧ i = .int .i64 0 ∧ wr = w) (fun _ _ i _ => 0 - (intOf i).toNat)
  case atStart => exact ⟨rfl, rfl, rfl⟩
  case round =>
    obtain ⟨rfl, rfl, rfl⟩ := hrel
    go_wp2
    go_ret2
    exact ⟨_, rfl, OwnI.nil _ _ _ _, Below.refl _ _⟩

theorem unpack_any (a : Option Addr) (cap : Nat) (ys : List Nat) (w : World) (h : NRow w a ys) (hl : ys.length * 8 ≤ 140737488351232) :
    Calls Tryz.prog 64 #[.slice a ys.length cap] w (Tells progEnd (unRF ys) w) := by
  by_cases h1 : ys.headD 0 % 2 = 1
  · rw [unF_odd h1]
    exact unpack_odd a cap ys w h hl h1
  · by_cases h0 : 0 < ys.length
    · exact unpack_run a cap ys w h hl h1 h0
    · obtain rfl : ys = [] := List.eq_nil_of_length_eq_zero (by omega)
      exact unpack_nil a cap w
end Go.Proofs.YtnaejlfjlennhaaGreatDoor
/- Bytes that came in, as a row. -/
namespace Go.Proofs.YtnaejlfjlennhaaGreatDoor
open Go.RowKit Go.Maps
set_option linter.unusedVariables false
set_option linter.unusedSimpArgs false

theorem bytes_row {W : World} {a : Option Addr} {len cap : Nat} {z : List Int} (w0 : IsRow .u8 W a len cap z) : ∃ bs : List Nat, bs.length = len ∧ BRow W a bs ∧ len ≤ cap ∧ (a = none → len = 0 ∧ cap = 0) := by
  obtain ⟨xs, h1, h2, h3, h4, -, h6⟩ := w0.row
  refine ⟨xs.map Int.toNat, by simp [h1], ⟨?_, ?_⟩, h4, h6⟩
  · have : toI (xs.map Int.toNat) = xs := by
      unfold toI
      rw [List.map_map]
      conv => rhs; rw [← List.map_id xs]
      apply List.map_congr_left
      intro x hx
      have := wf_u8_bounds (h3 x hx)
      simp
      omega
    rw [this]
    exact h2
  · intro b hb
    obtain ⟨x, hx, rfl⟩ := List.mem_map.1 hb
    have := wf_u8_bounds (h3 x hx)
    omega
end Go.Proofs.YtnaejlfjlennhaaGreatDoor
