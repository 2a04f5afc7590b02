/- Layer 18: where the modules of the start lie. -/
import Derived.Test.YtbppajfpjhmcgaaKit
import Derived.Test.YtbppajfpjhmcgaaSpanUp
import Derived.Deep.LoopGhost
import Derived.WalkMore
namespace Go.Proofs.Ytbppajfpjhmcgaa
open Go.RowKit
set_option linter.unusedVariables false
set_option linter.unusedSimpArgs false

theorem results_four {fn : Func} {t u v x : Tmp} (h : fn.results = #[.tmp t, .tmp u, .tmp v, .tmp x]) (tmps : Array Value) (P : Program) (w : World) :
    (results fn tmps).run P w = .ok (.tuple #[tmps.getD t undef, tmps.getD u undef, tmps.getD v undef, tmps.getD x undef]) w := by
  simp [results, h]
theorem slice64t : IntSlice Try.prog 24 25 .u64 8 := ⟨Try.underlying24, by kernel_rfl⟩

/-- a module: how many bytes its image has, its size, its alignment -/
structure Md where
  il : Nat
  size : Nat
  al : Nat
def MRow (w : World) (a : Option Addr) (l : List Md) : Prop := ∀ i (h : i < l.length), ∃ b o ia ic, a = some ⟨b, o, none⟩ ∧ b < w.heap.size ∧ w.cell? ⟨b, o + i * 3, none⟩ = some (.slice ia l[i].il ic) ∧ w.cell? ⟨b, o + i * 3 + 1, none⟩ = some (.int .u64 (l[i].size : Int)) ∧ w.cell? ⟨b, o + i * 3 + 2, none⟩ = some (.int .u64 (l[i].al : Int)) ∧ l[i].il ≤ 140737488355328 ∧ l[i].size < 18446744073709551616 ∧ l[i].al < 18446744073709551616
theorem MRow.below {w w' : World} {a : Option Addr} {l : List Md} (h : MRow w a l) (hb : Below w.heap.size w w') : MRow w' a l := by
  intro i hi
  obtain ⟨b, o, ia, ic, e, hlt, h0, h1, h2, h3⟩ := h i hi
  exact ⟨b, o, ia, ic, e, Nat.lt_of_lt_of_le hlt hb.size, by rw [hb.cell (p := ⟨b, _, none⟩) hlt]; exact h0, by rw [hb.cell (p := ⟨b, _, none⟩) hlt]; exact h1, by rw [hb.cell (p := ⟨b, _, none⟩) hlt]; exact h2, h3⟩

/-- where a module behind those up to a place lies; none: it may not be -/
def modF (m : Md) (x : Nat) : Option Nat :=
  if Pop.pop (max 1 m.al) ≠ 1 ∨ 4096 < max 1 m.al ∨ m.size < m.il ∨ 1048576 < m.size then none
  else if 1048576 < (x + m.size + (max 1 m.al - 1)) / max 1 m.al * max 1 m.al then none else some ((x + m.size + (max 1 m.al - 1)) / max 1 m.al * max 1 m.al)
def layF : List Md → Nat → Nat → Option (List Nat × Nat × Nat)
  | [], x, mo => some ([], x, mo)
  | m :: r, x, mo => match modF m x with
    | none => none
    | some y => (layF r y (max mo (max 1 m.al))).map fun t => (y :: t.1, t.2)
def layE : Option (List Nat × Nat × Nat) → Value → Value
  | none, _ => .tuple #[.slice none 0 0, .int .u64 0, .int .u64 0, errV 21]
  | some t, v => .tuple #[v, .int .u64 (t.2.1 : Int), .int .u64 (t.2.2 : Int), .nilIface]
/-- what Layout answers -/
def LayAns (R : Option (List Nat × Nat × Nat)) (w : World) (e : Ending) (w' : World) : Prop := (∃ v, e = .returned (layE R v) ∧ OwnI w' w.heap.size 25 .u64 v (toI (match R with | none => [] | some t => t.1))) ∧ Below w.heap.size w w'

set_option maxRecDepth 100000 in
set_option maxHeartbeats 4000000 in
/-- a number brought up to a power of two -/
theorem tup_any (n to i : Nat) (w : World) (h1 : 1 ≤ to) (hi : i < 64) (hp : to = 2 ^ i) (hs : n + to < 9223372036854775808) : Calls Try.prog 19 #[.int .u64 (n : Int), .int .u64 (to : Int)] w fun e w' => e = .returned (.int .u64 (((n + (to - 1)) / to * to : Nat) : Int)) ∧ w = w' := by
  have hb := up_bits n to i (by omega) h1 hi hp
  have e1 : IntKind.u64.wrap ((n : Int) + (to : Int)) = (n : Int) + (to : Int) := by rw [IntKind.wrap_u64]; omega
  have e2 : IntKind.u64.wrap ((n : Int) + (to : Int) - 1) = (n : Int) + ((to : Int) - 1) := by rw [IntKind.wrap_u64]; omega
  have e3 : IntKind.u64.wrap ((to : Int) - 1) = (to : Int) - 1 := by rw [IntKind.wrap_u64]; omega
  generalize (n + (to - 1)) / to * to = z at *
  obtain ⟨t1, ht1⟩ : ∃ t1 : Int, (to : Int) - 1 = t1 := ⟨_, rfl⟩
  obtain ⟨t2, ht2⟩ : ∃ t2 : Int, (n : Int) + (to : Int) = t2 := ⟨_, rfl⟩
  obtain ⟨t3, ht3⟩ : ∃ t3 : Int, (n : Int) + t1 = t3 := ⟨_, rfl⟩
  rw [ht2] at e1
  rw [ht2, ht1, ht3] at e2
  rw [ht1] at e3
  rw [ht1, ht3] at hb
  have HT := Lib.hid (And.intro ht2 ht1)
  have e4 : IntKind.u64.wrap ((n : Int) + (to : Int)) = t2 := by rw [ht2]; exact e1
  have e5 : IntKind.u64.wrap ((to : Int) - 1) = t1 := by rw [ht1]; exact e3
  clear h1 hi hp hs ht1 ht2 ht3 e1 e3
  go_enter Try.func19, Try.ntmps19
  go_wp2_with fail
  go_ret
  exact ⟨rfl, rfl⟩
end Go.Proofs.Ytbppajfpjhmcgaa
