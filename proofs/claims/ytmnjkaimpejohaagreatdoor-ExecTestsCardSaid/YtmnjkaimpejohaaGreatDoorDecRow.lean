/- Layer 12: the parts of a row that an opcode's lowest bit tells; which kinds a row has. -/
import Derived.Test.YtmnjkaimpejohaaGreatDoorDecF
import Derived.Test.YtmnjkaimpejohaaGreatDoorErrs
import Derived.Test.YtmnjkaimpejohaaGreatDoorKit
import Derived.Test.YtmnjkaimpejohaaGreatDoorNear
import Derived.Handy
import Derived.Laws.CopyOwn
import Derived.BigRegion
import Derived.BigQuiet
import Derived.Deep.RegionHeld3
namespace Go.Proofs.YtmnjkaimpejohaaGreatDoor
open Go.RowKit
set_option linter.unusedVariables false
set_option linter.unusedSimpArgs false

/-- an opcode, as a value -/
def opV (esc : Bool) (code digit ext : Nat) : Value := .agg #[.bool esc, .int .u8 (code : Int), .int .u8 (digit : Int), .int .u8 (ext : Int)]
def partV (p : Nat × Nat) : Value := .agg #[.int .u8 (p.1 : Int), .int .u8 (p.2 : Int)]
def DRow.v (r : DRow) : Value := .agg #[.int .u8 (r.op : Int), .int .u8 (r.cond : Int), .int .u8 (r.a.1 : Int), .int .u8 (r.a.2 : Int), .int .u8 (r.b.1 : Int), .int .u8 (r.b.2 : Int), .int .u8 (r.c.1 : Int), .int .u8 (r.c.2 : Int)]
theorem and1 : ∀ c : Fin 256, bits .and .u8 (c.val : Int) 1 = ((c.val % 2 : Nat) : Int) := by decide +kernel
set_option maxRecDepth 100000 in
theorem sized_any (esc : Bool) (code digit ext kind : Nat) (w : World) (hc : code < 256) :
    Calls Tryz.prog 96 #[opV esc code digit ext, .int .u8 (kind : Int)] w fun e w' => e = .returned (partV (sizedF code kind)) ∧ Below w.heap.size w w' := by
  have a1 : bits .and .u8 (code : Int) 1 = ((code % 2 : Nat) : Int) := and1 ⟨code, hc⟩
  unfold opV partV sizedF
  rcases Nat.mod_two_eq_zero_or_one code with h | h
  · rw [h] at a1 ⊢
    rw [if_pos rfl]
    go_enter Tryz.func96, Tryz.ntmps96
    go_wp2_with fail
    go_returns
    exact ⟨rfl, by go_grown⟩
  · rw [h] at a1 ⊢
    rw [if_neg (by decide)]
    go_enter Tryz.func96, Tryz.ntmps96
    go_wp2_with fail
    go_returns
    exact ⟨rfl, by go_grown⟩
/-- the second of two new blocks -/
theorem two_new (w : World) (a b : Array Value) (T U : TypeId) : ((w.alloc (.cells a T)).alloc (.cells b U)).heap[w.heap.size + 1]? = some (.cells b U) := by
  have := heap_alloc_new (w.alloc (.cells a T)) (.cells b U)
  rwa [World.size_alloc] at this
/-- eight stores behind a bound -/
theorem below8 {n g : Nat} {a b : World} (h : Below n a b) (hn : n ≤ g) (v0 v1 v2 v3 v4 v5 v6 v7 : Value) :
    Below n a ((((((((b.setCell ⟨g, 0, none⟩ v0).setCell ⟨g, 1, none⟩ v1).setCell ⟨g, 2, none⟩ v2).setCell ⟨g, 3, none⟩ v3).setCell ⟨g, 4, none⟩ v4).setCell ⟨g, 5, none⟩ v5).setCell ⟨g, 6, none⟩ v6).setCell ⟨g, 7, none⟩ v7) :=
  (((((((h.setCell hn v0).setCell hn v1).setCell hn v2).setCell hn v3).setCell hn v4).setCell hn v5).setCell hn v6).setCell hn v7
theorem eight_stores {w : World} {b : Nat} {T : TypeId} {u0 u1 u2 u3 u4 u5 u6 u7 : Value} (E : w.heap[b]? = some (.cells #[u0, u1, u2, u3, u4, u5, u6, u7] T)) (v0 v1 v2 v3 v4 v5 v6 v7 : Value) :
    ((((((((w.setCell ⟨b, 0, none⟩ v0).setCell ⟨b, 1, none⟩ v1).setCell ⟨b, 2, none⟩ v2).setCell ⟨b, 3, none⟩ v3).setCell ⟨b, 4, none⟩ v4).setCell ⟨b, 5, none⟩ v5).setCell ⟨b, 6, none⟩ v6).setCell ⟨b, 7, none⟩ v7) = w.setRow b #[v0, v1, v2, v3, v4, v5, v6, v7] := by
  have step : ∀ (cs : Array Value) (i : Nat) (v : Value), (w.setRow b cs).setCell ⟨b, i, none⟩ v = w.setRow b (cs.setIfInBounds i v) := fun cs i v => by
    rw [setCell_eq_setRow _ _ _ _ _ _ _ (setRow_heap w b _ cs T (0, 0) E), setRow_setRow]
  rw [setCell_eq_setRow w b 0 _ _ _ _ E, step, step, step, step, step, step, step]
  simp only [List.setIfInBounds_toArray, List.set_cons_zero, List.set_cons_succ]
theorem near_drew {bo : Nat} {a b : World} (h : Near bo a b) : Near bo a b.drew := ⟨h.below.drew, h.rest⟩
theorem near_row (g : Nat) (w : World) (cs : Array Value) : Near g w (w.setRow g cs) := ⟨below_setRow (Below.refl _ _) (Nat.le_refl _) _, fun k h1 _ => setRow_other w g k cs (by omega)⟩
theorem results_cellT {P : Program} {fn : Func} {p q : Tmp} {ty : TypeId} (h : fn.results = #[.cell p ty, .tmp q]) (tmps : Array Value) (w : World) (g : Nat) (t : TypeId) (cs : Array Value) (fr : Nat × Nat) (d : TypeDesc)
    (hp : tmps.getD p undef = .pointer (some ⟨g, 0, none⟩)) (hg : w.heap[g]? = some (.cells cs t fr))
    (hu : P.underlying ty = some d) (hd : (match d with | .struct _ | .array _ _ => true | _ => false) = true) (hi : (P.info? ty).map (·.size) = some cs.size) :
    (results fn tmps).run P w = .ok (.tuple #[.agg cs, tmps.getD q undef]) w := by
  have hp' : tmps[p]?.getD undef = .pointer (some ⟨g, 0, none⟩) := by simpa using hp
  simp [results, h, hp', asAddr, run_loadVar_row w g t ty cs fr d hg hu hd hi]
/-- three new blocks -/
theorem three_new (w : World) (a b c : Array Value) (T U V : TypeId) : ((((w.alloc (.cells a T)).alloc (.cells b U)).alloc (.cells c V)).heap[w.heap.size]? = some (.cells a T)) ∧ ((((w.alloc (.cells a T)).alloc (.cells b U)).alloc (.cells c V)).heap[w.heap.size + 1]? = some (.cells b U)) ∧ ((((w.alloc (.cells a T)).alloc (.cells b U)).alloc (.cells c V)).heap[w.heap.size + 2]? = some (.cells c V)) := by
  refine ⟨?_, ?_, ?_⟩
  · rw [heap_alloc_old _ _ (by simp; omega), heap_alloc_old _ _ (by simp)]
    exact heap_alloc_new _ _
  · rw [heap_alloc_old _ _ (by simp)]
    exact two_new w a b T U
  · have := heap_alloc_new ((w.alloc (.cells a T)).alloc (.cells b U)) (.cells c V)
    rwa [World.size_alloc, World.size_alloc] at this
end Go.Proofs.YtmnjkaimpejohaaGreatDoor
