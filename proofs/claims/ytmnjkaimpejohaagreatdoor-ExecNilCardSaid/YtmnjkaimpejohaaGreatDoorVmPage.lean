/- Layer 2: a page that is new. -/
import Derived.Test.YtmnjkaimpejohaaGreatDoorVmByte
namespace Go.Proofs.YtmnjkaimpejohaaGreatDoor
open Go.RowKit
set_option linter.unusedVariables false
set_option linter.unusedSimpArgs false

theorem wp_buildas {P : Program} {o : Oper} {a : Act} {w : World} {K : Act → World → Prop} {Q : Exit → Act → World → Prop} (t : TypeId) (parts : Array (Nat × Operand)) (ho : o.op = .build t parts)
    (vals : List (Nat × Value)) (cells : Array Value) (hv : (parts.map fun (i, x) => (i, a.eval x)).toList = vals) (hb : P.built t vals = some cells) (h : K (a.put o.dst (.agg cells)) w) : o.wp P a w K Q := by
  subst hv
  exact wp_build t parts ho (by rw [hb]; rfl) (by rw [hb]; exact h)

/-- a new page -/
def newPg (perm : Nat) : Pg := ⟨List.replicate 4096 0, perm⟩
theorem newPg_ok {perm : Nat} (h : perm < 8) : (newPg perm).Ok := ⟨List.length_replicate, fun b hb => by
  obtain rfl := (List.mem_replicate.1 hb).2
  omega, h⟩
set_option maxRecDepth 1000000 in
theorem page_built (perm : Nat) : Tryz.prog.built 76 [(1, .int .i64 (perm : Int))] = some (newPg perm).cells.toArray := by kernel_rfl
theorem page_cells (perm : Nat) : (Value.agg (newPg perm).cells.toArray).cells = (newPg perm).cells.toArray := rfl

/-- a page more: its block is laid, and told to the map -/
theorem VmAt.add_page {w w2 : World} {mb : Nat} {S : Nat → Prop} {q c : Nat} {V : Nat → Option Pg} {g : Nat} {F : Nat → Option Nat} (h : VmAt w mb S q c V g F) {k : Nat} {p : Pg} (hk : V k = none) (hlow : k < 34359738368) (hc : c < q) (ho : p.Ok)
    (hm : PM w2 Tryz.prog 22 g (upd F k (some w.heap.size)) (c + 1)) (ht : (w.alloc (.cells p.cells.toArray 76)).mapTurned w2 g) :
    VmAt w2 mb (fun b => S b ∨ b = w.heap.size) q (c + 1) (updV V k (some p)) g (upd F k (some w.heap.size)) := by
  have hg := ht.grown
  have hmb : mb < w.heap.size := h.lt
  have hfk := h.at_none hk
  have old : ∀ b, b < w.heap.size → b ≠ g → w2.heap[b]? = w.heap[b]? := fun b hb hne => (hg.block b (by simp; omega) (by simpa using hne)).trans (heap_alloc_old _ _ hb)
  have hbg : mb ≠ g := by
    intro e
    obtain ⟨D, ⟨es, cl, h1, -⟩, -⟩ := h.map
    rw [← e, h.box] at h1
    cases h1
  have hnew : w2.heap[w.heap.size]? = some (.cells p.cells.toArray 76) := (hg.block _ (by simp) (by have := h.map.lt; simp; omega)).trans (heap_alloc_new _ _)
  refine ⟨(old mb hmb hbg).trans h.box, hm, ?_, ?_, ?_, .inl h.own, ?_, h.quota, by omega⟩
  · intro j b hj
    by_cases e : j = k
    · subst e
      rw [upd_same] at hj
      obtain rfl := Option.some.inj hj
      exact ⟨.inr rfl, p, updV_same _ _ _, ho, hnew⟩
    · rw [upd_other e] at hj
      obtain ⟨h0, p1, h1, h2, h3⟩ := h.page j b hj
      have hblt : b < w.heap.size := (Array.getElem?_eq_some_iff.1 h3).1
      have hne : b ≠ g := by
        intro e2
        obtain ⟨D, ⟨es, cl, h4, -⟩, -⟩ := h.map
        rw [← e2, h3] at h4
        cases h4
      exact ⟨.inl h0, p1, (updV_other e).trans h1, h2, (old b hblt hne).trans h3⟩
  · intro j hj
    by_cases e : j = k
    · subst e; rw [upd_same] at hj; cases hj
    · rw [upd_other e] at hj; rw [updV_other e]; exact h.out j hj
  · intro j j' b hj hj'
    by_cases e : j = k
    · by_cases e' : j' = k
      · rw [e, e']
      · subst e
        rw [upd_same] at hj
        obtain rfl := Option.some.inj hj
        rw [upd_other e'] at hj'
        obtain ⟨-, p1, -, -, h3⟩ := h.page j' _ hj'
        have : w.heap.size < w.heap.size := (Array.getElem?_eq_some_iff.1 h3).1
        omega
    · by_cases e' : j' = k
      · subst e'
        rw [upd_same] at hj'
        obtain rfl := Option.some.inj hj'
        rw [upd_other e] at hj
        obtain ⟨-, p1, -, -, h3⟩ := h.page j _ hj
        have : w.heap.size < w.heap.size := (Array.getElem?_eq_some_iff.1 h3).1
        omega
      · rw [upd_other e] at hj
        rw [upd_other e'] at hj'
        exact h.inj j j' b hj hj'
  · intro j hj
    by_cases e : j = k
    · subst e; exact hlow
    · rw [updV_other e] at hj; exact h.low j hj
end Go.Proofs.YtmnjkaimpejohaaGreatDoor
