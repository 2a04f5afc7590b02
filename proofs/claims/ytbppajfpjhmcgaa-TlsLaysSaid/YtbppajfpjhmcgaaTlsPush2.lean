/- tls: a store that has got one thread more. -/
import Derived.Test.YtbppajfpjhmcgaaTlsPush
namespace Go.Proofs.Ytbppajfpjhmcgaa
open Go.RowKit
set_option linter.unusedVariables false
set_option linter.unusedSimpArgs false

section
variable {sb st last gr n : Nat} {ms : List TM} {ts : List (Nat × Nat)} {ma ta : Option Addr} {mc tc : Nat} {w w6 w7 : World} {o : Obj} {g c : Nat}
theorem StAt.push_thr (H : StAt w sb st last gr ms ts ma mc ta tc) (hn : ts.length = n) (b6 : Below w.heap.size w w6) (m : Nat × Nat)
    (hown : OwnS w7 (sb + 1) 71 2 (.slice (some ⟨g, 0, none⟩) (n + 1) c) (ts.map thrRow ++ [thrRow m])) (hgr : (w6.alloc o).grownBy w7 (Value.slice ta n tc).ownBlock) (hat : (Value.slice ta n tc).ownBlock = some g ∨ g = w6.heap.size + 1) :
    StAt (w7.setCell ⟨sb, 4, none⟩ (.slice (some ⟨g, 0, none⟩) (n + 1) c)) sb st last gr ms (ts ++ [m]) ma mc (some ⟨g, 0, none⟩) c ∧ VKept (stD sb ma ta) w (w7.setCell ⟨sb, 4, none⟩ (.slice (some ⟨g, 0, none⟩) (n + 1) c)) ∧ (∀ k, stD sb ma (some ⟨g, 0, none⟩) k → stD sb ma ta k ∨ w.heap.size ≤ k) ∧ (∀ k, w.heap.size ≤ k → k < w6.heap.size → (w7.setCell ⟨sb, 4, none⟩ (.slice (some ⟨g, 0, none⟩) (n + 1) c)).heap[k]? = w6.heap[k]?) ∧ g ≠ w6.heap.size ∧ ∀ k, w.heap.size ≤ k → k < w6.heap.size → ¬ stD sb ma (some ⟨g, 0, none⟩) k := by
  subst hn
  have hsz := b6.size
  have hsb := (H.blk (.inl rfl)).2
  have keep : ∀ k, k < w.heap.size → (Value.slice ta ts.length tc).ownBlock ≠ some k → w7.heap[k]? = w.heap[k]? := fun k hk hne =>
    (hgr.block k (by simp; omega) (fun e => hne e.symm)).trans ((heap_alloc_old _ _ (by omega)).trans (b6.block k hk))
  have ns := own_ne H.thr (Nat.lt_succ_self sb)
  have X7 := (keep sb hsb ns).trans H.box
  have hsz7 : w.heap.size ≤ w7.heap.size := by have := hgr.size; simp at this; omega
  have hws : (w7.setCell ⟨sb, 4, none⟩ (.slice (some ⟨g, 0, none⟩) (ts.length + 1) c)).heap.size = w7.heap.size := by simp [World.setCell]
  have hold : ∀ b, (Value.slice ta ts.length tc).ownBlock = some b → b < w.heap.size := fun b hb => (World.ownsRow.lt H.thr.1 b hb).2
  refine ⟨⟨?_, ?_, ?_⟩, ⟨?_, ?_, ?_, by rw [hws]; exact hsz7, ?_⟩, ?_, ?_, ?_, ?_⟩
  · rw [heap_setCell_same w7 sb 4 _ _ _ X7, List.length_append]
    simp only [stCells, List.setIfInBounds_toArray, List.set_cons_zero, List.set_cons_succ, List.length_cons, List.length_nil, Nat.zero_add]
  · refine H.mods.of_block (fun b hb => ?_)
    rw [heap_setCell_other _ _ _ _ (fun e => own_ne H.mods (Nat.lt_succ_self sb) (by rw [hb]; exact congrArg some e))]
    exact keep b (World.ownsRow.lt H.mods.1 b hb).2 (own_ne_own H.mods H.thr (by decide) hb)
  · rw [List.length_append, List.map_append]
    exact hown.setO (a := ⟨sb, 4, none⟩) (own_ne hown (Nat.lt_succ_self sb)) _
  · exact (hgr.os.trans b6.os)
  · exact (hgr.tape.trans b6.tape)
  · exact (hgr.output.trans b6.output)
  · intro k hk hd
    rw [heap_setCell_other _ _ _ _ (fun e => hd (.inl e))]
    exact keep k hk (fun e => hd (.inr (.inr ⟨0, own_std H.thr e⟩)))
  · intro k hk
    rcases hk with rfl | h' | ⟨o', h'⟩
    · exact .inl (.inl rfl)
    · exact .inl (.inr (.inl h'))
    · simp only [Option.some.injEq, Addr.mk.injEq] at h'
      obtain ⟨rfl, -⟩ := h'
      rcases hat with hat | hat
      · exact .inl (.inr (.inr ⟨0, own_std H.thr hat⟩))
      · exact .inr (by omega)
  · intro k hk hk2
    rw [heap_setCell_other _ _ _ _ (by show k ≠ sb; omega)]
    exact (hgr.block k (by simp; omega) (fun e => by have := hold k e.symm; omega)).trans (heap_alloc_old _ _ hk2)
  · rcases hat with hat | hat
    · have := hold g hat; omega
    · omega
  · intro k hk hk2 hd
    rcases hd with rfl | h' | ⟨o', h'⟩
    · omega
    · have := (H.blk (.inr (.inl h'))).2; omega
    · simp only [Option.some.injEq, Addr.mk.injEq] at h'
      obtain ⟨rfl, -⟩ := h'
      rcases hat with hat | hat
      · have := hold g hat; omega
      · omega
end
end Go.Proofs.Ytbppajfpjhmcgaa
