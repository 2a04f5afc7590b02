/- tls: a store that has got one module more, or one thread more. -/
import Derived.Test.YtbppajfpjhmcgaaTlsSt2
namespace Go.Proofs.Ytbppajfpjhmcgaa
open Go.RowKit
set_option linter.unusedVariables false
set_option linter.unusedSimpArgs false

section
variable {sb st last gr n : Nat} {ms : List TM} {ts : List (Nat × Nat)} {ma ta : Option Addr} {mc tc : Nat} {w w6 w7 : World} {o : Obj} {g c : Nat}
theorem own_ne {B : Nat} {e : TypeId} {sz : Nat} {v : Value} {rows : List (List Value)} (h : OwnS w B e sz v rows) {b : Nat} (hb : b < B) : v.ownBlock ≠ some b := fun e1 => by
  have := (World.ownsRow.lt h.1 b e1).1
  omega
theorem own_ne_own {B B' : Nat} {e e' : TypeId} {sz sz' : Nat} {v v' : Value} {rows rows' : List (List Value)} (h : OwnS w B e sz v rows) (h' : OwnS w B' e' sz' v' rows') (hne : e ≠ e') {b : Nat} (hb : v.ownBlock = some b) : v'.ownBlock ≠ some b := fun e1 => by
  rcases own_apart h.1 h'.1 (fun e2 => hne e2.symm) with h0 | h0
  · rw [h0] at e1; cases e1
  · exact h0 (e1.trans hb.symm)
theorem own_std {B : Nat} {e : TypeId} {sz : Nat} {a : Option Addr} {n c : Nat} {rows : List (List Value)} (h : OwnS w B e sz (.slice a n c) rows) {b : Nat} (hb : (Value.slice a n c).ownBlock = some b) : a = some ⟨b, 0, none⟩ := by
  rcases own_plain h with rfl | ⟨b', rfl, -⟩
  · simp [Value.ownBlock] at hb
  · have : b' = b := by simpa [Value.ownBlock] using hb
    rw [this]

theorem StAt.push_mod (H : StAt w sb st last gr ms ts ma mc ta tc) (hn : ms.length = n) (b6 : Below w.heap.size w w6) (m : TM)
    (hown : OwnS w7 (sb + 1) 62 5 (.slice (some ⟨g, 0, none⟩) (n + 1) c) (ms.map TM.row ++ [m.row])) (hgr : (w6.alloc o).grownBy w7 (Value.slice ma n mc).ownBlock) (hat : (Value.slice ma n mc).ownBlock = some g ∨ g = w6.heap.size + 1) :
    StAt (w7.setCell ⟨sb, 0, none⟩ (.slice (some ⟨g, 0, none⟩) (n + 1) c)) sb st last gr (ms ++ [m]) ts (some ⟨g, 0, none⟩) c ta tc ∧ VKept (stD sb ma ta) w (w7.setCell ⟨sb, 0, none⟩ (.slice (some ⟨g, 0, none⟩) (n + 1) c)) ∧ ∀ k, stD sb (some ⟨g, 0, none⟩) ta k → stD sb ma ta k ∨ w.heap.size ≤ k := by
  subst hn
  have hsz := b6.size
  have hsb := (H.blk (.inl rfl)).2
  have keep : ∀ k, k < w.heap.size → (Value.slice ma ms.length mc).ownBlock ≠ some k → w7.heap[k]? = w.heap[k]? := fun k hk hne =>
    (hgr.block k (by simp; omega) (fun e => hne e.symm)).trans ((heap_alloc_old _ _ (by omega)).trans (b6.block k hk))
  have ns := own_ne H.mods (Nat.lt_succ_self sb)
  have X7 := (keep sb hsb ns).trans H.box
  have hsz7 : w.heap.size ≤ w7.heap.size := by have := hgr.size; simp at this; omega
  have hws : (w7.setCell ⟨sb, 0, none⟩ (.slice (some ⟨g, 0, none⟩) (ms.length + 1) c)).heap.size = w7.heap.size := by simp [World.setCell]
  refine ⟨⟨?_, ?_, ?_⟩, ⟨?_, ?_, ?_, by rw [hws]; exact hsz7, ?_⟩, ?_⟩
  · rw [heap_setCell_same w7 sb 0 _ _ _ X7, List.length_append]
    simp only [stCells, List.setIfInBounds_toArray, List.set_cons_zero, List.length_cons, List.length_nil, Nat.zero_add]
  · rw [List.length_append, List.map_append]
    exact hown.setO (a := ⟨sb, 0, none⟩) (own_ne hown (Nat.lt_succ_self sb)) _
  · refine H.thr.of_block (fun b hb => ?_)
    rw [heap_setCell_other _ _ _ _ (fun e => own_ne H.thr (Nat.lt_succ_self sb) (by rw [hb]; exact congrArg some e))]
    exact keep b (World.ownsRow.lt H.thr.1 b hb).2 (own_ne_own H.thr H.mods (by decide) hb)
  · exact (hgr.os.trans b6.os)
  · exact (hgr.tape.trans b6.tape)
  · exact (hgr.output.trans b6.output)
  · intro k hk hd
    rw [heap_setCell_other _ _ _ _ (fun e => hd (.inl e))]
    exact keep k hk (fun e => hd (.inr (.inl ⟨0, own_std H.mods e⟩)))
  · intro k hk
    rcases hk with rfl | ⟨o', h'⟩ | h'
    · exact .inl (.inl rfl)
    · simp only [Option.some.injEq, Addr.mk.injEq] at h'
      obtain ⟨rfl, -⟩ := h'
      rcases hat with hat | hat
      · exact .inl (.inr (.inl ⟨0, own_std H.mods hat⟩))
      · exact .inr (by omega)
    · exact .inl (.inr (.inr h'))
end
end Go.Proofs.Ytbppajfpjhmcgaa
