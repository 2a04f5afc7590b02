/- Layer 8: a list that lies in a variable of its own, while things are told: what an append leaves. -/
import Derived.Test.YtikpkblemegggaaVersChain
namespace Go.Proofs.Ytikpkblemegggaa
open Go.RowKit Go.Maps
set_option linter.unusedVariables false
set_option linter.unusedSimpArgs false

/-- a block whose last cell is v, those ahead of it pre -/
def InBx (w : World) (L : Nat) (pre : Array Value) (v : Value) (T : TypeId) : Prop := w.heap[L]? = some (.cells (pre.push v) T)
section
variable {w w' : World} {L B : Nat} {pre : Array Value} {v u : Value} {T e : TypeId}
theorem InBx.lt (h : InBx w L pre v T) : L < w.heap.size := lt_of_block h
theorem InBx.cell (h : InBx w L pre v T) : w.cell? ⟨L, pre.size, none⟩ = some v := by rw [cell_of_row w L pre.size _ _ _ h]; simp
theorem InBx.free (h : InBx w L pre v T) (j : Nat) : w.frozen? ⟨L, j, none⟩ = false := frozen_of_row w L j _ _ h
theorem InBx.of_block (h : InBx w L pre v T) (hb : w'.heap[L]? = w.heap[L]?) : InBx w' L pre v T := hb.trans h
theorem InBx.alloc (h : InBx w L pre v T) (o : Obj) : InBx (w.alloc o) L pre v T := (heap_alloc_old w o h.lt).trans h
theorem InBx.below (h : InBx w L pre v T) (hb : Below w.heap.size w w') : InBx w' L pre v T := h.of_block (hb.block L h.lt)
theorem InBx.setOther (h : InBx w L pre v T) {a : Addr} (ha : a.block ≠ L) (u : Value) : InBx (w.setCell a u) L pre v T := (heap_setCell_other w a L u (Ne.symm ha)).trans h
theorem push_set (pre : Array Value) (v u : Value) : (pre.push v).setIfInBounds pre.size u = pre.push u := by
  apply Array.ext'
  simp
theorem InBx.set (h : InBx w L pre v T) (u : Value) : InBx (w.setCell ⟨L, pre.size, none⟩ u) L pre u T := by
  unfold InBx
  rw [heap_setCell_same w L pre.size _ _ u h, push_set]
theorem InBx.grown (h : InBx w L pre v T) {row : Option Nat} (hg : w.grownBy w' row) (hne : row ≠ some L) : InBx w' L pre v T := h.of_block (hg.block L h.lt (fun e => hne e.symm))
theorem InBx.apart (h : InBx w L pre v T) {sz n : Nat} {x : Value} {xs : List Value} (ho : w.ownsRow B e sz x n xs) (hne : e ≠ T) : x.ownBlock ≠ some L := by
  intro e1
  obtain ⟨-, h2⟩ := ho
  rcases h2 with ⟨rfl, -⟩ | ⟨g, cap, cur, rfl, -, hg, -⟩
  · cases e1
  · have : g = L := by simpa [Value.ownBlock] using e1
    subst this
    unfold InBx at h
    rw [h] at hg
    simp only [Option.some.injEq, Obj.cells.injEq] at hg
    exact hne hg.2.1.symm
end

theorem own_no_map {w : World} {B B0 sz n : Nat} {e : TypeId} {v : Value} {xs : List Value} (h : w.ownsRow B0 e sz v n xs) (hm : ∃ es c, w.heap[B]? = some (.map es c)) : v.ownBlock ≠ some B := by
  intro e1
  obtain ⟨es, c, hm⟩ := hm
  rcases h.2 with ⟨rfl, -⟩ | ⟨g, cap, cur, rfl, -, hg, -⟩
  · cases e1
  · have : g = B := by simpa [Value.ownBlock] using e1
    subst this
    rw [hm] at hg
    cases hg
theorem own_kp {w w' : World} {B B0 sz n : Nat} {e : TypeId} {v : Value} {xs : List Value} (h : w.ownsRow B0 e sz v n xs) (k : Kp B w w') (hm : ∃ es c, w.heap[B]? = some (.map es c)) : w'.ownsRow B0 e sz v n xs := by
  have hne := own_no_map h hm
  obtain ⟨h1, h2⟩ := h
  refine ⟨h1, ?_⟩
  rcases h2 with h2 | ⟨g, cap, cur, rfl, hB, hg, r⟩
  · exact .inl h2
  · refine .inr ⟨g, cap, cur, rfl, hB, ?_, r⟩
    rw [k.block g (lt_of_block hg) (fun e => hne (by simpa [Value.ownBlock] using e))]
    exact hg

/-- a list in a variable, while things are told -/
structure LK (r : RD) (told : List Nat) (wc : World) (Rb L : Nat) (pre : Array Value) (T e : TypeId) (sz : Nat) (rows : List (List Value)) (w : World) : Prop where
  okc : r.ok wc
  map : MapN w r.B told
  kp : Kp r.B wc w
  rbox : InBox w Rb (rdV r) 92
  lbox : ∃ ad c, InBx w L pre (.slice ad rows.length c) T ∧ OwnS w wc.heap.size e sz (.slice ad rows.length c) rows
  ge : wc.heap.size ≤ L
  ne : Rb ≠ L
section
variable {r : RD} {told told' : List Nat} {wc w w' w2 : World} {Rb L sz : Nat} {pre : Array Value} {T e : TypeId} {rows : List (List Value)}
theorem LK.ok (h : LK r told wc Rb L pre T e sz rows w) : r.ok w := h.okc.kept h.kp h.map.isMap
theorem LK.ltB (h : LK r told wc Rb L pre T e sz rows w) : r.B < wc.heap.size := by
  obtain ⟨es, c, hB⟩ := h.okc.isMap
  exact lt_of_block hB
theorem LK.neB (h : LK r told wc Rb L pre T e sz rows w) : some r.B ≠ some Rb := fun e1 => by
  simp only [Option.some.injEq] at e1
  obtain ⟨es, c, hB⟩ := h.map.isMap
  have h1 := h.rbox
  unfold InBox at h1
  rw [← e1, hB] at h1
  cases h1
theorem LK.below (h : LK r told wc Rb L pre T e sz rows w) (hb : Below w.heap.size w w') : LK r told wc Rb L pre T e sz rows w' := by
  obtain ⟨ad, c, h1, h2⟩ := h.lbox
  exact ⟨h.okc, h.map.below hb, h.kp.trans (Kp.below hb), h.rbox.below hb, ⟨ad, c, h1.below hb, h2.below hb⟩, h.ge, h.ne⟩
/-- something is told, nothing else is changed -/
theorem LK.turned (h : LK r told wc Rb L pre T e sz rows w) (k : Kp r.B w w') (hm : MapN w' r.B told') : LK r told' wc Rb L pre T e sz rows w' := by
  obtain ⟨ad, c, h1, h2⟩ := h.lbox
  have hlt := h.ltB
  have hn : ∀ x, wc.heap.size ≤ x → some r.B ≠ some x := fun x hx e1 => by simp only [Option.some.injEq] at e1; omega
  exact ⟨h.okc, hm, h.kp.trans k, h.rbox.grown k h.neB, ⟨ad, c, h1.grown k (hn _ h.ge), ⟨own_kp h2.1 k h.map.isMap, h2.2⟩⟩, h.ge, h.ne⟩
/-- one more is appended, and the list is stored -/
theorem LK.push {ad ad' : Option Addr} {c c' : Nat} {q : List Value} (h : LK r told wc Rb L pre T e sz rows w) (h1 : InBx w L pre (.slice ad rows.length c) T) (h2 : OwnS w wc.heap.size e sz (.slice ad rows.length c) rows)
    (o : Obj) (hg : (w.alloc o).grownBy w2 (Value.slice ad rows.length c).ownBlock) (ho : OwnS w2 wc.heap.size e sz (.slice ad' (rows.length + 1) c') (rows ++ [q])) (hT : e ≠ T) (hR : e ≠ 92) :
    LK r told wc Rb L pre T e sz (rows ++ [q]) (w2.setCell ⟨L, pre.size, none⟩ (.slice ad' (rows.length + 1) c')) := by
  have hlt := h.ltB
  have hrow : ∀ k, (Value.slice ad rows.length c).ownBlock = some k → wc.heap.size ≤ k := fun k hk => (World.ownsRow.lt h2.1 k hk).1
  have k2 : Kp r.B wc w2 := (h.kp.alloc o).grown hg hrow
  have m2 : MapN w2 r.B told := (h.map.below (((Below.refl _ _).alloc (Nat.le_refl _) o))).kept hg (fun e1 => by have := hrow r.B e1.symm; omega)
  have b2 : InBx w2 L pre (.slice ad rows.length c) T := (h1.alloc o).grown hg (h1.apart h2.1 hT)
  have r2 : InBox w2 Rb (rdV r) 92 := (h.rbox.alloc o).grown hg (h.rbox.apart h2.1 hR)
  refine ⟨h.okc, m2.set (by show r.B ≠ L; have := h.ge; omega) _, k2.set h.ge _, r2.setOther (Ne.symm h.ne) _, ⟨ad', c', ?_, ?_⟩, h.ge, h.ne⟩
  · rw [List.length_append]
    exact b2.set _
  · rw [List.length_append]
    exact ho.setO (by
      have := b2.apart ho.1 hT
      exact this) _
/-- bytes that were read stay while one more is appended -/
theorem LK.keep {ad : Option Addr} {c : Nat} {v : Value} {xs : List Int} {B0 : Nat} (h1 : InBx w L pre (.slice ad rows.length c) T) (h2 : OwnS w wc.heap.size e sz (.slice ad rows.length c) rows)
    (o : Obj) (hg : (w.alloc o).grownBy w2 (Value.slice ad rows.length c).ownBlock) (hv : OwnI w B0 5 .u8 v xs) (hu : 5 ≠ e) (hT : e ≠ T) (hT2 : 5 ≠ T) (u : Value) (j : Nat) :
    OwnI (w2.setCell ⟨L, j, none⟩ u) B0 5 .u8 v xs := by
  have v2 : OwnI w2 B0 5 .u8 v xs := (hv.allocO o).keepS hg (h2.allocO o) hu
  have b2 : InBx w2 L pre (.slice ad rows.length c) T := (h1.alloc o).grown hg (h1.apart h2.1 hT)
  exact v2.setO (b2.apart v2 hT2) _
end
end Go.Proofs.Ytikpkblemegggaa
