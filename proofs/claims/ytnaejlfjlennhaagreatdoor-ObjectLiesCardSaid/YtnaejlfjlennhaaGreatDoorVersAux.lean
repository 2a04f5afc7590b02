/- Layer 8: a list that lies in a variable of its own, while things are told: what an append leaves. -/
import Derived.Test.YtnaejlfjlennhaaGreatDoorVersChain
import Derived.Deep.AppendLies
import Derived.Laws.Tables
import Derived.Handy
namespace Go.Proofs.YtnaejlfjlennhaaGreatDoor
open Go.RowKit Go.Maps
set_option linter.unusedVariables false
set_option linter.unusedSimpArgs false

/-- a block whose last cell is v, those ahead of it pre -/
def InBx (w : World) (L : Nat) (pre : Array Value) (v : Value) (T : TypeId) : Prop := w.heap[L]? = some (.cells (pre.push v) T)
section
variable {w w' : World} {L B : Nat} {pre : Array Value} {v u : Value} {T e : TypeId}
theorem InBx.lt (h : InBx w L pre v T) : L < w.heap.size := lt_of_block h
theorem InBx.cell (h : InBx w L pre v T) : w.cell? ⟨L, pre.size, none⟩ = some v := by rw [cell_of_row w L pre.size _ _ _ h]; simp
theorem InBx.free (h : InBx w L pre v T) (j : Nat) : w.frozen? ⟨L, j, none⟩ = false := frozen_of_row w L j _ _ h
theorem InBx.of_block (h : InBx w L pre v T) (hb : w'.heap[L]? = w.heap[L]?) : InBx w' L pre v T := hb.trans h
theorem InBx.alloc (h : InBx w L pre v T) (o : Obj) : InBx (w.alloc o) L pre v T := (heap_alloc_old w o h.lt).trans h
theorem InBx.below (h : InBx w L pre v T) (hb : Below w.heap.size w w') : InBx w' L pre v T := h.of_block (hb.block L h.lt)
theorem InBx.setOther (h : InBx w L pre v T) {a : Addr} (ha : a.block ≠ L) (u : Value) : InBx (w.setCell a u) L pre v T := (heap_setCell_other w a L u (Ne.symm ha)).trans h
theorem push_set (pre : Array Value) (v u : Value) : (pre.push v).setIfInBounds pre.size u = pre.push u := by
  apply Array.ext'
  simp
theorem InBx.set (h : InBx w L pre v T) (u : Value) : InBx (w.setCell ⟨L, pre.size, none⟩ u) L pre u T := by
  unfold InBx
  rw [heap_setCell_same w L pre.size _ _ u h, push_set]
theorem InBx.grown (h : InBx w L pre v T) {row : Option Nat} (hg : w.grownBy w' row) (hne : row ≠ some L) : InBx w' L pre v T := h.of_block (hg.block L h.lt (fun e => hne e.symm))
theorem InBx.apart (h : InBx w L pre v T) {sz n : Nat} {x : Value} {xs : List Value} (ho : w.ownsRow B e sz x n xs) (hne : e ≠ T) : x.ownBlock ≠ some L := by
  intro e1
  obtain ⟨-, h2⟩ := ho
  rcases h2 with ⟨rfl, -⟩ | ⟨g, cap, cur, rfl, -, hg, -⟩
  · cases e1
  · have : g = L := by simpa [Value.ownBlock] using e1
    subst this
    unfold InBx at h
    rw [h] at hg
    simp only [Option.some.injEq, Obj.cells.injEq] at hg
    exact hne hg.2.1.symm
end

theorem own_no_map {w : World} {B B0 sz n : Nat} {e : TypeId} {v : Value} {xs : List Value} (h : w.ownsRow B0 e sz v n xs) (hm : ∃ es c, w.heap[B]? = some (.map es c)) : v.ownBlock ≠ some B := by
  intro e1
  obtain ⟨es, c, hm⟩ := hm
  rcases h.2 with ⟨rfl, -⟩ | ⟨g, cap, cur, rfl, -, hg, -⟩
  · cases e1
  · have : g = B := by simpa [Value.ownBlock] using e1
    subst this
    rw [hm] at hg
    cases hg
theorem own_kp {w w' : World} {B B0 sz n : Nat} {e : TypeId} {v : Value} {xs : List Value} (h : w.ownsRow B0 e sz v n xs) (k : Kp B w w') (hm : ∃ es c, w.heap[B]? = some (.map es c)) : w'.ownsRow B0 e sz v n xs := by
  have hne := own_no_map h hm
  obtain ⟨h1, h2⟩ := h
  refine ⟨h1, ?_⟩
  rcases h2 with h2 | ⟨g, cap, cur, rfl, hB, hg, r⟩
  · exact .inl h2
  · refine .inr ⟨g, cap, cur, rfl, hB, ?_, r⟩
    rw [k.block g (lt_of_block hg) (fun e => hne (by simpa [Value.ownBlock] using e))]
    exact hg

/-- a list in a variable, while things are told -/
structure LK (r : RD) (told : List Nat) (wc : World) (Rb L : Nat) (pre : Array Value) (T e : TypeId) (sz : Nat) (rows : List (List Value)) (w : World) : Prop where
  okc : r.ok wc
  map : MapN w r.B told
  kp : Kp r.B wc w
  rbox : InBox w Rb (rdV r) 201
  lbox : ∃ ad c, InBx w L pre (.slice ad rows.length c) T ∧ OwnS w wc.heap.size e sz (.slice ad rows.length c) rows
  ge : wc.heap.size ≤ L
  ne : Rb ≠ L
section
variable {r : RD} {told told' : List Nat} {wc w w' w2 : World} {Rb L sz : Nat} {pre : Array Value} {T e : TypeId} {rows : List (List Value)}
theorem LK.ok (h : LK r told wc Rb L pre T e sz rows w) : r.ok w := h.okc.kept h.kp h.map.isMap
theorem LK.ltB (h : LK r told wc Rb L pre T e sz rows w) : r.B < wc.heap.size := by
  obtain ⟨es, c, hB⟩ := h.okc.isMap
  exact lt_of_block hB
theorem LK.neB (h : LK r told wc Rb L pre T e sz rows w) : some r.B ≠ some Rb := fun e1 => by
  simp only [Option.some.injEq] at e1
  obtain ⟨es, c, hB⟩ := h.map.isMap
  have h1 := h.rbox
  unfold InBox at h1
  rw [← e1, hB] at h1
  cases h1
theorem LK.below (h : LK r told wc Rb L pre T e sz rows w) (hb : Below w.heap.size w w') : LK r told wc Rb L pre T e sz rows w' := by
  obtain ⟨ad, c, h1, h2⟩ := h.lbox
  exact ⟨h.okc, h.map.below hb, h.kp.trans (Kp.below hb), h.rbox.below hb, ⟨ad, c, h1.below hb, h2.below hb⟩, h.ge, h.ne⟩
/-- something is told, nothing else is changed -/
theorem LK.turned (h : LK r told wc Rb L pre T e sz rows w) (k : Kp r.B w w') (hm : MapN w' r.B told') : LK r told' wc Rb L pre T e sz rows w' := by
  obtain ⟨ad, c, h1, h2⟩ := h.lbox
  have hlt := h.ltB
  have hn : ∀ x, wc.heap.size ≤ x → some r.B ≠ some x := fun x hx e1 => by simp only [Option.some.injEq] at e1; omega
  exact ⟨h.okc, hm, h.kp.trans k, h.rbox.grown k h.neB, ⟨ad, c, h1.grown k (hn _ h.ge), ⟨own_kp h2.1 k h.map.isMap, h2.2⟩⟩, h.ge, h.ne⟩
/-- one more is appended, and the list is stored -/
theorem LK.push {ad ad' : Option Addr} {c c' : Nat} {q : List Value} (h : LK r told wc Rb L pre T e sz rows w) (h1 : InBx w L pre (.slice ad rows.length c) T) (h2 : OwnS w wc.heap.size e sz (.slice ad rows.length c) rows)
    (o : Obj) (hg : (w.alloc o).grownBy w2 (Value.slice ad rows.length c).ownBlock) (ho : OwnS w2 wc.heap.size e sz (.slice ad' (rows.length + 1) c') (rows ++ [q])) (hT : e ≠ T) (hR : e ≠ 201) :
    LK r told wc Rb L pre T e sz (rows ++ [q]) (w2.setCell ⟨L, pre.size, none⟩ (.slice ad' (rows.length + 1) c')) := by
  have hlt := h.ltB
  have hrow : ∀ k, (Value.slice ad rows.length c).ownBlock = some k → wc.heap.size ≤ k := fun k hk => (World.ownsRow.lt h2.1 k hk).1
  have k2 : Kp r.B wc w2 := (h.kp.alloc o).grown hg hrow
  have m2 : MapN w2 r.B told := (h.map.below (((Below.refl _ _).alloc (Nat.le_refl _) o))).kept hg (fun e1 => by have := hrow r.B e1.symm; omega)
  have b2 : InBx w2 L pre (.slice ad rows.length c) T := (h1.alloc o).grown hg (h1.apart h2.1 hT)
  have r2 : InBox w2 Rb (rdV r) 201 := (h.rbox.alloc o).grown hg (h.rbox.apart h2.1 hR)
  refine ⟨h.okc, m2.set (by show r.B ≠ L; have := h.ge; omega) _, k2.set h.ge _, r2.setOther (Ne.symm h.ne) _, ⟨ad', c', ?_, ?_⟩, h.ge, h.ne⟩
  · rw [List.length_append]
    exact b2.set _
  · rw [List.length_append]
    exact ho.setO (by
      have := b2.apart ho.1 hT
      exact this) _
/-- bytes that were read stay while one more is appended -/
theorem LK.keep {ad : Option Addr} {c : Nat} {v : Value} {xs : List Int} {B0 : Nat} (h1 : InBx w L pre (.slice ad rows.length c) T) (h2 : OwnS w wc.heap.size e sz (.slice ad rows.length c) rows)
    (o : Obj) (hg : (w.alloc o).grownBy w2 (Value.slice ad rows.length c).ownBlock) (hv : OwnI w B0 5 .u8 v xs) (hu : 5 ≠ e) (hT : e ≠ T) (hT2 : 5 ≠ T) (u : Value) (j : Nat) :
    OwnI (w2.setCell ⟨L, j, none⟩ u) B0 5 .u8 v xs := by
  have v2 : OwnI w2 B0 5 .u8 v xs := (hv.allocO o).keepS hg (h2.allocO o) hu
  have b2 : InBx w2 L pre (.slice ad rows.length c) T := (h1.alloc o).grown hg (h1.apart h2.1 hT)
  exact v2.setO (b2.apart v2 hT2) _
end
end Go.Proofs.YtnaejlfjlennhaaGreatDoor
/- Layer 8: the names of a definition, read one behind the other. -/
namespace Go.Proofs.YtnaejlfjlennhaaGreatDoor
open Go.RowKit Go.Maps
set_option linter.unusedVariables false
set_option linter.unusedSimpArgs false

theorem rowT : RowSlice Tryz.prog 31 9 (.string .empty) 1 16 := ⟨Tryz.underlying31, by kernel_rfl, rfl, by decide⟩
def nameRows (l : List ByteArray) : List (List Value) := l.map fun t => [Value.string t]
theorem nameRows_length (l : List ByteArray) : (nameRows l).length = l.length := by simp [nameRows]
theorem nameRows_snoc (l : List ByteArray) (x : ByteArray) : nameRows (l ++ [x]) = nameRows l ++ [[Value.string x]] := by simp [nameRows]
theorem textF_small (s : List Nat) (off : Nat) : (textF s off).2 < 30 := by
  rcases textF_code s off with h | h | h <;> rw [h] <;> decide

def NQ (r : RD) (told : List Nat) (wc : World) (Rb L : Nat) (k : Nat) (l : List ByteArray) (w : World) : Prop :=
  LK r told wc Rb L #[] 31 9 1 (nameRows l) w ∧ l.length + k ≤ 64

set_option maxRecDepth 100000 in
set_option maxHeartbeats 4000000 in
theorem name_step (r : RD) (told : List Nat) (wc : World) (Rb L : Nat) : Stepper r (nameStep r.ss) 8 108 (.pointer (some ⟨Rb, 0, none⟩)) (.pointer (some ⟨L, 0, none⟩)) (NQ r told wc Rb L) := by
  refine ⟨fun args w => rfl, fun h => h.1.ok, fun h hb => ⟨h.1.below hb, h.2⟩, fun s b a => textF_small _ _, ?_⟩
  intro k l w1 w b at_ c ad hq hbel hown hb256 hlen hat
  have hw := hq.1.below hbel
  have hok := hw.ok
  obtain ⟨g, rfl⟩ := hown.shape2v (by omega)
  have hcap := hown.cap2v
  have hrow : BRow w (some ⟨g, 0, none⟩) b := ⟨hown.row2v, hb256⟩
  have hrow4 : BRow w (some ⟨g, 0, none⟩) (b.take 4) := by
    have := hrow.cut 0 4
    exact this
  have e4 : (b.take 4).length = 4 := by rw [List.length_take]; omega
  have HT : Hid (∀ n, Calls Tryz.prog 109 #[rdV r, .slice (some ⟨g, 0, none⟩) 4 c] (w.drewN n) fun e w' => e = .returned (.tuple #[.string (textF r.ss (numOf (b.take 4))).1, errV ((textF r.ss (numOf (b.take 4))).2 : Int)]) ∧ ∃ m, w' = w.drewN m) := Lib.hid (fun n => by
    have hd : Below w.heap.size w (w.drewN n) := below_drewN (Below.refl _ _) _
    have := vtext_any r (w.drewN n) (hok.below hd) (some ⟨g, 0, none⟩) c (b.take 4) (hrow4.below hd) (by omega)
    rw [e4] at this
    refine this.mono ?_
    rintro e w' ⟨rfl, m, rfl⟩
    exact ⟨rfl, n + m, by rw [World.drewN_drewN]⟩)
  unfold nameStep
  generalize textF r.ss (numOf (b.take 4)) = F at *
  have HLK := Lib.hid hw
  have HROOM := hq.2
  have HO := Lib.hid hown
  have cR := hw.rbox.cell
  unfold rdV at cR HT
  have hcap8 : (8 : Int) ≤ (c : Int) := by omega
  have HLEN := Lib.hid hlen
  rw [hlen]
  clear hw hok hown hrow hrow4 e4 hq hbel hb256 hlen
  go_enter Tryz.func108, Tryz.ntmps108
  go_wp2_with fail
  go_quiet ((go_at_call 109; exact HT.out _))
  have HK := HLK.out.below (below_drewN (Below.refl _ _) nq)
  have HO2 : Hid (OwnI (w.drewN nq) w1.heap.size 5 .u8 (.slice (some ⟨g, 0, none⟩) b.length c) (toI b)) := Lib.hid (OwnI.below HO.out (below_drewN (Below.refl _ _) nq))
  have HLK2 := Lib.hid HK
  clear HK HLK HO HT cR
  generalize w.drewN nq = wd at *
  obtain ⟨la, lc, hbox, hl⟩ := HLK2.out.lbox
  have cL : wd.cell? ⟨L, 0, none⟩ = some (.slice la (nameRows l).length lc) := hbox.cell
  have HBX := Lib.hid hbox
  have HL := Lib.hid hl
  have hbs : wc.heap.size ≤ wd.heap.size := HLK2.out.kp.size
  have HBS := Lib.hid hbs
  rw [nameRows_length] at cL
  rw [nameRows_length] at HL HBX
  clear hbox hl hbs
  go_wp2_with (at_builtin; go_loud (refine wpList_grow_row rfl (.tmp 16) (.tmp 18) rowT rfl wc.heap.size (.slice la l.length lc) (nameRows l) l.length [.string F.1] rfl rfl (nameRows_length l) rfl (by intro u hu; simp only [List.mem_cons, List.not_mem_nil, or_false] at hu; subst hu; rfl) HL.out (by unfold maxLen; omega) (by omega) HBS.out ?_); intro la2 lc2 w2 ho2 hg2; have O2 := Lib.hid ho2; have G2 := Lib.hid hg2; have cL2 : w2.frozen? ⟨L, 0, none⟩ = false := ((HBX.out.alloc _).grown hg2 (HBX.out.apart HL.out.1 (by decide))).free 0; have cl2 : w2.cell? ⟨L, 0, none⟩ = some (.slice la l.length lc) := ((HBX.out.alloc _).grown hg2 (HBX.out.apart HL.out.1 (by decide))).cell; clear ho2 hg2)
  go_ret
  have hpush := HLK2.out.push (T := 31) (q := [Value.string F.1]) (by rw [nameRows_length]; exact HBX.out) (by rw [nameRows_length]; exact HL.out) _ (by rw [nameRows_length]; exact G2.out) (by rw [nameRows_length]; exact O2.out) (by decide) (by decide)
  rw [nameRows_length, ← nameRows_snoc] at hpush
  refine ⟨rfl, ⟨hpush, by rw [List.length_append]; simp only [List.length_cons, List.length_nil]; omega⟩, ?_⟩
  have ho2 := HO2.out
  rw [HLEN.out] at ho2
  exact LK.keep (T := 31) (rows := nameRows l) (by rw [nameRows_length]; exact HBX.out) (by rw [nameRows_length]; exact HL.out) _ (by rw [nameRows_length]; exact G2.out) ho2 (by decide) (by decide) (by decide) _ _
end Go.Proofs.YtnaejlfjlennhaaGreatDoor
/- Layer 8: what a reading function keeps while it goes: its result's place, the reader's box, the bytes it reads. -/
namespace Go.Proofs.YtnaejlfjlennhaaGreatDoor
open Go.RowKit Go.Maps
set_option linter.unusedVariables false
set_option linter.unusedSimpArgs false

theorem four_stores {w : World} {b : Nat} {T : TypeId} {u0 u1 u2 u3 : Value} (E : w.heap[b]? = some (.cells #[u0, u1, u2, u3] T)) (v0 v1 v2 v3 : Value) :
    ((((w.setCell ⟨b, 0, none⟩ v0).setCell ⟨b, 1, none⟩ v1).setCell ⟨b, 2, none⟩ v2).setCell ⟨b, 3, none⟩ v3) = w.setRow b #[v0, v1, v2, v3] := by
  have step : ∀ (cs : Array Value) (i : Nat) (v : Value), (w.setRow b cs).setCell ⟨b, i, none⟩ v = w.setRow b (cs.setIfInBounds i v) := fun cs i v => by
    rw [setCell_eq_setRow _ _ _ _ _ _ _ (setRow_heap w b _ cs T (0, 0) E), setRow_setRow]
  rw [setCell_eq_setRow w b 0 _ _ _ _ E, step, step, step]
  simp only [List.setIfInBounds_toArray, List.set_cons_zero, List.set_cons_succ]
theorem three_stores {w : World} {b : Nat} {T : TypeId} {u0 u1 u2 : Value} (E : w.heap[b]? = some (.cells #[u0, u1, u2] T)) (v0 v1 v2 : Value) :
    (((w.setCell ⟨b, 0, none⟩ v0).setCell ⟨b, 1, none⟩ v1).setCell ⟨b, 2, none⟩ v2) = w.setRow b #[v0, v1, v2] := by
  have step : ∀ (cs : Array Value) (i : Nat) (v : Value), (w.setRow b cs).setCell ⟨b, i, none⟩ v = w.setRow b (cs.setIfInBounds i v) := fun cs i v => by
    rw [setCell_eq_setRow _ _ _ _ _ _ _ (setRow_heap w b _ cs T (0, 0) E), setRow_setRow]
  rw [setCell_eq_setRow w b 0 _ _ _ _ E, step, step]
  simp only [List.setIfInBounds_toArray, List.set_cons_zero, List.set_cons_succ]
theorem two_stores {w : World} {b : Nat} {T : TypeId} {u0 u1 : Value} (E : w.heap[b]? = some (.cells #[u0, u1] T)) (v0 v1 : Value) :
    ((w.setCell ⟨b, 0, none⟩ v0).setCell ⟨b, 1, none⟩ v1) = w.setRow b #[v0, v1] := by
  have step : ∀ (cs : Array Value) (i : Nat) (v : Value), (w.setRow b cs).setCell ⟨b, i, none⟩ v = w.setRow b (cs.setIfInBounds i v) := fun cs i v => by
    rw [setCell_eq_setRow _ _ _ _ _ _ _ (setRow_heap w b _ cs T (0, 0) E), setRow_setRow]
  rw [setCell_eq_setRow w b 0 _ _ _ _ E, step]
  simp only [List.setIfInBounds_toArray, List.set_cons_zero, List.set_cons_succ]

theorem setRow_grown (w : World) (V : Nat) (cs : Array Value) : w.grownBy (w.setRow V cs) (some V) := ⟨rfl, rfl, rfl, by simp, fun i hi hne => setRow_other w V i cs (fun e => hne (by rw [e]))⟩
theorem Kp.setRow {B V : Nat} {a w : World} (h : Kp B a w) (hV : a.heap.size ≤ V) (cs : Array Value) : Kp B a (w.setRow V cs) := h.grown (setRow_grown w V cs) (fun k hk => by simp only [Option.some.injEq] at hk; omega)
theorem MapN.setRow {w : World} {B V : Nat} {told : List Nat} (h : MapN w B told) (hV : B ≠ V) (cs : Array Value) : MapN (w.setRow V cs) B told := h.kept (setRow_grown w V cs) (by simpa using hV)
theorem BRow.kp {w w' : World} {B : Nat} {a : Option Addr} {xs : List Nat} (h : BRow w a xs) (k : Kp B w w') (hm : ∃ es c, w.heap[B]? = some (.map es c)) : BRow w' a xs := by
  obtain ⟨es, c, hB⟩ := hm
  refine ⟨fun i hi => ?_, h.2⟩
  obtain ⟨b, o, e, hc⟩ := h.1 i hi
  refine ⟨b, o, e, k.cell hc (fun e => ?_)⟩
  simp only [Option.some.injEq] at e
  subst e
  exact cell_no_map hB _ hc
theorem block_kp {w w' : World} {B V : Nat} {cs : Array Value} {T : TypeId} (h : w.heap[V]? = some (.cells cs T)) (k : Kp B w w') (hm : ∃ es c, w.heap[B]? = some (.map es c)) : w'.heap[V]? = some (.cells cs T) := by
  obtain ⟨es, c, hB⟩ := hm
  refine (k.block V (lt_of_block h) (fun e => ?_)).trans h
  simp only [Option.some.injEq] at e
  rw [e, hB] at h
  cases h

/-- while a thing is read -/
structure DW (r : RD) (w : World) (V g : Nat) (cs : Array Value) (T : TypeId) (b : List Nat) (told : List Nat) (wx : World) : Prop where
  okw : r.ok w
  kp : Kp r.B w wx
  map : MapN wx r.B told
  box : wx.heap[V]? = some (.cells cs T)
  row : BRow wx (some ⟨g, 0, none⟩) b
  ge : w.heap.size ≤ V
section
variable {r : RD} {w wx wy : World} {V g : Nat} {cs : Array Value} {T : TypeId} {b told told' : List Nat}
theorem DW.ok (h : DW r w V g cs T b told wx) : r.ok wx := h.okw.kept h.kp h.map.isMap
theorem DW.on (h : DW r w V g cs T b told wx) (k : Kp r.B wx wy) (hm : MapN wy r.B told') : DW r w V g cs T b told' wy :=
  ⟨h.okw, h.kp.trans k, hm, block_kp h.box k h.map.isMap, h.row.kp k h.map.isMap, h.ge⟩
theorem DW.below (h : DW r w V g cs T b told wx) (hb : Below wx.heap.size wx wy) : DW r w V g cs T b told wy := h.on (Kp.below hb) (h.map.below hb)
theorem DW.neV (h : DW r w V g cs T b told wx) : r.B ≠ V := fun e => by
  obtain ⟨es, c, hB⟩ := h.map.isMap
  have := h.box
  rw [← e, hB] at this
  cases this
theorem DW.done (h : DW r w V g cs T b told wx) (cs' : Array Value) : MapN (wx.setRow V cs') r.B told ∧ Kp r.B w (wx.setRow V cs') := ⟨h.map.setRow h.neV _, h.kp.setRow h.ge _⟩
end

theorem and_index (n : Nat) (h : n < 65536) : bits .and .u64 (n : Int) 32767 = ((n % 32768 : Nat) : Int) := by
  rw [show (32767 : Int) = ((32767 : Nat) : Int) from rfl, u64_and_nat n _ (by omega) (by omega)]
  congr 1
  exact Nat.and_two_pow_sub_one_eq_mod n 15
theorem numOf_two (b : List Nat) (h : ∀ x ∈ b, x < 256) (o : Nat) : numOf ((b.drop o).take 2) < 65536 := by
  have h1 := numOf_lt ((b.drop o).take 2) (fun x hx => h x (List.mem_of_mem_drop (List.mem_of_mem_take hx)))
  have h2 : (256 : Nat) ^ ((b.drop o).take 2).length ≤ 256 ^ 2 := Nat.pow_le_pow_right (by decide) (by simp; omega)
  omega
theorem numOf_four (b : List Nat) (h : ∀ x ∈ b, x < 256) (o : Nat) : numOf ((b.drop o).take 4) < 4294967296 := by
  have h1 := numOf_lt ((b.drop o).take 4) (fun x hx => h x (List.mem_of_mem_drop (List.mem_of_mem_take hx)))
  have h2 : (256 : Nat) ^ ((b.drop o).take 4).length ≤ 256 ^ 4 := Nat.pow_le_pow_right (by decide) (by simp; omega)
  omega
/-- the numbers of bytes that are read -/
theorem part_any (g : Nat) (b : List Nat) (w : World) (h : BRow w (some ⟨g, 0, none⟩) b) (o n q : Nat) (hn : n ≤ 8) (hl : o + n ≤ b.length) :
    Calls Tryz.prog 48 #[.slice (some ⟨g, o, none⟩) n q] w fun e w' => e = .returned (.int .u64 ((numOf ((b.drop o).take n) : Nat) : Int)) ∧ w = w' := by
  have h1 := h.cut o n
  simp only [Option.map_some, WideShapes.add_plain, Nat.zero_add] at h1
  have e : ((b.drop o).take n).length = n := by simp; omega
  have := number_any (some ⟨g, o, none⟩) q ((b.drop o).take n) w h1 (by omega)
  rw [e] at this
  refine this.mono ?_
  rintro e w' ⟨h1, h2⟩
  exact ⟨h1, h2⟩

/-- append(nothing, texts...) in a statement whose order is left open -/
theorem step_copy_texts {P : Program} {w : World} {ops : Array Oper} {o : Oper} {a : Act} {K : Act → World → Prop} {Q : Exit → Act → World → Prop} {E : Prop} (hgd : o.guard = none) (s x : Operand) {t e : TypeId} (ht : P.underlying t = some (.slice e)) (hinfo : (P.info? e).map (fun i => (i.zero, i.size, i.bytes)) = some (some (.string .empty), 1, 16))
    (ho : o.op = .call { callee := .builtin .append, args := #[s, x], argTypes := #[t, t] })
    (ad : Addr) (m c : Nat) (T : List ByteArray) (hs : a.eval s = .slice none 0 0) (hx : a.eval x = .slice (some ad) m c) (hl : T.length = m) (hnews : ∀ j t, T[j]? = some t → w.cell? (ad.add j) = some (.string t)) (h63 : m ≤ maxLen) (hlen : m * 16 ≤ 140737488355328)
    (h : ∀ pa pc w', OwnT w' w.heap.size e (.slice pa m pc) T → Below w.heap.size w w' → K (a.put o.dst (.slice pa m pc)) w') :
    if Region.wanted o (yielded ops a.tmps) = true then Oper.wp P o a w K Q else E := by
  subst hl
  obtain ⟨i, hi, hz0, hz1, hz2⟩ := info_parts hinfo
  have hw : Region.wanted o (yielded ops a.tmps) = true := by simp [Region.wanted, hgd]
  rw [if_pos hw]
  refine wp_append_own w s x t ho w.heap.size e i (.string .empty) 1 16 ht hi hz0 hz1 hz2 rfl (by decide) (.slice none 0 0) 0 [] hs (World.ownsRow_nil _ _ _ _) ad T.length c (T.map Value.string) hx (by simp) ?_ (texts_one T) (by omega) (by omega) (Nat.le_refl _) ?_
  · intro j u hj
    rw [List.getElem?_map] at hj
    cases hT : T[j]? with
    | none => rw [hT] at hj; cases hj
    | some t =>
      rw [hT] at hj
      simp only [Option.map_some, Option.some.injEq] at hj
      rw [← hj]
      exact hnews j t hT
  · intro v' w' hown hgr _
    rw [Nat.zero_add, List.nil_append] at hown
    have hO : OwnT w' w.heap.size e v' T := hown
    obtain ⟨pa, pc, rfl⟩ := hO.form
    exact h pa pc w' hO ((Below.refl _ _).grown hgr (Nat.le_refl _) (fun k hk => by cases hk))

theorem sysOf_small (l : List UInt8) : sysOfV l < 268435456 := by
  induction l using snocInd with
  | nil => simp [sysOfV]
  | snoc l b _ => rw [sysOf_snocV]; exact sysStep_ltV _ _
theorem textF_size (s : List Nat) (off : Nat) : (textF s off).1.size ≤ 255 := by
  unfold textF
  split
  · split
    · decide
    · split
      · decide
      · rename_i h1 h2 h3
        have e : (cutOf (toI s) off (Lib.indexByte (Lib.bytesOf ((toI s).drop off)) 0).toNat).length ≤ (Lib.indexByte (Lib.bytesOf ((toI s).drop off)) 0).toNat := by
          simp [cutOf]; omega
        have e2 : (Lib.bytesOf (cutOf (toI s) off (Lib.indexByte (Lib.bytesOf ((toI s).drop off)) 0).toNat)).length = (cutOf (toI s) off (Lib.indexByte (Lib.bytesOf ((toI s).drop off)) 0).toNat).length := by simp [Lib.bytesOf]
        show (ByteArray.size ⟨_⟩) ≤ 255
        have : (ByteArray.size ⟨(Lib.bytesOf (cutOf (toI s) off (Lib.indexByte (Lib.bytesOf ((toI s).drop off)) 0).toNat)).toArray⟩) = (Lib.bytesOf (cutOf (toI s) off (Lib.indexByte (Lib.bytesOf ((toI s).drop off)) 0).toNat)).length := by simp [ByteArray.size]
        omega
  · decide
end Go.Proofs.YtnaejlfjlennhaaGreatDoor
/- Layer 8: a version that is needed: the program's answer. -/
namespace Go.Proofs.YtnaejlfjlennhaaGreatDoor
open Go.RowKit Go.Maps
set_option linter.unusedVariables false
set_option linter.unusedSimpArgs false

def auxCells (d : AuxD) : List Value := [.int .i64 (d.idx : Int), .bool d.weak, .string d.name]
def AuxAns (r : RD) (X : List Nat × AuxD × Nat) (w : World) (e : Ending) (w' : World) : Prop :=
  e = .returned (.tuple #[.agg (auxCells X.2.1).toArray, errV (X.2.2 : Int)]) ∧ MapN w' r.B X.1 ∧ Kp r.B w w'
theorem AuxAns.of {r : RD} {w wx : World} {V g : Nat} {b told : List Nat} {T : TypeId} {cs0 : Array Value} {d : AuxD} {c : Nat} {v : Value} {e1 : Value} (h : DW r w V g cs0 T b told wx) (cs : Array Value) (hv : v = .agg (auxCells d).toArray) (he : e1 = errV (c : Int)) :
    AuxAns r (told, d, c) w (.returned (.tuple #[v, e1])) (wx.setRow V cs) := by
  subst hv he
  exact ⟨rfl, (h.done cs).1, (h.done cs).2⟩

theorem and_two_bit (n : Nat) : (((n &&& 2 : Nat) : Int) != 0) = decide (n / 2 % 2 = 1) := by
  have h : n &&& 2 = 2 * (n / 2 % 2) := by
    apply Nat.eq_of_testBit_eq
    intro i
    rw [Nat.testBit_and, show (2 : Nat) = 2 ^ 1 from rfl, Nat.testBit_two_pow, Nat.testBit_two_pow_mul]
    rcases Nat.lt_trichotomy i 1 with h1 | rfl | h1
    · have h4 : i = 0 := by omega
      subst h4
      simp
    · simp [Nat.testBit, Nat.shiftRight_succ]
    · have h3 : ¬ 1 = i := by omega
      have h2 : (n / 2 ^ 1 % 2 ^ 1).testBit (i - 1) = false := Nat.testBit_lt_two_pow (Nat.lt_of_lt_of_le (Nat.mod_lt _ (by decide)) (Nat.pow_le_pow_right (by decide) (by omega)))
      simp [h3, h2]
  rw [h]
  have h2 : n / 2 % 2 = 0 ∨ n / 2 % 2 = 1 := by omega
  rcases h2 with h2 | h2 <;> rw [h2] <;> rfl

set_option maxRecDepth 100000 in
set_option maxHeartbeats 8000000 in
theorem aux_any (r : RD) (w : World) (told : List Nat) (g c : Nat) (b : List Nat) (h : r.ok w) (hm : MapN w r.B told) (hb : BRow w (some ⟨g, 0, none⟩) b) (hl : b.length = 16) (hc : 16 ≤ c) :
    Calls Tryz.prog 112 #[rdV r, .slice (some ⟨g, 0, none⟩) 16 c] w (AuxAns r (auxF r.ss told b) w) := by
  have hT0 := numOf_four b hb.2 8
  have HP := Lib.hid (fun (wx : World) (hw : BRow wx (some ⟨g, 0, none⟩) b) (o n q : Nat) (hn : n ≤ 8) (ho : o + n ≤ 16) => part_any g b wx hw o n q hn (by omega))
  have HT := Lib.hid (fun (wx : World) (hw : r.ok wx) (hr : BRow wx (some ⟨g, 0, none⟩) b) (q : Nat) => by
    have h1 := hr.cut 8 4
    simp only [Option.map_some, WideShapes.add_plain, Nat.zero_add] at h1
    have e : ((b.drop 8).take 4).length = 4 := by simp; omega
    have := vtext_any r wx hw (some ⟨g, 8, none⟩) q ((b.drop 8).take 4) h1 (by omega)
    rw [e] at this
    exact this)
  have HD0 : Hid (DW r w w.heap.size g #[.int .i64 0, .bool false, .string .empty] 232 b told (w.alloc (.cells #[.int .i64 0, .bool false, .string .empty] 232))) := Lib.hid (by
    have hB : Below w.heap.size w (w.alloc (.cells #[.int .i64 0, .bool false, .string .empty] 232)) := (Below.refl _ _).alloc (Nat.le_refl _) _
    exact ⟨h, Kp.below hB, hm.below hB, heap_alloc_new _ _, hb.below hB, Nat.le_refl _⟩)
  have n0 := numOf_four b hb.2 0
  have n6 := numOf_two b hb.2 6
  have n4 := numOf_two b hb.2 4
  have hand := and_index _ n6
  have HTELL := Lib.hid (fun (wx : World) (hw : r.ok wx) (hmx : MapN wx r.B told) (x : Nat) (h1 : 1 ≤ x) (h2 : x < 32768) => tell_any r wx told x hw hmx h1 h2)
  have hsz := textF_size r.ss (numOf ((b.drop 8).take 4))
  have hcode := textF_code r.ss (numOf ((b.drop 8).take 4))
  unfold auxF
  obtain ⟨F, hF⟩ : ∃ F, textF r.ss (numOf ((b.drop 8).take 4)) = F := ⟨_, rfl⟩
  rw [hF] at HT hsz hcode ⊢
  rw [show b.take 4 = (b.drop 0).take 4 from rfl]
  obtain ⟨nm, tc⟩ := F
  simp only at hsz hcode ⊢
  have HSY := Lib.hid (fun (w1 : World) => sysvV_any nm w1 (by omega))
  have hsy := sysOf_small nm.data.toList
  generalize sysOfV nm.data.toList = S at *
  clear hF hT0 hm hb h hsz
  generalize hN0 : numOf ((b.drop 0).take 4) = N0 at *
  generalize hN6 : numOf ((b.drop 6).take 2) = N6 at *
  generalize hN4 : numOf ((b.drop 4).take 2) = N4 at *
  have P0 := Lib.hid (fun (wx : World) (hw : BRow wx (some ⟨g, 0, none⟩) b) (q : Nat) => by
    have := HP.out wx hw 0 4 q (by omega) (by omega)
    rw [hN0] at this
    exact this)
  have P6 := Lib.hid (fun (wx : World) (hw : BRow wx (some ⟨g, 0, none⟩) b) (q : Nat) => by
    have := HP.out wx hw 6 2 q (by omega) (by omega)
    rw [hN6] at this
    exact this)
  have P4 := Lib.hid (fun (wx : World) (hw : BRow wx (some ⟨g, 0, none⟩) b) (q : Nat) => by
    have := HP.out wx hw 4 2 q (by omega) (by omega)
    rw [hN4] at this
    exact this)
  clear HP hN0 hN6 hN4
  have ic : (16 : Int) ≤ (c : Int) := by omega
  have hC := Lib.hid hcode
  clear hcode hc
  obtain ⟨X, hX⟩ : ∃ X, (if tc ≠ 0 then (told, AuxD.zero, tc) else if S ≠ N0 ∨ N6 % 32768 < 2 then (told, AuxD.zero, 3) else if N6 % 32768 ∈ told then (told, AuxD.zero, 5) else (told ++ [N6 % 32768], (⟨N6 % 32768, decide (N4 / 2 % 2 = 1), nm⟩ : AuxD), 0)) = X := ⟨_, rfl⟩
  rw [hX]
  have HX := Lib.hid hX
  clear hX
  unfold rdV at *
  generalize hV : w.heap.size = V at *
  go_enter Tryz.func112, Tryz.ntmps112
  go_wp2_with fail
  refine (HT.out _ HD0.out.ok HD0.out.row _).mono ?_
  rintro e w1 ⟨rfl, m, rfl⟩
  have HD1 := Lib.hid (HD0.out.below (below_drewN (Below.refl _ _) m))
  clear HD0 HT
  generalize (w.alloc (.cells #[.int .i64 0, .bool false, .string .empty] 232)).drewN m = wd at *
  have HFR : Hid (∀ (wx : World) (cs : Array Value), wx.heap[V]? = some (.cells cs 232) → ∀ j, wx.frozen? ⟨V, j, none⟩ = false) := Lib.hid (fun wx cs h j => frozen_of_row wx V j _ _ h)
  by_cases htc : tc = 0
  · subst htc
    have HE0 : Hid (X = if S ≠ N0 ∨ N6 % 32768 < 2 then (told, AuxD.zero, 3) else if N6 % 32768 ∈ told then (told, AuxD.zero, 5) else (told ++ [N6 % 32768], (⟨N6 % 32768, decide (N4 / 2 % 2 = 1), nm⟩ : AuxD), 0)) := Lib.hid (by rw [← HX.out, if_neg (by simp)])
    rw [errV0x]
    have hx : N6 % 32768 < 32768 := by omega
    generalize N6 % 32768 = x at *
    have hxw : IntKind.i64.wrap (x : Int) = (x : Int) := by rw [IntKind.wrap_i64]; omega
    have hSw : IntKind.u64.wrap (S : Int) = (S : Int) := by rw [IntKind.wrap_u64]; omega
    by_cases hS : S = N0
    · subst hS
      have hne : ((S : Int) != (S : Int)) = false := by simp
      by_cases hx2 : x < 2
      · have HE : Hid (X = (told, .zero, 3)) := Lib.hid (by rw [HE0.out, if_pos (.inr hx2)])
        have hx2i : (x : Int) < 2 := by omega
        go_wp2_with (go_at_call 48; refine (P6.out _ HD1.out.row _).mono ?_; rintro e w' ⟨rfl, rfl⟩)
        go_quiet (first | (go_at_call 110; exact Calls.quiet_of_same ((HSY.out _).mono (by rintro e w' ⟨rfl, rfl⟩; exact ⟨rfl, rfl⟩))) | (go_at_call 48; exact Calls.quiet_of_same ((P0.out _ (HD1.out.below (below_drewN (Below.refl _ _) _)).row _).mono (by rintro e w' ⟨rfl, rfl⟩; exact ⟨rfl, rfl⟩))))
        have HD2 := Lib.hid (HD1.out.below (below_drewN (Below.refl _ _) nq))
        generalize wd.drewN nq = w2 at *
        have FS := Lib.hid (three_stores HD2.out.box (.int .i64 0) (.bool false) (.string ⟨#[]⟩))
        have hr := fun (cs : Array Value) (j : Nat) => cell_setRow_same w2 V j _ cs _ _ HD2.out.box
        have r0 := hr #[.int .i64 0, .bool false, .string ⟨#[]⟩] 0
        have r1 := hr #[.int .i64 0, .bool false, .string ⟨#[]⟩] 1
        have r2 := hr #[.int .i64 0, .bool false, .string ⟨#[]⟩] 2
        simp only [List.getElem?_toArray, List.getElem?_cons_zero, List.getElem?_cons_succ] at r0 r1 r2
        have R0 := Lib.hid r0
        have R1 := Lib.hid r1
        have R2 := Lib.hid r2
        clear r0 r1 r2 hr
        have f0 := HFR.out _ _ HD2.out.box 0
        have f1 := HFR.out _ _ HD2.out.box 1
        have f2 := HFR.out _ _ HD2.out.box 2
        have c0 : w2.cell? ⟨V, 0, none⟩ = some (.int .i64 0) := by rw [cell_of_row w2 V 0 _ _ _ HD2.out.box]; rfl
        have c1 : w2.cell? ⟨V, 1, none⟩ = some (.bool false) := by rw [cell_of_row w2 V 1 _ _ _ HD2.out.box]; rfl
        have c2 : w2.cell? ⟨V, 2, none⟩ = some (.string .empty) := by rw [cell_of_row w2 V 2 _ _ _ HD2.out.box]; rfl
        go_wp2_with fail
        rw [HE.out]
        rw [FS.out]
        refine bodyPost_ret (by simp [results, Tryz.results112, go_sem, R0.out, R1.out, R2.out]; try rfl) rfl ?_
        exact AuxAns.of HD2.out _ rfl rfl
      · have hx2i : ¬ (x : Int) < 2 := by omega
        have hx1 : 1 ≤ x := by omega
        have HE1 : Hid (X = if x ∈ told then (told, AuxD.zero, 5) else (told ++ [x], (⟨x, decide (N4 / 2 % 2 = 1), nm⟩ : AuxD), 0)) := Lib.hid (by rw [HE0.out, if_neg (by omega)])
        clear HE0
        go_wp2_with (go_at_call 48; refine (P6.out _ HD1.out.row _).mono ?_; rintro e w' ⟨rfl, rfl⟩)
        go_quiet (first | (go_at_call 110; exact Calls.quiet_of_same ((HSY.out _).mono (by rintro e w' ⟨rfl, rfl⟩; exact ⟨rfl, rfl⟩))) | (go_at_call 48; exact Calls.quiet_of_same ((P0.out _ (HD1.out.below (below_drewN (Below.refl _ _) _)).row _).mono (by rintro e w' ⟨rfl, rfl⟩; exact ⟨rfl, rfl⟩))))
        have HD2 := Lib.hid (HD1.out.below (below_drewN (Below.refl _ _) nq))
        generalize wd.drewN nq = w2 at *
        clear HD1 P0 P6 hand HSY
        have HTL := Lib.hid (HTELL.out w2 HD2.out.ok HD2.out.map x hx1 hx)
        by_cases hin : x ∈ told
        · have HE : Hid (X = (told, .zero, 5)) := Lib.hid (by rw [HE1.out, if_pos hin])
          rw [if_pos hin, if_pos hin] at HTL
          clear HE1 hin
          go_wp2_with fail
          refine HTL.out.mono ?_
          rintro e w3 ⟨rfl, hk3, hm3⟩
          have HD3 := Lib.hid (HD2.out.on hk3 hm3)
          clear hk3 hm3 HTL
          rw [errV_five]
          have FS := Lib.hid (three_stores HD3.out.box (.int .i64 0) (.bool false) (.string ⟨#[]⟩))
          have hr := fun (cs : Array Value) (j : Nat) => cell_setRow_same w3 V j _ cs _ _ HD3.out.box
          have r0 := hr #[.int .i64 0, .bool false, .string ⟨#[]⟩] 0
          have r1 := hr #[.int .i64 0, .bool false, .string ⟨#[]⟩] 1
          have r2 := hr #[.int .i64 0, .bool false, .string ⟨#[]⟩] 2
          simp only [List.getElem?_toArray, List.getElem?_cons_zero, List.getElem?_cons_succ] at r0 r1 r2
          have R0 := Lib.hid r0
          have R1 := Lib.hid r1
          have R2 := Lib.hid r2
          clear r0 r1 r2 hr
          have f0 := HFR.out _ _ HD3.out.box 0
          have f1 := HFR.out _ _ HD3.out.box 1
          have f2 := HFR.out _ _ HD3.out.box 2
          have c0 : w3.cell? ⟨V, 0, none⟩ = some (.int .i64 0) := by rw [cell_of_row w3 V 0 _ _ _ HD3.out.box]; rfl
          have c1 : w3.cell? ⟨V, 1, none⟩ = some (.bool false) := by rw [cell_of_row w3 V 1 _ _ _ HD3.out.box]; rfl
          have c2 : w3.cell? ⟨V, 2, none⟩ = some (.string .empty) := by rw [cell_of_row w3 V 2 _ _ _ HD3.out.box]; rfl
          go_wp2_with fail
          rw [HE.out]
          rw [FS.out]
          refine bodyPost_ret (by simp [results, Tryz.results112, go_sem, R0.out, R1.out, R2.out]; try rfl) rfl ?_
          exact AuxAns.of HD3.out _ rfl rfl
        · have HE : Hid (X = (told ++ [x], (⟨x, decide (N4 / 2 % 2 = 1), nm⟩ : AuxD), 0)) := Lib.hid (by rw [HE1.out, if_neg hin])
          rw [if_neg hin, if_neg hin] at HTL
          clear HE1 hin
          have hand2 : bits .and .u64 (N4 : Int) 2 = ((N4 &&& 2 : Nat) : Int) := by
            rw [show (2 : Int) = ((2 : Nat) : Int) from rfl, u64_and_nat N4 _ (by omega) (by omega)]
          have hbit : (((N4 &&& 2 : Nat) : Int) != 0) = decide (N4 / 2 % 2 = 1) := and_two_bit N4
          have HBIT := Lib.hid hbit
          clear hbit
          generalize (N4 &&& 2) = q at *
          go_wp2_with fail
          refine HTL.out.mono ?_
          rintro e w3 ⟨rfl, hk3, hm3⟩
          have HD3 := Lib.hid (HD2.out.on hk3 hm3)
          clear hk3 hm3 HTL
          rw [errV0x]
          have FS := Lib.hid (three_stores HD3.out.box (.int .i64 (x : Int)) (.bool ((q : Int) != 0)) (.string nm))
          have hr := fun (cs : Array Value) (j : Nat) => cell_setRow_same w3 V j _ cs _ _ HD3.out.box
          have r0 := hr #[.int .i64 (x : Int), .bool ((q : Int) != 0), .string nm] 0
          have r1 := hr #[.int .i64 (x : Int), .bool ((q : Int) != 0), .string nm] 1
          have r2 := hr #[.int .i64 (x : Int), .bool ((q : Int) != 0), .string nm] 2
          simp only [List.getElem?_toArray, List.getElem?_cons_zero, List.getElem?_cons_succ] at r0 r1 r2
          have R0 := Lib.hid r0
          have R1 := Lib.hid r1
          have R2 := Lib.hid r2
          clear r0 r1 r2 hr
          have f0 := HFR.out _ _ HD3.out.box 0
          have f1 := HFR.out _ _ HD3.out.box 1
          have f2 := HFR.out _ _ HD3.out.box 2
          have c0 : w3.cell? ⟨V, 0, none⟩ = some (.int .i64 0) := by rw [cell_of_row w3 V 0 _ _ _ HD3.out.box]; rfl
          have c1 : w3.cell? ⟨V, 1, none⟩ = some (.bool false) := by rw [cell_of_row w3 V 1 _ _ _ HD3.out.box]; rfl
          have c2 : w3.cell? ⟨V, 2, none⟩ = some (.string .empty) := by rw [cell_of_row w3 V 2 _ _ _ HD3.out.box]; rfl
          go_wp2_with (go_at_call 48; refine (P4.out _ HD3.out.row _).mono ?_; rintro e w' ⟨rfl, rfl⟩)
          rw [HE.out]
          rw [FS.out]
          refine bodyPost_ret (by simp [results, Tryz.results112, go_sem, R0.out, R1.out, R2.out]; try rfl) rfl ?_
          exact AuxAns.of HD3.out _ (by rw [HBIT.out]; rfl) rfl
    · have hne : ((S : Int) != (N0 : Int)) = true := by
        rw [bne_iff_ne]; omega
      have HE : Hid (X = (told, .zero, 3)) := Lib.hid (by rw [HE0.out, if_pos (.inl hS)])
      clear hS
      go_wp2_with (go_at_call 48; refine (P6.out _ HD1.out.row _).mono ?_; rintro e w' ⟨rfl, rfl⟩)
      go_quiet (first | (go_at_call 110; exact Calls.quiet_of_same ((HSY.out _).mono (by rintro e w' ⟨rfl, rfl⟩; exact ⟨rfl, rfl⟩))) | (go_at_call 48; exact Calls.quiet_of_same ((P0.out _ (HD1.out.below (below_drewN (Below.refl _ _) _)).row _).mono (by rintro e w' ⟨rfl, rfl⟩; exact ⟨rfl, rfl⟩))))
      have HD2 := Lib.hid (HD1.out.below (below_drewN (Below.refl _ _) nq))
      generalize wd.drewN nq = w2 at *
      have FS := Lib.hid (three_stores HD2.out.box (.int .i64 0) (.bool false) (.string ⟨#[]⟩))
      have hr := fun (cs : Array Value) (j : Nat) => cell_setRow_same w2 V j _ cs _ _ HD2.out.box
      have r0 := hr #[.int .i64 0, .bool false, .string ⟨#[]⟩] 0
      have r1 := hr #[.int .i64 0, .bool false, .string ⟨#[]⟩] 1
      have r2 := hr #[.int .i64 0, .bool false, .string ⟨#[]⟩] 2
      simp only [List.getElem?_toArray, List.getElem?_cons_zero, List.getElem?_cons_succ] at r0 r1 r2
      have R0 := Lib.hid r0
      have R1 := Lib.hid r1
      have R2 := Lib.hid r2
      clear r0 r1 r2 hr
      have f0 := HFR.out _ _ HD2.out.box 0
      have f1 := HFR.out _ _ HD2.out.box 1
      have f2 := HFR.out _ _ HD2.out.box 2
      have c0 : w2.cell? ⟨V, 0, none⟩ = some (.int .i64 0) := by rw [cell_of_row w2 V 0 _ _ _ HD2.out.box]; rfl
      have c1 : w2.cell? ⟨V, 1, none⟩ = some (.bool false) := by rw [cell_of_row w2 V 1 _ _ _ HD2.out.box]; rfl
      have c2 : w2.cell? ⟨V, 2, none⟩ = some (.string .empty) := by rw [cell_of_row w2 V 2 _ _ _ HD2.out.box]; rfl
      go_wp2_with fail
      rw [HE.out]
      rw [FS.out]
      refine bodyPost_ret (by simp [results, Tryz.results112, go_sem, R0.out, R1.out, R2.out]; try rfl) rfl ?_
      exact AuxAns.of HD2.out _ rfl rfl
  · have HE : Hid (X = (told, .zero, tc)) := Lib.hid (by rw [← HX.out, if_pos htc])
    rw [errVp (by omega)]
    have FS := Lib.hid (three_stores HD1.out.box (.int .i64 0) (.bool false) (.string ⟨#[]⟩))
    have hr := fun (cs : Array Value) (j : Nat) => cell_setRow_same wd V j _ cs _ _ HD1.out.box
    have r0 := hr #[.int .i64 0, .bool false, .string ⟨#[]⟩] 0
    have r1 := hr #[.int .i64 0, .bool false, .string ⟨#[]⟩] 1
    have r2 := hr #[.int .i64 0, .bool false, .string ⟨#[]⟩] 2
    simp only [List.getElem?_toArray, List.getElem?_cons_zero, List.getElem?_cons_succ] at r0 r1 r2
    have R0 := Lib.hid r0
    have R1 := Lib.hid r1
    have R2 := Lib.hid r2
    clear r0 r1 r2 hr
    have f0 := HFR.out _ _ HD1.out.box 0
    have f1 := HFR.out _ _ HD1.out.box 1
    have f2 := HFR.out _ _ HD1.out.box 2
    have c0 : wd.cell? ⟨V, 0, none⟩ = some (.int .i64 0) := by rw [cell_of_row wd V 0 _ _ _ HD1.out.box]; rfl
    have c1 : wd.cell? ⟨V, 1, none⟩ = some (.bool false) := by rw [cell_of_row wd V 1 _ _ _ HD1.out.box]; rfl
    have c2 : wd.cell? ⟨V, 2, none⟩ = some (.string .empty) := by rw [cell_of_row wd V 2 _ _ _ HD1.out.box]; rfl
    go_wp2_with fail
    rw [HE.out]
    rw [FS.out]
    refine bodyPost_ret (by simp [results, Tryz.results112, go_sem, R0.out, R1.out, R2.out]; try rfl) rfl ?_
    exact AuxAns.of HD1.out _ rfl (errVp (by omega)).symm
end Go.Proofs.YtnaejlfjlennhaaGreatDoor
