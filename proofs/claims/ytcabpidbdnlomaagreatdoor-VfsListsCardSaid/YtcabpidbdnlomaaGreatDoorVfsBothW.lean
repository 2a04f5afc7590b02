/- Layer 3 as mathematics: where the program refuses a node, the document refuses the same node, with the same number. -/
import Derived.Test.YtcabpidbdnlomaaGreatDoorRefSame
import Derived.Test.YtcabpidbdnlomaaGreatDoorRefListD
import Derived.Test.YtcabpidbdnlomaaGreatDoorVfsNew
import Derived.Test.YtcabpidbdnlomaaGreatDoorIsSpot
import Derived.Deep.DeepCutAuto
import Derived.Deep.RegionLaw
import Derived.BigQuiet
namespace Go.Proofs.YtcabpidbdnlomaaGreatDoor
open Go.RowKit
set_option linter.unusedVariables false
set_option linter.unusedSimpArgs false

theorem Laid.before {L : List Nd} {es : List Ent} (h : Laid L es) : ∀ m, m < es.length → ∃ es', ∃ (hm : m < L.length), es'.length = m ∧ Laid L es' ∧ checkF (treeE L es') L[m] = 0 := by
  induction h with
  | nil => intro m hm; cases hm
  | snoc es e h hl hc he ih =>
    intro m hm
    rw [List.length_append, List.length_singleton] at hm
    by_cases hlt : m < es.length
    · exact ih m hlt
    · obtain rfl : m = es.length := by omega
      exact ⟨es, hl, rfl, h, hc⟩
theorem layR_alike {L : List Nd} {m n : Nd} (h : Alike m n) : layR L m = layR L n := by
  unfold layR toR
  rw [h.path, h.kind, h.tgt]
theorem idxR_take {L : List Nd} {p : ByteArray} {m : Nat} (h : idxR L p < m) (hm : m ≤ L.length) : idxR (L.take m) p = idxR L p := by
  unfold idxR at *
  have hs : L.findIdx (fun n => decide (n.path = p)) = (L.take m ++ L.drop m).findIdx (fun n => decide (n.path = p)) := by rw [List.take_append_drop]
  rw [List.findIdx_append] at hs
  split at hs
  · exact hs.symm
  · rw [List.length_take] at hs
    omega
theorem HardOk.take {L : List Nd} (h : HardOk L) (m : Nat) (hm : m ≤ L.length) : HardOk (L.take m) := by
  intro i hi h3
  rw [List.length_take] at hi
  rw [List.getElem_take] at h3 ⊢
  have := h i (by omega) h3
  rw [idxR_take (by omega) hm]
  exact this
/-- both stop at the same node -/
theorem agree {L L' : List Nd} {es : List Ent} (hla : Laid L es) (hA : ∀ i, (h : i < L'.length) → (h2 : i < L.length) → Alike L'[i] L[i]) (hB : ∀ i, (h : i < L'.length) → (h2 : i < L.length) → layR (L'.take i) L[i] = 0) (hH : HardOk L') (hl : L'.length ≤ L.length) (hce : ∀ h : es.length < L.length, checkF (treeE L es) L[es.length] ≠ 0) (hcl : ∀ h : L'.length < L.length, layR L' L[L'.length] ≠ 0) :
    es.length = L'.length ∧ ∀ h : es.length < L.length, layR L' L[es.length] = checkF (treeE L es) L[es.length] := by
  have hle := hla.le
  have same : es.length = L'.length := by
    rcases Nat.lt_trichotomy es.length L'.length with h | h | h
    · exfalso
      have h1 := hB es.length h (by omega)
      have htl : (L'.take es.length).length = es.length := by rw [List.length_take]; omega
      have h2 := layR_check (L' := L'.take es.length) hla htl (fun i hi h2 => by rw [List.getElem_take]; exact hA i (by omega) h2) (hH.take _ (by omega)) (L[es.length]'(by omega))
      exact hce (by omega) (by rw [← h2]; exact h1)
    · exact h
    · exfalso
      obtain ⟨es', hm, e1, e2, e3⟩ := hla.before L'.length h
      have h2 := layR_check (L' := L') e2 e1.symm hA hH (L[L'.length]'hm)
      exact hcl hm (by rw [h2]; exact e3)
  exact ⟨same, fun h => layR_check hla same.symm hA hH _⟩
theorem lasts_alike : ∀ {L L' : List Nd}, L'.length = L.length → (∀ i, (h : i < L'.length) → (h2 : i < L.length) → Alike L'[i] L[i]) → L'.map (fun n => n.path) = L.map (fun n => n.path) := by
  intro L L' hl hA
  apply List.ext_getElem (by simp [hl])
  intro i h1 h2
  rw [List.getElem_map, List.getElem_map]
  rw [List.length_map] at h1 h2
  exact (hA i h1 h2).path
end Go.Proofs.YtcabpidbdnlomaaGreatDoor
/- Layer 3: an own copy of whatever nodes, as the law makes it; what the two answers then tell. -/
namespace Go.Proofs.YtcabpidbdnlomaaGreatDoor
open Go.RowKit
set_option linter.unusedVariables false
set_option linter.unusedSimpArgs false

/-- the last parts of the paths in a directory, path by path -/
def lastsP (at' : ByteArray) (P : List ByteArray) : List (List UInt8) := (P.filter fun p => decide (parentF p = at')).map fun p => lastName p.data.toList
/-- where the copying stands -/
structure CSt (w0 : World) (L : List Nd) (D : Nat → List Nat) (k : Nat) (L' : List Nd) (ad : Option Addr) (c : Nat) (wr : World) : Prop where
  own : OwnS wr w0.heap.size 49 5 (.slice ad k c) (L'.map fun n => n.cells.toList)
  len : L'.length = k
  alike : ∀ i, (h : i < L'.length) → (h2 : i < L.length) → Alike L'[i] L[i]
  data : ∀ i, (h : i < L'.length) → OwnI wr w0.heap.size 5 .u8 (.slice L'[i].da L'[i].dn L'[i].dc) (toI (D i))
  blw : Below w0.heap.size w0 wr
theorem CSt.row {w0 : World} {L : List Nd} {D : Nat → List Nat} {k : Nat} {L' : List Nd} {ad : Option Addr} {c : Nat} {wr : World} (h : CSt w0 L D k L' ad c wr) : NdRow wr ad L' := by
  obtain ⟨h1, h2, h3, h4⟩ := h.own.at
  intro i hi
  obtain ⟨b, o, e, hb, hc⟩ := h2 i (by rw [List.length_map]; exact hi)
  refine ⟨b, o, e, hb, fun j hj => ?_⟩
  rw [hc j hj]
  simp
theorem CSt.ok {w0 : World} {L : List Nd} {D : Nat → List Nat} {k : Nat} {L' : List Nd} {ad : Option Addr} {c : Nat} {wr : World} (h : CSt w0 L D k L' ad c wr) (hl : L.length = k) (hD : ∀ i, (hi : i < L.length) → NdOk w0 L[i] (D i)) : ∀ i, (hi : i < L'.length) → NdOk wr L'[i] (D i) := by
  intro i hi
  have h2 : i < L.length := by rw [hl, ← h.len]; exact hi
  have al := h.alike i hi h2
  have hd := h.data i hi
  have ok := hD i h2
  obtain ⟨e1, e2, e3⟩ := hd.at
  refine ⟨e2, by rw [e1, toI_length], by rw [al.dn]; exact ok.most, fun q => ?_, by rw [al.path]; exact ok.path, by rw [al.tgt]; exact ok.tgt⟩
  obtain ⟨z1, z2⟩ := e3 q
  exact ⟨by omega, z2⟩
theorem CSt.step {w0 : World} {L : List Nd} {D : Nat → List Nat} {k : Nat} {L' : List Nd} {ad : Option Addr} {c : Nat} {wr w7 w8 : World} {path tgt : ByteArray} {kind : Int} {da da' : Option Addr} {dn dc dc' : Nat} {su : Bool} (h : CSt w0 L D k L' ad c wr) (hk : k < L.length) (hx : L[k] = ⟨path, kind, da, dn, dc, tgt, su⟩) {ad8 : Option Addr} {c8 : Nat} (hb7 : Below wr.heap.size wr w7)
    (ho7 : OwnI w7 w0.heap.size 5 .u8 (.slice da' dn dc') (toI (D k)))
    (ho8 : OwnS w8 w0.heap.size 49 5 (.slice ad8 (k + 1) c8) ((L'.map fun n => n.cells.toList) ++ [[.string path, .int .i64 kind, .slice da' dn dc', .string tgt, .bool su]]))
    (hg8 : (w7.alloc (.cells #[.string path, .int .i64 kind, .slice da' dn dc', .string tgt, .bool su] 49)).grownBy w8 (Value.slice ad k c).ownBlock) : CSt w0 L D (k + 1) (L' ++ [⟨path, kind, da', dn, dc', tgt, su⟩]) ad8 c8 w8 := by
  have hlen := h.len
  have last : ∀ i, (h : i < (L' ++ [(⟨path, kind, da', dn, dc', tgt, su⟩ : Nd)]).length) → ¬ i < L'.length → i = k := fun i h hn => by
    rw [List.length_append] at h
    simp at h
    omega
  have hB1 : Below w7.heap.size w7 (w7.alloc (.cells #[.string path, .int .i64 kind, .slice da' dn dc', .string tgt, .bool su] 49)) := (Below.refl _ _).alloc (Nat.le_refl _) _
  have hoa := (h.own.below hb7).below hB1
  have hcat : (L' ++ [(⟨path, kind, da', dn, dc', tgt, su⟩ : Nd)]).map (fun n => n.cells.toList) = (L'.map fun n => n.cells.toList) ++ [[.string path, .int .i64 kind, .slice da' dn dc', .string tgt, .bool su]] := by
    rw [List.map_append]
    rfl
  have hw7 : w0.heap.size ≤ w7.heap.size := Nat.le_trans h.blw.size hb7.size
  refine ⟨by rw [hcat]; exact ho8, by rw [List.length_append, hlen]; rfl, ?_, ?_, ?_⟩
  · intro i hi h2
    by_cases hil : i < L'.length
    · rw [List.getElem_append_left hil]; exact h.alike i hil h2
    · obtain rfl := last i hi hil
      have e : (L' ++ [(⟨path, kind, da', dn, dc', tgt, su⟩ : Nd)])[i] = ⟨path, kind, da', dn, dc', tgt, su⟩ := by
        rw [List.getElem_append_right (by omega)]
        simp [hlen]
      rw [e, hx]
      exact ⟨rfl, rfl, rfl, rfl, rfl⟩
  · intro i hi
    have fly : ∀ v xs, OwnI w7 w0.heap.size 5 .u8 v xs → OwnI w8 w0.heap.size 5 .u8 v xs := fun v xs ho => (ho.below hB1).keepS hg8 hoa (by decide)
    by_cases hil : i < L'.length
    · rw [List.getElem_append_left hil]
      exact fly _ _ ((h.data i hil).below hb7)
    · obtain rfl := last i hi hil
      have e : (L' ++ [(⟨path, kind, da', dn, dc', tgt, su⟩ : Nd)])[i] = ⟨path, kind, da', dn, dc', tgt, su⟩ := by
        rw [List.getElem_append_right (by omega)]
        simp [hlen]
      rw [e]
      exact fly _ _ ho7
  · have b1 : Below w0.heap.size w0 (w7.alloc (.cells #[.string path, .int .i64 kind, .slice da' dn dc', .string tgt, .bool su] 49)) := (h.blw.trans (hb7.mono h.blw.size)).trans (hB1.mono hw7)
    exact b1.grown hg8 (Nat.le_trans hw7 hB1.size) (fun j hj => (World.ownsRow.lt hoa.1 j hj).1)

/-- the blocks of the own copy -/
def Mine (L' : List Nd) (ad : Option Addr) (q : Nat) : Prop := (∃ a, ad = some a ∧ a.block = q) ∨ ∃ i, ∃ (h : i < L'.length), ∃ a, L'[i].da = some a ∧ a.block = q
/-- what may be written: the copy's bytes and paths; all else stands as it stood -/
structure Scr (w3 : World) (L' : List Nd) (ad : Option Addr) (wr : World) : Prop where
  size : wr.heap.size = w3.heap.size
  same : ∀ q, ¬ Mine L' ad q → wr.heap[q]? = w3.heap[q]?
  blw : ∀ B, (∀ q, Mine L' ad q → B ≤ q) → Below B w3 wr
  node : ∀ i, (h : i < L'.length) → ∃ b o, ad = some ⟨b, o, none⟩ ∧ b < w3.heap.size ∧ wr.cell? ⟨b, o + i * 5 + 2, none⟩ = some (.slice L'[i].da L'[i].dn L'[i].dc) ∧ (∃ t, wr.cell? ⟨b, o + i * 5, none⟩ = some (.string t)) ∧ wr.frozen? ⟨b, o + i * 5, none⟩ = false
  byte : ∀ i, (h : i < L'.length) → ∀ k, k < L'[i].dn → ∃ b o v, L'[i].da = some ⟨b, o, none⟩ ∧ b < w3.heap.size ∧ ad.map (·.block) ≠ some b ∧ wr.cell? ⟨b, o + k, none⟩ = some (.int .u8 v) ∧ wr.frozen? ⟨b, o + k, none⟩ = false
theorem own_at {w : World} {B sz n m cap : Nat} {e : TypeId} {a : Addr} {xs : List Value} (h : w.ownsRow B e sz (.slice (some a) m cap) n xs) : ∃ g cur, a = ⟨g, 0, none⟩ ∧ B ≤ g ∧ w.heap[g]? = some (.cells cur e) := by
  rcases h.2 with ⟨h', -⟩ | ⟨g, cap', cur, h', hb, hg, -⟩
  · simp at h'
  · simp only [Value.slice.injEq, Option.some.injEq] at h'
    exact ⟨g, cur, h'.1, hb, hg⟩
theorem mine_at {w0 : World} {L : List Nd} {D : Nat → List Nat} {k : Nat} {L' : List Nd} {ad : Option Addr} {c : Nat} {wr : World} (h : CSt w0 L D k L' ad c wr) (q : Nat) (hq : Mine L' ad q) : w0.heap.size ≤ q ∧ q < wr.heap.size ∧ ∃ cur T, wr.heap[q]? = some (.cells cur T) ∧ (T = 49 ∨ T = 5) := by
  rcases hq with ⟨a, rfl, rfl⟩ | ⟨i, hi, a, ha, rfl⟩
  · obtain ⟨g, cur, rfl, hb, hg⟩ := own_at h.own.1
    exact ⟨hb, lt_of_block hg, cur, _, hg, .inl rfl⟩
  · have hd := h.data i hi
    rw [ha] at hd
    obtain ⟨g, cur, rfl, hb, hg⟩ := own_at hd
    exact ⟨hb, lt_of_block hg, cur, _, hg, .inr rfl⟩
theorem Scr.init {w0 : World} {L : List Nd} {D : Nat → List Nat} {k : Nat} {L' : List Nd} {ad : Option Addr} {c : Nat} {w1 w3 : World} (h : CSt w0 L D k L' ad c w1) (hb : Below w1.heap.size w1 w3) : Scr w3 L' ad w3 := by
  have ho := h.own.below hb
  refine ⟨rfl, fun _ _ => rfl, fun B _ => Below.refl _ _, fun i hi => ?_, fun i hi k hk => ?_⟩
  · obtain ⟨b, o, e, hlt, hc⟩ := (h.row.below hb) i hi
    refine ⟨b, o, e, hlt, by rw [hc 2 (by omega)]; rfl, ⟨L'[i].path, by have := hc 0 (by omega); rw [Nat.add_zero] at this; rw [this]; rfl⟩, ?_⟩
    subst e
    obtain ⟨g, cur, e2, -, hg⟩ := own_at ho.1
    simp only [Addr.mk.injEq] at e2
    obtain ⟨rfl, rfl, -⟩ := e2
    exact frozen_of_row _ _ _ _ _ hg
  · have hd := (h.data i hi).below hb
    obtain ⟨e1, e2, -⟩ := hd.at
    obtain ⟨b, o, e, hc⟩ := e2 k (by omega)
    rw [e] at hd
    obtain ⟨g, cur, e3, hge, hg⟩ := own_at hd
    simp only [Addr.mk.injEq] at e3
    obtain ⟨rfl, rfl, -⟩ := e3
    refine ⟨b, 0, _, e, lt_of_block hg, ?_, hc, frozen_of_row _ _ _ _ _ hg⟩
    intro hm
    cases ad with
    | none => cases hm
    | some a =>
      have hs := own_apart ho.1 hd (by decide)
      simp only [Option.map_some, Option.some.injEq] at hm
      rcases hs with hs | hs
      · cases hs
      · exact hs (congrArg some hm.symm)
theorem setOther_ {w : World} {a b : Addr} {v : Value} (h : a ≠ b) : (w.setCell a v).cell? b = w.cell? b := by
  exact World.cell?_setCell_other (h := h) ..
theorem setSame_ {w : World} {a : Addr} {u v : Value} (h : w.cell? a = some u) : (w.setCell a v).cell? a = some v := by
  exact World.cell?_setCell_same (h := h) ..
theorem Scr.setByte {w3 : World} {L' : List Nd} {ad : Option Addr} {wr : World} (h : Scr w3 L' ad wr) {i : Nat} (hi : i < L'.length) {b o k : Nat} (hd : L'[i].da = some ⟨b, o, none⟩) (hne : ad.map (·.block) ≠ some b) {v : Int} (hv : wr.cell? ⟨b, o + k, none⟩ = some (.int .u8 v)) (v' : Int) : Scr w3 L' ad (wr.setCell ⟨b, o + k, none⟩ (.int .u8 v')) := by
  have hmine : Mine L' ad b := .inr ⟨i, hi, _, hd, rfl⟩
  refine ⟨by rw [World.size_setCell]; exact h.size, fun q hq => ?_, fun B hB => (h.blw B hB).setCell (p := ⟨b, o + k, none⟩) (hB _ hmine) _, fun j hj => ?_, fun j hj x hx => ?_⟩
  · rw [heap_setCell_other _ _ _ _ (fun (e : q = b) => hq (by rw [e]; exact hmine))]
    exact h.same q hq
  · obtain ⟨b1, o1, e, hlt, c2, ⟨t, c0⟩, f0⟩ := h.node j hj
    have hb : b ≠ b1 := fun e2 => hne (by rw [e, e2]; rfl)
    refine ⟨b1, o1, e, hlt, by rw [setOther_ (fun e => hb (by have := congrArg Addr.block e; exact this))]; exact c2, ⟨t, by rw [setOther_ (fun e => hb (by have := congrArg Addr.block e; exact this))]; exact c0⟩, by rw [World.frozen?_setCell]; exact f0⟩
  · obtain ⟨b1, o1, v1, e, hlt, hn1, c1, f1⟩ := h.byte j hj x hx
    by_cases hq : (⟨b, o + k, none⟩ : Addr) = ⟨b1, o1 + x, none⟩
    · refine ⟨b1, o1, v', e, hlt, hn1, ?_, by rw [World.frozen?_setCell]; exact f1⟩
      rw [hq]
      exact setSame_ c1
    · exact ⟨b1, o1, v1, e, hlt, hn1, by rw [setOther_ hq]; exact c1, by rw [World.frozen?_setCell]; exact f1⟩
theorem Scr.setPath {w3 : World} {L' : List Nd} {ad : Option Addr} {wr : World} (h : Scr w3 L' ad wr) {i : Nat} {b o : Nat} (hd : ad = some ⟨b, o, none⟩) {t : ByteArray} (hv : wr.cell? ⟨b, o + i * 5, none⟩ = some (.string t)) (t' : ByteArray) : Scr w3 L' ad (wr.setCell ⟨b, o + i * 5, none⟩ (.string t')) := by
  have hmine : Mine L' ad b := .inl ⟨_, hd, rfl⟩
  refine ⟨by rw [World.size_setCell]; exact h.size, fun q hq => ?_, fun B hB => (h.blw B hB).setCell (p := ⟨b, o + i * 5, none⟩) (hB _ hmine) _, fun j hj => ?_, fun j hj x hx => ?_⟩
  · rw [heap_setCell_other _ _ _ _ (fun (e : q = b) => hq (by rw [e]; exact hmine))]
    exact h.same q hq
  · obtain ⟨b1, o1, e, hlt, c2, ⟨t1, c0⟩, f0⟩ := h.node j hj
    rw [hd] at e
    simp only [Option.some.injEq, Addr.mk.injEq, and_true] at e
    obtain ⟨rfl, rfl⟩ := e
    refine ⟨b, o, hd, hlt, ?_, ?_, by rw [World.frozen?_setCell]; exact f0⟩
    · rw [setOther_ (fun e => by simp only [Addr.mk.injEq, and_true, true_and] at e; omega)]
      exact c2
    · by_cases hq : (⟨b, o + i * 5, none⟩ : Addr) = ⟨b, o + j * 5, none⟩
      · exact ⟨t', by rw [hq]; exact setSame_ c0⟩
      · exact ⟨t1, by rw [setOther_ hq]; exact c0⟩
  · obtain ⟨b1, o1, v1, e, hlt, hn1, c1, f1⟩ := h.byte j hj x hx
    have hb : b ≠ b1 := fun e2 => hn1 (by rw [hd, e2]; rfl)
    exact ⟨b1, o1, v1, e, hlt, hn1, by rw [setOther_ (fun e => hb (by have := congrArg Addr.block e; exact this))]; exact c1, by rw [World.frozen?_setCell]; exact f1⟩
theorem Scr.drewN {w3 : World} {L' : List Nd} {ad : Option Addr} {wr : World} (h : Scr w3 L' ad wr) (n : Nat) : Scr w3 L' ad (wr.drewN n) := by
  have hb : Below wr.heap.size wr (wr.drewN n) := below_drewN (Below.refl _ _) _
  have hh : ∀ q, (wr.drewN n).heap[q]? = wr.heap[q]? := fun q => by
    by_cases hq : q < wr.heap.size
    · exact hb.block q hq
    · have h1 : (wr.drewN n).heap.size = wr.heap.size := by simp
      rw [Array.getElem?_eq_none (by omega), Array.getElem?_eq_none (by omega)]
  have hc : ∀ p, (wr.drewN n).cell? p = wr.cell? p := fun p => World.cell?_of_block (hh _)
  have hf : ∀ p, (wr.drewN n).frozen? p = wr.frozen? p := fun p => World.frozen?_of_block (hh _)
  refine ⟨by have := h.size; simpa using this, fun q hq => (hh q).trans (h.same q hq), fun B hB => below_drewN (h.blw B hB) _, fun j hj => ?_, fun j hj x hx => ?_⟩
  · obtain ⟨b1, o1, e, hlt, c2, ⟨t1, c0⟩, f0⟩ := h.node j hj
    exact ⟨b1, o1, e, hlt, by rw [hc]; exact c2, ⟨t1, by rw [hc]; exact c0⟩, by rw [hf]; exact f0⟩
  · obtain ⟨b1, o1, v1, e, hlt, hn1, c1, f1⟩ := h.byte j hj x hx
    exact ⟨b1, o1, v1, e, hlt, hn1, by rw [hc]; exact c1, by rw [hf]; exact f1⟩
theorem Scr.tree {w3 : World} {L' : List Nd} {ad : Option Addr} {wr : World} (h : Scr w3 L' ad wr) (hm : ∀ q, Mine L' ad q → ∃ cur T, w3.heap[q]? = some (.cells cur T) ∧ (T = 49 ∨ T = 5)) {tb g c : Nat} {F : ByteArray → Option Ent} (ht : TreeAt w3 tb g c F) : TreeAt wr tb g c F := by
  have n1 : ¬ Mine L' ad tb := fun hq => by
    obtain ⟨cur, T, e, hT⟩ := hm _ hq
    rw [ht.box] at e
    simp only [Option.some.injEq, Obj.cells.injEq] at e
    rcases hT with rfl | rfl
    · exact absurd e.2.1 (by decide)
    · exact absurd e.2.1 (by decide)
  have n2 : ¬ Mine L' ad g := fun hq => by
    obtain ⟨cur, T, e, hT⟩ := hm _ hq
    obtain ⟨es, cl, e2⟩ := ht.map.block
    rw [e2] at e
    cases e
  exact ⟨(h.same _ n1).trans ht.box, ht.map.of_block (h.same _ n2)⟩
theorem Scr.ref {w3 : World} {L' : List Nd} {ad : Option Addr} {wr : World} (h : Scr w3 L' ad wr) {B : Nat} (hB : ∀ q, Mine L' ad q → q < B) (hm : ∀ q, Mine L' ad q → ∃ cur T, w3.heap[q]? = some (.cells cur T) ∧ (T = 49 ∨ T = 5)) {tb c : Nat} {a : Option Addr} {L3 : List Nd} (hr : RefAt w3 tb a c L3) (ha : ∀ x, a = some x → B ≤ x.block) : RefAt wr tb a c L3 := by
  have n1 : ¬ Mine L' ad tb := fun hq => by
    obtain ⟨cur, T, e, hT⟩ := hm _ hq
    rw [hr.box] at e
    simp only [Option.some.injEq, Obj.cells.injEq] at e
    rcases hT with rfl | rfl
    · exact absurd e.2.1 (by decide)
    · exact absurd e.2.1 (by decide)
  refine ⟨(h.same _ n1).trans hr.box, fun i hi => ?_, hr.many⟩
  obtain ⟨b, o, e, hlt, hc⟩ := hr.row i hi
  have hb := ha _ e
  have n2 : ¬ Mine L' ad b := fun hq => by have := hB _ hq; have : B ≤ b := hb; omega
  refine ⟨b, o, e, by rw [h.size]; exact hlt, fun j hj => ?_⟩
  rw [World.cell?_of_block (w := w3) (h.same b n2)]
  exact hc j hj
end Go.Proofs.YtcabpidbdnlomaaGreatDoor
/- Layer 3: both trees of whatever nodes: they tell the same, or both are refused for the same. -/
namespace Go.Proofs.YtcabpidbdnlomaaGreatDoor
open Go.RowKit
set_option linter.unusedVariables false
set_option linter.unusedSimpArgs false

/-- what the two calls tell -/
def OutP (tp ev rp : Value) (C K : Int) (w2 w3 : World) : Prop :=
  (∃ tb gm c rb a rc L3 F, tp = .pointer (some ⟨tb, 0, none⟩) ∧ ev = .nilIface ∧ rp = .pointer (some ⟨rb, 0, none⟩) ∧ TreeAt w3 tb gm c F ∧ c ≤ 1025 ∧ TreeIn F ∧ RefAt w3 rb a rc L3 ∧ (∀ x, a = some x → w2.heap.size ≤ x.block) ∧ RefIs L3 F ∧ (∀ i, (h : i < L3.length) → NdIn L3[i]) ∧ ∀ ss, KeysOf F ss → ∀ p, (namesIn p ss).Perm (lastsF p L3)) ∨
  (∃ sp n k : Nat, tp = .pointer none ∧ ev = .iface 71 (.pointer (some ⟨sp, 0, none⟩)) ∧ rp = .pointer none ∧ C = (n : Int) ∧ K = (k : Int) ∧ k ≤ 1024 ∧ n ≠ 0 ∧ w3.heap[sp]? = some (.cells #[.int .u64 (k : Int), .iface 33 (.int .i64 (n : Int))] 73)) ∨
  (tp = .pointer none ∧ ev = .iface 33 (.int .i64 2) ∧ rp = .pointer none ∧ C = 2 ∧ K = -1)
theorem Alike.symm {m n : Nd} (h : Alike m n) : Alike n m := ⟨h.path.symm, h.kind.symm, h.tgt.symm, h.su.symm, h.dn.symm⟩
theorem Alike.trans {l m n : Nd} (h : Alike l m) (h' : Alike m n) : Alike l n := ⟨h.path.trans h'.path, h.kind.trans h'.kind, h.tgt.trans h'.tgt, h.su.trans h'.su, h.dn.trans h'.dn⟩
theorem lasts_paths (p : ByteArray) (L : List Nd) : lastsF p L = lastsP p (L.map fun n => n.path) := by
  unfold lastsF lastsP
  rw [List.filter_map, List.map_map]
  rfl
theorem ndIn_of {n : Nd} (h : namedF n = true) : NdIn n := by
  have hcl : cleanF n.path = true := by
    unfold namedF at h
    simp only [Bool.and_eq_true] at h
    exact h.1
  have hsz := clean_size hcl
  have h47 : n.path.get! 0 = 47 := by
    unfold cleanF at hcl
    simp only [Bool.and_eq_true, decide_eq_true_eq] at hcl
    exact hcl.2.1
  exact ⟨hsz.1, hsz.2, h47⟩
theorem outs {L L2 : List Nd} {D : Nat → List Nat} {w1 w2 w3 : World} {e e' : Ending} (hn : NewPost L2 D w1 e w2) (hr : RNewPost L D w2 e' w3) (hb : Below w2.heap.size w2 w3) (hl : L2.length = L.length) (hm : L.length ≤ 1024) (hA : ∀ i, (h : i < L2.length) → (h2 : i < L.length) → Alike L2[i] L[i]) :
    ∃ tp ev rp C K, e = .returned (.tuple #[tp, ev]) ∧ e' = .returned (.tuple #[.pointer rp, .int .i64 C, .int .i64 K]) ∧ OutP tp ev (.pointer rp) C K w2 w3 := by
  have tr : ∀ {L3 : List Nd}, (∀ i, (h : i < L3.length) → (h2 : i < L.length) → Alike L3[i] L[i]) → ∀ i, (h : i < L3.length) → (h2 : i < L2.length) → Alike L3[i] L2[i] := fun h i h1 h2 => (h i h1 (by omega)).trans (hA i h2 (by omega)).symm
  have lay : ∀ {L3 : List Nd}, (∀ i, (h : i < L3.length) → (h2 : i < L.length) → layR (L3.take i) L[i] = 0) → ∀ i, (h : i < L3.length) → (h2 : i < L2.length) → layR (L3.take i) L2[i] = 0 := fun h i h1 h2 => by
    rw [layR_alike (hA i h2 (by omega))]
    exact h i h1 (by omega)
  rcases hn with ⟨tb, gm, es, rfl, hlen, hla, hat, hsh⟩ | ⟨es, sp, hk, rfl, hla, hne, hge, hsp⟩ | ⟨hk, rfl⟩
  · rcases hr with ⟨rb, ad, c, L3, rfl, hst⟩ | ⟨rb, ad, c, L3, wx, hk3, rfl, hst, hne3⟩ | ⟨hk3, rfl⟩
    · refine ⟨_, _, _, _, _, rfl, rfl, .inl ⟨tb, gm, _, rb, ad, c, L3, treeE L2 es, rfl, rfl, rfl, hat.below hb, by omega, hla.treeIn, hst.ref hm, ?_, ?_, ?_, ?_⟩⟩
      · rintro x rfl
        exact (World.ownsRow.lt hst.own.1 x.block rfl).1
      · exact refIs_laid hla hlen (by rw [hst.len, hl]) (tr hst.alike)
      · intro i hi
        have h2 : i < L2.length := by rw [hl, ← hst.len]; exact hi
        obtain ⟨es', hm', -, -, hc⟩ := hla.before i (by omega)
        have := ndIn_of (check_zero hc).2.1
        have al := tr hst.alike i hi h2
        exact ⟨by rw [al.path]; exact this.lo, by rw [al.path]; exact this.hi, by rw [al.path]; exact this.first⟩
      · intro ss hks p
        have := names_perm hla hlen hks p
        rw [lasts_paths, ← lasts_alike (by rw [hst.len, hl]) (tr hst.alike), ← lasts_paths] at this
        exact this
    · exfalso
      have := (agree hla (tr hst.alike) (lay hst.laid) hst.hard (by omega) (fun h => by omega) (fun h => by rw [layR_alike (hA _ h hk3)]; exact hne3)).1
      omega
    · omega
  · rcases hr with ⟨rb, ad, c, L3, rfl, hst⟩ | ⟨rb, ad, c, L3, wx, hk3, rfl, hst, hne3⟩ | ⟨hk3, rfl⟩
    · exfalso
      have := (agree hla (tr hst.alike) (lay hst.laid) hst.hard (by have := hst.len; omega) (fun h => hne) (fun h => by have := hst.len; omega)).1
      have := hst.len
      omega
    · obtain ⟨h1, h2⟩ := agree hla (tr hst.alike) (lay hst.laid) hst.hard (by omega) (fun h => hne) (fun h => by rw [layR_alike (hA _ h hk3)]; exact hne3)
      have h3 := h2 hk
      have h4 : layR L3 (L[L3.length]'hk3) = layR L3 (L2[es.length]'hk) := by
        simp only [← h1]
        exact (layR_alike (hA _ hk (by omega))).symm
      rw [errV_yes hne] at hsp
      refine ⟨_, _, _, _, _, rfl, rfl, .inr (.inl ⟨sp, checkF (treeE L2 es) L2[es.length], es.length, rfl, rfl, rfl, by rw [h4, h3], by rw [h1], by omega, hne, ?_⟩)⟩
      exact (hb.block _ (lt_of_block hsp)).trans hsp
    · omega
  · omega
set_option maxRecDepth 100000 in
set_option maxHeartbeats 4000000 in
theorem vnew_big (a : Option Addr) (n cap : Nat) (w : World) (hnl : n ≤ 140737488351232) (hbig : 1024 < n) :
    Calls Tryz.prog 9 #[.slice a n cap] w fun e w' => e = .returned (.tuple #[.pointer none, .iface 33 (.int .i64 2)]) ∧ Below w.heap.size w w' := by
  have t1 : decide ((1024 : Int) < (n : Int)) = true := decide_eq_true (by omega)
  clear hbig hnl
  go_enter Tryz.func9, Tryz.ntmps9
  go_wp2_with fail
  go_ret2
  exact ⟨rfl, Below.refl _ _⟩
set_option maxRecDepth 100000 in
set_option maxHeartbeats 4000000 in
theorem vrnew_big (a : Option Addr) (n cap : Nat) (w : World) (hnl : n ≤ 140737488351232) (hbig : 1024 < n) :
    Calls Tryz.prog 14 #[.slice a n cap] w fun e w' => e = .returned (.tuple #[.pointer none, .int .i64 2, .int .i64 (-1)]) ∧ Below w.heap.size w w' := by
  have t1 : decide ((1024 : Int) < (n : Int)) = true := decide_eq_true (by omega)
  clear hbig hnl
  go_enter Tryz.func14, Tryz.ntmps14
  go_wp2_with fail
  go_ret3
  exact ⟨rfl, Below.refl _ _⟩
/-- the two calls, one behind the other -/
theorem two_calls (a : Option Addr) (n cap : Nat) (L : List Nd) (D : Nat → List Nat) (w : World) (hr : NdRow w a L) (hn : L.length = n) (hnl : n ≤ 140737488351232) (hD : ∀ i, (hi : i < L.length) → NdOk w L[i] (D i)) {L2 : List Nd} {ad : Option Addr} {c : Nat} {w1 : World} (h : CSt w L D n L2 ad c w1) :
    Calls Tryz.prog 9 #[.slice ad n c] w1 fun e w2 => (∃ tp ev, e = .returned (.tuple #[tp, ev]) ∧ Calls Tryz.prog 14 #[.slice a n cap] w2 fun e' w3 => (∃ rp C K, e' = .returned (.tuple #[.pointer rp, .int .i64 C, .int .i64 K]) ∧ OutP tp ev (.pointer rp) C K w2 w3) ∧ Below w2.heap.size w2 w3) ∧ Below w1.heap.size w1 w2 := by
  by_cases hbig : 1024 < n
  · refine (vnew_big ad n c w1 hnl hbig).mono ?_
    rintro e w2 ⟨rfl, hb2⟩
    refine ⟨⟨_, _, rfl, ?_⟩, hb2⟩
    refine (vrnew_big a n cap w2 hnl hbig).mono ?_
    rintro e w3 ⟨rfl, hb3⟩
    exact ⟨⟨_, _, _, rfl, .inr (.inr ⟨rfl, rfl, rfl, rfl, rfl⟩)⟩, hb3⟩
  · refine (new_any ad n c L2 D w1 h.row h.len hnl (h.ok hn hD)).mono ?_
    rintro e w2 ⟨hp, hb2⟩
    have he : ∃ tp ev, e = .returned (.tuple #[tp, ev]) := by
      rcases hp with ⟨_, _, _, rfl, -⟩ | ⟨_, _, _, rfl, -⟩ | ⟨-, rfl⟩
      · exact ⟨_, _, rfl⟩
      · exact ⟨_, _, rfl⟩
      · exact ⟨_, _, rfl⟩
    obtain ⟨tp, ev, rfl⟩ := he
    refine ⟨⟨tp, ev, rfl, ?_⟩, hb2⟩
    have hbw : Below w.heap.size w w2 := bstep h.blw hb2
    refine (rnew_any a n cap L D w2 (hr.below hbw) hn hnl (fun i hi => (hD i hi).below hbw)).mono ?_
    rintro e w3 ⟨hp3, hb3⟩
    obtain ⟨tp', ev', rp, C, K, e1, e2, ho⟩ := outs hp hp3 hb3 (by rw [h.len, hn]) (by omega) h.alike
    have e3 : tp = tp' ∧ ev = ev' := by
      simp only [Ending.returned.injEq, Value.tuple.injEq] at e1
      have := congrArg Array.toList e1
      simpa using this
    obtain ⟨rfl, rfl⟩ := e3
    exact ⟨⟨rp, C, K, e2, ho⟩, hb3⟩

/-- what both answers -/
def BothPost (e : Ending) (w' : World) : Prop :=
  e = .returned (.tuple #[.pointer none, .pointer none, .bool true]) ∨
  ∃ tb gm c rb a rc L3 F, e = .returned (.tuple #[.pointer (some ⟨tb, 0, none⟩), .pointer (some ⟨rb, 0, none⟩), .bool true]) ∧ TreeAt w' tb gm c F ∧ c ≤ 1025 ∧ TreeIn F ∧ RefAt w' rb a rc L3 ∧ RefIs L3 F ∧ (∀ i, (h : i < L3.length) → NdIn L3[i]) ∧ ∀ ss, KeysOf F ss → ∀ p, (namesIn p ss).Perm (lastsF p L3)
end Go.Proofs.YtcabpidbdnlomaaGreatDoor
/- Layer 3: both trees of whatever nodes: the walk. -/
namespace Go.Proofs.YtcabpidbdnlomaaGreatDoor
open Go.RowKit
set_option linter.unusedVariables false
set_option linter.unusedSimpArgs false

theorem Scr.drew {w3 : World} {L' : List Nd} {ad : Option Addr} {wr : World} (h : Scr w3 L' ad wr) : Scr w3 L' ad wr.drew := h.drewN 1

set_option maxRecDepth 100000 in
set_option maxHeartbeats 16000000 in
theorem both_any (a : Option Addr) (n cap : Nat) (L : List Nd) (D : Nat → List Nat) (w : World) (hr : NdRow w a L) (hn : L.length = n) (hnl : n * 72 ≤ 140737488351232) (hD : ∀ i, (hi : i < L.length) → NdOk w L[i] (D i)) (hg : ErrType w) :
    Calls Tryz.prog 5 #[.slice a n cap] w fun e w' => BothPost e w' ∧ Below w.heap.size w w' := by
  have HTWO : Hid (∀ L2 ad c w1, CSt w L D n L2 ad c w1 → Calls Tryz.prog 9 #[.slice ad n c] w1 fun e w2 => (∃ tp ev, e = .returned (.tuple #[tp, ev]) ∧ Calls Tryz.prog 14 #[.slice a n cap] w2 fun e' w3 => (∃ rp C K, e' = .returned (.tuple #[.pointer rp, .int .i64 C, .int .i64 K]) ∧ OutP tp ev (.pointer rp) C K w2 w3) ∧ Below w2.heap.size w2 w3) ∧ Below w1.heap.size w1 w2) := Lib.hid (fun L2 ad c w1 h => two_calls a n cap L D w hr hn (by omega) hD h)
  have HNL := Lib.hid hnl
  have HLN := Lib.hid hn
  have HR := Lib.hid hr
  have HDD := Lib.hid hD
  have HGT := Lib.hid hg
  have heq := run_eql_code
  have C0 : Hid (CSt w L D 0 [] none 0 w) := Lib.hid ⟨OwnS.nil _ _ _ _, rfl, (fun i h => by cases h), (fun i h => by cases h), Below.refl _ _⟩
  obtain ⟨i8, hi8, hz0, hz1, hz2⟩ := info_parts (show (Tryz.prog.info? 5).map (fun i => (i.zero, i.size, i.bytes)) = some (some (.int .u8 0), 1, 1) by kernel_rfl)
  have HI8 := Lib.hid (And.intro hi8 (And.intro hz0 (And.intro hz1 hz2)))
  clear hr hn hnl hD hg hi8 hz0 hz1 hz2
  go_enter Tryz.func5, Tryz.ntmps5
  go_wp2_with fail
  go_loopg [5, 6] n (fun g1 ov iv wr => ∃ (k : Nat) (L' : List Nd) (ad : Option Addr) (c : Nat), k + g1 = n ∧ iv = .int .i64 (k : Int) ∧ ov = .slice ad k c ∧ Hid (CSt w L D k L' ad c wr))
  case atStart => exact ⟨0, [], none, 0, by omega, rfl, rfl, C0⟩
  case round =>
    obtain ⟨k, L', ad, c, hk, rfl, rfl, HS⟩ := hrel
    clear C0
    cases gk with
    | zero =>
      have hk' : k = n := by omega
      clear hk
      subst hk'
      have HNW := Lib.hid (HTWO.out L' ad c wr HS.out)
      go_wp2_with fail
      refine HNW.out.mono ?_
      rintro e w2 ⟨⟨tp, ev, rfl, hcall⟩, hb2⟩
      have HCALL := Lib.hid hcall
      have B2 := Lib.hid hb2
      clear hcall hb2 HNW HTWO
      go_wp2_with fail
      refine HCALL.out.mono ?_
      rintro e w3 ⟨⟨rp, C, K, rfl, hout⟩, hb3⟩
      have HOUT := Lib.hid hout
      have B3 := Lib.hid (bstep B2.out hb3)
      have SC0 : Hid (Scr w3 L' ad w3) := Lib.hid (Scr.init HS.out B3.out)
      have BW3 : Hid (Below w.heap.size w w3) := Lib.hid (bstep HS.out.blw B3.out)
      have HMA : Hid (∀ q, Mine L' ad q → w.heap.size ≤ q ∧ q < w2.heap.size ∧ ∃ cur T, w3.heap[q]? = some (.cells cur T) ∧ (T = 49 ∨ T = 5)) := Lib.hid (fun q hq => by
        obtain ⟨h1, h2, cur, T, h3, h4⟩ := mine_at HS.out q hq
        exact ⟨h1, Nat.lt_of_lt_of_le h2 B2.out.size, cur, T, (B3.out.block _ h2).trans h3, h4⟩)
      have HLEN : Hid (L'.length = k) := Lib.hid HS.out.len
      clear hout hb3 HCALL
      generalize wr = wz at *
      go_wp2_with fail
      go_loopg [14] k (fun g iv wr => ∃ i : Nat, i + g = k ∧ iv = .int .i64 (i : Int) ∧ Hid (Scr w3 L' ad wr))
      case atStart => exact ⟨0, by omega, rfl, SC0⟩
      case round =>
        obtain ⟨i, hi, rfl, HSC⟩ := hrel
        clear SC0
        cases gk with
        | zero =>
          have hik : i = k := by omega
          subst hik
          clear hi
          have BWR : Hid (Below w.heap.size w wr) := Lib.hid (BW3.out.trans (HSC.out.blw _ (fun q hq => (HMA.out q hq).1)))
          rcases HOUT.out with ⟨tb, gm, c', rb, ar, rc, L3, F, rfl, rfl, hrp, hat, hc, hti, href, har, his, hin, hnm⟩ | ⟨sp, n', k', rfl, rfl, hrp, rfl, rfl, hk4, hn0, hsp⟩ | ⟨rfl, rfl, hrp, rfl, rfl⟩
          · simp only [Value.pointer.injEq] at hrp
            subst hrp
            have HFIN : Hid (∀ nq, BothPost (.returned (.tuple #[.pointer (some ⟨tb, 0, none⟩), .pointer (some ⟨rb, 0, none⟩), .bool true])) (wr.drewN nq) ∧ Below w.heap.size w (wr.drewN nq)) := Lib.hid (fun nq => ⟨.inr ⟨tb, gm, c', rb, ar, rc, L3, F, rfl, (HSC.out.drewN nq).tree (fun q hq => (HMA.out q hq).2.2) hat, hc, hti, (HSC.out.drewN nq).ref (fun q hq => (HMA.out q hq).2.1) (fun q hq => (HMA.out q hq).2.2) href har, his, hin, hnm⟩, below_drewN BWR.out _⟩)
            clear hat hc hti href har his hin hnm HSC HOUT HMA
            go_wp2_with fail
            go_quiet (fail)
            go_wp2_with fail
            go_ret3
            exact HFIN.out _
          · simp only [Value.pointer.injEq] at hrp
            subst hrp
            have hwr : wr.heap[sp]? = some (.cells #[.int .u64 (k' : Int), .iface 33 (.int .i64 (n' : Int))] 73) := by
              rw [HSC.out.same sp (fun hq => by
                obtain ⟨-, -, cur, T, e, hT⟩ := HMA.out _ hq
                rw [hsp] at e
                simp only [Option.some.injEq, Obj.cells.injEq] at e
                rcases hT with rfl | rfl
                · exact absurd e.2.1 (by decide)
                · exact absurd e.2.1 (by decide))]
              exact hsp
            have HIS := Lib.hid (is_spot sp (k' : Int) (n' : Int) wr (HGT.out.below BWR.out) (by rw [cell_of_row _ _ 0 _ _ _ hwr]; rfl) (by rw [cell_of_row _ _ 1 _ _ _ hwr]; rfl))
            have t3 : decide ((k' : Int) < 0) = false := decide_eq_false (by omega)
            have hu : IntKind.u64.wrap (k' : Int) = (k' : Int) := by simp [IntKind.wrap, IntKind.signed, IntKind.bits]; omega
            clear hwr hsp hn0 hk4 HSC HOUT HMA
            go_wp2_with fail
            refine HIS.out.mono ?_
            rintro e w9 ⟨rfl, hb9⟩
            have B9 := Lib.hid (bstep BWR.out hb9)
            clear hb9
            go_wp2_with fail
            go_ret3
            exact ⟨.inl rfl, B9.out⟩
          · simp only [Value.pointer.injEq] at hrp
            subst hrp
            have HFIN : Hid (∀ nq, Below w.heap.size w (wr.drewN nq)) := Lib.hid (fun nq => below_drewN BWR.out _)
            clear HSC HOUT HMA
            go_wp2_with fail
            go_quiet (fail)
            go_wp2_with fail
            go_ret3
            exact ⟨.inl rfl, HFIN.out _⟩
        | succ g2 =>
          have hil : i < L'.length := by rw [HLEN.out]; omega
          obtain ⟨b, o, hbo, -⟩ := HSC.out.node i hil
          subst hbo
          obtain ⟨da, hda⟩ : ∃ da, L'[i].da = da := ⟨_, rfl⟩
          obtain ⟨dn, hdn⟩ : ∃ dn, L'[i].dn = dn := ⟨_, rfl⟩
          obtain ⟨dc, hdc⟩ : ∃ dc, L'[i].dc = dc := ⟨_, rfl⟩
          have HNODE : Hid (∀ wx, Scr w3 L' (some ⟨b, o, none⟩) wx → wx.cell? ⟨b, o + i * 5 + 2, none⟩ = some (.slice da dn dc) ∧ (∃ t, wx.cell? ⟨b, o + i * 5, none⟩ = some (.string t)) ∧ wx.frozen? ⟨b, o + i * 5, none⟩ = false) := Lib.hid (fun wx h => by
            obtain ⟨b1, o1, e, -, c2, c0, f0⟩ := h.node i hil
            simp only [Option.some.injEq, Addr.mk.injEq, and_true] at e
            obtain ⟨rfl, rfl⟩ := e
            rw [hda, hdn, hdc] at c2
            exact ⟨c2, c0, f0⟩)
          have HBYTE : Hid (∀ wx, Scr w3 L' (some ⟨b, o, none⟩) wx → ∀ j, j < dn → ∃ b1 o1 v, da = some ⟨b1, o1, none⟩ ∧ wx.cell? ⟨b1, o1 + j, none⟩ = some (.int .u8 v) ∧ wx.frozen? ⟨b1, o1 + j, none⟩ = false ∧ Hid (∀ v', Scr w3 L' (some ⟨b, o, none⟩) (wx.setCell ⟨b1, o1 + j, none⟩ (.int .u8 v')))) := Lib.hid (fun wx h j hj => by
            obtain ⟨b1, o1, v, e, -, hn1, c1, f1⟩ := h.byte i hil j (by rw [hdn]; exact hj)
            exact ⟨b1, o1, v, hda.symm.trans e, c1, f1, Lib.hid (fun v' => h.setByte hil e hn1 c1 v')⟩)
          have HDN : Hid (dn ≤ 140737488355328) := Lib.hid (by
            have h2 : i < L.length := by rw [HLN.out]; omega
            rw [← hdn, (HS.out.alike i hil h2).dn]
            exact (HDD.out i h2).most)
          have HII := Lib.hid hi
          have i0 : (0 : Int) ≤ (i : Int) := by omega
          have i1 : (i : Int) < (k : Int) := by omega
          clear hil hda hdn hdc hi
          go_wp2_with fail
          go_loopg [15] dn (fun g jv wr => ∃ j : Nat, j + g = dn ∧ jv = .int .i64 (j : Int) ∧ Hid (Scr w3 L' (some ⟨b, o, none⟩) wr))
          case atStart => exact ⟨0, by omega, rfl, HSC⟩
          case round =>
            clear HSC
            obtain ⟨j, hj, rfl, HSJ⟩ := hrel
            obtain ⟨c2, ⟨t, c0⟩, f0⟩ := HNODE.out wr HSJ.out
            cases gk with
            | zero =>
              obtain rfl : j = dn := by omega
              clear hj
              have HP := Lib.hid (HSJ.out.setPath rfl c0 ⟨#[47, 122]⟩)
              go_wp2_with fail
              go_roundg g2
              case measure => have := HII.out; omega
              case rel => exact ⟨i + 1, by have := HII.out; omega, (by have := HII.out; have := HNL.out; rw [IntWalk.wrap64_in _ ⟨by omega, by omega⟩]; rfl), HP⟩
            | succ g3 =>
              obtain ⟨b1, o1, v, rfl, cv, fv, HSET⟩ := HBYTE.out wr HSJ.out j (by omega)
              have i2 : (0 : Int) ≤ (j : Int) := by omega
              have i3 : (j : Int) < (dn : Int) := by omega
              have HJJ := Lib.hid hj
              clear hj c0 f0
              go_wp2_with fail
              go_region_law (fail)
              all_goals
                go_wp2_with fail
                go_roundg g3
                case measure => have := HJJ.out; omega
                case rel => exact ⟨j + 1, by have := HJJ.out; omega, (by have := HJJ.out; have := HDN.out; rw [IntWalk.wrap64_in _ ⟨by omega, by omega⟩]; rfl), Lib.hid (HSET.out _).drew⟩
    | succ g2 =>
      have hlt : k < n := by omega
      have hkL : k < L.length := by rw [HLN.out]; exact hlt
      obtain ⟨b', o', rfl, hblt, hcs'⟩ := (HR.out.below HS.out.blw) k hkL
      obtain ⟨nd, hnd⟩ : ∃ nd, (L[k]'hkL) = nd := ⟨_, rfl⟩
      rw [hnd] at hcs'
      have HNK : Hid (NdOk wr nd (D k)) := Lib.hid (hnd ▸ (HDD.out k hkL).below HS.out.blw)
      obtain ⟨path, kind, da, dn, dc, tgt, su⟩ := nd
      have c0 : wr.cell? ⟨b', o' + k * 5, none⟩ = some (.string path) := hcs' 0 (by omega)
      have c1 : wr.cell? ⟨b', o' + k * 5 + 1, none⟩ = some (.int .i64 kind) := hcs' 1 (by omega)
      have c2 : wr.cell? ⟨b', o' + k * 5 + 2, none⟩ = some (.slice da dn dc) := hcs' 2 (by omega)
      have c3 : wr.cell? ⟨b', o' + k * 5 + 3, none⟩ = some (.string tgt) := hcs' 3 (by omega)
      have c4 : wr.cell? ⟨b', o' + k * 5 + 4, none⟩ = some (.bool su) := hcs' 4 (by omega)
      have HKK := Lib.hid (And.intro hk hkL)
      have HND := Lib.hid hnd
      clear hcs' hk hnd
      obtain ⟨xb, hxb⟩ : ∃ xb, wr.heap.size = xb := ⟨_, rfl⟩
      obtain ⟨w5, hw5⟩ : ∃ w5, wr.alloc (.cells #[.string path, .int .i64 kind, .slice da dn dc, .string tgt, .bool su] 49) = w5 := ⟨_, rfl⟩
      have HW5 := Lib.hid hw5
      have X5 : Hid (w5.heap[xb]? = some (.cells #[.string path, .int .i64 kind, .slice da dn dc, .string tgt, .bool su] 49)) := Lib.hid (by rw [← hw5, ← hxb]; exact heap_alloc_new _ _)
      have B5 : Hid (Below wr.heap.size wr w5 ∧ wr.heap.size ≤ xb) := Lib.hid ⟨by rw [← hw5]; exact (Below.refl _ _).alloc (Nat.le_refl _) _, by rw [← hxb]; exact Nat.le_refl _⟩
      clear hw5
      go_upto_region 7 with fail
      rw [HW5.out]
      try rw [hxb]
      clear c0 c1 c2 c3 c4 hxb
      have d2 : w5.cell? ⟨xb, 2, none⟩ = some (.slice da dn dc) := by rw [cell_of_row _ _ 2 _ _ _ X5.out]; rfl
      have HNR : Hid (Row .u8 w5 da (toI (D k)) ∧ dn = (toI (D k)).length ∧ (toI (D k)).length ≤ 140737488355328 ∧ (da = none → (toI (D k)).length = 0 ∧ dc = 0)) := Lib.hid ⟨HNK.out.row.below B5.out.1, by rw [toI_length]; exact HNK.out.len.symm, by rw [toI_length, HNK.out.len]; exact HNK.out.most, fun h => by rw [toI_length, HNK.out.len]; exact HNK.out.none h⟩
      go_upto_region 9 with (at_builtin; refine wpList_copy_none rfl (.tmp 27) (.tmp 29) 41 rfl 5 i8 (.int .u8 0) 1 Tryz.underlying41 HI8.out.1 HI8.out.2.1 HI8.out.2.2.1 HI8.out.2.2.2 rfl .u8 da dn dc (toI (D k)) rfl rfl HNR.out.2.1 HNR.out.1 HNR.out.2.2.2 (by have := HNR.out.2.2.1; unfold maxLen; omega) (by have := HNR.out.2.2.1; omega) ?_; intro ad6 c6 w6 ho6 hb6; have X6 := (hb6.block _ (lt_of_block X5.out)).trans X5.out; have f6 : w6.frozen? ⟨xb, 2, none⟩ = false := frozen_of_row _ _ _ _ _ X6; have d6 : w6.cell? ⟨xb, 2, none⟩ = some (.slice da dn dc) := (by rw [cell_of_row _ _ 2 _ _ _ X6]; rfl); have HX6 := Lib.hid X6; have O6 := Lib.hid ho6; have B6 := Lib.hid hb6; clear X6 ho6 hb6)
      clear f6 d6 d2
      obtain ⟨w7, hw7⟩ : ∃ w7, w6.setCell ⟨xb, 2, none⟩ (.slice ad6 dn c6) = w7 := ⟨_, rfl⟩
      have hset : w7 = w6.setRow xb #[.string path, .int .i64 kind, .slice ad6 dn c6, .string tgt, .bool su] := by
        rw [← hw7, setCell_eq_setRow _ _ _ _ _ _ _ HX6.out]
        rfl
      rw [hw7]
      have X7 : Hid (w7.heap[xb]? = some (.cells #[.string path, .int .i64 kind, .slice ad6 dn c6, .string tgt, .bool su] 49)) := Lib.hid (by rw [hset]; exact setRow_heap _ _ _ _ _ _ HX6.out)
      have B7 : Hid (Below wr.heap.size wr w7) := Lib.hid (by
        rw [hset]
        exact below_setRowV (bstep B5.out.1 B6.out) B5.out.2)
      have O7 : Hid (OwnI w7 w.heap.size 5 .u8 (.slice ad6 dn c6) (toI (D k))) := Lib.hid (by
        rw [← hw7]
        exact (OwnI.setO O6.out (a := ⟨xb, 2, none⟩) (fun e => by
          have h1 := (World.ownsRow.lt O6.out xb e).1
          have h2 := lt_of_block X5.out
          omega) _).mono (Nat.le_trans HS.out.blw.size B5.out.1.size))
      clear hw7 hset
      have x0 : w7.cell? ⟨xb, 0, none⟩ = some (.string path) := by rw [cell_of_row _ _ 0 _ _ _ X7.out]; rfl
      have x1 : w7.cell? ⟨xb, 1, none⟩ = some (.int .i64 kind) := by rw [cell_of_row _ _ 1 _ _ _ X7.out]; rfl
      have x2 : w7.cell? ⟨xb, 2, none⟩ = some (.slice ad6 dn c6) := by rw [cell_of_row _ _ 2 _ _ _ X7.out]; rfl
      have x3 : w7.cell? ⟨xb, 3, none⟩ = some (.string tgt) := by rw [cell_of_row _ _ 3 _ _ _ X7.out]; rfl
      have x4 : w7.cell? ⟨xb, 4, none⟩ = some (.bool su) := by rw [cell_of_row _ _ 4 _ _ _ X7.out]; rfl
      have HLEN : Hid ((L'.map fun n => n.cells.toList).length = k) := Lib.hid (by rw [List.length_map]; exact HS.out.len)
      have HKM : Hid (k + 1 ≤ maxLen ∧ (k + 1) * 72 ≤ 140737488355328) := Lib.hid (by have := HNL.out; unfold maxLen; omega)
      have HOW := Lib.hid (HS.out.own.below B7.out)
      have HSZ : Hid (w.heap.size ≤ w7.heap.size) := Lib.hid (Nat.le_trans HS.out.blw.size B7.out.size)
      go_wp2_with (at_builtin; go_loud (refine wpList_grow_row rfl (.tmp 33) (.tmp 35) nodeRow rfl w.heap.size (.slice ad k c) (L'.map fun n => n.cells.toList) k [.string path, .int .i64 kind, .slice ad6 dn c6, .string tgt, .bool su] rfl rfl HLEN.out rfl (by intro u hu; simp only [List.mem_cons, List.not_mem_nil, or_false] at hu; rcases hu with rfl | rfl | rfl | rfl | rfl <;> rfl) HOW.out HKM.out.1 HKM.out.2 HSZ.out ?_); intro ad8 c8 w8 ho8 hg8; have HO8 := Lib.hid ho8; have HG8 := Lib.hid hg8; clear ho8 hg8)
      have HX := Lib.hid (CSt.step HS.out HKK.out.2 HND.out B7.out O7.out HO8.out HG8.out)
      go_roundg g2
      case measure => have := HKK.out; omega
      case rel => exact ⟨k + 1, _, ad8, c8, by have := HKK.out; omega, (by have := HKK.out; have := HNL.out; rw [IntWalk.wrap64_in _ ⟨by omega, by omega⟩]; rfl), rfl, HX⟩
end Go.Proofs.YtcabpidbdnlomaaGreatDoor
