/- Layer 8: the statement that no index is told twice, behind its head. -/
import Derived.Test.YtldjjolpjekpbaaVersMath
namespace Go.Proofs.Ytldjjolpjekpbaa
open Go.RowKit Go.Maps
set_option linter.unusedVariables false
set_option linter.unusedSimpArgs false

/-- what an answer of Read is, in memory, once it lies in a variable -/
structure VIn (X : VersD) (u : Nat) (oa : Option Addr) (oc : Nat) (da : Option Addr) (dc : Nat) (na : Option Addr) (nc : Nat) (drows nrows : List (List Value)) (B : Nat) (w : World) : Prop where
  box : w.heap[u]? = some (.cells #[.bool X.has, .slice oa X.of.length oc, .slice da X.defs.length dc, .slice na X.needs.length nc] 35)
  of : OwnI w B 3 .i64 (.slice oa X.of.length oc) (toI X.of)
  ds : OwnS w B 42 4 (.slice da X.defs.length dc) drows
  dr : DefRows w B X.defs drows
  ns : OwnS w B 45 2 (.slice na X.needs.length nc) nrows
  nr : NeedRows w B X.needs nrows
section
variable {X : VersD} {u : Nat} {oa : Option Addr} {oc : Nat} {da : Option Addr} {dc : Nat} {na : Option Addr} {nc : Nat} {drows nrows : List (List Value)} {B : Nat} {w w' : World}
theorem VIn.below (h : VIn X u oa oc da dc na nc drows nrows B w) (hb : Below w.heap.size w w') : VIn X u oa oc da dc na nc drows nrows B w' :=
  ⟨(hb.block _ (lt_of_block h.box)).trans h.box, h.of.below hb, h.ds.below hb, h.dr.imp (fun v q ho => ho.below hb), h.ns.below hb, h.nr.imp (fun v q ho => ho.below hb)⟩
theorem VIn.c0 (h : VIn X u oa oc da dc na nc drows nrows B w) : w.cell? ⟨u, 0, none⟩ = some (.bool X.has) := by rw [cell_of_row _ _ _ _ _ _ h.box]; rfl
theorem VIn.c1 (h : VIn X u oa oc da dc na nc drows nrows B w) : w.cell? ⟨u, 1, none⟩ = some (.slice oa X.of.length oc) := by rw [cell_of_row _ _ _ _ _ _ h.box]; rfl
theorem VIn.c2 (h : VIn X u oa oc da dc na nc drows nrows B w) : w.cell? ⟨u, 2, none⟩ = some (.slice da X.defs.length dc) := by rw [cell_of_row _ _ _ _ _ _ h.box]; rfl
theorem VIn.c3 (h : VIn X u oa oc da dc na nc drows nrows B w) : w.cell? ⟨u, 3, none⟩ = some (.slice na X.needs.length nc) := by rw [cell_of_row _ _ _ _ _ _ h.box]; rfl
/-- a definition's index -/
theorem VIn.defAt (h : VIn X u oa oc da dc na nc drows nrows B w) {i : Nat} (hi : i < X.defs.length) : ∃ b o, da = some ⟨b, o, none⟩ ∧ w.cell? ⟨b, o + i * 4, none⟩ = some (.int .i64 ((X.defs[i].idx : Nat) : Int)) := by
  have hl := h.dr.len
  have h2 := h.ds
  obtain ⟨e, hrow, -, -⟩ := (show OwnS w B 42 4 (.slice da X.defs.length dc) drows from h2).at
  obtain ⟨b, o, ea, hlt, hc⟩ := hrow i (by omega)
  have hr := h.dr.at i hi (by omega)
  obtain ⟨pa, pc, eq, -⟩ := hr
  refine ⟨b, o, ea, ?_⟩
  have := hc 0 (by omega)
  rw [eq] at this
  simpa using this
theorem VIn.needAt (h : VIn X u oa oc da dc na nc drows nrows B w) {i : Nat} (hi : i < X.needs.length) : ∃ b o aa ac, na = some ⟨b, o, none⟩ ∧ w.cell? ⟨b, o + i * 2 + 1, none⟩ = some (.slice aa X.needs[i].aux.length ac) ∧ OwnS w B 47 3 (.slice aa X.needs[i].aux.length ac) (auxRows X.needs[i].aux) := by
  have hl := h.nr.len
  obtain ⟨e, hrow, -, -⟩ := h.ns.at
  obtain ⟨b, o, ea, hlt, hc⟩ := hrow i (by omega)
  obtain ⟨aa, ac, eq, hown⟩ := h.nr.at i hi (by omega)
  refine ⟨b, o, aa, ac, ea, ?_, hown⟩
  have := hc 1 (by omega)
  rw [eq] at this
  simpa using this
theorem auxAt {l : List AuxD} {aa : Option Addr} {ac : Nat} (h : OwnS w B 47 3 (.slice aa l.length ac) (auxRows l)) {k : Nat} (hk : k < l.length) : ∃ b o, aa = some ⟨b, o, none⟩ ∧ w.cell? ⟨b, o + k * 3, none⟩ = some (.int .i64 ((l[k].idx : Nat) : Int)) := by
  obtain ⟨e, hrow, -, -⟩ := h.at
  obtain ⟨b, o, ea, hlt, hc⟩ := hrow k (by rw [auxRows_length]; exact hk)
  refine ⟨b, o, ea, ?_⟩
  have := hc 0 (by omega)
  simpa [auxRows, auxCells] using this
end
theorem auxIdx_take (l : List NeedD) (i : Nat) (hi : i < l.length) : auxIdx (l.take (i + 1)) = auxIdx (l.take i) ++ l[i].aux.map AuxD.idx := by
  rw [List.take_succ_eq_append_getElem hi, auxIdx_snoc]
theorem auxIdx_le (l : List NeedD) (i : Nat) : (auxIdx (l.take i)).length ≤ (auxIdx l).length := by
  have : auxIdx l = auxIdx (l.take i) ++ auxIdx (l.drop i) := by
    conv => lhs; rw [← List.take_append_drop i l]
    unfold auxIdx
    rw [List.map_append, List.flatten_append]
  rw [this, List.length_append]
  omega
end Go.Proofs.Ytldjjolpjekpbaa
