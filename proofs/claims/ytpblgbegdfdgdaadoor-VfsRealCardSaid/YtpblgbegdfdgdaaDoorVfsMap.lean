/- A map of texts to entries (a pointer, a number, a text), in memory: what is read, stored. Nothing of the program is named. -/
import Derived.Test.YtpblgbegdfdgdaaDoorPMap
import Derived.Maps.StringElems
namespace Go.Proofs.YtpblgbegdfdgdaaDoor
open Go.RowKit
open Go.Maps (Keyed)
open Go.WideMaps
set_option linter.unusedVariables false
set_option linter.unusedSimpArgs false

/-- what stands at a path: the block of what is shared, the kind, where a link leads to -/
structure Ent where
  sh : Option Nat
  kind : Int
  to : ByteArray
def Ent.zero : Ent := ⟨none, 0, ⟨#[]⟩⟩
def Ent.v (e : Ent) : Value := .agg #[ptrV e.sh, .int .i64 e.kind, .string e.to]
def entD (e : Ent) : DataW Unit := .agg [ptrD e.sh, .lit (.int .i64 e.kind), .lit (.string e.to.data.toList)]
def rd3 : List Value → Option (DataW Unit × List MemPlace)
  | [.pointer none, .int .i64 k, .string s] => some (.agg [ptrD none, .lit (.int .i64 k), .lit (.string s.data.toList)], [])
  | [.pointer (some ⟨b, 0, none⟩), .int .i64 k, .string s] => some (.agg [ptrD (some b), .lit (.int .i64 k), .lit (.string s.data.toList)], [])
  | _ => none
/-- how an entry reads -/
def entRd : Value → Option (DataW Unit × List MemPlace)
  | .agg cs => rd3 cs.toList
  | _ => none
theorem entRd_v (e : Ent) : entRd e.v = some (entD e, []) := by
  obtain ⟨sh, k, s⟩ := e
  cases sh <;> rfl
theorem entD_inj {a b : Ent} (h : entD a = entD b) : a = b := by
  obtain ⟨s1, k1, t1⟩ := a
  obtain ⟨s2, k2, t2⟩ := b
  unfold entD at h
  simp only [DataW.agg.injEq, List.cons.injEq, DataW.lit.injEq, Lit.int.injEq, Lit.string.injEq, true_and, and_true] at h
  obtain ⟨h1, h2, h3⟩ := h
  have e1 := ptrD_inj h1
  have e3 : t1 = t2 := ByteArray.ext (Array.ext' h3)
  subst e1 h2 e3
  rfl
theorem rd3_inv {l : List Value} {y : DataW Unit × List MemPlace} (h : rd3 l = some y) : ∃ e : Ent, l = [ptrV e.sh, .int .i64 e.kind, .string e.to] ∧ y = (entD e, []) := by
  unfold rd3 at h
  split at h
  · cases h; exact ⟨⟨none, _, _⟩, rfl, rfl⟩
  · cases h; exact ⟨⟨some _, _, _⟩, rfl, rfl⟩
  · cases h
theorem entRd_inv {v : Value} {y : DataW Unit × List MemPlace} (h : entRd v = some y) : ∃ e : Ent, v = e.v ∧ y = (entD e, []) := by
  unfold entRd at h
  split at h
  · rename_i cs
    obtain ⟨e, he, hy⟩ := rd3_inv h
    exact ⟨e, by unfold Ent.v; rw [Value.agg.injEq]; exact Array.ext' he, hy⟩
  · cases h
def sk (k : ByteArray) : Lit := .string k.data.toList
theorem sk_inj {k k' : ByteArray} (h : sk k = sk k') : k = k' := by
  unfold sk at h
  simp only [Lit.string.injEq] at h
  exact ByteArray.ext (Array.ext' h)
/-- a map with one text's entry changed -/
noncomputable def updE (F : ByteArray → Option Ent) (k : ByteArray) (e : Ent) : ByteArray → Option Ent := fun j => open Classical in if j = k then some e else F j
theorem updE_same (F : ByteArray → Option Ent) (k : ByteArray) (e : Ent) : updE F k e k = some e := if_pos rfl
theorem updE_other {F : ByteArray → Option Ent} {k j : ByteArray} {e : Ent} (h : ¬ j = k) : updE F k e j = F j := if_neg h
/-- block g is a map of at most c texts to entries: F -/
def SM (w : World) (P : Program) (K : TypeId) (g : Nat) (F : ByteArray → Option Ent) (c : Nat) : Prop :=
  ∃ D : DataW Unit, w.ownsMap P K entRd g c D ∧ ∀ k : ByteArray, k.size ≤ maxLen → D.atKey (sk k) (entD Ent.zero) = entD ((F k).getD Ent.zero) ∧ Maps.has D (sk k) = (F k).isSome

section
variable {P : Program} {T K E : TypeId} {w : World} {g : Nat} {F : ByteArray → Option Ent} {c : Nat}

theorem SM.lt (h : SM w P K g F c) : g < w.heap.size := by
  obtain ⟨D, h, -⟩ := h
  exact h.lt
theorem SM.of_block {w' : World} (h : SM w P K g F c) (hb : w'.heap[g]? = w.heap[g]?) : SM w' P K g F c := by
  obtain ⟨D, ⟨es, cl, h1, h2, h3, h4⟩, h5⟩ := h
  exact ⟨D, ⟨es, cl, hb.trans h1, h2, h3, h4⟩, h5⟩
theorem SM.made (w : World) (P : Program) (K : TypeId) : SM (w.alloc (.map #[] 0)) P K w.heap.size (fun _ => none) 0 :=
  ⟨.map [], World.ownsMap_made w P K entRd, fun k _ => ⟨rfl, rfl⟩⟩
theorem SM.look (h : SM w P K g F c) (hK : P.underlying K = some .string) (hT : P.underlying T = some (.map K E)) (hz : (zeroValue E).run P w = .ok Ent.zero.v w) {k : ByteArray} (hk : k.size ≤ maxLen) :
    (Instr.lookup T (.map (some g)) (.string k) false).run P w = .ok ((F k).getD Ent.zero).v w := by
  obtain ⟨D, h1, h3⟩ := h
  obtain ⟨v, ps, hr, hv⟩ := h1.lookup (Maps.string_keyed hK) hT hz (entRd_v Ent.zero) (keyOf_string_mk hK hk)
  have h4 := (h3 k hk).1
  obtain ⟨e, rfl, he⟩ := entRd_inv hv
  have h5 : D.atKey (sk k) (entD Ent.zero) = entD e := congrArg Prod.fst he
  rw [hr, entD_inj (h4.symm.trans h5)]
theorem SM.look_ok (h : SM w P K g F c) (hK : P.underlying K = some .string) (hT : P.underlying T = some (.map K E)) (hz : (zeroValue E).run P w = .ok Ent.zero.v w) {k : ByteArray} (hk : k.size ≤ maxLen) :
    (Instr.lookup T (.map (some g)) (.string k) true).run P w = .ok (.tuple #[((F k).getD Ent.zero).v, .bool (F k).isSome]) w := by
  obtain ⟨D, h1, h3⟩ := h
  obtain ⟨v, ps, hr, hv⟩ := h1.look_ok (Maps.string_keyed hK) hT hz (entRd_v Ent.zero) (keyOf_string_mk hK hk)
  obtain ⟨h4, h6⟩ := h3 k hk
  obtain ⟨e, rfl, he⟩ := entRd_inv hv
  have h5 : D.atKey (sk k) (entD Ent.zero) = entD e := congrArg Prod.fst he
  rw [show Maps.has D (Lit.string k.data.toList) = (F k).isSome from h6] at hr
  rw [hr, entD_inj (h4.symm.trans h5)]
/-- m[k] = e -/
theorem SM.put (h : SM w P K g F c) (hK : P.underlying K = some .string) (hT : P.underlying T = some (.map K E)) {k : ByteArray} (e : Ent) (hk : k.size ≤ maxLen) (hc : c < maxLen) :
    ∃ w', (Instr.mapUpdate T (.map (some g)) (.string k) e.v).run P w = .ok () w' ∧ SM w' P K g (updE F k e) (c + 1) ∧ w.grownBy w' (some g) := by
  obtain ⟨D, h1, h3⟩ := h
  obtain ⟨w', hr, h4, h5⟩ := h1.update (Maps.string_keyed hK) hT hc (keyOf_string_mk hK hk) (entRd_v e)
  have hkey : WideAt.IsKeyLit (sk k) := (Maps.string_keyed hK).key (keyOf_string_mk hK hk)
  refine ⟨w', hr, ⟨_, h4, ?_⟩, h5⟩
  intro j hj
  by_cases e0 : j = k
  · subst e0
    rw [updE_same]
    exact ⟨Maps.atKey_put_same h1.isMap hkey _ _, Maps.has_put_same h1.isMap hkey _⟩
  · rw [updE_other e0]
    have hne : sk j ≠ sk k := fun h => e0 (sk_inj h)
    exact ⟨(Maps.atKey_put_other hne _ _).trans (h3 j hj).1, (Maps.has_put_other hne _).trans (h3 j hj).2⟩
end
end Go.Proofs.YtpblgbegdfdgdaaDoor
