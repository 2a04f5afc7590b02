/- A map of numbers to pointers, in memory: what is read, stored, counted. Nothing of the program is named. -/
import Derived.Test.YtmnjkaimpejohaaGreatDoorBase
import Derived.Maps.RangeWalk
namespace Go.Proofs.YtmnjkaimpejohaaGreatDoor
open Go.RowKit
open Go.Maps (Keyed)
set_option linter.unusedVariables false
set_option linter.unusedSimpArgs false

/-- how a pointer to a block's head reads: as the block's number; nil: as -1 -/
def ptrR : Value → Option (DataW Unit × List MemPlace)
  | .pointer none => some (.lit (.int .i64 (-1)), [])
  | .pointer (some ⟨b, 0, none⟩) => some (.lit (.int .i64 (b : Int)), [])
  | _ => none
def ptrV : Option Nat → Value
  | none => .pointer none
  | some b => .pointer (some ⟨b, 0, none⟩)
def ptrD : Option Nat → DataW Unit
  | none => .lit (.int .i64 (-1))
  | some b => .lit (.int .i64 (b : Int))
theorem ptrR_V (o : Option Nat) : ptrR (ptrV o) = some (ptrD o, []) := by
  cases o <;> rfl
theorem ptrD_inj : ∀ {o o' : Option Nat}, ptrD o = ptrD o' → o = o'
  | none, none, _ => rfl
  | none, some b, h => by simp [ptrD] at h
  | some b, none, h => by simp [ptrD] at h
  | some b, some b', h => by simp [ptrD] at h; exact congrArg some (by omega)
theorem ptrR_inv {v : Value} {y : DataW Unit × List MemPlace} (h : ptrR v = some y) : ∃ o, v = ptrV o ∧ y = (ptrD o, []) := by
  unfold ptrR at h
  split at h
  · cases h; exact ⟨none, rfl, rfl⟩
  · cases h; exact ⟨some _, rfl, rfl⟩
  · cases h
def nk (k : Nat) : Lit := .int .u64 (k : Int)
theorem nk_wf {k : Nat} (h : k < 18446744073709551616) : (Lit.int .u64 (k : Int)).wf = true := by
  have h1 : IntKind.u64.min ≤ (k : Int) := by show (0 : Int) ≤ _; omega
  have h2 : (k : Int) ≤ IntKind.u64.max := by show _ ≤ (18446744073709551615 : Int); omega
  simp [Lit.wf, h1, h2]
theorem nk_inj {k k' : Nat} (h : nk k = nk k') : k = k' := by
  simp only [nk, Lit.int.injEq, true_and] at h
  omega

/-- a map with one number's pointer changed -/
def upd (F : Nat → Option Nat) (k : Nat) (o : Option Nat) : Nat → Option Nat := fun j => if j = k then o else F j
theorem upd_same (F : Nat → Option Nat) (k : Nat) (o : Option Nat) : upd F k o k = o := if_pos rfl
theorem upd_other {F : Nat → Option Nat} {k j : Nat} {o : Option Nat} (h : ¬ j = k) : upd F k o j = F j := if_neg h
/-- block g is a map of c numbers to pointers: F -/
def PM (w : World) (P : Program) (K : TypeId) (g : Nat) (F : Nat → Option Nat) (c : Nat) : Prop :=
  ∃ D : DataW Unit, w.ownsMap P K ptrR g c D ∧ Maps.size D = c ∧ ∀ k, k < 18446744073709551616 → D.atKey (nk k) (ptrD none) = ptrD (F k) ∧ Maps.has D (nk k) = (F k).isSome

section
variable {P : Program} {T K E : TypeId} {w : World} {g : Nat} {F : Nat → Option Nat} {c : Nat}

theorem PM.lt (h : PM w P K g F c) : g < w.heap.size := by
  obtain ⟨D, h, -⟩ := h
  exact h.lt
theorem PM.of_block {w' : World} (h : PM w P K g F c) (hb : w'.heap[g]? = w.heap[g]?) : PM w' P K g F c := by
  obtain ⟨D, ⟨es, cl, h1, h2, h3, h4⟩, h5, h6⟩ := h
  exact ⟨D, ⟨es, cl, hb.trans h1, h2, h3, h4⟩, h5, h6⟩
theorem PM.made (w : World) (P : Program) (K : TypeId) : PM (w.alloc (.map #[] 0)) P K w.heap.size (fun _ => none) 0 :=
  ⟨.map [], World.ownsMap_made w P K ptrR, rfl, fun k _ => ⟨rfl, rfl⟩⟩
/-- m[k] -/
theorem PM.look (h : PM w P K g F c) (hK : P.underlying K = some (.int .u64)) (hT : P.underlying T = some (.map K E)) (hz : (zeroValue E).run P w = .ok (.pointer none) w) {k : Nat} (hk : k < 18446744073709551616) :
    (Instr.lookup T (.map (some g)) (.int .u64 (k : Int)) false).run P w = .ok (ptrV (F k)) w := by
  obtain ⟨D, h1, h2, h3⟩ := h
  obtain ⟨v, ps, hr, hv⟩ := h1.lookup (Maps.int_keyed hK) hT hz (ptrR_V none) (Maps.keyOf_int_mk hK (nk_wf hk))
  obtain ⟨o, rfl, ho⟩ := ptrR_inv hv
  rw [hr]
  have h4 := (h3 k hk).1
  have h5 : D.atKey (.int .u64 (k : Int)) (ptrD none) = ptrD o := congrArg Prod.fst ho
  rw [ptrD_inj (h4.symm.trans h5)]
/-- len(m) -/
theorem PM.len (h : PM w P K g F c) (hT : P.underlying T = some (.map K E)) (ty : TypeId) : (Builtin.len_ #[T] ty #[.map (some g)]).run P w = .ok (.int .i64 (c : Int)) w := by
  obtain ⟨D, h1, h2, h3⟩ := h
  rw [h1.len hT ty, h2]
/-- m[k] = v, k new -/
theorem PM.store (h : PM w P K g F c) (hK : P.underlying K = some (.int .u64)) (hT : P.underlying T = some (.map K E)) {k b : Nat} (hk : k < 18446744073709551616) (hn : F k = none) (hc : c < maxLen) :
    ∃ w', (Instr.mapUpdate T (.map (some g)) (.int .u64 (k : Int)) (.pointer (some ⟨b, 0, none⟩))).run P w = .ok () w' ∧ PM w' P K g (upd F k (some b)) (c + 1) ∧ w.mapTurned w' g := by
  obtain ⟨D, h1, h2, h3⟩ := h
  obtain ⟨w', hr, h4, h5⟩ := h1.store (Maps.int_keyed hK) hT hc (Maps.keyOf_int_mk hK (nk_wf hk)) (ptrR_V (some b))
  have hkey : WideAt.IsKeyLit (nk k) := (Maps.int_keyed hK).key (Maps.keyOf_int_mk hK (nk_wf hk))
  refine ⟨w', hr, ⟨_, h4, ?_, ?_⟩, h5⟩
  · have ht := h1.tidy (Maps.int_keyed hK)
    have h6 : Maps.has D (nk k) = false := by rw [(h3 k hk).2, hn]; rfl
    have := Maps.size_put ht (k := nk k) (ptrD (some b))
    rw [h6] at this
    rw [if_neg (by simp), h2] at this
    exact this
  · intro j hj
    by_cases e : j = k
    · subst e
      rw [upd_same]
      exact ⟨Maps.atKey_put_same h1.isMap hkey _ _, Maps.has_put_same h1.isMap hkey _⟩
    · rw [upd_other e]
      have hne : nk j ≠ nk k := fun h => e (nk_inj h)
      exact ⟨(Maps.atKey_put_other hne _ _).trans (h3 j hj).1, (Maps.has_put_other hne _).trans (h3 j hj).2⟩
/-- delete(m, k), k there -/
theorem PM.drop (h : PM w P K g F c) (hK : P.underlying K = some (.int .u64)) (hT : P.underlying T = some (.map K E)) {k : Nat} (hk : k < 18446744073709551616) (hn : F k ≠ none) (ty : TypeId) :
    ∃ w' c', c = c' + 1 ∧ (Builtin.delete_ #[T, K] ty #[.map (some g), .int .u64 (k : Int)]).run P w = .ok (.tuple #[]) w' ∧ PM w' P K g (upd F k none) c' ∧ w.mapTurned w' g := by
  obtain ⟨D, h1, h2, h3⟩ := h
  obtain ⟨w', hr, h4, h5⟩ := h1.drop (Maps.int_keyed hK) hT (Maps.keyOf_int_mk hK (nk_wf hk)) ty
  have hs := Maps.size_del (h1.tidy (Maps.int_keyed hK)) (k := nk k)
  have h6 : Maps.has D (nk k) = true := by
    rw [(h3 k hk).2]
    cases e : F k with
    | none => exact absurd e hn
    | some b => rfl
  rw [h6, if_pos rfl, h2] at hs
  have h7 : ∃ D', D' = D.del (nk k) := ⟨_, rfl⟩
  refine ⟨w', Maps.size (D.del (nk k)), hs.symm, hr, ⟨_, ?_, rfl, ?_⟩, h5⟩
  · obtain ⟨es, cl, e1, e2, e3, e4⟩ := h4
    refine ⟨es, cl, e1, e2, ?_, e4⟩
    show es.size ≤ Maps.size (D.del (nk k))
    have : Maps.size (D.del (nk k)) = es.size := by
      have e5 : D.del (nk k) = D.del (.int .u64 (k : Int)) := rfl
      rw [e5, e4]
      simp [Maps.size, length_sorted]
    omega
  · intro j hj
    by_cases e : j = k
    · subst e
      rw [upd_same]
      exact ⟨Maps.atKey_del_same _, Maps.has_del_same⟩
    · rw [upd_other e]
      have hne : nk j ≠ nk k := fun h => e (nk_inj h)
      exact ⟨(Maps.atKey_del_other hne _).trans (h3 j hj).1, (Maps.has_del_other hne).trans (h3 j hj).2⟩
end
end Go.Proofs.YtmnjkaimpejohaaGreatDoor
