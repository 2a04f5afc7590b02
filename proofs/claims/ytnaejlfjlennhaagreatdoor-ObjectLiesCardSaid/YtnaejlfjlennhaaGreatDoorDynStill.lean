/- Layer 5 as mathematics: what a dynamic section tells. -/
import Derived.Test.YtnaejlfjlennhaaGreatDoorDynNum
import Derived.Test.YtnaejlfjlennhaaGreatDoorLittle
import Derived.Test.YtnaejlfjlennhaaGreatDoorDyn
import Derived.Test.YtnaejlfjlennhaaGreatDoorBase
import Derived.Maps.RangeWalk
import Derived.WalkMore
import Derived.Carry
import Derived.StillTailTactics
namespace Go.Proofs.YtnaejlfjlennhaaGreatDoor
open Go.RowKit
set_option linter.unusedVariables false
set_option linter.unusedSimpArgs false

/-- is a tag one that has a meaning? -/
def knF (t : Nat) : Bool := decide (t = 20 ∨ t = 22 ∨ t = 23 ∨ t = 24 ∨ t = 1879047925 ∨ t = 1879048176 ∨ (1 ≤ t ∧ t ≤ 16) ∨ (25 ≤ t ∧ t ≤ 30) ∨ (35 ≤ t ∧ t ≤ 37) ∨ (1879048187 ≤ t ∧ t ≤ 1879048191))
def tagAt (bs : List Nat) (i : Nat) : Nat := numOf ((bs.drop (16 * i)).take 8)
def valAt (bs : List Nat) (i : Nat) : Nat := numOf ((bs.drop (16 * i + 8)).take 8)
/-- the entries from number i on: what NEEDED tells, the others by their tags; an error's number -/
def entGo (bs : List Nat) : Nat → Nat → List Nat → (Nat → Option Nat) → Except Nat (List Nat × (Nat → Option Nat))
  | 0, _, _, _ => .error 3
  | f + 1, i, n, m =>
    if bs.length < 16 * (i + 1) then .error 3
    else if tagAt bs i = 0 then .ok (n, m)
    else if 256 ≤ i then .error 2
    else if tagAt bs i = 1 then entGo bs f (i + 1) (n ++ [valAt bs i]) m
    else if (m (tagAt bs i)).isSome = true ∧ knF (tagAt bs i) = true then .error 5
    else entGo bs f (i + 1) n (fun j => if j = tagAt bs i then some (valAt bs i) else m j)
def entF (bs : List Nat) : Except Nat (List Nat × (Nat → Option Nat)) := entGo bs (bs.length / 16 + 1) 0 [] (fun _ => none)
def gv (m : Nat → Option Nat) (t : Nat) : Nat := (m t).getD 0
/-- does what is there go together? -/
def fitF (m : Nat → Option Nat) : Bool :=
  ([(20, 7), (9, 24), (11, 24), (37, 8)] : List (Nat × Nat)).all (fun e => !(m e.1).isSome || decide (gv m e.1 = e.2)) &&
  (!decide (gv m 5 = 0 ∨ gv m 10 = 0 ∨ gv m 6 = 0 ∨ (gv m 4 = 0 ∧ gv m 1879047925 = 0)) &&
  (([(7, 8), (23, 2), (36, 35), (25, 27), (26, 28), (1879048188, 1879048189), (1879048190, 1879048191)] : List (Nat × Nat)).all (fun e => decide (gv m e.1 = 0) == decide (gv m e.2 = 0)) &&
  decide ((gv m 1879048188 = 0 ∧ gv m 1879048190 = 0) ∨ gv m 1879048176 ≠ 0)))
end Go.Proofs.YtnaejlfjlennhaaGreatDoor
/- A map of numbers to pointers, in memory: what is read, stored, counted. Nothing of the program is named. -/
namespace Go.Proofs.YtnaejlfjlennhaaGreatDoor
open Go.RowKit
open Go.Maps (Keyed)
set_option linter.unusedVariables false
set_option linter.unusedSimpArgs false

/-- how a pointer to a block's head reads: as the block's number; nil: as -1 -/
def ptrR : Value → Option (DataW Unit × List MemPlace)
  | .pointer none => some (.lit (.int .i64 (-1)), [])
  | .pointer (some ⟨b, 0, none⟩) => some (.lit (.int .i64 (b : Int)), [])
  | _ => none
def ptrV : Option Nat → Value
  | none => .pointer none
  | some b => .pointer (some ⟨b, 0, none⟩)
def ptrD : Option Nat → DataW Unit
  | none => .lit (.int .i64 (-1))
  | some b => .lit (.int .i64 (b : Int))
theorem ptrR_V (o : Option Nat) : ptrR (ptrV o) = some (ptrD o, []) := by
  cases o <;> rfl
theorem ptrD_inj : ∀ {o o' : Option Nat}, ptrD o = ptrD o' → o = o'
  | none, none, _ => rfl
  | none, some b, h => by simp [ptrD] at h
  | some b, none, h => by simp [ptrD] at h
  | some b, some b', h => by simp [ptrD] at h; exact congrArg some (by omega)
theorem ptrR_inv {v : Value} {y : DataW Unit × List MemPlace} (h : ptrR v = some y) : ∃ o, v = ptrV o ∧ y = (ptrD o, []) := by
  unfold ptrR at h
  split at h
  · cases h; exact ⟨none, rfl, rfl⟩
  · cases h; exact ⟨some _, rfl, rfl⟩
  · cases h
def nk (k : Nat) : Lit := .int .u64 (k : Int)
theorem nk_wf {k : Nat} (h : k < 18446744073709551616) : (Lit.int .u64 (k : Int)).wf = true := by
  have h1 : IntKind.u64.min ≤ (k : Int) := by show (0 : Int) ≤ _; omega
  have h2 : (k : Int) ≤ IntKind.u64.max := by show _ ≤ (18446744073709551615 : Int); omega
  simp [Lit.wf, h1, h2]
theorem nk_inj {k k' : Nat} (h : nk k = nk k') : k = k' := by
  simp only [nk, Lit.int.injEq, true_and] at h
  omega

/-- a map with one number's pointer changed -/
def upd (F : Nat → Option Nat) (k : Nat) (o : Option Nat) : Nat → Option Nat := fun j => if j = k then o else F j
theorem upd_same (F : Nat → Option Nat) (k : Nat) (o : Option Nat) : upd F k o k = o := if_pos rfl
theorem upd_other {F : Nat → Option Nat} {k j : Nat} {o : Option Nat} (h : ¬ j = k) : upd F k o j = F j := if_neg h
/-- block g is a map of c numbers to pointers: F -/
def PM (w : World) (P : Program) (K : TypeId) (g : Nat) (F : Nat → Option Nat) (c : Nat) : Prop :=
  ∃ D : DataW Unit, w.ownsMap P K ptrR g c D ∧ Maps.size D = c ∧ ∀ k, k < 18446744073709551616 → D.atKey (nk k) (ptrD none) = ptrD (F k) ∧ Maps.has D (nk k) = (F k).isSome

section
variable {P : Program} {T K E : TypeId} {w : World} {g : Nat} {F : Nat → Option Nat} {c : Nat}

theorem PM.lt (h : PM w P K g F c) : g < w.heap.size := by
  obtain ⟨D, h, -⟩ := h
  exact h.lt
theorem PM.of_block {w' : World} (h : PM w P K g F c) (hb : w'.heap[g]? = w.heap[g]?) : PM w' P K g F c := by
  obtain ⟨D, ⟨es, cl, h1, h2, h3, h4⟩, h5, h6⟩ := h
  exact ⟨D, ⟨es, cl, hb.trans h1, h2, h3, h4⟩, h5, h6⟩
theorem PM.made (w : World) (P : Program) (K : TypeId) : PM (w.alloc (.map #[] 0)) P K w.heap.size (fun _ => none) 0 :=
  ⟨.map [], World.ownsMap_made w P K ptrR, rfl, fun k _ => ⟨rfl, rfl⟩⟩
/-- m[k] -/
theorem PM.look (h : PM w P K g F c) (hK : P.underlying K = some (.int .u64)) (hT : P.underlying T = some (.map K E)) (hz : (zeroValue E).run P w = .ok (.pointer none) w) {k : Nat} (hk : k < 18446744073709551616) :
    (Instr.lookup T (.map (some g)) (.int .u64 (k : Int)) false).run P w = .ok (ptrV (F k)) w := by
  obtain ⟨D, h1, h2, h3⟩ := h
  obtain ⟨v, ps, hr, hv⟩ := h1.lookup (Maps.int_keyed hK) hT hz (ptrR_V none) (Maps.keyOf_int_mk hK (nk_wf hk))
  obtain ⟨o, rfl, ho⟩ := ptrR_inv hv
  rw [hr]
  have h4 := (h3 k hk).1
  have h5 : D.atKey (.int .u64 (k : Int)) (ptrD none) = ptrD o := congrArg Prod.fst ho
  rw [ptrD_inj (h4.symm.trans h5)]
/-- len(m) -/
theorem PM.len (h : PM w P K g F c) (hT : P.underlying T = some (.map K E)) (ty : TypeId) : (Builtin.len_ #[T] ty #[.map (some g)]).run P w = .ok (.int .i64 (c : Int)) w := by
  obtain ⟨D, h1, h2, h3⟩ := h
  rw [h1.len hT ty, h2]
/-- m[k] = v, k new -/
theorem PM.store (h : PM w P K g F c) (hK : P.underlying K = some (.int .u64)) (hT : P.underlying T = some (.map K E)) {k b : Nat} (hk : k < 18446744073709551616) (hn : F k = none) (hc : c < maxLen) :
    ∃ w', (Instr.mapUpdate T (.map (some g)) (.int .u64 (k : Int)) (.pointer (some ⟨b, 0, none⟩))).run P w = .ok () w' ∧ PM w' P K g (upd F k (some b)) (c + 1) ∧ w.mapTurned w' g := by
  obtain ⟨D, h1, h2, h3⟩ := h
  obtain ⟨w', hr, h4, h5⟩ := h1.store (Maps.int_keyed hK) hT hc (Maps.keyOf_int_mk hK (nk_wf hk)) (ptrR_V (some b))
  have hkey : WideAt.IsKeyLit (nk k) := (Maps.int_keyed hK).key (Maps.keyOf_int_mk hK (nk_wf hk))
  refine ⟨w', hr, ⟨_, h4, ?_, ?_⟩, h5⟩
  · have ht := h1.tidy (Maps.int_keyed hK)
    have h6 : Maps.has D (nk k) = false := by rw [(h3 k hk).2, hn]; rfl
    have := Maps.size_put ht (k := nk k) (ptrD (some b))
    rw [h6] at this
    rw [if_neg (by simp), h2] at this
    exact this
  · intro j hj
    by_cases e : j = k
    · subst e
      rw [upd_same]
      exact ⟨Maps.atKey_put_same h1.isMap hkey _ _, Maps.has_put_same h1.isMap hkey _⟩
    · rw [upd_other e]
      have hne : nk j ≠ nk k := fun h => e (nk_inj h)
      exact ⟨(Maps.atKey_put_other hne _ _).trans (h3 j hj).1, (Maps.has_put_other hne _).trans (h3 j hj).2⟩
/-- delete(m, k), k there -/
theorem PM.drop (h : PM w P K g F c) (hK : P.underlying K = some (.int .u64)) (hT : P.underlying T = some (.map K E)) {k : Nat} (hk : k < 18446744073709551616) (hn : F k ≠ none) (ty : TypeId) :
    ∃ w' c', c = c' + 1 ∧ (Builtin.delete_ #[T, K] ty #[.map (some g), .int .u64 (k : Int)]).run P w = .ok (.tuple #[]) w' ∧ PM w' P K g (upd F k none) c' ∧ w.mapTurned w' g := by
  obtain ⟨D, h1, h2, h3⟩ := h
  obtain ⟨w', hr, h4, h5⟩ := h1.drop (Maps.int_keyed hK) hT (Maps.keyOf_int_mk hK (nk_wf hk)) ty
  have hs := Maps.size_del (h1.tidy (Maps.int_keyed hK)) (k := nk k)
  have h6 : Maps.has D (nk k) = true := by
    rw [(h3 k hk).2]
    cases e : F k with
    | none => exact absurd e hn
    | some b => rfl
  rw [h6, if_pos rfl, h2] at hs
  have h7 : ∃ D', D' = D.del (nk k) := ⟨_, rfl⟩
  refine ⟨w', Maps.size (D.del (nk k)), hs.symm, hr, ⟨_, ?_, rfl, ?_⟩, h5⟩
  · obtain ⟨es, cl, e1, e2, e3, e4⟩ := h4
    refine ⟨es, cl, e1, e2, ?_, e4⟩
    show es.size ≤ Maps.size (D.del (nk k))
    have : Maps.size (D.del (nk k)) = es.size := by
      have e5 : D.del (nk k) = D.del (.int .u64 (k : Int)) := rfl
      rw [e5, e4]
      simp [Maps.size, length_sorted]
    omega
  · intro j hj
    by_cases e : j = k
    · subst e
      rw [upd_same]
      exact ⟨Maps.atKey_del_same _, Maps.has_del_same⟩
    · rw [upd_other e]
      have hne : nk j ≠ nk k := fun h => e (nk_inj h)
      exact ⟨(Maps.atKey_del_other hne _).trans (h3 j hj).1, (Maps.has_del_other hne).trans (h3 j hj).2⟩
end
end Go.Proofs.YtnaejlfjlennhaaGreatDoor
/- A map of numbers to numbers, in memory: what is read, stored. Nothing of the program is named. -/
namespace Go.Proofs.YtnaejlfjlennhaaGreatDoor
open Go.RowKit
open Go.Maps (Keyed)
set_option linter.unusedVariables false
set_option linter.unusedSimpArgs false

/-- how a number reads -/
def numR : Value → Option (DataW Unit × List MemPlace)
  | .int .u64 n => some (.lit (.int .u64 n), [])
  | _ => none
theorem numR_inv {v : Value} {n : Int} {ps : List MemPlace} (h : numR v = some (.lit (.int .u64 n), ps)) : v = .int .u64 n := by
  unfold numR at h
  split at h
  · simp only [Option.some.injEq, Prod.mk.injEq, DataW.lit.injEq, Lit.int.injEq, true_and] at h
    rw [h.1]
  · cases h
def numD (o : Option Nat) : DataW Unit := .lit (.int .u64 ((o.getD 0 : Nat) : Int))
/-- block g is a map of at most c numbers to numbers: F -/
def UM (w : World) (P : Program) (K : TypeId) (g : Nat) (F : Nat → Option Nat) (c : Nat) : Prop :=
  ∃ D : DataW Unit, w.ownsMap P K numR g c D ∧ ∀ k, k < 18446744073709551616 → D.atKey (nk k) (numD none) = numD (F k) ∧ Maps.has D (nk k) = (F k).isSome

section
variable {P : Program} {T K E : TypeId} {w : World} {g : Nat} {F : Nat → Option Nat} {c : Nat}

theorem UM.lt (h : UM w P K g F c) : g < w.heap.size := by
  obtain ⟨D, h, -⟩ := h
  exact h.lt
theorem UM.of_block {w' : World} (h : UM w P K g F c) (hb : w'.heap[g]? = w.heap[g]?) : UM w' P K g F c := by
  obtain ⟨D, ⟨es, cl, h1, h2, h3, h4⟩, h5⟩ := h
  exact ⟨D, ⟨es, cl, hb.trans h1, h2, h3, h4⟩, h5⟩
theorem UM.made (w : World) (P : Program) (K : TypeId) : UM (w.alloc (.map #[] 0)) P K w.heap.size (fun _ => none) 0 :=
  ⟨.map [], World.ownsMap_made w P K numR, fun k _ => ⟨rfl, rfl⟩⟩
/-- m[k] -/
theorem UM.look (h : UM w P K g F c) (hK : P.underlying K = some (.int .u64)) (hT : P.underlying T = some (.map K E)) (hz : (zeroValue E).run P w = .ok (.int .u64 0) w) {k : Nat} (hk : k < 18446744073709551616) :
    (Instr.lookup T (.map (some g)) (.int .u64 (k : Int)) false).run P w = .ok (.int .u64 (((F k).getD 0 : Nat) : Int)) w := by
  obtain ⟨D, h1, h3⟩ := h
  obtain ⟨v, ps, hr, hv⟩ := h1.lookup (Maps.int_keyed hK) hT hz (show numR (.int .u64 0) = some (numD none, []) from rfl) (Maps.keyOf_int_mk hK (nk_wf hk))
  have h4 := (h3 k hk).1
  rw [show (Lit.int .u64 (k : Int)) = nk k from rfl, h4] at hv
  rw [hr, numR_inv hv]
/-- v, ok := m[k] -/
theorem UM.look_ok (h : UM w P K g F c) (hK : P.underlying K = some (.int .u64)) (hT : P.underlying T = some (.map K E)) (hz : (zeroValue E).run P w = .ok (.int .u64 0) w) {k : Nat} (hk : k < 18446744073709551616) :
    (Instr.lookup T (.map (some g)) (.int .u64 (k : Int)) true).run P w = .ok (.tuple #[.int .u64 (((F k).getD 0 : Nat) : Int), .bool (F k).isSome]) w := by
  obtain ⟨D, h1, h3⟩ := h
  obtain ⟨v, ps, hr, hv⟩ := h1.look_ok (Maps.int_keyed hK) hT hz (show numR (.int .u64 0) = some (numD none, []) from rfl) (Maps.keyOf_int_mk hK (nk_wf hk))
  obtain ⟨h4, h5⟩ := h3 k hk
  rw [show (Lit.int .u64 (k : Int)) = nk k from rfl] at hv hr
  rw [h4] at hv
  rw [hr, h5, numR_inv hv]
/-- m[k] = v -/
theorem UM.put (h : UM w P K g F c) (hK : P.underlying K = some (.int .u64)) (hT : P.underlying T = some (.map K E)) {k v : Nat} (hk : k < 18446744073709551616) (hc : c < maxLen) :
    ∃ w', (Instr.mapUpdate T (.map (some g)) (.int .u64 (k : Int)) (.int .u64 (v : Int))).run P w = .ok () w' ∧ UM w' P K g (upd F k (some v)) (c + 1) ∧ w.grownBy w' (some g) := by
  obtain ⟨D, h1, h3⟩ := h
  obtain ⟨w', hr, h4, h5⟩ := h1.update (Maps.int_keyed hK) hT hc (Maps.keyOf_int_mk hK (nk_wf hk)) (show numR (.int .u64 (v : Int)) = some (numD (some v), []) from rfl)
  have hkey : WideAt.IsKeyLit (nk k) := (Maps.int_keyed hK).key (Maps.keyOf_int_mk hK (nk_wf hk))
  refine ⟨w', hr, ⟨_, h4, ?_⟩, h5⟩
  intro j hj
  by_cases e : j = k
  · subst e
    rw [upd_same]
    exact ⟨Maps.atKey_put_same h1.isMap hkey _ _, Maps.has_put_same h1.isMap hkey _⟩
  · rw [upd_other e]
    have hne : nk j ≠ nk k := fun h => e (nk_inj h)
    exact ⟨(Maps.atKey_put_other hne _ _).trans (h3 j hj).1, (Maps.has_put_other hne _).trans (h3 j hj).2⟩
end
end Go.Proofs.YtnaejlfjlennhaaGreatDoor
/- Layer 5: what a section tells: is a tag there? -/
namespace Go.Proofs.YtnaejlfjlennhaaGreatDoor
open Go.RowKit
set_option linter.unusedVariables false
set_option linter.unusedSimpArgs false

theorem u64_zeroT (w : World) : (zeroValue 24).run Tryz.prog w = .ok (.int .u64 0) w := by kernel_rfl

set_option maxRecDepth 100000 in
set_option maxHeartbeats 4000000 in
theorem has_any (b gm c : Nat) (m : Nat → Option Nat) (t : Nat) (w : World) (hb : w.cell? ⟨b, 0, none⟩ = some (.map (some gm))) (h : UM w Tryz.prog 24 gm m c) (ht : t < 18446744073709551616) :
    Calls Tryz.prog 50 #[.int .u64 (t : Int), .pointer (some ⟨b, 0, none⟩)] w fun e w' => e = .returned (.bool (m t).isSome) ∧ w' = w := by
  have hl0 := h.look_ok (T := 86) (E := 24) Tryz.underlying24 Tryz.underlying86 (u64_zeroT w) (k := t) ht
  obtain ⟨r, hr⟩ : ∃ r, (m t).isSome = r := ⟨_, rfl⟩
  obtain ⟨old, hold⟩ : ∃ old, (m t).getD 0 = old := ⟨_, rfl⟩
  rw [hr, hold] at hl0
  rw [hr]
  clear hr hold h ht
  go_enter Tryz.func50, Tryz.ntmps50
  go_wp2_with fail
  go_ret
  exact ⟨rfl, rfl⟩

end Go.Proofs.YtnaejlfjlennhaaGreatDoor
/- A guarded piece of a region that changes nothing: a or b, where b is looked at only if a doesn't hold. Nothing of the program is named. -/
namespace Go.Proofs.YtnaejlfjlennhaaGreatDoor
open Go.RowKit
set_option linter.unusedVariables false

theorem wpStill_append {P : Program} {ops : Array Oper} {w : World} {Q : Act → Prop} {r : List Oper} : ∀ (l : List Oper) (a : Act), wpStill P ops w Q (l ++ r) a = wpStill P ops w (wpStill P ops w Q r) l a
  | [], a => rfl
  | o :: l, a => by
    have ih : wpStill P ops w Q (l ++ r) = wpStill P ops w (wpStill P ops w Q r) l := funext (wpStill_append l)
    rw [List.cons_append]
    unfold wpStill
    rw [ih]

theorem still_or {P : Program} {ops : Array Oper} {w : World} {Q : Act → Prop} {o1 o2 o3 o4 : Oper} {rest : List Oper} {a : Act} (b t : Bool)
    (hf : b = false → ∀ Q' : Act → Prop, (∀ u1 u2 u3, Q' ((((a.put o1.dst u1).put o2.dst u2).put o3.dst u3).put o4.dst (.bool t))) → wpStill P ops w Q' [o1, o2, o3, o4] a)
    (ht : b = true → ∀ Q' : Act → Prop, (∀ u1 u2 u3, Q' ((((a.put o1.dst u1).put o2.dst u2).put o3.dst u3).put o4.dst (.bool true))) → wpStill P ops w Q' [o1, o2, o3, o4] a)
    (h : ∀ (r : Bool) u1 u2 u3, (b || t) = r → wpStill P ops w Q rest ((((a.put o1.dst u1).put o2.dst u2).put o3.dst u3).put o4.dst (.bool r))) : wpStill P ops w Q (o1 :: o2 :: o3 :: o4 :: rest) a := by
  have H := fun u1 u2 u3 => h (b || t) u1 u2 u3 rfl
  have : wpStill P ops w (wpStill P ops w Q rest) [o1, o2, o3, o4] a := by
    cases b
    · exact hf rfl _ H
    · exact ht rfl _ H
  rw [← wpStill_append] at this
  exact this
end Go.Proofs.YtnaejlfjlennhaaGreatDoor
