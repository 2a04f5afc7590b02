/- A map of numbers to pointers, in memory: what is read, stored, counted. Nothing of the program is named. -/
import Derived.Test.YtcabpidbdnlomaaGreatDoorBase
import Derived.Maps.RangeWalk
import Derived.Maps.StringElems
import Derived.Test.YtcabpidbdnlomaaGreatDoorVfsClean
namespace Go.Proofs.YtcabpidbdnlomaaGreatDoor
open Go.RowKit
open Go.Maps (Keyed)
set_option linter.unusedVariables false
set_option linter.unusedSimpArgs false

/-- how a pointer to a block's head reads: as the block's number; nil: as -1 -/
def ptrR : Value → Option (DataW Unit × List MemPlace)
  | .pointer none => some (.lit (.int .i64 (-1)), [])
  | .pointer (some ⟨b, 0, none⟩) => some (.lit (.int .i64 (b : Int)), [])
  | _ => none
def ptrV : Option Nat → Value
  | none => .pointer none
  | some b => .pointer (some ⟨b, 0, none⟩)
def ptrD : Option Nat → DataW Unit
  | none => .lit (.int .i64 (-1))
  | some b => .lit (.int .i64 (b : Int))
theorem ptrR_V (o : Option Nat) : ptrR (ptrV o) = some (ptrD o, []) := by
  cases o <;> rfl
theorem ptrD_inj : ∀ {o o' : Option Nat}, ptrD o = ptrD o' → o = o'
  | none, none, _ => rfl
  | none, some b, h => by simp [ptrD] at h
  | some b, none, h => by simp [ptrD] at h
  | some b, some b', h => by simp [ptrD] at h; exact congrArg some (by omega)
theorem ptrR_inv {v : Value} {y : DataW Unit × List MemPlace} (h : ptrR v = some y) : ∃ o, v = ptrV o ∧ y = (ptrD o, []) := by
  unfold ptrR at h
  split at h
  · cases h; exact ⟨none, rfl, rfl⟩
  · cases h; exact ⟨some _, rfl, rfl⟩
  · cases h
def nk (k : Nat) : Lit := .int .u64 (k : Int)
theorem nk_wf {k : Nat} (h : k < 18446744073709551616) : (Lit.int .u64 (k : Int)).wf = true := by
  have h1 : IntKind.u64.min ≤ (k : Int) := by show (0 : Int) ≤ _; omega
  have h2 : (k : Int) ≤ IntKind.u64.max := by show _ ≤ (18446744073709551615 : Int); omega
  simp [Lit.wf, h1, h2]
theorem nk_inj {k k' : Nat} (h : nk k = nk k') : k = k' := by
  simp only [nk, Lit.int.injEq, true_and] at h
  omega

/-- a map with one number's pointer changed -/
def upd (F : Nat → Option Nat) (k : Nat) (o : Option Nat) : Nat → Option Nat := fun j => if j = k then o else F j
theorem upd_same (F : Nat → Option Nat) (k : Nat) (o : Option Nat) : upd F k o k = o := if_pos rfl
theorem upd_other {F : Nat → Option Nat} {k j : Nat} {o : Option Nat} (h : ¬ j = k) : upd F k o j = F j := if_neg h
/-- block g is a map of c numbers to pointers: F -/
def PM (w : World) (P : Program) (K : TypeId) (g : Nat) (F : Nat → Option Nat) (c : Nat) : Prop :=
  ∃ D : DataW Unit, w.ownsMap P K ptrR g c D ∧ Maps.size D = c ∧ ∀ k, k < 18446744073709551616 → D.atKey (nk k) (ptrD none) = ptrD (F k) ∧ Maps.has D (nk k) = (F k).isSome

section
variable {P : Program} {T K E : TypeId} {w : World} {g : Nat} {F : Nat → Option Nat} {c : Nat}

theorem PM.lt (h : PM w P K g F c) : g < w.heap.size := by
  obtain ⟨D, h, -⟩ := h
  exact h.lt
theorem PM.of_block {w' : World} (h : PM w P K g F c) (hb : w'.heap[g]? = w.heap[g]?) : PM w' P K g F c := by
  obtain ⟨D, ⟨es, cl, h1, h2, h3, h4⟩, h5, h6⟩ := h
  exact ⟨D, ⟨es, cl, hb.trans h1, h2, h3, h4⟩, h5, h6⟩
theorem PM.made (w : World) (P : Program) (K : TypeId) : PM (w.alloc (.map #[] 0)) P K w.heap.size (fun _ => none) 0 :=
  ⟨.map [], World.ownsMap_made w P K ptrR, rfl, fun k _ => ⟨rfl, rfl⟩⟩
/-- m[k] -/
theorem PM.look (h : PM w P K g F c) (hK : P.underlying K = some (.int .u64)) (hT : P.underlying T = some (.map K E)) (hz : (zeroValue E).run P w = .ok (.pointer none) w) {k : Nat} (hk : k < 18446744073709551616) :
    (Instr.lookup T (.map (some g)) (.int .u64 (k : Int)) false).run P w = .ok (ptrV (F k)) w := by
  obtain ⟨D, h1, h2, h3⟩ := h
  obtain ⟨v, ps, hr, hv⟩ := h1.lookup (Maps.int_keyed hK) hT hz (ptrR_V none) (Maps.keyOf_int_mk hK (nk_wf hk))
  obtain ⟨o, rfl, ho⟩ := ptrR_inv hv
  rw [hr]
  have h4 := (h3 k hk).1
  have h5 : D.atKey (.int .u64 (k : Int)) (ptrD none) = ptrD o := congrArg Prod.fst ho
  rw [ptrD_inj (h4.symm.trans h5)]
/-- len(m) -/
theorem PM.len (h : PM w P K g F c) (hT : P.underlying T = some (.map K E)) (ty : TypeId) : (Builtin.len_ #[T] ty #[.map (some g)]).run P w = .ok (.int .i64 (c : Int)) w := by
  obtain ⟨D, h1, h2, h3⟩ := h
  rw [h1.len hT ty, h2]
/-- m[k] = v, k new -/
theorem PM.store (h : PM w P K g F c) (hK : P.underlying K = some (.int .u64)) (hT : P.underlying T = some (.map K E)) {k b : Nat} (hk : k < 18446744073709551616) (hn : F k = none) (hc : c < maxLen) :
    ∃ w', (Instr.mapUpdate T (.map (some g)) (.int .u64 (k : Int)) (.pointer (some ⟨b, 0, none⟩))).run P w = .ok () w' ∧ PM w' P K g (upd F k (some b)) (c + 1) ∧ w.mapTurned w' g := by
  obtain ⟨D, h1, h2, h3⟩ := h
  obtain ⟨w', hr, h4, h5⟩ := h1.store (Maps.int_keyed hK) hT hc (Maps.keyOf_int_mk hK (nk_wf hk)) (ptrR_V (some b))
  have hkey : WideAt.IsKeyLit (nk k) := (Maps.int_keyed hK).key (Maps.keyOf_int_mk hK (nk_wf hk))
  refine ⟨w', hr, ⟨_, h4, ?_, ?_⟩, h5⟩
  · have ht := h1.tidy (Maps.int_keyed hK)
    have h6 : Maps.has D (nk k) = false := by rw [(h3 k hk).2, hn]; rfl
    have := Maps.size_put ht (k := nk k) (ptrD (some b))
    rw [h6] at this
    rw [if_neg (by simp), h2] at this
    exact this
  · intro j hj
    by_cases e : j = k
    · subst e
      rw [upd_same]
      exact ⟨Maps.atKey_put_same h1.isMap hkey _ _, Maps.has_put_same h1.isMap hkey _⟩
    · rw [upd_other e]
      have hne : nk j ≠ nk k := fun h => e (nk_inj h)
      exact ⟨(Maps.atKey_put_other hne _ _).trans (h3 j hj).1, (Maps.has_put_other hne _).trans (h3 j hj).2⟩
/-- delete(m, k), k there -/
theorem PM.drop (h : PM w P K g F c) (hK : P.underlying K = some (.int .u64)) (hT : P.underlying T = some (.map K E)) {k : Nat} (hk : k < 18446744073709551616) (hn : F k ≠ none) (ty : TypeId) :
    ∃ w' c', c = c' + 1 ∧ (Builtin.delete_ #[T, K] ty #[.map (some g), .int .u64 (k : Int)]).run P w = .ok (.tuple #[]) w' ∧ PM w' P K g (upd F k none) c' ∧ w.mapTurned w' g := by
  obtain ⟨D, h1, h2, h3⟩ := h
  obtain ⟨w', hr, h4, h5⟩ := h1.drop (Maps.int_keyed hK) hT (Maps.keyOf_int_mk hK (nk_wf hk)) ty
  have hs := Maps.size_del (h1.tidy (Maps.int_keyed hK)) (k := nk k)
  have h6 : Maps.has D (nk k) = true := by
    rw [(h3 k hk).2]
    cases e : F k with
    | none => exact absurd e hn
    | some b => rfl
  rw [h6, if_pos rfl, h2] at hs
  have h7 : ∃ D', D' = D.del (nk k) := ⟨_, rfl⟩
  refine ⟨w', Maps.size (D.del (nk k)), hs.symm, hr, ⟨_, ?_, rfl, ?_⟩, h5⟩
  · obtain ⟨es, cl, e1, e2, e3, e4⟩ := h4
    refine ⟨es, cl, e1, e2, ?_, e4⟩
    show es.size ≤ Maps.size (D.del (nk k))
    have : Maps.size (D.del (nk k)) = es.size := by
      have e5 : D.del (nk k) = D.del (.int .u64 (k : Int)) := rfl
      rw [e5, e4]
      simp [Maps.size, length_sorted]
    omega
  · intro j hj
    by_cases e : j = k
    · subst e
      rw [upd_same]
      exact ⟨Maps.atKey_del_same _, Maps.has_del_same⟩
    · rw [upd_other e]
      have hne : nk j ≠ nk k := fun h => e (nk_inj h)
      exact ⟨(Maps.atKey_del_other hne _).trans (h3 j hj).1, (Maps.has_del_other hne).trans (h3 j hj).2⟩
end
end Go.Proofs.YtcabpidbdnlomaaGreatDoor
/- A map of texts to entries (a pointer, a number, a text), in memory: what is read, stored. Nothing of the program is named. -/
namespace Go.Proofs.YtcabpidbdnlomaaGreatDoor
open Go.RowKit
open Go.Maps (Keyed)
open Go.WideMaps
set_option linter.unusedVariables false
set_option linter.unusedSimpArgs false

/-- what stands at a path: the block of what is shared, the kind, where a link leads to -/
structure Ent where
  sh : Option Nat
  kind : Int
  to : ByteArray
def Ent.zero : Ent := ⟨none, 0, ⟨#[]⟩⟩
def Ent.v (e : Ent) : Value := .agg #[ptrV e.sh, .int .i64 e.kind, .string e.to]
def entD (e : Ent) : DataW Unit := .agg [ptrD e.sh, .lit (.int .i64 e.kind), .lit (.string e.to.data.toList)]
def rd3 : List Value → Option (DataW Unit × List MemPlace)
  | [.pointer none, .int .i64 k, .string s] => some (.agg [ptrD none, .lit (.int .i64 k), .lit (.string s.data.toList)], [])
  | [.pointer (some ⟨b, 0, none⟩), .int .i64 k, .string s] => some (.agg [ptrD (some b), .lit (.int .i64 k), .lit (.string s.data.toList)], [])
  | _ => none
/-- how an entry reads -/
def entRd : Value → Option (DataW Unit × List MemPlace)
  | .agg cs => rd3 cs.toList
  | _ => none
theorem entRd_v (e : Ent) : entRd e.v = some (entD e, []) := by
  obtain ⟨sh, k, s⟩ := e
  cases sh <;> rfl
theorem entD_inj {a b : Ent} (h : entD a = entD b) : a = b := by
  obtain ⟨s1, k1, t1⟩ := a
  obtain ⟨s2, k2, t2⟩ := b
  unfold entD at h
  simp only [DataW.agg.injEq, List.cons.injEq, DataW.lit.injEq, Lit.int.injEq, Lit.string.injEq, true_and, and_true] at h
  obtain ⟨h1, h2, h3⟩ := h
  have e1 := ptrD_inj h1
  have e3 : t1 = t2 := ByteArray.ext (Array.ext' h3)
  subst e1 h2 e3
  rfl
theorem rd3_inv {l : List Value} {y : DataW Unit × List MemPlace} (h : rd3 l = some y) : ∃ e : Ent, l = [ptrV e.sh, .int .i64 e.kind, .string e.to] ∧ y = (entD e, []) := by
  unfold rd3 at h
  split at h
  · cases h; exact ⟨⟨none, _, _⟩, rfl, rfl⟩
  · cases h; exact ⟨⟨some _, _, _⟩, rfl, rfl⟩
  · cases h
theorem entRd_inv {v : Value} {y : DataW Unit × List MemPlace} (h : entRd v = some y) : ∃ e : Ent, v = e.v ∧ y = (entD e, []) := by
  unfold entRd at h
  split at h
  · rename_i cs
    obtain ⟨e, he, hy⟩ := rd3_inv h
    exact ⟨e, by unfold Ent.v; rw [Value.agg.injEq]; exact Array.ext' he, hy⟩
  · cases h
def sk (k : ByteArray) : Lit := .string k.data.toList
theorem sk_inj {k k' : ByteArray} (h : sk k = sk k') : k = k' := by
  unfold sk at h
  simp only [Lit.string.injEq] at h
  exact ByteArray.ext (Array.ext' h)
/-- a map with one text's entry changed -/
noncomputable def updE (F : ByteArray → Option Ent) (k : ByteArray) (e : Ent) : ByteArray → Option Ent := fun j => open Classical in if j = k then some e else F j
theorem updE_same (F : ByteArray → Option Ent) (k : ByteArray) (e : Ent) : updE F k e k = some e := if_pos rfl
theorem updE_other {F : ByteArray → Option Ent} {k j : ByteArray} {e : Ent} (h : ¬ j = k) : updE F k e j = F j := if_neg h
/-- block g is a map of at most c texts to entries: F -/
def SM (w : World) (P : Program) (K : TypeId) (g : Nat) (F : ByteArray → Option Ent) (c : Nat) : Prop :=
  ∃ D : DataW Unit, w.ownsMap P K entRd g c D ∧ ∀ k : ByteArray, k.size ≤ maxLen → D.atKey (sk k) (entD Ent.zero) = entD ((F k).getD Ent.zero) ∧ Maps.has D (sk k) = (F k).isSome

section
variable {P : Program} {T K E : TypeId} {w : World} {g : Nat} {F : ByteArray → Option Ent} {c : Nat}

theorem SM.lt (h : SM w P K g F c) : g < w.heap.size := by
  obtain ⟨D, h, -⟩ := h
  exact h.lt
theorem SM.of_block {w' : World} (h : SM w P K g F c) (hb : w'.heap[g]? = w.heap[g]?) : SM w' P K g F c := by
  obtain ⟨D, ⟨es, cl, h1, h2, h3, h4⟩, h5⟩ := h
  exact ⟨D, ⟨es, cl, hb.trans h1, h2, h3, h4⟩, h5⟩
theorem SM.made (w : World) (P : Program) (K : TypeId) : SM (w.alloc (.map #[] 0)) P K w.heap.size (fun _ => none) 0 :=
  ⟨.map [], World.ownsMap_made w P K entRd, fun k _ => ⟨rfl, rfl⟩⟩
theorem SM.look (h : SM w P K g F c) (hK : P.underlying K = some .string) (hT : P.underlying T = some (.map K E)) (hz : (zeroValue E).run P w = .ok Ent.zero.v w) {k : ByteArray} (hk : k.size ≤ maxLen) :
    (Instr.lookup T (.map (some g)) (.string k) false).run P w = .ok ((F k).getD Ent.zero).v w := by
  obtain ⟨D, h1, h3⟩ := h
  obtain ⟨v, ps, hr, hv⟩ := h1.lookup (Maps.string_keyed hK) hT hz (entRd_v Ent.zero) (keyOf_string_mk hK hk)
  have h4 := (h3 k hk).1
  obtain ⟨e, rfl, he⟩ := entRd_inv hv
  have h5 : D.atKey (sk k) (entD Ent.zero) = entD e := congrArg Prod.fst he
  rw [hr, entD_inj (h4.symm.trans h5)]
theorem SM.look_ok (h : SM w P K g F c) (hK : P.underlying K = some .string) (hT : P.underlying T = some (.map K E)) (hz : (zeroValue E).run P w = .ok Ent.zero.v w) {k : ByteArray} (hk : k.size ≤ maxLen) :
    (Instr.lookup T (.map (some g)) (.string k) true).run P w = .ok (.tuple #[((F k).getD Ent.zero).v, .bool (F k).isSome]) w := by
  obtain ⟨D, h1, h3⟩ := h
  obtain ⟨v, ps, hr, hv⟩ := h1.look_ok (Maps.string_keyed hK) hT hz (entRd_v Ent.zero) (keyOf_string_mk hK hk)
  obtain ⟨h4, h6⟩ := h3 k hk
  obtain ⟨e, rfl, he⟩ := entRd_inv hv
  have h5 : D.atKey (sk k) (entD Ent.zero) = entD e := congrArg Prod.fst he
  rw [show Maps.has D (Lit.string k.data.toList) = (F k).isSome from h6] at hr
  rw [hr, entD_inj (h4.symm.trans h5)]
/-- m[k] = e -/
theorem SM.put (h : SM w P K g F c) (hK : P.underlying K = some .string) (hT : P.underlying T = some (.map K E)) {k : ByteArray} (e : Ent) (hk : k.size ≤ maxLen) (hc : c < maxLen) :
    ∃ w', (Instr.mapUpdate T (.map (some g)) (.string k) e.v).run P w = .ok () w' ∧ SM w' P K g (updE F k e) (c + 1) ∧ w.grownBy w' (some g) := by
  obtain ⟨D, h1, h3⟩ := h
  obtain ⟨w', hr, h4, h5⟩ := h1.update (Maps.string_keyed hK) hT hc (keyOf_string_mk hK hk) (entRd_v e)
  have hkey : WideAt.IsKeyLit (sk k) := (Maps.string_keyed hK).key (keyOf_string_mk hK hk)
  refine ⟨w', hr, ⟨_, h4, ?_⟩, h5⟩
  intro j hj
  by_cases e0 : j = k
  · subst e0
    rw [updE_same]
    exact ⟨Maps.atKey_put_same h1.isMap hkey _ _, Maps.has_put_same h1.isMap hkey _⟩
  · rw [updE_other e0]
    have hne : sk j ≠ sk k := fun h => e0 (sk_inj h)
    exact ⟨(Maps.atKey_put_other hne _ _).trans (h3 j hj).1, (Maps.has_put_other hne _).trans (h3 j hj).2⟩
end
end Go.Proofs.YtcabpidbdnlomaaGreatDoor
/- Layer 3 as mathematics: what a tree holds; where a path ends. -/
namespace Go.Proofs.YtcabpidbdnlomaaGreatDoor
open Go.RowKit
set_option linter.unusedVariables false
set_option linter.unusedSimpArgs false

/-- where a path ends, from a directory on, by its parts; an error's number -/
def goFol (F : ByteArray → Option Ent) : Nat → ByteArray → List ByteArray → Nat → Except Nat ByteArray
  | _, at', [], _ => .ok at'
  | 0, _, _ :: _, _ => .error 0
  | f + 1, at', p :: ps, h =>
    if ((F at').getD Ent.zero).kind ≠ 1 then .error 16
    else if p = ⟨#[]⟩ ∨ p = ⟨#[46]⟩ then goFol F f at' ps h
    else if p = ⟨#[46, 46]⟩ then goFol F f (parentF at') ps h
    else match F (joinF at' p) with
      | none => .error 6
      | some e =>
        if e.kind ≠ 2 then goFol F f (joinF at' p) ps h
        else if 8 < h + 1 then .error 15
        else if e.to.get! 0 = 47 then goFol F f slash (slashF (restF e.to) ++ ps) (h + 1)
        else goFol F f at' (slashF e.to ++ ps) (h + 1)
def folF (F : ByteArray → Option Ent) (path : ByteArray) : Except Nat ByteArray :=
  if withinF path 4096 = true ∧ path.get! 0 = 47 then goFol F 50000 slash (slashF (restF path)) 0 else .error 30
/-- what holds of every tree -/
structure TreeOk (F : ByteArray → Option Ent) : Prop where
  root : ∃ e, F slash = some e ∧ e.kind = 1
  keys : ∀ k e, F k = some e → 1 ≤ k.size ∧ k.size ≤ 4096
  links : ∀ k e, F k = some e → e.kind = 2 → 1 ≤ e.to.size ∧ e.to.size ≤ 4096

theorem parent_size (s : ByteArray) (h : 1 ≤ s.size) : 1 ≤ (parentF s).size ∧ (parentF s).size ≤ s.size := by
  unfold parentF
  have h2 : ∃ m : Nat, (max 1 (Lib.lastIndexByte s 47)).toNat = m ∧ 1 ≤ m ∧ m ≤ s.size := by
    rcases Lib.lastIndexByte_spec s 47 with ⟨h2, -⟩ | ⟨i, hi, h2, -, -⟩
    · exact ⟨1, by rw [h2]; rfl, by omega, h⟩
    · exact ⟨max 1 i, by rw [h2]; omega, by omega, by omega⟩
  obtain ⟨m, hm, h3, h4⟩ := h2
  rw [hm, ByteArray.size_extract]
  omega
theorem split_sizes (sep : ByteArray) (save : Nat) (h0 : save = 0) : ∀ (k : Nat) (s x : ByteArray), x ∈ Lib.splitB sep save k s → x.size ≤ s.size
  | 0, s, x, h => by
    rw [Lib.splitB_zero, List.mem_singleton] at h
    subst h
    exact Nat.le_refl _
  | k + 1, s, x, h => by
    unfold Lib.splitB at h
    split at h
    · rw [List.mem_singleton] at h
      subst h
      exact Nat.le_refl _
    · rcases List.mem_cons.1 h with h | h
      · subst h
        rw [ByteArray.size_extract]
        omega
      · have := split_sizes sep save h0 k _ x h
        rw [ByteArray.size_extract] at this
        omega
theorem slashF_mem {s x : ByteArray} (h : x ∈ slashF s) : x.size ≤ s.size := split_sizes slash 0 rfl _ s x h
theorem restF_size (s : ByteArray) : (restF s).size ≤ s.size := by unfold restF; rw [ByteArray.size_extract]; omega
theorem slash_one : slash.size = 1 := rfl
theorem join_size (a b : ByteArray) : (joinF a b).size ≤ a.size + b.size + 1 := by
  unfold joinF
  split
  · rename_i h
    subst h
    rw [ByteArray.size_append, slash_one]
    omega
  · rw [ByteArray.size_append, ByteArray.size_append, slash_one]
    omega
theorem goFol_cons (F : ByteArray → Option Ent) (f : Nat) (at' p : ByteArray) (ps : List ByteArray) (h : Nat) : goFol F (f + 1) at' (p :: ps) h =
    if ((F at').getD Ent.zero).kind ≠ 1 then .error 16
    else if p = ⟨#[]⟩ ∨ p = ⟨#[46]⟩ then goFol F f at' ps h
    else if p = ⟨#[46, 46]⟩ then goFol F f (parentF at') ps h
    else match F (joinF at' p) with
      | none => .error 6
      | some e =>
        if e.kind ≠ 2 then goFol F f (joinF at' p) ps h
        else if 8 < h + 1 then .error 15
        else if e.to.get! 0 = 47 then goFol F f slash (slashF (restF e.to) ++ ps) (h + 1)
        else goFol F f at' (slashF e.to ++ ps) (h + 1) := rfl
theorem goFol_nil (F : ByteArray → Option Ent) (f : Nat) (a : ByteArray) (h : Nat) : goFol F f a [] h = .ok a := by cases f <;> rfl
end Go.Proofs.YtcabpidbdnlomaaGreatDoor
