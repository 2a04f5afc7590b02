/- Layer 16: what a walk tells to: function values that keep something of their own in memory; the states of a walk. -/
import Derived.Test.YtfckgagpfpnelaaGraphRefLive
import Derived.Deep.AppendLies
namespace Go.Proofs.Ytfckgagpfpnelaa
open Go.RowKit
set_option linter.unusedVariables false
set_option linter.unusedSimpArgs false

/-- of what was there only these blocks are changed -/
structure Aside (G : Nat → Prop) (w w' : World) : Prop where
  os : w'.os = w.os
  tape : w'.tape = w.tape
  output : w'.output = w.output
  size : w.heap.size ≤ w'.heap.size
  block : ∀ g, g < w.heap.size → ¬ G g → w'.heap[g]? = w.heap[g]?
section
variable {G : Nat → Prop} {w w0 w' : World}
theorem Aside.refl (G : Nat → Prop) (w : World) : Aside G w w := ⟨rfl, rfl, rfl, Nat.le_refl _, fun _ _ _ => rfl⟩
theorem Aside.mono {G' : Nat → Prop} (h : Aside G w w') (hg : ∀ g, g < w.heap.size → G g → G' g) : Aside G' w w' := ⟨h.os, h.tape, h.output, h.size, fun g h1 h2 => h.block g h1 (fun h3 => h2 (hg g h1 h3))⟩
theorem Aside.grown {row : Option Nat} (hg : w.grownBy w' row) : Aside (fun g => row = some g) w w' := ⟨hg.os, hg.tape, hg.output, hg.size, fun g h1 h2 => hg.block g h1 (fun e => h2 e.symm)⟩
theorem Aside.setCell (w : World) (a : Addr) (u : Value) : Aside (fun g => g = a.block) w (w.setCell a u) := ⟨rfl, rfl, rfl, by simp [World.setCell], fun g _ h2 => Below.heap_setCell _ _ _ _ h2⟩
theorem Aside.alloc (w : World) (o : Obj) : Aside (fun _ => False) w (w.alloc o) := ⟨rfl, rfl, rfl, by simp, fun g h1 _ => Below.heap_alloc _ _ _ h1⟩
theorem Aside.trans {b : World} (h : Aside G w w') (k : Aside G w' b) : Aside G w b :=
  ⟨k.os.trans h.os, k.tape.trans h.tape, k.output.trans h.output, Nat.le_trans h.size k.size, fun g h1 h2 => (k.block g (Nat.lt_of_lt_of_le h1 h.size) h2).trans (h.block g h1 h2)⟩
theorem Aside.below {B : Nat} (h : Aside G w w') (hb : Below B w0 w) (hB : B ≤ w.heap.size) (hG : ∀ g, G g → B ≤ g) : Below B w0 w' :=
  hb.trans ⟨h.os, h.tape, h.output, h.size, fun g hg => h.block g (by omega) (fun h2 => by have := hG g h2; omega)⟩
theorem InBox.aside {b : Nat} {v : Value} {T : TypeId} (hb : InBox w b v T) (h : Aside G w w') (hg : ¬ G b) : InBox w' b v T := hb.of_block (h.block b hb.lt hg)
theorem own_aside {B sz n : Nat} {e : TypeId} {v : Value} {xs : List Value} (ho : w.ownsRow B e sz v n xs) (h : Aside G w w') (hg : ∀ g, v.ownBlock = some g → ¬ G g) : w'.ownsRow B e sz v n xs := by
  obtain ⟨h1, h2⟩ := ho
  refine ⟨h1, ?_⟩
  rcases h2 with h2 | ⟨g, cap, cur, rfl, hB, hg2, r⟩
  · exact .inl h2
  · exact .inr ⟨g, cap, cur, rfl, hB, by rw [h.block g (lt_of_block hg2) (hg g rfl)]; exact hg2, r⟩
end

/-- what two function values keep: of the memory, of the blocks that are theirs, of what was told and whether an object was met again -/
structure Client (P : Program) (tf : FuncId) (tc : Array Value) (af : FuncId) (ac : Array Value) (n : Nat) (I : World → (Nat → Prop) → List Nat → Bool → Prop) : Prop where
  tellRun : ∀ (args : Array Value) (w : World), (callFunc tf args).run P w = .ok (.enter tf args) w
  againRun : ∀ (args : Array Value) (w : World), (callFunc af args).run P w = .ok (.enter af args) w
  lt : ∀ {w G o r}, I w G o r → ∀ g, G g → g < w.heap.size
  aside : ∀ {w w' G o r}, I w G o r → Aside (fun g => ¬ G g) w w' → I w' G o r
  tell : ∀ {w G o r} (x : Nat), I w G o r → x < n → o.length < n → Calls P tf (#[.int .i64 (x : Int)] ++ tc) w fun e w' => e = .returned (.tuple #[]) ∧ ∃ G', I w' G' (o ++ [x]) r ∧ Aside G w w' ∧ ∀ g, G' g → G g ∨ w.heap.size ≤ g
  again : ∀ {w G o r} (x : Nat), I w G o r → x < n → Calls P af (#[.int .i64 (x : Int)] ++ ac) w fun e w' => e = .returned (.tuple #[]) ∧ ∃ G', I w' G' o true ∧ Aside G w w' ∧ ∀ g, G' g → G g ∨ w.heap.size ≤ g

/-- the state of each object -/
def stateOf (had out : List Nat) (i : Nat) : Int := if i ∈ out then 2 else if i ∈ had then 1 else 0
def stateL (n : Nat) (had out : List Nat) : List Int := (List.range n).map (stateOf had out)
theorem stateL_length (n : Nat) (had out : List Nat) : (stateL n had out).length = n := by simp [stateL]
theorem stateL_at {n i : Nat} (had out : List Nat) (h : i < n) : (stateL n had out)[i]? = some (stateOf had out i) := by simp [stateL, h]
theorem stateL_set {n x : Nat} {had out had' out' : List Nat} {z : Int} (hx : x < n) (h1 : stateOf had' out' x = z) (h2 : ∀ i, i ≠ x → stateOf had' out' i = stateOf had out i) : (stateL n had out).set x z = stateL n had' out' := by
  apply List.ext_getElem?
  intro j
  rw [List.getElem?_set]
  by_cases hxj : x = j
  · subst hxj
    rw [if_pos rfl, if_pos (by rw [stateL_length]; exact hx), stateL_at _ _ hx, h1]
  · rw [if_neg hxj]
    by_cases hj : j < n
    · rw [stateL_at _ _ hj, stateL_at _ _ hj, h2 j (fun e => hxj e.symm)]
    · rw [List.getElem?_eq_none (by rw [stateL_length]; omega), List.getElem?_eq_none (by rw [stateL_length]; omega)]
theorem stateL_enter {n x : Nat} {had out : List Nat} (hx : x < n) (ho : x ∉ out) : (stateL n had out).set x 1 = stateL n (x :: had) out :=
  stateL_set hx (by simp [stateOf, ho]) (fun i hi => by simp [stateOf, hi])
theorem stateL_told {n x : Nat} {had out : List Nat} (hx : x < n) : (stateL n had out).set x 2 = stateL n had (out ++ [x]) :=
  stateL_set hx (by simp [stateOf]) (fun i hi => by simp [stateOf, hi])
theorem stateL_start (n : Nat) : stateL n [] [] = List.replicate n 0 := by
  apply List.ext_getElem?
  intro j
  by_cases hj : j < n
  · rw [stateL_at _ _ hj]; simp [stateOf, hj]
  · rw [List.getElem?_eq_none (by rw [stateL_length]; omega), List.getElem?_eq_none (by simp; omega)]

/-- the list of what is being walked: its last one is walked now -/
def visitRow (v : Nat × Nat) : List Value := [.int .i64 (v.1 : Int), .int .i64 (v.2 : Int)]
def openRows (st : List (Nat × Nat)) : List (List Value) := (st.map visitRow).reverse
theorem openRows_length (st : List (Nat × Nat)) : (openRows st).length = st.length := by simp [openRows]
theorem openRows_cons (v : Nat × Nat) (st : List (Nat × Nat)) : openRows (v :: st) = openRows st ++ [visitRow v] := by simp [openRows]

section
variable {P : Program} {w : World} {ops : Array Oper} {rest : List Oper} {o : Oper} {a : Act} {Q : Exit → Act → World → Prop}
/-- an append of a number, that tells where the row lies now -/
theorem wpList_grow_lies (hgd : o.guard = none) (s x : Operand) {t e : TypeId} {k : IntKind} {bytes : Nat} (F : IntSlice P t e k bytes)
    (ho : o.op = .call { callee := .builtin .append, args := #[s, x], argTypes := #[t, t] })
    (B : Nat) (v : Value) (xs : List Int) (n : Nat) (y : Int) (hs : a.eval s = v) (hx : a.eval x = .slice (some ⟨w.heap.size, 0, none⟩) 1 1) (hn : xs.length = n)
    (hown : OwnI w B e k v xs) (h63 : n + 1 ≤ maxLen) (hlen : (n + 1) * bytes ≤ 140737488355328) (hb : B ≤ w.heap.size)
    (h : ∀ g cap w', OwnI w' B e k (.slice (some ⟨g, 0, none⟩) (n + 1) cap) (xs ++ [y]) → (w.alloc (.cells #[.int k y] e)).grownBy w' v.ownBlock → (v.ownBlock = some g ∨ w.heap.size < g) → g < w'.heap.size → wpList P ops Q rest (a.put o.dst (.slice (some ⟨g, 0, none⟩) (n + 1) cap)) w') : wpList P ops Q (o :: rest) a (w.alloc (.cells #[.int k y] e)) := by
  subst hn
  obtain ⟨ht, hinfo⟩ := F
  obtain ⟨i, hi, hz0, hz1, hz2⟩ := info_parts hinfo
  refine wpList_append_lies _ hgd s x t ho B e i (.int k 0) 1 bytes ht hi hz0 hz1 hz2 rfl (by decide) v xs.length (xs.map (Value.int k)) hs (World.ownsRow.alloc hown _) ⟨w.heap.size, 0, none⟩ 1 1 [.int k y] hx rfl
    (cell_one_at w (.int k y) e) (by intro u hu; simp only [List.mem_cons, List.not_mem_nil, or_false] at hu; subst hu; rfl) (by decide) h63 hlen (by simp; omega) (w.heap.size + 1) (by simp) ?_
  intro g cap w1 hown1 hgr hor hlt
  refine h g cap w1 ?_ hgr (hor.imp id (fun e => by omega)) hlt
  unfold OwnI
  rw [List.length_append, List.length_cons, List.length_nil, List.map_append]
  exact hown1
end
end Go.Proofs.Ytfckgagpfpnelaa
