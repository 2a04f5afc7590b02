/- Layer 16: what the program's walk keeps in memory; the entering of an object. -/
import Derived.Test.YtfckgagpfpnelaaGraphTold
namespace Go.Proofs.Ytfckgagpfpnelaa
open Go.RowKit
set_option linter.unusedVariables false
set_option linter.unusedSimpArgs false

/-- what holds in the midst of a walk -/
structure Mid (n : Nat) (st : List (Nat × Nat)) (s : St) : Prop where
  good : Good n s.had
  nodup : s.out.Nodup
  sub : ∀ x ∈ s.out, x ∈ s.had
  opened : (st.map Prod.fst).Nodup
  walked : ∀ v ∈ st, v.1 ∈ s.had ∧ v.1 ∉ s.out
theorem Mid.outGood {n : Nat} {st : List (Nat × Nat)} {s : St} (h : Mid n st s) : Good n s.out := ⟨h.nodup, fun x hx => h.good.2 x (h.sub x hx)⟩
theorem Mid.stGood {n : Nat} {st : List (Nat × Nat)} {s : St} (h : Mid n st s) : Good n (st.map Prod.fst) := ⟨h.opened, fun x hx => by
  obtain ⟨v, hv, rfl⟩ := List.mem_map.1 hx
  exact h.good.2 _ (h.walked v hv).1⟩
theorem Mid.outLt {n x : Nat} {st : List (Nat × Nat)} {s : St} (h : Mid n st s) (hx : x < n) (hn : x ∉ s.out) : s.out.length < n := by
  have : Good n (x :: s.out) := ⟨List.nodup_cons.2 ⟨hn, h.nodup⟩, fun y hy => by
    rcases List.mem_cons.1 hy with rfl | hy
    · exact hx
    · exact h.outGood.2 y hy⟩
  have := nodup_le this
  rw [List.length_cons] at this
  omega
theorem Mid.enter {n x : Nat} {st : List (Nat × Nat)} {s : St} (h : Mid n st s) (hx : x < n) (hn : x ∉ s.had) : Mid n ((x, 0) :: st) { s with had := x :: s.had } where
  good := ⟨List.nodup_cons.2 ⟨hn, h.good.1⟩, fun y hy => by
    rcases List.mem_cons.1 hy with rfl | hy
    · exact hx
    · exact h.good.2 y hy⟩
  nodup := h.nodup
  sub := fun y hy => List.mem_cons_of_mem _ (h.sub y hy)
  opened := by
    rw [List.map_cons]
    refine List.nodup_cons.2 ⟨fun hm => ?_, h.opened⟩
    obtain ⟨v, hv, e⟩ := List.mem_map.1 hm
    exact hn (by have := (h.walked v hv).1; rw [e] at this; exact this)
  walked := by
    intro v hv
    rcases List.mem_cons.1 hv with rfl | hv
    · exact ⟨List.mem_cons_self, fun ho => hn (h.sub _ ho)⟩
    · exact ⟨List.mem_cons_of_mem _ (h.walked v hv).1, (h.walked v hv).2⟩
theorem Mid.ring {n : Nat} {st : List (Nat × Nat)} {s : St} (h : Mid n st s) : Mid n st { s with ring := true } := ⟨h.good, h.nodup, h.sub, h.opened, h.walked⟩
theorem Mid.next {n o k k' : Nat} {st : List (Nat × Nat)} {s : St} (h : Mid n ((o, k) :: st) s) : Mid n ((o, k') :: st) s :=
  ⟨h.good, h.nodup, h.sub, h.opened, fun v hv => by
    rcases List.mem_cons.1 hv with rfl | hv
    · exact h.walked (o, k) (by simp)
    · exact h.walked v (by simp [hv])⟩
theorem Mid.pop {n o k : Nat} {st : List (Nat × Nat)} {s : St} (h : Mid n ((o, k) :: st) s) : Mid n st { s with out := s.out ++ [o] } := by
  obtain ⟨h1, h2⟩ := h.walked (o, k) (by simp)
  have hn := h.opened
  rw [List.map_cons] at hn
  obtain ⟨h3, h4⟩ := List.nodup_cons.1 hn
  refine ⟨h.good, ?_, ?_, h4, ?_⟩
  · show (s.out ++ [o]).Nodup
    rw [List.nodup_append]
    refine ⟨h.nodup, by simp, fun a ha b hb => ?_⟩
    simp only [List.mem_singleton] at hb
    subst hb
    exact fun e => h2 (e ▸ ha)
  · intro x hx
    rcases List.mem_append.1 hx with hx | hx
    · exact h.sub x hx
    · simp only [List.mem_singleton] at hx
      subst hx
      exact h1
  · intro v hv
    refine ⟨(h.walked v (by simp [hv])).1, fun ho => ?_⟩
    rcases List.mem_append.1 ho with ho | ho
    · exact (h.walked v (by simp [hv])).2 ho
    · simp only [List.mem_singleton] at ho
      exact h3 (List.mem_map.2 ⟨v, hv, ho⟩)

/-- what a walk keeps, but its list -/
structure Me0 (wb : World) (G0 : Nat → Prop) (n : Nat) (I : World → (Nat → Prop) → List Nat → Bool → Prop) (db sb sg ab : Nat) (da : Option Addr) (dc : Nat) (av : Value) (G : Nat → Prop) (L : List Int) (o : List Nat) (r : Bool) (w : World) : Prop where
  deps : InBox w db (.slice da n dc) 22
  sbox : InBox w sb (.slice (some ⟨sg, 0, none⟩) n n) 23
  row : OwnI w wb.heap.size 3 .i64 (.slice (some ⟨sg, 0, none⟩) n n) L
  abox : InBox w ab av 37
  inv : I w G o r
  ge : ∀ g, G g → G0 g ∨ wb.heap.size ≤ g
  out : ¬ G db ∧ ¬ G sb ∧ ¬ G sg ∧ ¬ G ab
  since : Aside G0 wb w
/-- its list -/
structure Li (B : Nat) (G : Nat → Prop) (ob : Nat) (rows : List (List Value)) (w : World) : Prop where
  list : ∃ ao co, InBox w ob (.slice ao rows.length co) 42 ∧ OwnS w B 44 2 (.slice ao rows.length co) rows ∧ ∀ g, (Value.slice ao rows.length co).ownBlock = some g → ¬ G g
  nob : ¬ G ob
  blk : B ≤ ob

section
variable {wb : World} {n : Nat} {I : World → (Nat → Prop) → List Nat → Bool → Prop} {db sb sg ab : Nat} {da : Option Addr} {dc : Nat} {av : Value} {G0 G X : Nat → Prop} {L : List Int} {o : List Nat} {r : Bool} {w w' : World} {B ob : Nat} {rows : List (List Value)}
theorem Aside.then_ {wb : World} {G0 X : Nat → Prop} {w w' : World} (h : Aside G0 wb w) (k : Aside X w w') (h6 : ∀ g, X g → G0 g ∨ wb.heap.size ≤ g) : Aside G0 wb w' :=
  ⟨k.os.trans h.os, k.tape.trans h.tape, k.output.trans h.output, Nat.le_trans h.size k.size, fun g h1 h2 => (k.block g (Nat.lt_of_lt_of_le h1 h.size) (fun h3 => by
    rcases h6 g h3 with h4 | h4
    · exact h2 h4
    · omega)).trans (h.block g h1 h2)⟩
theorem own_aside_s {B sz : Nat} {e : TypeId} {v : Value} {rows : List (List Value)} (ho : OwnS w B e sz v rows) (h : Aside G w w') (hg : ∀ g, v.ownBlock = some g → ¬ G g) : OwnS w' B e sz v rows := ⟨own_aside ho.1 h hg, ho.2⟩
theorem Me0.aside {P : Program} {tf af : FuncId} {tc ac : Array Value} (C : Client P tf tc af ac n I) (h : Me0 wb G0 n I db sb sg ab da dc av G L o r w) (k : Aside X w w') (h1 : ¬ X db) (h2 : ¬ X sb) (h3 : ¬ X sg) (h4 : ¬ X ab) (h5 : ∀ g, X g → ¬ G g) (h6 : ∀ g, X g → G0 g ∨ wb.heap.size ≤ g) : Me0 wb G0 n I db sb sg ab da dc av G L o r w' where
  deps := h.deps.aside k h1
  sbox := h.sbox.aside k h2
  row := own_aside h.row k (fun g hg => by have : sg = g := by simpa [Value.ownBlock] using hg
                                           subst this; exact h3)
  abox := h.abox.aside k h4
  inv := C.aside h.inv (k.mono (fun g _ hg => h5 g hg))
  ge := h.ge
  out := h.out
  since := h.since.then_ k h6
theorem Li.aside (h : Li B G ob rows w) (k : Aside X w w') (h1 : ¬ X ob) (h2 : ∀ g ao co, OwnS w B 44 2 (.slice ao rows.length co) rows → (Value.slice ao rows.length co).ownBlock = some g → ¬ X g) : Li B G ob rows w' := by
  obtain ⟨ao, co, l1, l2, l3⟩ := h.list
  exact ⟨⟨ao, co, l1.aside k h1, own_aside_s l2 k (fun g hg => h2 g ao co l2 hg), l3⟩, h.nob, h.blk⟩
theorem OwnI.free {w : World} {B g m cap : Nat} {e : TypeId} {k : IntKind} {xs : List Int} (h : OwnI w B e k (.slice (some ⟨g, 0, none⟩) m cap) xs) (j : Nat) : w.frozen? ⟨g, j, none⟩ = false := by
  have hn := h.at.1
  subst hn
  exact World.ownsRow.frozenAt h j
theorem Me0.ne (h : Me0 wb G0 n I db sb sg ab da dc av G L o r w) : db ≠ sg ∧ sb ≠ sg ∧ ab ≠ sg := by
  refine ⟨fun e => ?_, fun e => ?_, fun e => ?_⟩
  · exact h.deps.apart h.row (by decide) (by rw [e]; rfl)
  · exact h.sbox.apart h.row (by decide) (by rw [e]; rfl)
  · exact h.abox.apart h.row (by decide) (by rw [e]; rfl)
theorem Me0.set {P : Program} {tf af : FuncId} {tc ac : Array Value} (C : Client P tf tc af ac n I) (h : Me0 wb G0 n I db sb sg ab da dc av G L o r w) (hn : L.length = n) (x : Nat) (z : Int) :
    Me0 wb G0 n I db sb sg ab da dc av G (L.set x z) o r (w.setCell ⟨sg, x, none⟩ (.int .i64 z)) := by
  obtain ⟨e1, e2, e3⟩ := h.ne
  have k : Aside (fun g => g = sg) w (w.setCell ⟨sg, x, none⟩ (.int .i64 z)) := Aside.setCell w ⟨sg, x, none⟩ _
  exact ⟨h.deps.aside k e1, h.sbox.aside k e2, h.row.put hn x z, h.abox.aside k e3, C.aside h.inv (k.mono (fun g _ hg => by subst hg; exact h.out.2.2.1)), h.ge, h.out, h.since.then_ k (fun g hg => by subst hg; exact .inr h.row.blockGe.1)⟩
theorem Me0.li_ne (h : Me0 wb G0 n I db sb sg ab da dc av G L o r w) {v : Value} (hb : InBox w ob v 42) : ob ≠ sg ∧ db ≠ ob ∧ sb ≠ ob ∧ ab ≠ ob :=
  ⟨fun e => hb.apart h.row (by decide) (by rw [e]; rfl), h.deps.ne hb (by decide), h.sbox.ne hb (by decide), h.abox.ne hb (by decide)⟩
theorem Me0.own_ne (h : Me0 wb G0 n I db sb sg ab da dc av G L o r w) {v : Value} (ho : OwnS w B 44 2 v rows) (g : Nat) (hg : v.ownBlock = some g) : db ≠ g ∧ sb ≠ g ∧ sg ≠ g ∧ ab ≠ g := by
  refine ⟨fun e => ?_, fun e => ?_, fun e => ?_, fun e => ?_⟩
  · exact h.deps.apart ho.1 (by decide) (by rw [e]; exact hg)
  · exact h.sbox.apart ho.1 (by decide) (by rw [e]; exact hg)
  · rcases own_apart h.row ho.1 (by decide) with h1 | h1
    · rw [h1] at hg; cases hg
    · exact h1 (by rw [hg, e]; rfl)
  · exact h.abox.apart ho.1 (by decide) (by rw [e]; exact hg)
theorem Li.set (h : Me0 wb G0 n I db sb sg ab da dc av G L o r w) (hl : Li B G ob rows w) (x : Nat) (u : Value) : Li B G ob rows (w.setCell ⟨sg, x, none⟩ u) := by
  obtain ⟨ao, co, l1, l2, l3⟩ := hl.list
  refine hl.aside (X := fun g => g = sg) (Aside.setCell w ⟨sg, x, none⟩ u) (h.li_ne l1).1 (fun g ao co l2 hg e => ?_)
  exact (h.own_ne l2 g hg).2.2.1 e.symm
/-- one of the two function values was called -/
theorem Me0.called {P : Program} {tf af : FuncId} {tc ac : Array Value} (C : Client P tf tc af ac n I) (h : Me0 wb G0 n I db sb sg ab da dc av G L o r w) (hl : Li wb.heap.size G ob rows w) {G' : Nat → Prop} {o' : List Nat} {r' : Bool}
    (hi : I w' G' o' r') (ha : Aside G w w') (hg : ∀ g, G' g → G g ∨ w.heap.size ≤ g) : Me0 wb G0 n I db sb sg ab da dc av G' L o' r' w' ∧ Li wb.heap.size G' ob rows w' := by
  obtain ⟨ao, co, l1, l2, l3⟩ := hl.list
  have no : ∀ b, b < w.heap.size → ¬ G b → ¬ G' b := fun b hb hn hb' => by
    rcases hg b hb' with h1 | h1
    · exact hn h1
    · omega
  obtain ⟨n1, n2, n3, n4⟩ := h.out
  have hrow : ∀ g, (Value.slice (some ⟨sg, 0, none⟩) n n).ownBlock = some g → ¬ G g := fun g hg => by
    have : sg = g := by simpa [Value.ownBlock] using hg
    subst this
    exact n3
  refine ⟨⟨h.deps.aside ha n1, h.sbox.aside ha n2, own_aside h.row ha hrow, h.abox.aside ha n4, hi, fun g h1 => ?_, ⟨no _ h.deps.lt n1, no _ h.sbox.lt n2, no _ h.row.blockGe.2 n3, no _ h.abox.lt n4⟩, h.since.then_ ha h.ge⟩,
    ⟨⟨ao, co, l1.aside ha hl.nob, own_aside_s l2 ha l3, fun g h1 => no g (World.ownsRow.lt l2.1 g h1).2 (l3 g h1)⟩, no _ l1.lt hl.nob, hl.blk⟩⟩
  rcases hg g h1 with h2 | h2
  · exact h.ge g h2
  · exact .inr (Nat.le_trans h.since.size h2)
/-- one more stands in the list -/
theorem Me0.push {P : Program} {tf af : FuncId} {tc ac : Array Value} (C : Client P tf tc af ac n I) (h : Me0 wb G0 n I db sb sg ab da dc av G L o r w) {v : Value} {cs : Array Value} {w6 : World} {m g c : Nat} {row : List Value}
    (hb : InBox w ob v 42) (ho : OwnS w wb.heap.size 44 2 v rows) (hG : ∀ g, v.ownBlock = some g → ¬ G g) (hnob : ¬ G ob) (hblk : wb.heap.size ≤ ob) (hm : rows.length = m)
    (hg : (w.alloc (.cells cs 44)).grownBy w6 v.ownBlock) (ho6 : OwnS w6 wb.heap.size 44 2 (.slice (some ⟨g, 0, none⟩) (m + 1) c) (rows ++ [row])) (hor : v.ownBlock = some g ∨ w.heap.size < g) :
    Me0 wb G0 n I db sb sg ab da dc av G L o r (w6.setCell ⟨ob, 0, none⟩ (.slice (some ⟨g, 0, none⟩) (m + 1) c)) ∧ Li wb.heap.size G ob (rows ++ [row]) (w6.setCell ⟨ob, 0, none⟩ (.slice (some ⟨g, 0, none⟩) (m + 1) c)) := by
  subst hm
  obtain ⟨e1, e2, e3, e4⟩ := h.li_ne hb
  have k1 : Aside (fun y => v.ownBlock = some y) w w6 := ((Aside.alloc w (.cells cs 44)).mono (fun g _ h => h.elim)).trans (Aside.grown hg)
  have k : Aside (fun y => v.ownBlock = some y ∨ y = ob) w (w6.setCell ⟨ob, 0, none⟩ (.slice (some ⟨g, 0, none⟩) (rows.length + 1) c)) := (k1.mono (fun _ _ h => .inl h)).trans ((Aside.setCell w6 ⟨ob, 0, none⟩ _).mono (fun _ _ h => .inr h))
  have hown : ∀ y, v.ownBlock = some y → db ≠ y ∧ sb ≠ y ∧ sg ≠ y ∧ ab ≠ y := fun y hy => h.own_ne ho y hy
  have hbo : v.ownBlock ≠ some ob := hb.apart ho.1 (by decide)
  have hb6 : InBox w6 ob v 42 := hb.aside k1 hbo
  refine ⟨h.aside C k ?_ ?_ ?_ ?_ ?_ ?_, ⟨⟨some ⟨g, 0, none⟩, c, ?_, ?_, ?_⟩, hnob, hblk⟩⟩
  · rintro (h1 | h1)
    · exact (hown _ h1).1 rfl
    · exact e2 h1
  · rintro (h1 | h1)
    · exact (hown _ h1).2.1 rfl
    · exact e3 h1
  · rintro (h1 | h1)
    · exact (hown _ h1).2.2.1 rfl
    · exact e1 h1.symm
  · rintro (h1 | h1)
    · exact (hown _ h1).2.2.2 rfl
    · exact e4 h1
  · rintro y (h1 | rfl)
    · exact hG y h1
    · exact hnob
  · rintro y (h1 | rfl)
    · exact .inr (World.ownsRow.lt ho.1 y h1).1
    · exact .inr hblk
  · rw [List.length_append]
    exact hb6.set _
  · rw [List.length_append]
    exact ho6.setO (hb6.apart ho6.1 (by decide)) _
  · intro y hy
    have : g = y := by simpa [Value.ownBlock] using hy
    subst this
    rcases hor with h1 | h1
    · exact hG g h1
    · exact fun h2 => by have := C.lt h.inv g h2; omega
end

section
variable {P : Program} {w : World} {ops : Array Oper} {rest : List Oper} {o : Oper} {a : Act} {Q : Exit → Act → World → Prop}
/-- an append of a struct, that tells where the row lies now -/
theorem wpList_grow_row_lies (hgd : o.guard = none) (s x : Operand) {t e : TypeId} {z : Value} {sz bytes : Nat} (F : RowSlice P t e z sz bytes)
    (ho : o.op = .call { callee := .builtin .append, args := #[s, x], argTypes := #[t, t] })
    (B : Nat) (v : Value) (rows : List (List Value)) (n : Nat) (r : List Value) (hs : a.eval s = v) (hx : a.eval x = .slice (some ⟨w.heap.size, 0, none⟩) 1 1) (hn : rows.length = n) (hr : r.length = sz) (hr1 : ∀ u ∈ r, u.oneCell' = true)
    (hown : OwnS w B e sz v rows) (h63 : n + 1 ≤ maxLen) (hlen : (n + 1) * bytes ≤ 140737488355328) (hb : B ≤ w.heap.size)
    (h : ∀ g cap w', OwnS w' B e sz (.slice (some ⟨g, 0, none⟩) (n + 1) cap) (rows ++ [r]) → (w.alloc (.cells r.toArray e)).grownBy w' v.ownBlock → (v.ownBlock = some g ∨ w.heap.size < g) → g < w'.heap.size → wpList P ops Q rest (a.put o.dst (.slice (some ⟨g, 0, none⟩) (n + 1) cap)) w') : wpList P ops Q (o :: rest) a (w.alloc (.cells r.toArray e)) := by
  subst hn
  obtain ⟨ht, hinfo, hz, hsz⟩ := F
  obtain ⟨i, hi, hz0, hz1, hz2⟩ := info_parts hinfo
  obtain ⟨hown1, hown2⟩ := hown
  refine wpList_append_lies _ hgd s x t ho B e i z sz bytes ht hi hz0 hz1 hz2 hz hsz v rows.length rows.flatten hs (World.ownsRow.alloc hown1 _) ⟨w.heap.size, 0, none⟩ 1 1 r hx (by rw [hr, Nat.one_mul])
    (fun j u hj => by
      rw [WideShapes.add_plain, World.cell?_alloc_new]
      simpa using hj) hr1 (by decide) h63 hlen (by simp; omega) (w.heap.size + 1) (by simp) ?_
  intro g cap w1 hown' hgr hor hlt
  refine h g cap w1 ⟨?_, fun q hq => ?_⟩ hgr (hor.imp id (fun e => by omega)) hlt
  · rw [List.length_append, List.length_cons, List.length_nil, List.flatten_append, List.flatten_cons, List.flatten_nil, List.append_nil]
    exact hown'
  · rcases List.mem_append.1 hq with h | h
    · exact hown2 q h
    · simp only [List.mem_cons, List.not_mem_nil, or_false] at h
      subst h
      exact hr
end
theorem visits : RowSlice Try.prog 42 44 (.agg #[.int .i64 0, .int .i64 0]) 2 16 := ⟨Try.underlying42, by kernel_rfl, rfl, by omega⟩

/-- in the midst of a walk -/
def Wi (wb : World) (G0 : Nat → Prop) (n : Nat) (I : World → (Nat → Prop) → List Nat → Bool → Prop) (db sb sg ab ob : Nat) (da : Option Addr) (dc : Nat) (av : Value) (st : List (Nat × Nat)) (s : St) (w : World) : Prop :=
  Mid n st s ∧ ∃ G, Me0 wb G0 n I db sb sg ab da dc av G (stateL n s.had s.out) s.out s.ring w ∧ Li wb.heap.size G ob (openRows st) w

theorem dfs_same {deps : List (List Int)} {n : Nat} (hn : deps.length = n) {x : Int} {st : List (Nat × Nat)} {s : St} (h : Good n s.had) : (∃ y : Nat, x = (y : Int) ∧ y < n ∧ y ∉ s.had ∧ resume deps st (dfs deps s x) = resume deps ((y, 0) :: st) { s with had := y :: s.had } ∧ left deps ((y, 0) :: st) { s with had := y :: s.had } = left deps st s) ∨
    (∃ y : Nat, x = (y : Int) ∧ y < n ∧ y ∈ s.had ∧ y ∈ s.out ∧ dfs deps s x = s) ∨ (∃ y : Nat, x = (y : Int) ∧ y < n ∧ y ∈ s.had ∧ y ∉ s.out ∧ dfs deps s x = { s with ring := true }) ∨ (isObj n x = false ∧ dfs deps s x = s) := by
  subst hn
  cases ho : isObj deps.length x with
  | false => exact .inr (.inr (.inr ⟨rfl, dfs_no ho⟩))
  | true =>
    obtain ⟨h0, hxn⟩ := isObj_iff.1 ho
    obtain ⟨y, rfl⟩ := Int.eq_ofNat_of_zero_le h0
    rw [Int.toNat_natCast] at hxn
    by_cases hy : y ∈ s.had
    · by_cases hyo : y ∈ s.out
      · exact .inr (.inl ⟨y, rfl, hxn, hy, hyo, dfs_had_out h hxn hy hyo⟩)
      · exact .inr (.inr (.inl ⟨y, rfl, hxn, hy, hyo, dfs_again h hxn hy hyo⟩))
    · exact .inl ⟨y, rfl, hxn, hy, dfs_new h hxn hy st, left_new hxn hy st⟩

/-- what an entering leaves -/
def EnterAns (wb : World) (G0 : Nat → Prop) (deps : List (List Int)) (n : Nat) (I : World → (Nat → Prop) → List Nat → Bool → Prop) (db sb sg ab ob : Nat) (da : Option Addr) (dc : Nat) (av : Value) (R : St) (m : Nat) (e : Ending) (w' : World) : Prop :=
  e = .returned (.tuple #[]) ∧ ∃ st s, Wi wb G0 n I db sb sg ab ob da dc av st s w' ∧ resume deps st s = R ∧ left deps st s = m

set_option maxRecDepth 100000 in
set_option maxHeartbeats 4000000 in
theorem enter_any {tf af : FuncId} {tc ac : Array Value} {I : World → (Nat → Prop) → List Nat → Bool → Prop} (wb w : World) (G0 : Nat → Prop) (deps : List (List Int)) (n db sb sg ab ob : Nat) (da : Option Addr) (dc : Nat) (st : List (Nat × Nat)) (s : St) (x : Int) (C : Client Try.prog tf tc af ac n I)
    (hnn : deps.length = n) (hn : n ≤ 1048576) (h : Wi wb G0 n I db sb sg ab ob da dc (.func (.func af) #[] ac) st s w) :
    Calls Try.prog 29 #[.int .i64 x, .pointer (some ⟨db, 0, none⟩), .pointer (some ⟨sb, 0, none⟩), .pointer (some ⟨ob, 0, none⟩), .pointer (some ⟨ab, 0, none⟩)] w
      (EnterAns wb G0 deps n I db sb sg ab ob da dc (.func (.func af) #[] ac) (resume deps st (dfs deps s x)) (left deps st s)) := by
  have CC := Lib.hid C
  have H := Lib.hid h
  obtain ⟨hmid, G, hme, hli⟩ := h
  have HM := Lib.hid hmid
  have ME := Lib.hid hme
  have LI := Lib.hid hli
  have hd := hme.deps.cell
  rcases dfs_same hnn (x := x) (st := st) hmid.good with ⟨y, rfl, hy, hyh, e1, e2⟩ | ⟨y, rfl, hy, hyh, hyo, e1⟩ | ⟨y, rfl, hy, hyh, hyo, e1⟩ | ⟨ho, e1⟩
  · have hob : isObj n (y : Int) = true := isObj_iff.2 ⟨by omega, by simpa using hy⟩
    have HE : Hid (∀ w', Wi wb G0 n I db sb sg ab ob da dc (.func (.func af) #[] ac) ((y, 0) :: st) { s with had := y :: s.had } w' → EnterAns wb G0 deps n I db sb sg ab ob da dc (.func (.func af) #[] ac) (resume deps st (dfs deps s (y : Int))) (left deps st s) (.returned (.tuple #[])) w') := Lib.hid (fun w' hw => ⟨rfl, _, _, hw, e1.symm, e2⟩)
    have hyo : y ∉ s.out := fun h => hyh (hmid.sub y h)
    have HMI := Lib.hid (hmid.enter hy hyh)
    have ME1 : Hid (Me0 wb G0 n I db sb sg ab da dc (.func (.func af) #[] ac) G (stateL n (y :: s.had) s.out) s.out s.ring (w.setCell ⟨sg, y, none⟩ (.int .i64 1))) := Lib.hid (by
      have := hme.set C (stateL_length _ _ _) y 1
      rwa [stateL_enter hy hyo] at this)
    have LI1 : Hid (Li wb.heap.size G ob (openRows st) (w.setCell ⟨sg, y, none⟩ (.int .i64 1))) := Lib.hid (Li.set hme hli y _)
    have hs0 := hme.sbox.cell
    have hst : w.cell? ⟨sg, y, none⟩ = some (.int .i64 0) := hme.row.get y 0 (by rw [stateL_at _ _ hy]; simp [stateOf, hyo, hyh])
    have hsf : w.frozen? ⟨sg, y, none⟩ = false := hme.row.free y
    obtain ⟨ao, co, l1, l2, l3⟩ := LI1.out.list
    have LB := Lib.hid l1
    have LO := Lib.hid l2
    have LG := Lib.hid l3
    have lc := l1.cell
    have lb0 : w.cell? ⟨ob, 0, none⟩ = some (.slice ao (openRows st).length co) := by
      obtain ⟨ao', co', q1, q2, q3⟩ := hli.list
      have := (q1.aside (Aside.setCell w ⟨sg, y, none⟩ (.int .i64 1)) (hme.li_ne q1).1).cell
      rw [lc] at this
      rw [q1.cell, this]
    have hne := (hme.li_ne (ob := ob) hli.list.choose_spec.choose_spec.1).1
    have hne' := Ne.symm hne
    have hstl := nodup_le hmid.stGood
    have HZ : Hid (wb.heap.size ≤ (w.setCell ⟨sg, y, none⟩ (.int .i64 1)).heap.size) := Lib.hid (by simp [World.setCell]; exact hme.since.size)
    rw [List.length_map] at hstl
    have hrl : (openRows st).length = st.length := openRows_length st
    have HRL := Lib.hid hrl
    have HA3 := Lib.hid (l1.apart l2.1 (show 44 ≠ 42 by decide))
    rw [hrl] at lb0 LB LO LG lc HA3
    clear e1 e2 hmid hme hli C hnn hyh hyo l1 l2 l3 hrl
    go_enter Try.func29, Try.ntmps29
    go_wp2_with fail
    refine (isObject_any da n dc (y : Int) w hn).mono ?_
    rintro e w5 ⟨rfl, rfl⟩
    rw [hob]
    clear hob
    go_wp2_with (at_builtin; go_loud (refine wpList_grow_row_lies rfl (.tmp 19) (.tmp 22) visits rfl wb.heap.size (.slice ao st.length co) (openRows st) st.length [.int .i64 (y : Int), .int .i64 0] rfl (by change Value.slice (some ⟨w.heap.size, 0, none⟩) 1 1 = _; simp [World.setCell]) HRL.out rfl (by simp [Value.oneCell']) LO.out (by unfold maxLen; omega) (by omega) HZ.out ?_); intro g5 c5 w6 hown5 hgr5 hor5 hlt5; have O5 := Lib.hid hown5; have G5 := Lib.hid hgr5; have R5 := Lib.hid hor5; have hb6 := ((LB.out.alloc (.cells #[.int .i64 (y : Int), .int .i64 0] 44)).grown hgr5 HA3.out); have hc6 := hb6.cell; have hf6 := hb6.free; clear hown5 hgr5 hor5 hlt5 hb6)
    go_returns
    obtain ⟨m1, m2⟩ := ME1.out.push CC.out LB.out LO.out LG.out LI1.out.nob LI1.out.blk HRL.out G5.out O5.out R5.out
    refine HE.out _ ⟨HMI.out, G, m1, ?_⟩
    rw [openRows_cons]
    exact m2
  · have hob : isObj n (y : Int) = true := isObj_iff.2 ⟨by omega, by simpa using hy⟩
    have HE : Hid (EnterAns wb G0 deps n I db sb sg ab ob da dc (.func (.func af) #[] ac) (resume deps st (dfs deps s (y : Int))) (left deps st s) (.returned (.tuple #[])) w) := Lib.hid ⟨rfl, st, s, H.out, by rw [e1], rfl⟩
    have hs0 := hme.sbox.cell
    have hst : w.cell? ⟨sg, y, none⟩ = some (.int .i64 2) := hme.row.get y 2 (by rw [stateL_at _ _ hy]; simp [stateOf, hyo])
    clear e1 hmid hme hli C hnn hyh hyo
    go_enter Try.func29, Try.ntmps29
    go_wp2_with fail
    refine (isObject_any da n dc (y : Int) w hn).mono ?_
    rintro e w5 ⟨rfl, rfl⟩
    rw [hob]
    clear hob
    go_wp2
    go_returns
    exact HE.out
  · have hob : isObj n (y : Int) = true := isObj_iff.2 ⟨by omega, by simpa using hy⟩
    have HE : Hid (∀ w', Wi wb G0 n I db sb sg ab ob da dc (.func (.func af) #[] ac) st { s with ring := true } w' → EnterAns wb G0 deps n I db sb sg ab ob da dc (.func (.func af) #[] ac) (resume deps st (dfs deps s (y : Int))) (left deps st s) (.returned (.tuple #[])) w') := Lib.hid (fun w' hw => ⟨rfl, _, _, hw, by rw [e1], rfl⟩)
    have hs0 := hme.sbox.cell
    have ha0 := hme.abox.cell
    have hst : w.cell? ⟨sg, y, none⟩ = some (.int .i64 1) := hme.row.get y 1 (by rw [stateL_at _ _ hy]; simp [stateOf, hyo, hyh])
    have CA := Lib.hid (C.again y hme.inv hy)
    clear e1 hmid hme hli C hnn hyh hyo
    go_enter Try.func29, Try.ntmps29
    go_wp2_with fail
    refine (isObject_any da n dc (y : Int) w hn).mono ?_
    rintro e w5 ⟨rfl, rfl⟩
    rw [hob]
    clear hob
    go_wp2_with fail
    rw [CC.out.againRun, Oper.upon_enter]
    refine CA.out.mono ?_
    rintro e w6 ⟨rfl, G', hI', hA', hG'⟩
    have I6 := Lib.hid hI'
    have A6 := Lib.hid hA'
    have G6 := Lib.hid hG'
    clear hI' hA' hG'
    go_wp2
    go_returns
    refine HE.out _ ⟨HM.out.ring, G', ?_⟩
    exact Me0.called CC.out ME.out LI.out I6.out A6.out G6.out
  · have HE : Hid (EnterAns wb G0 deps n I db sb sg ab ob da dc (.func (.func af) #[] ac) (resume deps st (dfs deps s x)) (left deps st s) (.returned (.tuple #[])) w) := Lib.hid ⟨rfl, st, s, H.out, by rw [e1], rfl⟩
    clear e1 hmid hme hli C hnn
    go_enter Try.func29, Try.ntmps29
    go_wp2_with fail
    refine (isObject_any da n dc x w hn).mono ?_
    rintro e w5 ⟨rfl, rfl⟩
    rw [ho]
    clear ho
    go_wp2
    go_returns
    exact HE.out
end Go.Proofs.Ytfckgagpfpnelaa
