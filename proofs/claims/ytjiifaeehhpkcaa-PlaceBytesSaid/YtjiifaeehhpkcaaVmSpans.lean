/- Layer 2: which spans pages make: the mathematics. Nothing of the program is named. -/
import Derived.Test.YtjiifaeehhpkcaaBase
import Derived.Test.YtjiifaeehhpkcaaGrow
import Derived.Deep.AppendLies
import Derived.Deep.RegionHeld3
import Derived.Test.YtjiifaeehhpkcaaOwnPut
import Derived.Test.YtjiifaeehhpkcaaVmNum
import Derived.Test.YtjiifaeehhpkcaaVmRead
import Derived.Deep.DeepCutAuto
import Derived.BigQuiet
namespace Go.Proofs.Ytjiifaeehhpkcaa
open Go.RowKit
set_option linter.unusedVariables false
set_option linter.unusedSimpArgs false

/-- a span: its address, its pages, its permission -/
structure SpD where
  addr : Nat
  pages : Nat
  perm : Nat
def SpD.row (s : SpD) : List Value := [.int .u64 (s.addr : Int), .int .i64 (s.pages : Int), .int .i64 (s.perm : Int)]
/-- does a page go on with a span? -/
def SpD.goes (s : SpD) (n perm : Nat) : Bool := decide (s.perm = perm ∧ s.addr + s.pages * 4096 = n * 4096)
/-- a page more -/
def spAdd (l : List SpD) (n perm : Nat) : List SpD := match l.getLast? with
  | none => [⟨n * 4096, 1, perm⟩]
  | some s => if s.goes n perm then l.set (l.length - 1) ⟨s.addr, s.pages + 1, s.perm⟩ else l ++ [⟨n * 4096, 1, perm⟩]
/-- the spans of pages, in their order -/
def spansF (perm : Nat → Nat) : List Nat → List SpD → List SpD
  | [], l => l
  | n :: r, l => spansF perm r (spAdd l n (perm n))
theorem spAdd_nil (n perm : Nat) : spAdd [] n perm = [⟨n * 4096, 1, perm⟩] := rfl
theorem spAdd_on {l : List SpD} {s : SpD} {n perm : Nat} (hl : l.getLast? = some s) (h : s.perm = perm ∧ s.addr + s.pages * 4096 = n * 4096) : spAdd l n perm = l.set (l.length - 1) ⟨s.addr, s.pages + 1, s.perm⟩ := by
  unfold spAdd
  rw [hl]
  show (if s.goes n perm = true then _ else _) = _
  rw [if_pos (show s.goes n perm = true from decide_eq_true h)]
theorem spAdd_new {l : List SpD} {s : SpD} {n perm : Nat} (hl : l.getLast? = some s) (h : ¬ (s.perm = perm ∧ s.addr + s.pages * 4096 = n * 4096)) : spAdd l n perm = l ++ [⟨n * 4096, 1, perm⟩] := by
  unfold spAdd
  rw [hl]
  show (if s.goes n perm = true then _ else _) = _
  rw [if_neg (by unfold SpD.goes; rw [decide_eq_false h]; simp)]
theorem spAdd_length (l : List SpD) (n perm : Nat) : (spAdd l n perm).length ≤ l.length + 1 := by
  cases hl : l.getLast? with
  | none =>
    unfold spAdd
    rw [hl]
    simp
  | some s =>
    by_cases h : s.perm = perm ∧ s.addr + s.pages * 4096 = n * 4096
    · rw [spAdd_on hl h, List.length_set]; omega
    · rw [spAdd_new hl h]; simp
theorem spansF_snoc (perm : Nat → Nat) : ∀ (xs : List Nat) (n : Nat) (l : List SpD), spansF perm (xs ++ [n]) l = spAdd (spansF perm xs l) n (perm n)
  | [], n, l => rfl
  | x :: xs, n, l => spansF_snoc perm xs n (spAdd l x (perm x))
end Go.Proofs.Ytjiifaeehhpkcaa
/- append of a struct to a slice of structs that a call makes itself, as one step of a statement whose order is left open. Nothing of the program is named. -/
namespace Go.Proofs.Ytjiifaeehhpkcaa
open Go.RowKit
set_option linter.unusedVariables false
set_option linter.unusedSimpArgs false

theorem step_push_row {P : Program} {w : World} {ops : Array Oper} {o : Oper} {a : Act} {K : Act → World → Prop} {Q : Exit → Act → World → Prop} {E : Prop} (hgd : o.guard = none) (s x : Operand) {t e : TypeId} {z : Value} {sz bytes : Nat} (F : RowSlice P t e z sz bytes)
    (ho : o.op = .call { callee := .builtin .append, args := #[s, x], argTypes := #[t, t] })
    (B : Nat) (w0 : World) (v : Value) (rows : List (List Value)) (n : Nat) (r : List Value) (hs : a.eval s = v) (ad : Addr) (c : Nat) (hx : a.eval x = .slice (some ad) 1 c) (hnews : ∀ j u, r[j]? = some u → w.cell? (ad.add j) = some u)
    (hn : rows.length = n) (hr : r.length = sz) (hr1 : ∀ u ∈ r, u.oneCell' = true)
    (hown : OwnS w B e sz v rows) (h63 : n + 1 ≤ maxLen) (hlen : (n + 1) * bytes ≤ 140737488355328) (bel : Below B w0 w) (hb : B ≤ w.heap.size)
    (h : ∀ ad' cap w', OwnS w' B e sz (.slice ad' (n + 1) cap) (rows ++ [r]) → Below B w0 w' → K (a.put o.dst (.slice ad' (n + 1) cap)) w') :
    if Region.wanted o (yielded ops a.tmps) = true then Oper.wp P o a w K Q else E := by
  subst hn
  obtain ⟨ht, hinfo, hz, hsz⟩ := F
  obtain ⟨i, hi, hz0, hz1, hz2⟩ := info_parts hinfo
  obtain ⟨hown1, hown2⟩ := hown
  refine step_append_lies _ hgd s x t ho B e i z sz bytes ht hi hz0 hz1 hz2 hz hsz v rows.length rows.flatten hs hown1 ad 1 c r hx (by rw [hr, Nat.one_mul]) hnews hr1 (by omega) h63 hlen hb _ rfl ?_
  intro g cap w1 hown' hgr _ _
  refine h (some ⟨g, 0, none⟩) cap w1 ⟨?_, fun q hq => ?_⟩ (bel.grown hgr hb fun j hj => (World.ownsRow.lt hown1 j hj).1)
  · rw [List.length_append, List.length_cons, List.length_nil, List.flatten_append, List.flatten_cons, List.flatten_nil, List.append_nil]
    exact hown'
  · rcases List.mem_append.1 hq with h | h
    · exact hown2 q h
    · simp only [List.mem_cons, List.not_mem_nil, or_false] at h
      subst h
      exact hr
theorem step_grow_row {P : Program} {w : World} {ops : Array Oper} {o : Oper} {a : Act} {K : Act → World → Prop} {Q : Exit → Act → World → Prop} {E : Prop} (hgd : o.guard = none) (s x : Operand) {t e : TypeId} {z : Value} {sz bytes : Nat} (F : RowSlice P t e z sz bytes)
    (ho : o.op = .call { callee := .builtin .append, args := #[s, x], argTypes := #[t, t] })
    (B : Nat) (v : Value) (rows : List (List Value)) (n : Nat) (r : List Value) (hs : a.eval s = v) (ad : Addr) (c : Nat) (hx : a.eval x = .slice (some ad) 1 c) (hnews : ∀ j u, r[j]? = some u → w.cell? (ad.add j) = some u)
    (hn : rows.length = n) (hr : r.length = sz) (hr1 : ∀ u ∈ r, u.oneCell' = true)
    (hown : OwnS w B e sz v rows) (h63 : n + 1 ≤ maxLen) (hlen : (n + 1) * bytes ≤ 140737488355328) (hb : B ≤ w.heap.size)
    (h : ∀ ad' cap w', OwnS w' B e sz (.slice ad' (n + 1) cap) (rows ++ [r]) → w.grownBy w' v.ownBlock → K (a.put o.dst (.slice ad' (n + 1) cap)) w') :
    if Region.wanted o (yielded ops a.tmps) = true then Oper.wp P o a w K Q else E := by
  subst hn
  obtain ⟨ht, hinfo, hz, hsz⟩ := F
  obtain ⟨i, hi, hz0, hz1, hz2⟩ := info_parts hinfo
  obtain ⟨hown1, hown2⟩ := hown
  refine step_append_lies _ hgd s x t ho B e i z sz bytes ht hi hz0 hz1 hz2 hz hsz v rows.length rows.flatten hs hown1 ad 1 c r hx (by rw [hr, Nat.one_mul]) hnews hr1 (by omega) h63 hlen hb _ rfl ?_
  intro g cap w1 hown' hgr _ _
  refine h (some ⟨g, 0, none⟩) cap w1 ⟨?_, fun q hq => ?_⟩ hgr
  · rw [List.length_append, List.length_cons, List.length_nil, List.flatten_append, List.flatten_cons, List.flatten_nil, List.append_nil]
    exact hown'
  · rcases List.mem_append.1 hq with h | h
    · exact hown2 q h
    · simp only [List.mem_cons, List.not_mem_nil, or_false] at h
      subst h
      exact hr
theorem news_alloc (w : World) (r : List Value) (T : TypeId) : ∀ j u, r[j]? = some u → (w.alloc (.cells r.toArray T)).cell? ((⟨w.heap.size, 0, none⟩ : Addr).add j) = some u := fun j u hu => by
  rw [WideShapes.add_plain, World.cell?_alloc_new]
  simpa using hu
end Go.Proofs.Ytjiifaeehhpkcaa
/- append of a struct to an own slice, and where the new slice lies. Nothing of the program is named. -/
namespace Go.Proofs.Ytjiifaeehhpkcaa
open Go.RowKit
set_option linter.unusedVariables false
set_option linter.unusedSimpArgs false

theorem own_snoc {w : World} {B : Nat} {e : TypeId} {sz : Nat} {g : Option Addr} {n cap : Nat} {rows : List (List Value)} {r : List Value} (hown' : w.ownsRow B e sz (.slice g (n + 1) cap) (n + 1) (rows.flatten ++ r)) (h2 : ∀ q ∈ rows, q.length = sz) (hr : r.length = sz) (hn : rows.length = n) : OwnS w B e sz (.slice g (n + 1) cap) (rows ++ [r]) := by
  subst hn
  refine ⟨?_, fun q hq => ?_⟩
  · rw [List.length_append, List.length_cons, List.length_nil, List.flatten_append, List.flatten_cons, List.flatten_nil, List.append_nil]
    exact hown'
  · rcases List.mem_append.1 hq with h | h
    · exact h2 q h
    · simp only [List.mem_cons, List.not_mem_nil, or_false] at h
      subst h
      exact hr
theorem step_lies_row {P : Program} {w : World} {ops : Array Oper} {o : Oper} {a : Act} {K : Act → World → Prop} {Q : Exit → Act → World → Prop} {E : Prop} (hgd : o.guard = none) (s x : Operand) {t e : TypeId} {z : Value} {sz bytes : Nat} (F : RowSlice P t e z sz bytes)
    (ho : o.op = .call { callee := .builtin .append, args := #[s, x], argTypes := #[t, t] })
    (B : Nat) (v : Value) (rows : List (List Value)) (n : Nat) (r : List Value) (hs : a.eval s = v) (ad : Addr) (c : Nat) (hx : a.eval x = .slice (some ad) 1 c) (hnews : ∀ j u, r[j]? = some u → w.cell? (ad.add j) = some u)
    (hn : rows.length = n) (hr : r.length = sz) (hr1 : ∀ u ∈ r, u.oneCell' = true)
    (hown : OwnS w B e sz v rows) (h63 : n + 1 ≤ maxLen) (hlen : (n + 1) * bytes ≤ 140737488355328) (hb : B ≤ w.heap.size) (H : Nat) (hH : w.heap.size = H)
    (h : ∀ g cap w', OwnS w' B e sz (.slice (some ⟨g, 0, none⟩) (n + 1) cap) (rows ++ [r]) → w.grownBy w' v.ownBlock → (v.ownBlock = some g ∨ g = H) → K (a.put o.dst (.slice (some ⟨g, 0, none⟩) (n + 1) cap)) w') :
    if Region.wanted o (yielded ops a.tmps) = true then Oper.wp P o a w K Q else E := by
  obtain ⟨ht, hinfo, hz, hsz⟩ := F
  obtain ⟨i, hi, hz0, hz1, hz2⟩ := info_parts hinfo
  obtain ⟨hown1, hown2⟩ := hown
  rw [hn] at hown1
  refine step_append_lies _ hgd s x t ho B e i z sz bytes ht hi hz0 hz1 hz2 hz hsz v n rows.flatten hs hown1 ad 1 c r hx (by rw [hr, Nat.one_mul]) hnews hr1 (by omega) h63 hlen hb H hH ?_
  intro g cap w1 hown' hgr hat _
  exact h g cap w1 (own_snoc hown' hown2 hr hn) hgr hat
theorem wpList_lies_row {P : Program} {w : World} {ops : Array Oper} {rest : List Oper} {o : Oper} {a : Act} {Q : Exit → Act → World → Prop} (hgd : o.guard = none) (s x : Operand) {t e : TypeId} {z : Value} {sz bytes : Nat} (F : RowSlice P t e z sz bytes)
    (ho : o.op = .call { callee := .builtin .append, args := #[s, x], argTypes := #[t, t] })
    (B : Nat) (v : Value) (rows : List (List Value)) (n : Nat) (r : List Value) (hs : a.eval s = v) (ad : Addr) (c : Nat) (hx : a.eval x = .slice (some ad) 1 c) (hnews : ∀ j u, r[j]? = some u → w.cell? (ad.add j) = some u)
    (hn : rows.length = n) (hr : r.length = sz) (hr1 : ∀ u ∈ r, u.oneCell' = true)
    (hown : OwnS w B e sz v rows) (h63 : n + 1 ≤ maxLen) (hlen : (n + 1) * bytes ≤ 140737488355328) (hb : B ≤ w.heap.size) (H : Nat) (hH : w.heap.size = H)
    (h : ∀ g cap w', OwnS w' B e sz (.slice (some ⟨g, 0, none⟩) (n + 1) cap) (rows ++ [r]) → w.grownBy w' v.ownBlock → (v.ownBlock = some g ∨ g = H) → wpList P ops Q rest (a.put o.dst (.slice (some ⟨g, 0, none⟩) (n + 1) cap)) w') :
    wpList P ops Q (o :: rest) a w := by
  obtain ⟨ht, hinfo, hz, hsz⟩ := F
  obtain ⟨i, hi, hz0, hz1, hz2⟩ := info_parts hinfo
  obtain ⟨hown1, hown2⟩ := hown
  rw [hn] at hown1
  refine wpList_append_lies _ hgd s x t ho B e i z sz bytes ht hi hz0 hz1 hz2 hz hsz v n rows.flatten hs hown1 ad 1 c r hx (by rw [hr, Nat.one_mul]) hnews hr1 (by omega) h63 hlen hb H hH ?_
  intro g cap w1 hown' hgr hat _
  exact h g cap w1 (own_snoc hown' hown2 hr hn) hgr hat
end Go.Proofs.Ytjiifaeehhpkcaa
/- One cell of an own slice of structs is written. Nothing of the program is named. -/
namespace Go.Proofs.Ytjiifaeehhpkcaa
open Go.RowKit
set_option linter.unusedVariables false
set_option linter.unusedSimpArgs false

theorem set_rows {sz : Nat} (rows : List (List Value)) (h : ∀ r ∈ rows, r.length = sz) (k j : Nat) (hk : k < rows.length) (hj : j < sz) (v : Value) : rows.flatten.set (k * sz + j) v = (rows.set k (rows[k].set j v)).flatten := by
  have hs : 0 < sz := by omega
  have hrk := h _ (List.getElem_mem hk)
  have h' : ∀ q ∈ rows.set k (rows[k].set j v), q.length = sz := fun q hq => by
    rcases List.mem_or_eq_of_mem_set hq with h1 | h1
    · exact h q h1
    · rw [h1, List.length_set]; exact hrk
  apply List.ext_getElem?
  intro m
  by_cases hm : m < rows.length * sz
  · obtain ⟨hi, hj', e⟩ := flatten_get hs rows h m hm
    obtain ⟨hi', -, e'⟩ := flatten_get hs _ h' m (by simpa using hm)
    rw [e', List.getElem?_set, e, flatten_len rows h]
    have hd := Nat.div_add_mod m sz
    by_cases hmk : m / sz = k
    · have hz : (rows.set k (rows[k].set j v))[m / sz] = rows[k].set j v := by
        rw [List.getElem_set]
        simp [hmk]
      have hz2 : rows[m / sz] = rows[k] := by simp [hmk]
      rw [hz, hz2, List.getElem?_set]
      rw [hmk, Nat.mul_comm] at hd
      by_cases hmj : m % sz = j
      · rw [if_pos (by omega), if_pos (by omega), if_pos hmj.symm, if_pos (by omega)]
      · rw [if_neg (by omega), if_neg (fun h => hmj h.symm)]
    · have hz : (rows.set k (rows[k].set j v))[m / sz] = rows[m / sz] := by
        rw [List.getElem_set]
        simp [Ne.symm hmk]
      rw [hz, if_neg (by
        intro hh
        apply hmk
        rw [← hh]
        refine Nat.div_eq_of_lt_le (by omega) ?_
        rw [Nat.add_mul]
        omega)]
  · rw [List.getElem?_eq_none (by rw [List.length_set, flatten_len rows h]; omega), List.getElem?_eq_none (by rw [flatten_len _ h']; simpa using hm)]
theorem OwnS.putCell {w : World} {B : Nat} {e : TypeId} {sz g n cap : Nat} {rows : List (List Value)} (h : OwnS w B e sz (.slice (some ⟨g, 0, none⟩) n cap) rows) (k j : Nat) (hk : k < rows.length) (hj : j < sz) (v : Value) :
    OwnS (w.setCell ⟨g, k * sz + j, none⟩ v) B e sz (.slice (some ⟨g, 0, none⟩) n cap) (rows.set k (rows[k].set j v)) := by
  have hn := h.at.1
  obtain ⟨h1, h2⟩ := h
  rw [← hn] at h1
  have h3 := (World.ownsRow.stored h1 (k * sz + j) v).1
  refine ⟨?_, fun q hq => ?_⟩
  · rw [List.length_set, ← hn, ← set_rows rows h2 k j hk hj v]
    exact h3
  · rcases List.mem_or_eq_of_mem_set hq with h5 | h5
    · exact h2 q h5
    · rw [h5, List.length_set]; exact h2 _ (List.getElem_mem hk)

end Go.Proofs.Ytjiifaeehhpkcaa
/- Layer 2: Spans: of at most twelve pages. -/
namespace Go.Proofs.Ytjiifaeehhpkcaa
open Go.RowKit
set_option linter.unusedVariables false
set_option linter.unusedSimpArgs false

def spNil : List Value := [.int .u64 0, .int .i64 0, .int .i64 0]
theorem spanSlice : RowSlice Try.prog 64 67 (.agg spNil.toArray) 3 24 := ⟨Try.underlying64, by kernel_rfl, rfl, by omega⟩
/-- a page's permission -/
def permF (V : Nat → Option Pg) (k : Nat) : Nat := ((V k).map Pg.perm).getD 0

set_option maxRecDepth 100000 in
set_option maxHeartbeats 16000000 in
theorem spans_small (mb : Nat) (S : Nat → Prop) (q c : Nat) (V : Nat → Option Pg) (g : Nat) (F : Nat → Option Nat) (w : World) (h : VmAt w mb S q c V g F) (hc : c ≤ 12) :
    Calls Try.prog 17 #[.pointer (some ⟨mb, 0, none⟩)] w fun e w' => ∃ ad cp xs, (AllOf (fun k => V k ≠ none) c xs ∧ UpTo xs xs.length) ∧ e = .returned (.slice ad (spansF (permF V) xs []).length cp) ∧ OwnS w' w.heap.size 67 3 (.slice ad (spansF (permF V) xs []).length cp) ((spansF (permF V) xs []).map SpD.row) ∧ Below w.heap.size w w' := by
  have H := Lib.hid h
  have HNU := Lib.hid (numbers_small mb S q c V g F w h hc)
  have HC := Lib.hid hc
  clear h hc
  go_enter Try.func17, Try.ntmps17
  go_wp2_with fail
  refine HNU.out.mono ?_
  rintro e w1 ⟨v, xs, rfl, hall, hown, hb1⟩
  rw [enc_toI2] at hown
  have hown2 : OwnI w1 w.heap.size 22 .u64 v (toI xs) := by
    unfold OwnI
    rw [toI_length]
    exact hown
  obtain ⟨ra, rc, rfl, hrw, -, -, -⟩ := hown2.row
  rw [toI_length]
  have B1 := Lib.hid hb1
  have HROW := Lib.hid hrw
  have HALL := Lib.hid hall
  have H1 := Lib.hid (H.out.below hb1)
  have HM12 : Hid (xs.length ≤ 12) := Lib.hid (Nat.le_trans hall.1.2.2 HC.out)
  obtain ⟨m, hm⟩ : ∃ m, xs.length = m := ⟨_, rfl⟩
  rw [hm] at HM12 ⊢
  have HM := Lib.hid hm
  clear hown hown2 hrw hb1 hall hm HNU H
  go_wp2_with fail
  go_loopg [3, 5, 6, 7, 8, 12] m (fun f s3 s5 s6 s7 s8 s12 wr => ∃ (k : Nat) (l : List SpD) (ad : Option Addr) (cp : Nat), s12 = .int .i64 (k : Int) ∧ s3 = .slice ad l.length cp ∧ Hid (k + f = m ∧ l = spansF (permF V) (xs.take k) [] ∧ l.length ≤ k ∧ ∀ s ∈ l, s.addr ≤ 140737488355328 ∧ s.pages ≤ k) ∧ Hid (OwnS wr w1.heap.size 67 3 (.slice ad l.length cp) (l.map SpD.row)) ∧ Hid (Below w1.heap.size w1 wr))
  case atStart => exact ⟨0, [], none, 0, rfl, rfl, Lib.hid ⟨by omega, rfl, by simp, fun s hs => by cases hs⟩, Lib.hid (OwnS.nil _ _ _ _), Lib.hid (Below.refl _ _)⟩
  case round =>
    obtain ⟨k, l, ad, cp, rfl, rfl, HK, OW, BW⟩ := hrel
    obtain ⟨hk1, hk2, hk3, hk4⟩ := HK.out
    cases gk with
    | zero =>
      obtain rfl : k = m := by omega
      have HF : Hid (l = spansF (permF V) xs []) := Lib.hid (by rw [hk2, List.take_of_length_le (by have := HM.out; omega)])
      clear hk1 hk2 hk3 hk4 HK
      go_wp2_with fail
      go_ret
      refine ⟨ad, cp, xs, HALL.out, by rw [← HF.out]; rfl, ?_, B1.out.trans (BW.out.mono B1.out.size)⟩
      rw [← HF.out]
      exact OW.out.mono B1.out.size
    | succ f =>
      have hkm : (k : Int) < (m : Int) := by omega
      have hkx : k < xs.length := by rw [HM.out]; omega
      obtain ⟨n, hn⟩ : ∃ n, xs[k] = n := ⟨_, rfl⟩
      have hvn : V n ≠ none := (HALL.out.1.2.1 n).1 (by rw [← hn]; exact List.getElem_mem hkx)
      have hn35 := H1.out.low n hvn
      obtain ⟨p, hp⟩ : ∃ p, V n = some p := by
        cases hv : V n with
        | none => exact absurd hv hvn
        | some p => exact ⟨p, rfl⟩
      have hVr := H1.out.below BW.out.drew
      obtain ⟨b, hf, -, hok, hpb⟩ := hVr.at_page hp
      have m1 : wr.drew.cell? ⟨mb, 1, none⟩ = some (.map (some g)) := by rw [cell_of_row _ _ 1 _ _ _ hVr.box]; rfl
      have hl0 := hVr.map.look (T := 75) Try.underlying22 Try.underlying75 (page_zero wr.drew) (k := n) (by omega)
      rw [hf] at hl0
      have hl : (Instr.lookup 75 (.map (some g)) (.int .u64 (n : Int)) false).run Try.prog wr.drew = .ok (.pointer (some ⟨b, 0, none⟩)) wr.drew := hl0
      have hpp := page_perm hok hpb
      have hpm := hok.perm
      have HPF : Hid (permF V n = p.perm) := Lib.hid (by unfold permF; rw [hp]; rfl)
      obtain ⟨rb, ro, rfl, hrc⟩ := HROW.out k (by rw [toI_length]; exact hkx)
      have q0 : wr.cell? ⟨rb, ro + k, none⟩ = some (.int .u64 (n : Int)) := by
        rw [BW.out.cell (p := ⟨rb, ro + k, none⟩) (by simpa using World.block_lt_of_cell? w1 _ hrc), hrc, toI_getD, getD_getElem hkx, hn]
      have HL1 : Hid (spansF (permF V) (xs.take (k + 1)) [] = spAdd l n p.perm) := Lib.hid (by rw [List.take_succ_eq_append_getElem hkx, spansF_snoc, ← hk2, hn, HPF.out])
      have HKB : Hid (k + 1 + f = m ∧ m ≤ 12 ∧ l.length ≤ k ∧ n < 34359738368) := Lib.hid (by have := HM12.out; omega)
      have HSB := Lib.hid hk4
      have e1 : IntKind.u64.wrap ((n : Int) * 4096) = ((n * 4096 : Nat) : Int) := by rw [IntKind.wrap_u64]; omega
      have hkb : (k : Int) ≤ 12 := by have := HM12.out; omega
      generalize p.perm = pm at *
      clear hk1 hk2 hk3 hk4 HK hkx hn hvn hn35 hp hVr hf hok hpb hl0 hrc
      obtain ⟨na, hna⟩ : ∃ na, n * 4096 = na := ⟨_, rfl⟩
      rw [hna] at e1
      have HNA := Lib.hid hna
      clear hna
      go_wp2_with fail
      go_region_held3 (fun wx => wx.cell? ⟨mb, 1, none⟩ = some (.map (some g)) ∧ (Instr.lookup 75 (.map (some g)) (.int .u64 (n : Int)) false).run Try.prog wx = .ok (.pointer (some ⟨b, 0, none⟩)) wx ∧ wx.cell? ⟨b, 4096, none⟩ = some (.int .i64 (pm : Int))) (exact ⟨m1, hl, hpp⟩) (fail)
      have OD := Lib.hid (OW.out.below (Below.refl _ _).drew)
      have BD := Lib.hid BW.out.drew
      clear m1 hl hpp q0 e1
      generalize wr.drew = wd at OD BD ⊢
      obtain ⟨LL, hLL⟩ : ∃ LL, l.length = LL := ⟨_, rfl⟩
      rw [hLL] at OD ⊢
      have HLL := Lib.hid hLL
      cases hlast : l.getLast? with
      | none =>
        have hlz : l = [] := by simpa using hlast
        have hz : LL = 0 := by rw [← hLL, hlz]; rfl
        have HAP : Hid (spAdd l n pm = l ++ [⟨na, 1, pm⟩]) := Lib.hid (by rw [hlz, ← HNA.out]; rfl)
        clear hlast hlz hLL
        subst hz
        have e2 : IntKind.i64.wrap (((0 : Nat) : Int) - 1) = -1 := by rw [IntKind.wrap_i64]; omega
        have t0 : decide ((0 : Int) ≤ -1) = false := by decide
        go_wp2_with fail
        go_quiet (fail)
        have hBD : Below wd.heap.size wd (wd.drewN nq) := below_drewN (Below.refl _ _) _
        have OE := Lib.hid (OD.out.below hBD)
        have BE := Lib.hid (BD.out.trans (hBD.mono BD.out.size))
        generalize wd.drewN nq = we at OE BE ⊢
        clear hBD
        go_wp2_with (at_builtin; refine wpList_push_row ?_ (.tmp 66) (.tmp 70) spanSlice ?_ w1.heap.size w1 (.slice ad 0 cp) (l.map SpD.row) 0 [.int .u64 (na : Int), .int .i64 1, .int .i64 (pm : Int)] ?_ ?_ ?_ ?_ ?_ ?_ ?_ ?_ ?_ ?_ ?_; rfl; rfl; rfl; rfl; (rw [List.length_map]; exact HLL.out); rfl; (intro u hu; simp only [List.mem_cons, List.not_mem_nil, or_false] at hu; rcases hu with rfl | rfl | rfl <;> rfl); exact OE.out; (have := HKB.out; have := HLL.out; unfold maxLen; omega); (have := HKB.out; have := HLL.out; omega); exact BE.out; exact BE.out.size; intro ad7 c7 w7 hown7 hbe7 _; have O7 := Lib.hid hown7; have B7 := Lib.hid hbe7; clear hown7 hbe7)
        go_roundg f
        case measure => omega
        case rel => exact ⟨k + 1, l ++ [⟨na, 1, pm⟩], ad7, c7, by go_num, by rw [List.length_append, HLL.out]; rfl, Lib.hid ⟨HKB.out.1, by rw [HL1.out, HAP.out], by rw [List.length_append]; have := HKB.out; simp; omega, fun s hs => by
          rcases List.mem_append.1 hs with h | h
          · have := HSB.out s h; omega
          · obtain rfl : s = ⟨na, 1, pm⟩ := by simpa using h
            have := HKB.out; have := HNA.out
            exact ⟨by show na ≤ _; omega, by show 1 ≤ _; omega⟩⟩, Lib.hid (by
          have := O7.out
          rw [List.length_append, HLL.out, List.map_append]
          exact this), B7⟩
      | some s =>
        have hpos : 0 < LL := by
          rw [← hLL]
          cases hl2 : l with
          | nil => rw [hl2] at hlast; cases hlast
          | cons a r => simp
        obtain ⟨L1, rfl⟩ : ∃ L1, LL = L1 + 1 := ⟨LL - 1, by omega⟩
        have hsl : l[L1]? = some s := by
          rw [List.getLast?_eq_getElem?, hLL] at hlast
          exact hlast
        obtain ⟨-, hrow, -, -⟩ := OD.out.at
        obtain ⟨gb, go, rfl, hgl, hgc⟩ := hrow L1 (by rw [List.length_map]; omega)
        have hle : (l.map SpD.row)[L1]'(by rw [List.length_map]; omega) = s.row := by
          rw [List.getElem_map]
          congr 1
          exact (List.getElem?_eq_some_iff.1 hsl).2
        have g0 := hgc 0 (by omega)
        have g1 := hgc 1 (by omega)
        have g2 := hgc 2 (by omega)
        rw [hle] at g0 g1 g2
        have hgo : go = 0 := by
          rcases OD.out.1.2 with ⟨h1, -⟩ | ⟨g9, c9, cu9, h1, -⟩
          · cases h1
          · simp only [Value.slice.injEq, Option.some.injEq, Addr.mk.injEq] at h1
            exact h1.1.2.1
        subst hgo
        obtain ⟨sa, sp, sq⟩ := s
        simp only [SpD.row, Nat.zero_add] at g0 g1 g2
        replace g0 : wd.cell? ⟨gb, L1 * 3, none⟩ = some (.int .u64 (sa : Int)) := g0
        replace g1 : wd.cell? ⟨gb, L1 * 3 + 1, none⟩ = some (.int .i64 (sp : Int)) := g1
        replace g2 : wd.cell? ⟨gb, L1 * 3 + 2, none⟩ = some (.int .i64 (sq : Int)) := g2
        have HGL := Lib.hid hgl
        have hsb := HSB.out _ (List.mem_of_getElem? hsl)
        simp only at hsb
        have HSL := Lib.hid hsl
        have HLAST := Lib.hid hlast
        have hkk := HKB.out
        have e2 : IntKind.i64.wrap (((L1 + 1 : Nat) : Int) - 1) = (L1 : Int) := by rw [IntKind.wrap_i64]; omega
        have e2b : IntKind.i64.wrap ((L1 : Int) + 1 - 1) = (L1 : Int) := by rw [IntKind.wrap_i64]; omega
        have e2c : IntKind.i64.wrap (L1 : Int) = (L1 : Int) := by rw [IntKind.wrap_i64]; omega
        have t0 : decide ((0 : Int) ≤ (L1 : Int)) = true := decide_eq_true (by omega)
        have i0 : (0 : Int) ≤ (L1 : Int) := by omega
        have i1 : (L1 : Int) < (L1 : Int) + 1 := by omega
        have HNB := HNA.out
        by_cases hq : sq = pm
        · have tq : ((sq : Int) == (pm : Int)) = true := by rw [hq]; simp
          have tq2 : (sq == pm) = true := by rw [hq]; simp
          obtain ⟨s4, hs4⟩ : ∃ s4, sp * 4096 = s4 := ⟨_, rfl⟩
          obtain ⟨s5, hs5⟩ : ∃ s5, sa + s4 = s5 := ⟨_, rfl⟩
          have e3 : IntKind.u64.wrap (sp : Int) = (sp : Int) := by rw [IntKind.wrap_u64]; omega
          have e4 : IntKind.u64.wrap ((sp : Int) * 4096) = (s4 : Int) := by rw [IntKind.wrap_u64]; omega
          have e5 : IntKind.u64.wrap ((sa : Int) + (s4 : Int)) = (s5 : Int) := by rw [IntKind.wrap_u64]; omega
          by_cases hs : s5 = na
          · have ts : ((s5 : Int) == (na : Int)) = true := by rw [hs]; simp
            have ts2 : (s5 == na) = true := by rw [hs]; simp
            have HON : Hid (spAdd l n pm = l.set L1 ⟨sa, sp + 1, sq⟩) := Lib.hid (by rw [spAdd_on hlast ⟨hq, by show sa + sp * 4096 = n * 4096; omega⟩, hLL]; rfl)
            have e6 : IntKind.i64.wrap ((sp : Int) + 1) = ((sp + 1 : Nat) : Int) := by rw [IntKind.wrap_i64]; omega
            clear hsb hkk hq hs hs4 hs5 hle hgc hrow hgl hsl hlast hpos hLL HNB
            go_wp2_with fail
            go_quiet (fail)
            have hBD : Below wd.heap.size wd (wd.drewN nq) := below_drewN (Below.refl _ _) _
            have OE := Lib.hid (OD.out.below hBD)
            have BE := Lib.hid (BD.out.trans (hBD.mono BD.out.size))
            have p1 : (wd.drewN nq).cell? ⟨gb, L1 * 3 + 1, none⟩ = some (.int .i64 (sp : Int)) := by rw [hBD.cell (p := ⟨gb, L1 * 3 + 1, none⟩) HGL.out]; exact g1
            have hfz : (wd.drewN nq).frozen? ⟨gb, L1 * 3 + 1, none⟩ = false := by
              have ho := OE.out.1
              rw [List.length_map, HLL.out] at ho
              exact World.ownsRow.frozenAt ho (L1 * 3 + 1)
            generalize wd.drewN nq = we at OE BE p1 hfz ⊢
            have O7 : Hid (OwnS (we.setCell ⟨gb, L1 * 3 + 1, none⟩ (.int .i64 ((sp + 1 : Nat) : Int))) w1.heap.size 67 3 (.slice (some ⟨gb, 0, none⟩) (L1 + 1) cp) ((l.set L1 ⟨sa, sp + 1, sq⟩).map SpD.row)) := Lib.hid (by
              have hL1 : L1 < l.length := by rw [HLL.out]; omega
              have := OE.out.putCell L1 1 (by rw [List.length_map]; exact hL1) (by omega) (.int .i64 ((sp + 1 : Nat) : Int))
              rw [List.map_set]
              have e9 : (l.map SpD.row)[L1]'(by rw [List.length_map]; exact hL1) = (SpD.mk sa sp sq).row := by
                rw [List.getElem_map]
                congr 1
                exact (List.getElem?_eq_some_iff.1 HSL.out).2
              rw [e9] at this
              exact this)
            have B7 : Hid (Below w1.heap.size w1 (we.setCell ⟨gb, L1 * 3 + 1, none⟩ (.int .i64 ((sp + 1 : Nat) : Int)))) := Lib.hid (BE.out.setCell (p := ⟨gb, L1 * 3 + 1, none⟩) (World.ownsRow.lt OE.out.1 gb rfl).1 _)
            clear hBD g0 g1 g2 tq tq2 ts ts2 e3 e4 e5 e2 e2b t0
            go_wp2_with fail
            go_roundg f
            case measure => omega
            case rel => exact ⟨k + 1, l.set L1 ⟨sa, sp + 1, sq⟩, some ⟨gb, 0, none⟩, cp, by go_num, by rw [List.length_set, HLL.out], Lib.hid ⟨HKB.out.1, by rw [HL1.out, HON.out], by rw [List.length_set]; have := HKB.out; omega, fun s hs => by
              rcases List.mem_or_eq_of_mem_set hs with h | h
              · have := HSB.out s h; omega
              · subst h
                have := HSB.out _ (List.mem_of_getElem? HSL.out)
                simp only at this
                exact ⟨this.1, by show sp + 1 ≤ _; omega⟩⟩, by rw [List.length_set, HLL.out]; exact O7, B7⟩
          · have ts : ((s5 : Int) == (na : Int)) = false := by rw [beq_eq_false_iff_ne]; omega
            have ts2 : (s5 == na) = false := by rw [beq_eq_false_iff_ne]; exact hs
            have HAP : Hid (spAdd l n pm = l ++ [⟨na, 1, pm⟩]) := Lib.hid (by rw [spAdd_new hlast (by rintro ⟨-, h⟩; simp only at h; omega), HNB])
            clear hsb hkk hq hs hs4 hs5 hle hgc hrow hgl hsl hlast hpos hLL HNB
            go_wp2_with fail
            go_quiet (fail)
            have hBD : Below wd.heap.size wd (wd.drewN nq) := below_drewN (Below.refl _ _) _
            have OE := Lib.hid (OD.out.below hBD)
            have BE := Lib.hid (BD.out.trans (hBD.mono BD.out.size))
            generalize wd.drewN nq = we at OE BE ⊢
            clear hBD
            go_wp2_with (at_builtin; refine wpList_push_row ?_ (.tmp 66) (.tmp 70) spanSlice ?_ w1.heap.size w1 (.slice (some ⟨gb, 0, none⟩) (L1 + 1) cp) (l.map SpD.row) (L1 + 1) [.int .u64 (na : Int), .int .i64 1, .int .i64 (pm : Int)] ?_ ?_ ?_ ?_ ?_ ?_ ?_ ?_ ?_ ?_ ?_; rfl; rfl; rfl; rfl; (rw [List.length_map]; exact HLL.out); rfl; (intro u hu; simp only [List.mem_cons, List.not_mem_nil, or_false] at hu; rcases hu with rfl | rfl | rfl <;> rfl); exact OE.out; (have := HKB.out; have := HLL.out; unfold maxLen; omega); (have := HKB.out; have := HLL.out; omega); exact BE.out; exact BE.out.size; intro ad7 c7 w7 hown7 hbe7 _; have O7 := Lib.hid hown7; have B7 := Lib.hid hbe7; clear hown7 hbe7)
            go_roundg f
            case measure => omega
            case rel => exact ⟨k + 1, l ++ [⟨na, 1, pm⟩], ad7, c7, by go_num, by rw [List.length_append, HLL.out]; rfl, Lib.hid ⟨HKB.out.1, by rw [HL1.out, HAP.out], by rw [List.length_append]; have := HKB.out; simp; omega, fun s hs => by
              rcases List.mem_append.1 hs with h | h
              · have := HSB.out s h; omega
              · obtain rfl : s = ⟨na, 1, pm⟩ := by simpa using h
                have := HKB.out; have := HNA.out
                exact ⟨by show na ≤ _; omega, by show 1 ≤ _; omega⟩⟩, Lib.hid (by
              have := O7.out
              rw [List.length_append, HLL.out, List.map_append]
              exact this), B7⟩
        · have tq : ((sq : Int) == (pm : Int)) = false := by rw [beq_eq_false_iff_ne]; omega
          have tq2 : (sq == pm) = false := by rw [beq_eq_false_iff_ne]; exact hq
          have HAP : Hid (spAdd l n pm = l ++ [⟨na, 1, pm⟩]) := Lib.hid (by rw [spAdd_new hlast (by rintro ⟨h, -⟩; exact hq h), HNB])
          clear hsb hkk hq hle hgc hrow hgl hsl hlast hpos hLL HNB
          go_wp2_with fail
          go_quiet (fail)
          have hBD : Below wd.heap.size wd (wd.drewN nq) := below_drewN (Below.refl _ _) _
          have OE := Lib.hid (OD.out.below hBD)
          have BE := Lib.hid (BD.out.trans (hBD.mono BD.out.size))
          generalize wd.drewN nq = we at OE BE ⊢
          clear hBD
          go_wp2_with (at_builtin; refine wpList_push_row ?_ (.tmp 66) (.tmp 70) spanSlice ?_ w1.heap.size w1 (.slice (some ⟨gb, 0, none⟩) (L1 + 1) cp) (l.map SpD.row) (L1 + 1) [.int .u64 (na : Int), .int .i64 1, .int .i64 (pm : Int)] ?_ ?_ ?_ ?_ ?_ ?_ ?_ ?_ ?_ ?_ ?_; rfl; rfl; rfl; rfl; (rw [List.length_map]; exact HLL.out); rfl; (intro u hu; simp only [List.mem_cons, List.not_mem_nil, or_false] at hu; rcases hu with rfl | rfl | rfl <;> rfl); exact OE.out; (have := HKB.out; have := HLL.out; unfold maxLen; omega); (have := HKB.out; have := HLL.out; omega); exact BE.out; exact BE.out.size; intro ad7 c7 w7 hown7 hbe7 _; have O7 := Lib.hid hown7; have B7 := Lib.hid hbe7; clear hown7 hbe7)
          go_roundg f
          case measure => omega
          case rel => exact ⟨k + 1, l ++ [⟨na, 1, pm⟩], ad7, c7, by go_num, by rw [List.length_append, HLL.out]; rfl, Lib.hid ⟨HKB.out.1, by rw [HL1.out, HAP.out], by rw [List.length_append]; have := HKB.out; simp; omega, fun s hs => by
            rcases List.mem_append.1 hs with h | h
            · have := HSB.out s h; omega
            · obtain rfl : s = ⟨na, 1, pm⟩ := by simpa using h
              have := HKB.out; have := HNA.out
              exact ⟨by show na ≤ _; omega, by show 1 ≤ _; omega⟩⟩, Lib.hid (by
            have := O7.out
            rw [List.length_append, HLL.out, List.map_append]
            exact this), B7⟩
end Go.Proofs.Ytjiifaeehhpkcaa
