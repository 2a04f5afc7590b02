/- The document's memory: a list of pages, by rising address. -/
import Derived.Test.YtmnjkaimpejohaaGreatDoorNear
import Derived.Test.YtmnjkaimpejohaaGreatDoorGrow
import Derived.Test.YtmnjkaimpejohaaGreatDoorDynRows
import Derived.Test.YtmnjkaimpejohaaGreatDoorVm
import Derived.Handy
import Derived.Deep.LoopGhost
namespace Go.Proofs.YtmnjkaimpejohaaGreatDoor
open Go.RowKit
set_option linter.unusedVariables false
set_option linter.unusedSimpArgs false

/-- a page's address, its block -/
abbrev RP := Nat × Nat
def RP.v (p : RP) : Value := .pointer (some ⟨p.2, 0, none⟩)
/-- a page stands in its block -/
def RPg (w : World) (p : RP) : Prop := ∃ C : Array Value, w.heap[p.2]? = some (.cells C 78) ∧ C.size = 4098 ∧ C[0]? = some (.int .u64 (p.1 : Int)) ∧ (∃ pm : Nat, C[1]? = some (.int .i64 (pm : Int))) ∧ ∀ j, j < 4096 → ∃ b : Nat, b < 256 ∧ C[2 + j]? = some (.int .u8 (b : Int))
/-- block rb is a memory of the document's, with these pages; its blocks lie in R -/
structure RM (w : World) (rb : Nat) (R : Nat → Prop) (ad : Option Addr) (n c : Nat) (L : List RP) : Prop where
  box : w.heap[rb]? = some (.cells #[.int .i64 8, .slice ad n c] 66)
  row : OwnS w 0 79 1 (.slice ad n c) (L.map fun p => [p.v])
  page : ∀ p ∈ L, p.1 < 140737488355328 ∧ R p.2 ∧ RPg w p
  self : R rb
  own : ∀ g, (Value.slice ad n c).ownBlock = some g → R g
  few : L.length ≤ 8
section
variable {w w' : World} {rb : Nat} {R R' : Nat → Prop} {ad : Option Addr} {n c : Nat} {L : List RP}
theorem RM.len (h : RM w rb R ad n c L) : L.length = n := by
  have := h.row.at.1
  simpa using this.symm
theorem RM.lt (h : RM w rb R ad n c L) : rb < w.heap.size := lt_of_block h.box
theorem RPg.of {p : RP} (h : RPg w p) (hb : w'.heap[p.2]? = w.heap[p.2]?) : RPg w' p := by
  obtain ⟨C, h1, h2⟩ := h
  exact ⟨C, hb.trans h1, h2⟩
theorem RPg.lt {p : RP} (h : RPg w p) : p.2 < w.heap.size := by
  obtain ⟨C, h1, -⟩ := h
  exact lt_of_block h1
theorem ownS_of_block {B sz : Nat} {e : TypeId} {v : Value} {rows : List (List Value)} (h : OwnS w B e sz v rows) (hb : ∀ g, v.ownBlock = some g → w'.heap[g]? = w.heap[g]?) : OwnS w' B e sz v rows := by
  obtain ⟨⟨h1, h2⟩, h3⟩ := h
  refine ⟨⟨h1, ?_⟩, h3⟩
  rcases h2 with h2 | ⟨g, cap, cur, rfl, hB, hg, r⟩
  · exact .inl h2
  · exact .inr ⟨g, cap, cur, rfl, hB, by rw [hb g rfl]; exact hg, r⟩
theorem RM.kept (h : RM w rb R ad n c L) (hk : ∀ k, k < w.heap.size → R k → w'.heap[k]? = w.heap[k]?) : RM w' rb R ad n c L where
  box := (hk rb h.lt h.self).trans h.box
  row := ownS_of_block h.row fun g hg => hk g (World.ownsRow.lt h.row.1 g hg).2 (h.own g hg)
  page := fun p hp => by
    obtain ⟨h1, h2, h3⟩ := h.page p hp
    exact ⟨h1, h2, h3.of (hk _ h3.lt h2)⟩
  self := h.self
  own := h.own
  few := h.few
theorem RM.below (h : RM w rb R ad n c L) (hb : Below w.heap.size w w') : RM w' rb R ad n c L := h.kept fun k hk _ => hb.block k hk
theorem RM.mono (h : RM w rb R ad n c L) (hs : ∀ k, R k → R' k) : RM w rb R' ad n c L :=
  ⟨h.box, h.row, fun p hp => ⟨(h.page p hp).1, hs _ (h.page p hp).2.1, (h.page p hp).2.2⟩, hs _ h.self, fun g hg => hs _ (h.own g hg), h.few⟩
/-- the cells that are read -/
theorem RM.at_ (h : RM w rb R ad n c L) {k : Nat} {p : RP} (hk : L[k]? = some p) : (∃ b o, ad = some ⟨b, o, none⟩ ∧ w.cell? ⟨b, o + k * 1, none⟩ = some (.pointer (some ⟨p.2, 0, none⟩))) ∧ w.cell? ⟨p.2, 0, none⟩ = some (.int .u64 (p.1 : Int)) := by
  have hkl : k < L.length := (List.getElem?_eq_some_iff.1 hk).1
  obtain ⟨b, o, e, -, hc⟩ := h.row.at.2.1 k (by simpa using hkl)
  refine ⟨⟨b, o, e, ?_⟩, ?_⟩
  · have := hc 0 (by decide)
    rw [Nat.add_zero] at this
    rw [this]
    rw [List.getElem?_eq_getElem hkl] at hk
    simp only [List.getElem_map]
    rw [Option.some.inj hk]
    rfl
  · obtain ⟨-, -, C, h1, -, h2, -⟩ := h.page p (List.mem_of_getElem? hk)
    rw [cell_of_row _ _ 0 _ _ _ h1]
    exact h2
theorem RM.cells (h : RM w rb R ad n c L) : w.cell? ⟨rb, 0, none⟩ = some (.int .i64 8) ∧ w.cell? ⟨rb, 1, none⟩ = some (.slice ad n c) ∧ w.frozen? ⟨rb, 1, none⟩ = false :=
  ⟨by rw [cell_of_row _ _ 0 _ _ _ h.box]; rfl, by rw [cell_of_row _ _ 1 _ _ _ h.box]; rfl, frozen_of_row _ _ _ _ _ h.box⟩
end
set_option maxRecDepth 100000 in
theorem rnew_any (w : World) : Calls Tryz.prog 11 #[.int .i64 8] w fun e w' => e = .returned (.pointer (some ⟨w.heap.size, 0, none⟩)) ∧ Below w.heap.size w w' ∧ w'.heap.size = w.heap.size + 1 ∧ RM w' w.heap.size (fun k => k = w.heap.size) none 0 0 [] := by
  go_enter Tryz.func11, Tryz.ntmps11
  go_wp2_with fail
  go_ret
  exact ⟨rfl, (Below.refl _ _).alloc (Nat.le_refl _) _, by simp, heap_alloc_new _ _, OwnS.nil _ _ _ _, (fun p hp => by cases hp), rfl, (fun g hg => by simp [Value.ownBlock] at hg), by simp⟩
/-- what asks for one page is fine -/
theorem rasked_ok (a pm : Nat) (w : World) (ha : a % 4096 = 0) (h1 : 4096 ≤ a) (h2 : a < 140737488355328) (hp : pm < 8) : Calls Tryz.prog 20 #[.int .u64 (a : Int), .int .i64 1, .int .i64 (pm : Int)] w fun e w' => e = .returned (.agg #[.int .i64 0, .bool false, .int .u64 0]) ∧ Below w.heap.size w w' := by
  have e1 : (a : Int).tmod 4096 = 0 := by rw [Int.tmod_eq_emod_of_nonneg (by omega)]; omega
  have e1b : IntKind.u64.wrap 0 = 0 := by decide
  have e2 : ¬ (a : Int) < 4096 := by omega
  have e3 : ¬ (140737488355328 : Int) ≤ (a : Int) := by omega
  have e4 : IntKind.u64.wrap (140737488355328 - (a : Int)) = ((140737488355328 - a : Nat) : Int) := by rw [IntKind.wrap_u64]; omega
  have e5 : ((140737488355328 - a : Nat) : Int).tdiv 4096 = (((140737488355328 - a) / 4096 : Nat) : Int) := by rw [Int.tdiv_eq_ediv_of_nonneg (by omega)]; omega
  have e6 : IntKind.u64.wrap (((140737488355328 - a) / 4096 : Nat) : Int) = (((140737488355328 - a) / 4096 : Nat) : Int) := by rw [IntKind.wrap_u64]; omega
  have e7 : ¬ (((140737488355328 - a) / 4096 : Nat) : Int) < 1 := by omega
  have e8 : ¬ (pm : Int) < 0 := by omega
  have e9 : ¬ (7 : Int) < (pm : Int) := by omega
  generalize (140737488355328 - a) / 4096 = m at *
  generalize 140737488355328 - a = d at *
  clear ha h1 h2 hp
  go_enter Tryz.func20, Tryz.ntmps20
  go_wp2_with fail
  go_returns
  exact ⟨rfl, by go_grown⟩
/-- the pages that all examples map -/
def rAds : List Nat := [65536, 131072, 135168, 196608]
set_option maxRecDepth 100000 in
set_option maxHeartbeats 8000000 in
theorem rfind_zero (rb : Nat) (R : Nat → Prop) (ad : Option Addr) (n c : Nat) (L : List RP) (a : Nat) (w : World) (h : RM w rb R ad n c L) (hL : L.map (·.1) = rAds) (h1 : 65536 ≤ a) (h2 : a < 69632) :
    Calls Tryz.prog 35 #[.pointer (some ⟨rb, 0, none⟩), .int .u64 (a : Int)] w fun e w' => e = .returned (.int .i64 0) ∧ w' = w := by
  obtain ⟨⟨a0, p0⟩, ⟨a1, p1⟩, ⟨a2, p2⟩, ⟨a3, p3⟩, rfl⟩ : ∃ x0 x1 x2 x3, L = [x0, x1, x2, x3] := by
    rcases L with _ | ⟨x0, _ | ⟨x1, _ | ⟨x2, _ | ⟨x3, _ | ⟨x4, r⟩⟩⟩⟩⟩ <;> simp [rAds] at hL
    exact ⟨x0, x1, x2, x3, rfl⟩
  simp only [List.map_cons, List.map_nil, rAds, List.cons.injEq, and_true] at hL
  obtain ⟨rfl, rfl, rfl, rfl⟩ := hL
  have hn := h.len
  simp only [List.length_cons, List.length_nil] at hn
  subst hn
  obtain ⟨c0, c1, -⟩ := h.cells
  obtain ⟨⟨b, o, rfl, q0⟩, m0⟩ := h.at_ (k := 0) rfl
  obtain ⟨⟨b', o', e, q1⟩, m1⟩ := h.at_ (k := 1) rfl
  simp only [Option.some.injEq, Addr.mk.injEq, and_true] at e
  obtain ⟨rfl, rfl⟩ := e
  obtain ⟨⟨b', o', e, q2⟩, m2⟩ := h.at_ (k := 2) rfl
  simp only [Option.some.injEq, Addr.mk.injEq, and_true] at e
  obtain ⟨rfl, rfl⟩ := e
  simp only [Nat.reduceMul, Nat.add_zero, Int.cast_ofNat_Int, Nat.reduceAdd] at q0 q1 q2 m0 m1 m2 c1
  have t0 : decide ((65536 : Int) ≤ (a : Int)) = true := by simp; omega
  have t1 : decide ((131072 : Int) ≤ (a : Int)) = false := by simp; omega
  have t2 : decide ((135168 : Int) ≤ (a : Int)) = false := by simp; omega
  have e0 : IntKind.u64.wrap ((a : Int) - 65536) = ((a - 65536 : Nat) : Int) := by rw [IntKind.wrap_u64]; omega
  have t3 : decide ((4096 : Int) ≤ ((a - 65536 : Nat) : Int)) = false := by simp; omega
  have i0 : (65536 : Int) ≤ (a : Int) := by omega
  have i1 : ¬ (131072 : Int) ≤ (a : Int) := by omega
  have i2 : ¬ (135168 : Int) ≤ (a : Int) := by omega
  have i3 : ¬ (4096 : Int) ≤ ((a - 65536 : Nat) : Int) := by omega
  generalize a - 65536 = am at *
  clear h h1 h2
  go_enter Tryz.func35, Tryz.ntmps35
  go_wp2_with fail
  go_loopg [5, 6, 7] 3 (fun g x5 x6 x7 wr => w = wr ∧ x5 = .int .i64 0 ∧ ((g = 3 ∧ x6 = .int .i64 4) ∨ (g = 2 ∧ x6 = .int .i64 2) ∨ (g = 1 ∧ x6 = .int .i64 1) ∨ (g = 0 ∧ x6 = .int .i64 0)))
  case atStart => exact ⟨rfl, rfl, .inl ⟨rfl, rfl⟩⟩
  case round =>
    obtain ⟨rfl, rfl, hg⟩ := hrel
    rcases hg with ⟨rfl, rfl⟩ | ⟨rfl, rfl⟩ | ⟨rfl, rfl⟩ | ⟨rfl, rfl⟩
    · go_wp2_with fail
      go_roundg 2
      case measure => omega
      case rel => exact ⟨rfl, rfl, .inr (.inl ⟨rfl, rfl⟩)⟩
    · go_wp2_with fail
      go_roundg 1
      case measure => omega
      case rel => exact ⟨rfl, rfl, .inr (.inr (.inl ⟨rfl, rfl⟩))⟩
    · go_wp2_with fail
      go_roundg 0
      case measure => omega
      case rel => exact ⟨rfl, rfl, .inr (.inr (.inr ⟨rfl, rfl⟩))⟩
    · go_wp2_with fail
      go_ret
      exact ⟨rfl, rfl⟩
end Go.Proofs.YtmnjkaimpejohaaGreatDoor
