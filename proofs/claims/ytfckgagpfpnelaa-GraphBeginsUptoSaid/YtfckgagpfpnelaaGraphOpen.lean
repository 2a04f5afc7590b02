/- Layer 16: dependencies as they come in, and their bulk. -/
import Derived.Test.YtfckgagpfpnelaaRows
import Derived.Test.YtfckgagpfpnelaaGraphBeginsW
import Derived.Deep.Slices
import Derived.ChangeSlices
import Derived.SizedLaws
namespace Go.Proofs.Ytfckgagpfpnelaa
open Go.RowKit Go.WideShapes Go.Deep Go.ChangeShapes
set_option linter.unusedVariables false
set_option linter.unusedSimpArgs false

theorem bulk_lits {H : Type} (k : IntKind) (zs : List Int) : Rows.uptoBulkAll (lits (H := H) k zs) = zs.length := by
  induction zs with
  | nil => rfl
  | cons z zs ih =>
    simp only [lits, List.map_cons, Rows.uptoBulkAll, Rows.uptoBulk, List.length_cons] at *
    omega
theorem bulk_sum {H : Type} (D : Nat → DataW H) (q : Nat → List Int) : ∀ (l : List Nat), (∀ i ∈ l, (q i).length + 1 ≤ Rows.uptoBulk (D i)) → (l.map q).length + tot (l.map q) ≤ Rows.uptoBulkAll (l.map D)
  | [], _ => by simp [tot, Rows.uptoBulkAll]
  | i :: l, h => by
    have h1 := bulk_sum D q l (fun j hj => h j (by simp [hj]))
    have h2 := h i (by simp)
    simp only [List.map_cons, Rows.uptoBulkAll, List.length_cons, tot, List.sum_cons] at *
    omega

theorem tot_mem {l : List Int} : ∀ {L : List (List Int)}, l ∈ L → l.length ≤ tot L
  | x :: L, h => by
    simp only [tot, List.map_cons, List.sum_cons]
    rcases List.mem_cons.1 h with rfl | h
    · omega
    · have := tot_mem h
      simp only [tot] at this
      omega
theorem i64_of_wf {zs : List Int} (h : ∀ n ∈ zs, (Lit.int .i64 n).wf = true) : I64s zs := by
  intro x hx
  have := bounds_i64 (h x hx)
  omega

section
variable {H : Type} {enc : TypeId × Value → H} {w : World} {base : Nat} {held : Bool}

theorem open_deps {fuel : Nat} {c : Value} {x : DataW H × List MemPlace} (h : DataW.trod enc Try.prog w base (fun _ => true) held fuel 22 [c] = some x) (hb : Rows.uptoBulk x.1 ≤ 1048576) :
    ∃ (a : Option Addr) (cap : Nat) (L : List (List Int)), c = .slice a L.length cap ∧ DRow w a L ∧ L.length + tot L + 1 ≤ Rows.uptoBulk x.1 := by
  rcases open_slice1 Try.underlying22 (by kernel_rfl) h with ⟨hc, hx⟩ | ⟨ad, len, cap, m, n, V, D, Pl, hc, -, hl, hm, hmm, hx, hy⟩
  · simp only [List.cons.injEq, and_true] at hc
    subst hc hx
    exact ⟨none, 0, [], rfl, (fun i hi => by simp at hi), by simp [Rows.uptoBulk, tot]⟩
  · simp only [List.cons.injEq, and_true] at hc
    simp only [if_true] at hmm
    subst hc hmm hx
    have each : ∀ i, i < len → ∃ L : List Int, (∃ ai ci, w.cell? (ad.add i) = some (.slice ai L.length ci) ∧ Row .i64 w ai L) ∧ I64s L ∧ L.length + 1 ≤ Rows.uptoBulk (D i) := by
      intro i hi
      obtain ⟨h1, h2⟩ := hy i (by omega)
      rcases open_ints Try.underlying23 Try.underlying3 (by kernel_rfl) h2 with ⟨hcs, hx⟩ | ⟨y, l, cp, zs, hcs, _, hl2, hm2, hz, hx, hcell, hwf⟩
      · simp only [List.cons.injEq, and_true] at hcs
        simp only [Prod.mk.injEq] at hx
        refine ⟨[], ⟨none, 0, by rw [h1, hcs]; rfl, fun j hj => by simp at hj⟩, (fun z hz => by cases hz), ?_⟩
        rw [hx.1]
        simp [Rows.uptoBulk]
      · simp only [List.cons.injEq, and_true] at hcs
        simp only [Prod.mk.injEq] at hx
        simp only [if_true] at hz
        refine ⟨zs.take l, ⟨some y, cp, by rw [h1, hcs]; simp; omega, ?_⟩, i64_of_wf (fun n hn => hwf n (List.mem_of_mem_take hn)), ?_⟩
        · have hrow : IsRow .i64 w (some y) l cp zs := .inr ⟨y, rfl, hl2, hm2, hz, hcell, hwf⟩
          intro j hj
          simp only [List.length_take] at hj
          have h0 := hcell j (by omega)
          obtain ⟨b, off, spot⟩ := y
          have hs : spot = none := by simpa [Addr.add] using World.cell?_spot (hcell 0 (by omega))
          subst hs
          rw [WideShapes.add_plain] at h0
          refine ⟨b, off, rfl, ?_⟩
          rw [h0]
          congr 2
          simp [List.getD, show j < l from by omega]
        · rw [hx.1]
          simp only [Rows.uptoBulk, bulk_lits]
          omega
    obtain ⟨q, hq⟩ := choose_lt each
    have hsum := bulk_sum D q (List.range len) (fun i hi => (hq i (List.mem_range.1 hi)).2.2)
    simp only [List.length_map, List.length_range] at hsum
    simp only [Rows.uptoBulk] at hb
    refine ⟨some ad, m, (List.range len).map q, by simp, ?_, ?_⟩
    · intro i hi
      have hi' : i < len := by simpa using hi
      obtain ⟨⟨ai, ci, h1, h2⟩, h3, h4⟩ := hq i hi'
      have hg : ((List.range len).map q).getD i [] = q i := by simp [List.getD, hi']
      obtain ⟨b, off, spot⟩ := ad
      have hs : spot = none := by
        obtain ⟨⟨ai0, ci0, h10, -⟩, -⟩ := hq 0 (by omega)
        simpa [Addr.add] using World.cell?_spot h10
      subst hs
      rw [WideShapes.add_plain] at h1
      refine ⟨b, off, ai, ci, rfl, by simpa using World.block_lt_of_cell? w _ h1, ?_, ?_, ?_, ?_⟩
      · rw [hg]; exact h1
      · rw [hg]; exact h2
      · rw [hg]; exact h3
      · rw [hg]
        have : (q i).length ≤ tot ((List.range len).map q) := tot_mem (List.mem_map.2 ⟨i, List.mem_range.2 hi', rfl⟩)
        omega
    · simp only [Rows.uptoBulk, List.length_map, List.length_range]
      omega
end

theorem walk_GraphOrders (a0 : Option Addr) (cap0 : Nat) (L0 : List (List Int)) (a1 : Option Addr) (len1 cap1 : Nat) (z1 : List Int) (w : World) (w0 : DRow w a0 L0) (w1 : IsRow .i64 w a1 len1 cap1 z1) (hb : L0.length + tot L0 + len1 ≤ 1048576) :
    Calls Try.prog 3 #[.slice a0 L0.length cap0, .slice a1 len1 cap1] w fun e w' => e = .returned (.bool true) ∧ Below w.heap.size w w' := by
  obtain ⟨xs, rfl, hr, hx, hl, hm, hn⟩ := w1.row
  exact orders_at w a0 cap0 L0 a1 cap1 xs (by omega) w0 hr (i64_of_wf hx) (by omega)
theorem walk_GraphLives (a0 : Option Addr) (cap0 : Nat) (L0 : List (List Int)) (a1 : Option Addr) (len1 cap1 : Nat) (z1 : List Int) (w : World) (w0 : DRow w a0 L0) (w1 : IsRow .i64 w a1 len1 cap1 z1) (hb : L0.length + tot L0 + len1 ≤ 1048576) :
    Calls Try.prog 4 #[.slice a0 L0.length cap0, .slice a1 len1 cap1] w fun e w' => e = .returned (.bool true) ∧ Below w.heap.size w w' := by
  obtain ⟨xs, rfl, hr, hx, hl, hm, hn⟩ := w1.row
  exact lives_at w a0 cap0 L0 a1 cap1 xs (by omega) w0 hr (i64_of_wf hx) (by omega)
theorem walk_GraphBegins (a0 : Option Addr) (cap0 : Nat) (L0 : List (List Int)) (a1 : Option Addr) (len1 cap1 : Nat) (z1 : List Int) (w : World) (w0 : DRow w a0 L0) (w1 : IsRow .i64 w a1 len1 cap1 z1) (hb : L0.length + tot L0 + len1 ≤ 1048576) :
    Calls Try.prog 5 #[.slice a0 L0.length cap0, .slice a1 len1 cap1] w fun e w' => e = .returned (.bool true) ∧ Below w.heap.size w w' := by
  obtain ⟨xs, rfl, hr, hx, hl, hm, hn⟩ := w1.row
  exact begins_at w a0 cap0 L0 a1 cap1 xs (by omega) w0 hr (i64_of_wf hx) (by omega)
theorem walk_GraphMore (a0 : Option Addr) (cap0 : Nat) (L0 : List (List Int)) (a1 : Option Addr) (len1 cap1 : Nat) (z1 : List Int) (a2 : Int) (w : World) (w0 : DRow w a0 L0) (w1 : IsRow .i64 w a1 len1 cap1 z1) (w2 : (Lit.int .i64 a2).wf = true) (hb : L0.length + tot L0 + len1 ≤ 1048576) :
    Calls Try.prog 6 #[.slice a0 L0.length cap0, .slice a1 len1 cap1, .int .i64 a2] w fun e w' => e = .returned (.bool true) ∧ Below w.heap.size w w' := by
  obtain ⟨xs, rfl, hr, hx, hl, hm, hn⟩ := w1.row
  have hb2 := bounds_i64 w2
  exact more_at w a0 cap0 L0 a1 cap1 xs a2 (by omega) w0 hr (i64_of_wf hx) (by omega) hn (by omega) (by omega)
end Go.Proofs.Ytfckgagpfpnelaa
