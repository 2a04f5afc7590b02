/- Layer 7: a table of the first kind is read. -/
import Derived.Test.YtpilccalgegadaaHashRead
import Derived.BigQuiet
import Derived.WalkSmall
import Derived.StillTailTactics
namespace Go.Proofs.Ytpilccalgegadaa
open Go.RowKit
set_option linter.unusedVariables false
set_option linter.unusedSimpArgs false

/-- what tables are read from -/
def fileV (a : Option Addr) (len cap : Nat) (ty en : Int) (p : Option Addr) (n pc : Nat) : Value := .agg #[.slice a len cap, .int .i64 ty, .int .u64 en, .slice p n pc]
/-- numbers and an error that are answered -/
def NumsErr (T : TypeId) (k : IntKind) (F : List Nat × Nat) (w : World) (e : Ending) (w' : World) : Prop :=
  ∃ ad c, e = .returned (.tuple #[.slice ad F.1.length c, errV (F.2 : Int)]) ∧ OwnI w' w.heap.size T k (.slice ad F.1.length c) (toI F.1) ∧ Below w.heap.size w w'

theorem fslice_any (a : Option Addr) (cap : Nat) (bs : List Nat) (ty en : Int) (p : Option Addr) (pc : Nat) (ps : List PT) (addr size : Nat) (w : World) (hb : BRow w a bs) (hbl : bs.length ≤ 140737488351232) (hbc : bs.length ≤ cap) (hbn : a = none → bs.length = 0 ∧ cap = 0)
    (h : PRow w p ps) (hl : ps.length ≤ 140737488351232) (ha : addr < 18446744073709551616) (hs : size < 18446744073709551616) :
    Calls Try.prog 25 #[fileV a bs.length cap ty en p ps.length pc, .int .u64 addr, .int .u64 size] w (NumsErr 5 .u8 (sliceF bs ps addr size) w) := by
  have HS := Lib.hid (fun (w1 : World) (hb1 : Below w.heap.size w w1) => slice_any a cap bs ty en p pc ps addr size w1 (hb.below hb1) hbl hbc hbn (h.below hb1) hl ha hs)
  clear hb h hbn
  generalize sliceF bs ps addr size = F at *
  have B1 : Hid (Below w.heap.size w (w.alloc (.cells #[.slice a bs.length cap, .int .i64 ty, .int .u64 en, .slice p ps.length pc] 70))) := Lib.hid ((Below.refl _ _).alloc (Nat.le_refl _) _)
  unfold fileV headV at *
  go_enter Try.func25, Try.ntmps25
  go_wp2_with fail
  refine (HS.out _ B1.out).mono ?_
  rintro e w2 ⟨ad, c, rfl, ho, hb2⟩
  have HO := Lib.hid (ho.mono B1.out.size); have B2 := Lib.hid (bstep B1.out hb2); clear ho hb2
  go_wp2_with fail
  go_ret2
  exact ⟨ad, c, rfl, HO.out, B2.out⟩

theorem OwnI.row2 {w : World} {B n cap : Nat} {e : TypeId} {k : IntKind} {ad : Option Addr} {xs : List Int} (h : OwnI w B e k (.slice ad n cap) xs) : Row k w ad xs := by
  obtain ⟨a, c, hv, hr, -⟩ := h.row
  simp only [Value.slice.injEq] at hv
  obtain ⟨rfl, -, -⟩ := hv
  exact hr
theorem OwnI.cap2 {w : World} {B n cap : Nat} {e : TypeId} {k : IntKind} {ad : Option Addr} {xs : List Int} (h : OwnI w B e k (.slice ad n cap) xs) : n ≤ cap := by
  obtain ⟨a, c, hv, hr, hc, -⟩ := h.row
  simp only [Value.slice.injEq] at hv
  obtain ⟨-, rfl, rfl⟩ := hv
  exact hc
theorem errV0 : errV ((0 : Nat) : Int) = .nilIface := rfl
theorem errV4 : errV ((4 : Nat) : Int) = .iface 57 (.int .i64 4) := rfl

set_option maxRecDepth 100000 in
set_option maxHeartbeats 2000000 in
theorem words_any (a : Option Addr) (cap : Nat) (bs : List Nat) (ty en : Int) (p : Option Addr) (pc : Nat) (ps : List PT) (addr n : Nat) (w : World) (hb : BRow w a bs) (hbl : bs.length ≤ 140737488351232) (hbc : bs.length ≤ cap) (hbn : a = none → bs.length = 0 ∧ cap = 0)
    (h : PRow w p ps) (hl : ps.length ≤ 140737488351232) (ha : addr < 18446744073709551616) (hn : n ≤ 16384) :
    Calls Try.prog 22 #[fileV a bs.length cap ty en p ps.length pc, .int .u64 addr, .int .i64 n] w (NumsErr 66 .u32 (wordsF bs ps addr n) w) := by
  have HS := Lib.hid (fun (w1 : World) (hb1 : Below w.heap.size w w1) => fslice_any a cap bs ty en p pc ps addr (4 * n) w1 (hb.below hb1) hbl hbc hbn (h.below hb1) hl ha (by omega))
  have HBB : Hid (∀ x ∈ (sliceF bs ps addr (4 * n)).1, x < 256) := Lib.hid (by
    intro x hx
    unfold sliceF at hx
    split at hx
    · exact hb.2 x (List.mem_of_mem_drop (List.mem_of_mem_take hx))
    · cases hx)
  have HLEN := Lib.hid (sliceF_len bs ps addr (4 * n))
  clear hb h hbn
  have B1 : Hid (Below w.heap.size w (w.alloc (.cells #[.slice a bs.length cap, .int .i64 ty, .int .u64 en, .slice p ps.length pc] 70))) := Lib.hid ((Below.refl _ _).alloc (Nat.le_refl _) _)
  have h4n : ((4 * n : Nat) : Int) = 4 * (n : Int) := by omega
  rcases sliceF_code bs ps addr (4 * n) with hc | hc
  · obtain ⟨s, hs⟩ : ∃ s, sliceF bs ps addr (4 * n) = (s, 0) := ⟨(sliceF bs ps addr (4 * n)).1, by rw [← hc]⟩
    rw [wordsF_yes hs]
    rw [hs] at HS HBB HLEN
    have hsl : s.length ≤ 65536 := by have h1 : s.length = 4 * n := HLEN.out rfl; omega
    clear hs hc HLEN
    unfold fileV at *
    go_enter Try.func22, Try.ntmps22
    go_wp2_with fail
    rw [h4n] at HS
    refine (HS.out _ B1.out).mono ?_
    rintro e w2 ⟨ad, c, he, ho, hb2⟩
    replace he : e = .returned (.tuple #[.slice ad s.length c, .nilIface]) := he
    subst he
    have hrow : BRow w2 ad s := ⟨OwnI.row2 ho, HBB.out⟩
    have B2 := Lib.hid (bstep B1.out hb2)
    have hs1 := split_any ad c s w2 hrow (by omega) (by have := OwnI.cap2 ho; exact this)
    have HSP := Lib.hid hs1
    clear ho hb2 hrow hs1 HS B1 HBB
    go_wp2_with fail
    refine HSP.out.mono ?_
    rintro e w3 ⟨ad3, c3, rfl, ho3, hb3⟩
    have HO := Lib.hid (ho3.mono B2.out.size); have B3 := Lib.hid (bstep B2.out hb3); clear ho3 hb3
    go_wp2_with fail
    go_ret2
    exact ⟨ad3, c3, rfl, HO.out, B3.out⟩
  · rw [wordsF_no hc]
    rw [hc, h4n] at HS
    clear hc HLEN HBB
    unfold fileV at *
    go_enter Try.func22, Try.ntmps22
    go_wp2_with fail
    refine (HS.out _ B1.out).mono ?_
    rintro e w2 ⟨ad, c, he, ho, hb2⟩
    replace he : e = .returned (.tuple #[.slice ad 0 c, .iface 57 (.int .i64 4)]) := he
    subst he
    have B2 := Lib.hid (bstep B1.out hb2)
    clear ho hb2 HS B1
    go_wp2_with fail
    go_ret2
    exact ⟨none, 0, rfl, OwnI.nil _ _ _ _, B2.out⟩

theorem chainsF_no {bs : List Nat} {ps : List PT} {addr : Nat} (h : wordsF bs ps addr 2 = ([], 4)) : chainsF bs ps addr = (([], []), 4) := by
  unfold chainsF
  rw [h]
  rfl
theorem chainsF_zero {bs : List Nat} {ps : List PT} {addr nb ns : Nat} (h : wordsF bs ps addr 2 = ([nb, ns], 0)) (h0 : nb = 0 ∨ ns = 0) : chainsF bs ps addr = (([], []), 3) := by
  unfold chainsF
  rw [h]
  simp only [List.getD_cons_zero, List.getD_cons_succ]
  rw [if_pos h0]
theorem chainsF_long {bs : List Nat} {ps : List PT} {addr nb ns : Nat} (h : wordsF bs ps addr 2 = ([nb, ns], 0)) (h0 : ¬ (nb = 0 ∨ ns = 0)) (h1 : 4096 < nb ∨ 4096 < ns) : chainsF bs ps addr = (([], []), 2) := by
  unfold chainsF
  rw [h]
  simp only [List.getD_cons_zero, List.getD_cons_succ]
  rw [if_neg h0, if_pos h1]
theorem chainsF_out {bs : List Nat} {ps : List PT} {addr nb ns : Nat} (h : wordsF bs ps addr 2 = ([nb, ns], 0)) (h0 : ¬ (nb = 0 ∨ ns = 0)) (h1 : ¬ (4096 < nb ∨ 4096 < ns)) (h2 : wordsF bs ps addr (2 + nb + ns) = ([], 4)) : chainsF bs ps addr = (([], []), 4) := by
  unfold chainsF
  rw [h]
  simp only [List.getD_cons_zero, List.getD_cons_succ]
  rw [if_neg h0, if_neg h1, h2]
  rfl
theorem chainsF_yes {bs : List Nat} {ps : List PT} {addr nb ns : Nat} {all : List Nat} (h : wordsF bs ps addr 2 = ([nb, ns], 0)) (h0 : ¬ (nb = 0 ∨ ns = 0)) (h1 : ¬ (4096 < nb ∨ 4096 < ns)) (h2 : wordsF bs ps addr (2 + nb + ns) = (all, 0)) :
    chainsF bs ps addr = (((all.take (2 + nb)).drop 2, all.drop (2 + nb)), 0) := by
  unfold chainsF
  rw [h]
  simp only [List.getD_cons_zero, List.getD_cons_succ]
  rw [if_neg h0, if_neg h1, h2]
  rfl

/-- a table of the first kind that is answered -/
def ChainsAns (F : (List Nat × List Nat) × Nat) (w : World) (e : Ending) (w' : World) : Prop :=
  ∃ b1 c1 b2 c2, e = .returned (.tuple #[.agg #[.slice b1 F.1.1.length c1, .slice b2 F.1.2.length c2], errV (F.2 : Int)]) ∧ Row .u32 w' b1 (toI F.1.1) ∧ Row .u32 w' b2 (toI F.1.2) ∧ Below w.heap.size w w'
theorem ChainsAns.none_ {F : (List Nat × List Nat) × Nat} {c : Nat} {w w' : World} (h : F = (([], []), c)) (hb : Below w.heap.size w w') : ChainsAns F w (.returned (.tuple #[.agg #[.slice none 0 0, .slice none 0 0], errV (c : Int)])) w' := by
  subst h
  exact ⟨none, 0, none, 0, rfl, fun i hi => by simp [toI] at hi, fun i hi => by simp [toI] at hi, hb⟩

theorem wordsF_lt {bs : List Nat} {ps : List PT} {addr n : Nat} (hb : ∀ b ∈ bs, b < 256) : ∀ x ∈ (wordsF bs ps addr n).1, x < 4294967296 := by
  intro x hx
  unfold wordsF at hx
  split at hx
  · refine splitF_lt (fun b hbb => ?_) x hx
    unfold sliceF at hbb
    split at hbb
    · exact hb b (List.mem_of_mem_drop (List.mem_of_mem_take hbb))
    · cases hbb
  · cases hx
theorem wordsF_alt (bs : List Nat) (ps : List PT) (addr n : Nat) : (∃ l, wordsF bs ps addr n = (l, 0) ∧ l.length = n) ∨ wordsF bs ps addr n = ([], 4) := by
  rcases wordsF_code bs ps addr n with h | h
  · exact .inl ⟨(wordsF bs ps addr n).1, Prod.ext rfl h, wordsF_len h⟩
  · exact .inr h

theorem OwnI.shape2 {w : World} {B n cap : Nat} {e : TypeId} {k : IntKind} {ad : Option Addr} {xs : List Int} (h : OwnI w B e k (.slice ad n cap) xs) (hn : 0 < n) : ∃ g, ad = some ⟨g, 0, none⟩ := by
  rcases h.2 with ⟨h1, h2⟩ | ⟨g, c, cur, hv, -⟩
  · simp at h1; omega
  · simp only [Value.slice.injEq] at hv
    exact ⟨g, hv.1⟩

theorem cell_put {w : World} {b j : Nat} {cs : Array Value} {T : TypeId} (h : w.heap[b]? = some (.cells cs T)) (hj : j < cs.size) (u : Value) : (w.setCell ⟨b, j, none⟩ u).cell? ⟨b, j, none⟩ = some u := by
  rw [cell_of_row _ b j _ _ _ (heap_setCell_same w b j _ _ u h)]
  simp [hj]
theorem Row.setO {k : IntKind} {w : World} {a : Option Addr} {xs : List Int} (h : Row k w a xs) {p : Addr} (hp : ∀ b, a = some b → b.block ≠ p.block) (u : Value) : Row k (w.setCell p u) a xs := by
  intro i hi
  obtain ⟨b, o, e, hc⟩ := h i hi
  refine ⟨b, o, e, ?_⟩
  rw [World.cell?_of_block (w := w) (heap_setCell_other w p b u (hp _ e))]
  exact hc
theorem Row.drewO {k : IntKind} {w : World} {a : Option Addr} {xs : List Int} (h : Row k w a xs) : Row k w.drew a xs := h
theorem cut_list (all : List Nat) (m : Nat) : (all.take m).drop 2 = (all.drop 2).take (m - 2) := by rw [List.drop_take]
/-- two blocks that were made one behind the other stay -/
theorem two_boxes {w w1 : World} {c1 c2 : Array Value} {T1 T2 : TypeId} (hb : Below ((w.alloc (.cells c1 T1)).alloc (.cells c2 T2)).heap.size ((w.alloc (.cells c1 T1)).alloc (.cells c2 T2)) w1) :
    w1.heap[w.heap.size]? = some (.cells c1 T1) ∧ w1.heap[w.heap.size + 1]? = some (.cells c2 T2) := by
  constructor
  · rw [hb.block _ (by simp; omega), heap_alloc_old _ _ (by simp)]
    exact heap_alloc_new _ _
  · rw [hb.block _ (by simp)]
    have := heap_alloc_new (w.alloc (.cells c1 T1)) (.cells c2 T2)
    simpa using this

set_option maxRecDepth 100000 in
set_option maxHeartbeats 4000000 in
theorem readChains_any (a : Option Addr) (cap : Nat) (bs : List Nat) (ty en : Int) (p : Option Addr) (pc : Nat) (ps : List PT) (addr : Nat) (w : World) (hb : BRow w a bs) (hbl : bs.length ≤ 140737488351232) (hbc : bs.length ≤ cap) (hbn : a = none → bs.length = 0 ∧ cap = 0)
    (h : PRow w p ps) (hl : ps.length ≤ 140737488351232) (ha : addr < 18446744073709551616) :
    Calls Try.prog 15 #[fileV a bs.length cap ty en p ps.length pc, .int .u64 addr] w (ChainsAns (chainsF bs ps addr) w) := by
  have HW := Lib.hid (fun (w1 : World) (n : Nat) (hb1 : Below w.heap.size w w1) (hn : n ≤ 16384) => words_any a cap bs ty en p pc ps addr n w1 (hb.below hb1) hbl hbc hbn (h.below hb1) hl ha hn)
  have HBB := Lib.hid hb.2
  have B1 : Hid (Below w.heap.size w ((w.alloc (.cells #[.slice a bs.length cap, .int .i64 ty, .int .u64 en, .slice p ps.length pc] 70)).alloc (.cells #[.slice none 0 0, .slice none 0 0] 73))) := Lib.hid (((Below.refl _ _).alloc (Nat.le_refl _) _).alloc (by simp) _)
  clear hb h hbn
  have FB : Hid (∀ w1, Below ((w.alloc (.cells #[.slice a bs.length cap, .int .i64 ty, .int .u64 en, .slice p ps.length pc] 70)).alloc (.cells #[.slice none 0 0, .slice none 0 0] 73)).heap.size ((w.alloc (.cells #[.slice a bs.length cap, .int .i64 ty, .int .u64 en, .slice p ps.length pc] 70)).alloc (.cells #[.slice none 0 0, .slice none 0 0] 73)) w1 →
      w1.cell? ⟨w.heap.size, 0, none⟩ = some (.slice a bs.length cap) ∧ w1.cell? ⟨w.heap.size, 1, none⟩ = some (.int .i64 ty) ∧ w1.cell? ⟨w.heap.size, 2, none⟩ = some (.int .u64 en) ∧ w1.cell? ⟨w.heap.size, 3, none⟩ = some (.slice p ps.length pc) ∧
      w1.cell? ⟨w.heap.size + 1, 0, none⟩ = some (.slice none 0 0) ∧ w1.cell? ⟨w.heap.size + 1, 1, none⟩ = some (.slice none 0 0) ∧ w1.frozen? ⟨w.heap.size + 1, 0, none⟩ = false ∧ w1.frozen? ⟨w.heap.size + 1, 1, none⟩ = false ∧ (∀ u, (w1.setCell ⟨w.heap.size + 1, 0, none⟩ u).cell? ⟨w.heap.size + 1, 0, none⟩ = some u) ∧ (∀ u v, ((w1.setCell ⟨w.heap.size + 1, 0, none⟩ u).setCell ⟨w.heap.size + 1, 1, none⟩ v).cell? ⟨w.heap.size + 1, 1, none⟩ = some v)) := Lib.hid (by
    intro w1 h1
    obtain ⟨e1, e2⟩ := two_boxes h1
    exact ⟨by rw [cell_of_row _ _ _ _ _ _ e1]; rfl, by rw [cell_of_row _ _ _ _ _ _ e1]; rfl, by rw [cell_of_row _ _ _ _ _ _ e1]; rfl, by rw [cell_of_row _ _ _ _ _ _ e1]; rfl, by rw [cell_of_row _ _ _ _ _ _ e2]; rfl, by rw [cell_of_row _ _ _ _ _ _ e2]; rfl, frozen_of_row _ _ _ _ _ e2, frozen_of_row _ _ _ _ _ e2, fun u => cell_put e2 (by simp) u, fun u v => cell_put (heap_setCell_same w1 _ 0 _ _ u e2) (by simp) v⟩)
  unfold fileV at *
  rcases wordsF_alt bs ps addr 2 with ⟨f, hf, hfl⟩ | hf
  · match f, hfl with
    | [nb, ns], _ =>
      have HW2 := Lib.hid (HW.out _ 2 B1.out (by omega))
      rw [hf] at HW2
      have hlt := wordsF_lt (ps := ps) (addr := addr) (n := 2) HBB.out
      rw [hf] at hlt
      have hnb : nb < 4294967296 := hlt nb (by simp)
      have hns : ns < 4294967296 := hlt ns (by simp)
      clear hlt
      have hpre : Hid (∀ (Q : Ending → World → Prop), (∀ (g c : Nat) (w2 : World), w2.cell? ⟨g, 0, none⟩ = some (.int .u32 (nb : Int)) → w2.cell? ⟨g, 1, none⟩ = some (.int .u32 (ns : Int)) → Below ((w.alloc (.cells #[.slice a bs.length cap, .int .i64 ty, .int .u64 en, .slice p ps.length pc] 70)).alloc (.cells #[.slice none 0 0, .slice none 0 0] 73)).heap.size ((w.alloc (.cells #[.slice a bs.length cap, .int .i64 ty, .int .u64 en, .slice p ps.length pc] 70)).alloc (.cells #[.slice none 0 0, .slice none 0 0] 73)) w2 → Q (.returned (.tuple #[.slice (some ⟨g, 0, none⟩) 2 c, .nilIface])) w2) →
          Calls Try.prog 22 #[.agg #[.slice a bs.length cap, .int .i64 ty, .int .u64 en, .slice p ps.length pc], .int .u64 addr, .int .i64 2] ((w.alloc (.cells #[.slice a bs.length cap, .int .i64 ty, .int .u64 en, .slice p ps.length pc] 70)).alloc (.cells #[.slice none 0 0, .slice none 0 0] 73)) Q) := Lib.hid (fun Q hQ => HW2.out.mono (by
        rintro e w2 ⟨ad, c, he, ho, hb2⟩
        replace he : e = .returned (.tuple #[.slice ad 2 c, .nilIface]) := he
        replace ho : OwnI w2 _ 66 .u32 (.slice ad 2 c) [(nb : Int), (ns : Int)] := ho
        obtain ⟨g, rfl⟩ := ho.shape2 (by omega)
        subst he
        exact hQ g c w2 (ho.get2 0 _ rfl) (ho.get2 1 _ rfl) hb2))
      by_cases h0 : nb = 0 ∨ ns = 0
      · rw [chainsF_zero hf h0]
        clear hf HW HW2 hnb hns HBB hfl
        rcases Decidable.em (nb = 0) with h1 | h1
        · subst h1
          clear h0
          go_enter Try.func15, Try.ntmps15
          go_wp2_with fail
          refine hpre.out _ ?_
          intro g c w2 c0 c1 hb2
          have B2 := Lib.hid (bstep B1.out hb2)
          have HB2 := Lib.hid hb2
          obtain ⟨-, -, -, -, f0, f1, g0, g1, -, -⟩ := FB.out w2 hb2
          clear hb2 hpre
          go_wp2
          go_quiet (fail)
          obtain ⟨-, -, -, -, -, -, -, -, r0, r1⟩ := FB.out _ (below_drewN HB2.out nq)
          have R0 := Lib.hid r0; have R1 := Lib.hid r1
          clear r0 r1
          go_wp2_with fail
          have r0 := R0.out; have r1 := R1.out
          refine bodyPost_ret (by simp [results, Try.results15, go_sem, r0, r1]; try rfl) rfl ?_
          exact ChainsAns.none_ (c := 3) rfl ((below_drewN B2.out nq).setCell (by simp) _ |>.setCell (by simp) _)
        · have h2 : ns = 0 := h0.resolve_left h1
          subst h2
          have h3 : ¬ (nb : Int) = 0 := by omega
          clear h0 h1
          go_enter Try.func15, Try.ntmps15
          go_wp2_with fail
          refine hpre.out _ ?_
          intro g c w2 c0 c1 hb2
          have B2 := Lib.hid (bstep B1.out hb2)
          have HB2 := Lib.hid hb2
          obtain ⟨-, -, -, -, f0, f1, g0, g1, -, -⟩ := FB.out w2 hb2
          clear hb2 hpre
          go_wp2
          go_quiet (fail)
          obtain ⟨-, -, -, -, -, -, -, -, r0, r1⟩ := FB.out _ (below_drewN HB2.out nq)
          have R0 := Lib.hid r0; have R1 := Lib.hid r1
          clear r0 r1
          go_wp2_with fail
          have r0 := R0.out; have r1 := R1.out
          refine bodyPost_ret (by simp [results, Try.results15, go_sem, r0, r1]; try rfl) rfl ?_
          exact ChainsAns.none_ (c := 3) rfl ((below_drewN B2.out nq).setCell (by simp) _ |>.setCell (by simp) _)
      · by_cases h1 : 4096 < nb ∨ 4096 < ns
        · rw [chainsF_long hf h0 h1]
          clear hf HW HW2 hnb hns HBB hfl
          have h2 : ((nb : Int) == 0) = false := beq_eq_false_iff_ne.2 (by omega)
          have h3 : ((ns : Int) == 0) = false := beq_eq_false_iff_ne.2 (by omega)
          rcases Decidable.em (4096 < nb) with h4 | h4
          · have h5 : decide ((4096 : Int) < (nb : Int)) = true := decide_eq_true (by omega)
            clear h0 h1 h4
            go_enter Try.func15, Try.ntmps15
            go_wp2_with fail
            refine hpre.out _ ?_
            intro g c w2 c0 c1 hb2
            have B2 := Lib.hid (bstep B1.out hb2)
            have HB2 := Lib.hid hb2
            obtain ⟨-, -, -, -, f0, f1, g0, g1, -, -⟩ := FB.out w2 hb2
            clear hb2 hpre
            go_wp2
            go_quiet (fail)
            obtain ⟨-, -, -, -, -, -, -, -, r0, r1⟩ := FB.out _ (below_drewN HB2.out nq)
            have R0 := Lib.hid r0; have R1 := Lib.hid r1
            clear r0 r1
            go_wp2_with fail
            have r0 := R0.out; have r1 := R1.out
            refine bodyPost_ret (by simp [results, Try.results15, go_sem, r0, r1]; try rfl) rfl ?_
            exact ChainsAns.none_ (c := 2) rfl ((below_drewN B2.out nq).setCell (by simp) _ |>.setCell (by simp) _)
          · have h5 : decide ((4096 : Int) < (nb : Int)) = false := decide_eq_false (by omega)
            have h6 : decide ((4096 : Int) < (ns : Int)) = true := decide_eq_true (by omega)
            clear h0 h1 h4
            go_enter Try.func15, Try.ntmps15
            go_wp2_with fail
            refine hpre.out _ ?_
            intro g c w2 c0 c1 hb2
            have B2 := Lib.hid (bstep B1.out hb2)
            have HB2 := Lib.hid hb2
            obtain ⟨-, -, -, -, f0, f1, g0, g1, -, -⟩ := FB.out w2 hb2
            clear hb2 hpre
            go_wp2
            go_quiet (fail)
            obtain ⟨-, -, -, -, -, -, -, -, r0, r1⟩ := FB.out _ (below_drewN HB2.out nq)
            have R0 := Lib.hid r0; have R1 := Lib.hid r1
            clear r0 r1
            go_wp2_with fail
            have r0 := R0.out; have r1 := R1.out
            refine bodyPost_ret (by simp [results, Try.results15, go_sem, r0, r1]; try rfl) rfl ?_
            exact ChainsAns.none_ (c := 2) rfl ((below_drewN B2.out nq).setCell (by simp) _ |>.setCell (by simp) _)
        · have h2 : ((nb : Int) == 0) = false := beq_eq_false_iff_ne.2 (by omega)
          have h3 : ((ns : Int) == 0) = false := beq_eq_false_iff_ne.2 (by omega)
          have h5 : decide ((4096 : Int) < (nb : Int)) = false := decide_eq_false (by omega)
          have h6 : decide ((4096 : Int) < (ns : Int)) = false := decide_eq_false (by omega)
          have hnb2 : nb ≤ 4096 := by omega
          have hns2 : ns ≤ 4096 := by omega
          rcases wordsF_alt bs ps addr (2 + nb + ns) with ⟨all, hall, halll⟩ | hall
          · rw [chainsF_yes hf h0 h1 hall]
            have HW3 := Lib.hid (fun (w1 : World) (hb1 : Below w.heap.size w w1) => HW.out w1 (2 + nb + ns) hb1 (by omega))
            have hcast : (((2 + nb + ns : Nat)) : Int) = 2 + (nb : Int) + (ns : Int) := by omega
            rw [hall, hcast] at HW3
            have HAL := Lib.hid halll
            have hnb1 : 1 ≤ nb := by omega
            have hns1 : 1 ≤ ns := by omega
            clear hf hall HW HW2 hnb hns HBB h0 h1 hcast hfl halll
            go_enter Try.func15, Try.ntmps15
            go_wp2_with fail
            refine hpre.out _ ?_
            intro g c w2 c0 c1 hb2
            have B2 := Lib.hid (bstep B1.out hb2)
            have HB2 := Lib.hid hb2
            obtain ⟨k0, k1, k2, k3, -, -, -, -, -, -⟩ := FB.out w2 hb2
            clear hb2 hpre
            go_wp2
            go_quiet (fail)
            have HB3 := Lib.hid (below_drewN HB2.out nq)
            have B3 := Lib.hid (below_drewN B2.out nq)
            go_wp2_with fail
            refine (HW3.out _ B3.out).mono ?_
            rintro e w4 ⟨ad, c4, he, ho, hb4⟩
            replace he : e = .returned (.tuple #[.slice ad all.length c4, .nilIface]) := he
            replace ho : OwnI w4 _ 66 .u32 (.slice ad all.length c4) (toI all) := ho
            subst he
            have B4 := Lib.hid (bstep B3.out hb4)
            obtain ⟨g4, rfl⟩ := ho.shape2 (by rw [HAL.out]; omega)
            have hcap := OwnI.cap2 ho
            have HROW := Lib.hid (OwnI.row2 ho)
            have hg4 : ¬ g4 = w.heap.size + 1 := by
              have h1 := ho.ge2.1
              have h2 := HB3.out.size
              simp at h1 h2
              omega
            have HG4 := Lib.hid hg4
            have HB4 := Lib.hid (HB3.out.trans (hb4.mono HB3.out.size))
            obtain ⟨-, -, -, -, f0, f1, g0, g1, r0, r1⟩ := FB.out w4 (HB3.out.trans (hb4.mono HB3.out.size))
            have R0 := Lib.hid r0; have R1 := Lib.hid r1
            clear ho hb4 r0 r1 hg4
            rw [HAL.out] at hcap ⊢
            obtain ⟨m, hm⟩ : ∃ m, 2 + nb = m := ⟨_, rfl⟩
            rw [hm] at hcap ⊢
            have hwr : IntKind.u32.wrap (2 + (nb : Int)) = (m : Int) := by rw [IntKind.wrap_u32]; omega
            have hne1 : ¬ c4 = 2 := by omega
            have hne2 : ¬ c4 = m := by omega
            have hmc : m ≤ c4 := by omega
            have hm2 : (2 : Int) ≤ (m : Int) := by omega
            have hm3 : (m : Int) ≤ (m : Int) + (ns : Int) := by omega
            have HMM := Lib.hid hm
            clear hm
            go_wp2_with fail
            refine wp_region_still_tail 9 (by kernel_rfl) (by kernel_rfl) ?_
            simp only [List.take_succ_cons, List.take_zero, List.drop_succ_cons, List.drop_zero]
            change wpStill _ _ (World.drew w4) _ _ _
            iterate 9 still_step
            refine wpStill_nil ?_
            change wpList _ _ _ _ _ (World.drew w4)
            have hdrew : ∀ (x : Addr), (World.drew w4).cell? x = w4.cell? x := fun _ => rfl
            go_wp2_with fail
            have r0 := R0.out; have r1 := R1.out
            refine bodyPost_ret (by simp [results, Try.results15, go_sem, r0, r1]; try rfl) rfl ?_
            have hl1 : ((all.take (2 + nb)).drop 2).length = m - 2 := by have := HAL.out; have := HMM.out; simp; omega
            have hl2 : (all.drop (2 + nb)).length = ns := by have := HAL.out; have := HMM.out; simp; omega
            have hrow : ∀ (o n : Nat), Row .u32 ((w4.setCell ⟨w.heap.size + 1, 0, none⟩ (.slice (some ⟨g4, 2, none⟩) (m - 2) (c4 - 2))).setCell ⟨w.heap.size + 1, 1, none⟩ (.slice (some ⟨g4, m, none⟩) ns (c4 - m))).drew (some ⟨g4, o, none⟩) (toI ((all.drop o).take n)) := by
              intro o n
              have h1 := HROW.out.cut o n
              rw [cut_toI] at h1
              simp only [Option.map_some, WideShapes.add_plain, Nat.zero_add] at h1
              refine Row.drewO (Row.setO (Row.setO h1 ?_ _) ?_ _)
              · intro b hb; cases hb; exact HG4.out
              · intro b hb; cases hb; exact HG4.out
            refine ⟨some ⟨g4, 2, none⟩, c4 - 2, some ⟨g4, m, none⟩, c4 - m, ?_, ?_, ?_, ?_⟩
            · rw [hl1, hl2]; rfl
            · rw [HMM.out, cut_list]; exact hrow 2 (m - 2)
            · rw [HMM.out]
              have := hrow m ns
              rwa [List.take_of_length_le (by rw [← HMM.out]; omega)] at this
            · exact ((B4.out.setCell (by simp) _).setCell (by simp) _).drew
          · rw [chainsF_out hf h0 h1 hall]
            have HW3 := Lib.hid (fun (w1 : World) (hb1 : Below w.heap.size w w1) => HW.out w1 (2 + nb + ns) hb1 (by omega))
            have hcast : (((2 + nb + ns : Nat)) : Int) = 2 + (nb : Int) + (ns : Int) := by omega
            rw [hall, hcast] at HW3
            clear hf hall HW HW2 hnb hns HBB h0 h1 hcast
            go_enter Try.func15, Try.ntmps15
            go_wp2_with fail
            refine hpre.out _ ?_
            intro g c w2 c0 c1 hb2
            have B2 := Lib.hid (bstep B1.out hb2)
            have HB2 := Lib.hid hb2
            obtain ⟨k0, k1, k2, k3, -, -, -, -, -, -⟩ := FB.out w2 hb2
            clear hb2 hpre
            go_wp2
            go_quiet (fail)
            have HB3 := Lib.hid (below_drewN HB2.out nq)
            have B3 := Lib.hid (below_drewN B2.out nq)
            go_wp2_with fail
            refine (HW3.out _ B3.out).mono ?_
            rintro e w4 ⟨ad, c4, he, ho, hb4⟩
            replace he : e = .returned (.tuple #[.slice ad 0 c4, .iface 57 (.int .i64 4)]) := he
            subst he
            have B4 := Lib.hid (bstep B3.out hb4)
            obtain ⟨-, -, -, -, f0, f1, g0, g1, r0, r1⟩ := FB.out w4 (HB3.out.trans (hb4.mono HB3.out.size))
            have R0 := Lib.hid r0; have R1 := Lib.hid r1
            clear ho hb4 r0 r1
            go_wp2_with fail
            have r0 := R0.out; have r1 := R1.out
            refine bodyPost_ret (by simp [results, Try.results15, go_sem, r0, r1]; try rfl) rfl ?_
            exact ChainsAns.none_ (c := 4) rfl (B4.out.setCell (by simp) _ |>.setCell (by simp) _)
  · rw [chainsF_no hf]
    have HW2 := Lib.hid (HW.out _ 2 B1.out (by omega))
    rw [hf] at HW2
    clear hf HW
    go_enter Try.func15, Try.ntmps15
    go_wp2_with fail
    refine HW2.out.mono ?_
    rintro e w2 ⟨ad, c, he, ho, hb2⟩
    replace he : e = .returned (.tuple #[.slice ad 0 c, .iface 57 (.int .i64 4)]) := he
    subst he
    have B2 := Lib.hid (bstep B1.out hb2)
    obtain ⟨-, -, -, -, f0, f1, g0, g1, r0, r1⟩ := FB.out w2 hb2
    have R0 := Lib.hid r0; have R1 := Lib.hid r1
    clear ho hb2 HW2 FB r0 r1
    go_wp2_with fail
    have r0 := R0.out; have r1 := R1.out
    refine bodyPost_ret (by simp [results, Try.results15, go_sem, r0, r1]; try rfl) rfl ?_
    exact ChainsAns.none_ rfl (B2.out.setCell (by simp) _ |>.setCell (by simp) _)
end Go.Proofs.Ytpilccalgegadaa
