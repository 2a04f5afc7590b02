/- Layer 15: the examples at the head of all statements. -/
import Derived.Test.YtjiifaeehhpkcaaPlaceTwo
import Derived.Test.YtjiifaeehhpkcaaVmSpans
import Derived.Deep.DeepCutAuto
import Derived.Deep.MidRow
namespace Go.Proofs.Ytjiifaeehhpkcaa
open Go.RowKit
set_option linter.unusedVariables false
set_option linter.unusedSimpArgs false

theorem two_len (va : Nat) : (twoB va).bs.length = 4104 := List.length_replicate
theorem two_ok : placeF (twoB 8192).ty (twoB 8192).bs.length (twoB 8192).ps = 0 := by rw [two_len]; decide +kernel
theorem two_bad : placeF (twoB 8200).ty (twoB 8200).bs.length (twoB 8200).ps = 9 := by rw [two_len]; decide +kernel
theorem two_begin : beginF (pagedF (kindF 1 (twoB 8192).ps)) = 0 := by decide +kernel
theorem two_span : spanN (pagedF (kindF 1 (twoB 8192).ps)) = 4 := by decide +kernel
theorem two_rel : relF (kindF 1685382482 (twoB 8192).ps) = (8192, 1) := by decide +kernel
def twoG (k : Nat) : Nat := if k = 131072 then 5 else if k = 131073 then 0 else 6
theorem two_perm : permL 0 (pagedF (kindF 1 (twoB 8192).ps)) 0 = 5 ∧ permL 0 (pagedF (kindF 1 (twoB 8192).ps)) 1 = 0 ∧ permL 0 (pagedF (kindF 1 (twoB 8192).ps)) 2 = 6 ∧ permL 0 (pagedF (kindF 1 (twoB 8192).ps)) 3 = 6 := by decide +kernel
theorem two_spans : spansF twoG [131072, 131073, 131074, 131075] [] = [⟨536870912, 1, 5⟩, ⟨536875008, 1, 0⟩, ⟨536879104, 2, 6⟩] := by rfl
theorem spansF_congr {f g : Nat → Nat} : ∀ (xs : List Nat) (l : List SpD), (∀ k ∈ xs, f k = g k) → spansF f xs l = spansF g xs l
  | [], _, _ => rfl
  | n :: r, l, h => by
    unfold spansF
    rw [h n (by simp)]
    exact spansF_congr r _ (fun k hk => h k (by simp [hk]))
theorem four_keys {Q : Nat → Prop} {xs : List Nat} {a : Nat} (h : AllOf Q 4 xs) (hu : UpTo xs xs.length) (hq : ∀ k, Q k ↔ a ≤ k ∧ k < a + 4) : xs = [a, a + 1, a + 2, a + 3] := by
  obtain ⟨h1, h2, h3⟩ := h
  have hp : xs.Perm [a, a + 1, a + 2, a + 3] := by
    refine (List.perm_ext_iff_of_nodup h1 (by simp)).2 (fun k => ?_)
    rw [h2, hq]
    simp only [List.mem_cons, List.not_mem_nil, or_false]
    omega
  have hl := hp.length_eq
  match xs, hl with
  | [p, q, r, s], _ =>
    have u1 := hu 0 1 (by omega) (by show 1 < 4; decide)
    have u2 := hu 1 2 (by omega) (by show 2 < 4; decide)
    have u3 := hu 2 3 (by omega) (by show 3 < 4; decide)
    simp only [List.getD_cons_zero, List.getD_cons_succ] at u1 u2 u3
    have m0 := (h2 a).2 ((hq a).2 (by omega))
    have m1 := (h2 (a + 1)).2 ((hq (a + 1)).2 (by omega))
    have m2 := (h2 (a + 2)).2 ((hq (a + 2)).2 (by omega))
    have m3 := (h2 (a + 3)).2 ((hq (a + 3)).2 (by omega))
    have n0 := (hq p).1 ((h2 p).1 (by simp))
    have n3 := (hq s).1 ((h2 s).1 (by simp))
    simp only [List.mem_cons, List.not_mem_nil, or_false] at m0 m1 m2 m3
    have e0 : p = a := by omega
    have e3 : s = a + 3 := by omega
    have e1 : q = a + 1 := by omega
    have e2 : r = a + 2 := by omega
    rw [e0, e1, e2, e3]

set_option maxRecDepth 100000 in
set_option maxHeartbeats 8000000 in
theorem pspan_ok (C : Array Value) (x : POb) (w : World) (h : PCells w C x) (hp : placeF x.ty x.bs.length x.ps = 0) :
    Calls Try.prog 13 #[.agg C] w fun e w' => e = .returned (.tuple #[.int .u64 (beginF (pagedF (kindF 1 x.ps)) : Int), .int .i64 (spanN (pagedF (kindF 1 x.ps)) : Int)]) ∧ Below w.heap.size w w' := by
  have h54 := h.size
  have hone := h.one
  have HI := Lib.hid h.info
  have B1 : Hid (Below w.heap.size w (w.alloc (.cells C 39))) := Lib.hid ((Below.refl _ _).alloc (Nat.le_refl _) _)
  have HX : Hid ((w.alloc (.cells C 39)).heap[w.heap.size]? = some (.cells C 39)) := Lib.hid (heap_alloc_new _ _)
  have HCK := Lib.hid (pcheck_any C x _ (h.below B1.out))
  rw [hp, show errV ((0 : Nat) : Int) = .nilIface from rfl] at HCK
  have HPC := Lib.hid (h.below B1.out)
  have HP := Lib.hid hp
  obtain ⟨bg, hbg⟩ : ∃ bg, beginF (pagedF (kindF 1 x.ps)) = bg := ⟨_, rfl⟩
  obtain ⟨sn, hsn⟩ : ∃ sn, spanN (pagedF (kindF 1 x.ps)) = sn := ⟨_, rfl⟩
  rw [hbg, hsn]
  clear h hp
  go_enter Try.func13, Try.ntmps13
  go_wp2_with (refine wpList_load_row rfl 39 _ rfl w.heap.size rfl 39 C (0, 0) _ HX.out Try.underlying39 rfl HI.out ?_)
  refine HCK.out.mono ?_
  rintro e w2 ⟨rfl, hb2⟩
  have B2 := Lib.hid (bstep B1.out hb2)
  have HX2 := Lib.hid ((hb2.block _ (lt_of_block HX.out)).trans HX.out)
  have HS := Lib.hid (span_ok C x w2 (HPC.out.below hb2) HP.out)
  clear hb2 HCK HX HPC
  rw [hbg, hsn] at HS
  go_wp2_with (refine wpList_load_row rfl 39 _ rfl w.heap.size rfl 39 C (0, 0) _ HX2.out Try.underlying39 rfl HI.out ?_)
  refine HS.out.mono ?_
  rintro e w3 ⟨rfl, hb3⟩
  have B3 := Lib.hid (bstep B2.out hb3)
  clear hb3 HS HX2
  go_wp2_with fail
  go_ret2
  exact ⟨rfl, B3.out⟩

set_option maxRecDepth 100000 in
set_option maxHeartbeats 32000000 in
theorem up_place (w : World) : Calls Try.prog 5 #[] w fun e w' => e = .returned (.bool true) ∧ Below w.heap.size w w' := by
  have HNEW : Hid _ := Lib.hid (vnew_any 100 w (by omega))
  go_enter Try.func5, Try.ntmps5
  go_wp2_with fail
  refine HNEW.out.mono ?_
  rintro e w1 ⟨rfl, hb1, hs1, hv1⟩
  have B1 := Lib.hid hb1; have S1 := Lib.hid hs1; have V1 := Lib.hid hv1
  have HTWO := Lib.hid (two_any w1)
  clear hb1 hs1 hv1 HNEW
  go_wp2_with fail
  refine HTWO.out.mono ?_
  rintro e w2 ⟨rfl, hb2, hs2, hp2, hz2⟩
  obtain ⟨C0, hC0⟩ : ∃ C0, TC (w1.heap.size + 1) (w1.heap.size + 2) = C0 := ⟨_, rfl⟩
  rw [hC0]
  have h54 : C0.size = 54 := by rw [← hC0]; rfl
  have hone : C0.all (·.oneCell') = true := by rw [← hC0]; simp [TC, Value.oneCell']
  have HI : Hid ((Try.prog.info? 39).map (·.size) = some C0.size) := Lib.hid (by rw [h54]; kernel_rfl)
  have HC2 : Hid (C0[2]? = some (.slice (some ⟨w1.heap.size + 1, 0, none⟩) 3 3)) := Lib.hid (by rw [← hC0]; rfl)
  have HC53 : Hid (C0[53]? = some (.slice (some ⟨w1.heap.size + 2, 0, none⟩) 4104 4104)) := Lib.hid (by rw [← hC0]; rfl)
  have HCELL : Hid (∀ (wx : World) (va : Nat), wx.heap[w1.heap.size + 1]? = some (.cells #[.int .u32 1, .int .u32 5, .int .u64 0, .int .u64 0, .int .u64 5, .int .u64 5, .int .u64 0, .int .u32 1, .int .u32 6, .int .u64 4096, .int .u64 (va : Int), .int .u64 8, .int .u64 6144, .int .u64 0, .int .u32 1685382482, .int .u32 0, .int .u64 0, .int .u64 8192, .int .u64 0, .int .u64 6144, .int .u64 0] 60) → wx.heap[w1.heap.size + 2]? = some (.cells zer 5) → va < 18446744073709551616 → PCells wx C0 (twoB va)) := Lib.hid (fun wx va h1 h2 h3 => by rw [← hC0]; exact two_cells h1 h2 h3)
  have HAP : Hid (PApart (fun k => k = w.heap.size) C0) := Lib.hid ⟨fun b o n c e hn => by
      rw [HC2.out] at e
      simp only [Option.some.injEq, Value.slice.injEq, Addr.mk.injEq] at e
      have := S1.out
      omega, fun b o n c e hn => by
      rw [HC53.out] at e
      simp only [Option.some.injEq, Value.slice.injEq, Addr.mk.injEq] at e
      have := S1.out
      omega⟩
  have B2 := Lib.hid hb2; have S2 := Lib.hid hs2; have P2 := Lib.hid hp2; have Z2 := Lib.hid hz2
  have hsc : (storeCells ⟨w2.heap.size, 0, none⟩ C0.toList).run Try.prog (w2.alloc (.cells #[.int .i64 0, .int .u64 0, .slice none 0 0, .bool false, .slice none 0 0, .int .u64 0, .int .u64 0, .int .u64 0, .int .u64 0, .int .u64 0, .int .u64 0, .int .u64 0, .int .u64 0, .int .u64 0, .int .u64 0, .int .u64 0, .int .u64 0, .int .u64 0, .bool false, .bool false, .bool false, .int .u64 0, .int .u64 0, .int .u64 0, .int .u64 0, .int .u64 0, .int .u64 0, .int .u64 0, .int .u64 0, .int .u64 0, .int .u64 0, .int .u64 0, .int .u64 0, .int .u64 0, .int .u64 0, .int .u64 0, .bool false, .bool false, .bool false, .bool false, .bool false, .string ⟨#[]⟩, .string ⟨#[]⟩, .string ⟨#[]⟩, .slice none 0 0, .slice none 0 0, .bool false, .slice none 0 0, .slice none 0 0, .slice none 0 0, .slice none 0 0, .slice none 0 0, .slice none 0 0, .slice none 0 0] 39)) = .ok () (w2.alloc (.cells C0 39)) := run_storeCells_new w2 39 #[.int .i64 0, .int .u64 0, .slice none 0 0, .bool false, .slice none 0 0, .int .u64 0, .int .u64 0, .int .u64 0, .int .u64 0, .int .u64 0, .int .u64 0, .int .u64 0, .int .u64 0, .int .u64 0, .int .u64 0, .int .u64 0, .int .u64 0, .int .u64 0, .bool false, .bool false, .bool false, .int .u64 0, .int .u64 0, .int .u64 0, .int .u64 0, .int .u64 0, .int .u64 0, .int .u64 0, .int .u64 0, .int .u64 0, .int .u64 0, .int .u64 0, .int .u64 0, .int .u64 0, .int .u64 0, .int .u64 0, .bool false, .bool false, .bool false, .bool false, .bool false, .string ⟨#[]⟩, .string ⟨#[]⟩, .string ⟨#[]⟩, .slice none 0 0, .slice none 0 0, .bool false, .slice none 0 0, .slice none 0 0, .slice none 0 0, .slice none 0 0, .slice none 0 0, .slice none 0 0, .slice none 0 0] C0 HI.out (by rw [h54]; rfl) hone
  have HOB : Hid ((w2.alloc (.cells C0 39)).heap[w2.heap.size]? = some (.cells C0 39)) := Lib.hid (heap_alloc_new _ _)
  have B3 : Hid (Below w2.heap.size w2 (w2.alloc (.cells C0 39))) := Lib.hid ((Below.refl _ _).alloc (Nat.le_refl _) _)
  have S3 : Hid ((w2.alloc (.cells C0 39)).heap.size = w2.heap.size + 1) := Lib.hid (by simp)
  clear hb2 hs2 hp2 hz2 hC0 HTWO
  go_wp2_with (refine wpList_load_row rfl 39 _ rfl w2.heap.size rfl 39 C0 (0, 0) _ HOB.out Try.underlying39 rfl HI.out ?_)
  clear hsc
  generalize hw3 : w2.alloc (.cells C0 39) = w3 at *
  clear hw3
  have hx3p := Lib.hid ((B3.out.block _ (lt_of_block P2.out)).trans P2.out)
  have hx3z := Lib.hid ((B3.out.block _ (lt_of_block Z2.out)).trans Z2.out)
  have HSP := pspan_ok C0 (twoB 8192) w3 (HCELL.out w3 8192 hx3p.out hx3z.out (by decide)) two_ok
  rw [two_begin, two_span] at HSP
  have HSP := Lib.hid HSP
  refine HSP.out.mono ?_
  rintro e w4 ⟨rfl, hb4⟩
  have HX4 := Lib.hid ((hb4.block _ (lt_of_block HOB.out)).trans HOB.out)
  have P4 := Lib.hid ((hb4.block _ (lt_of_block hx3p.out)).trans hx3p.out)
  have Z4 := Lib.hid ((hb4.block _ (lt_of_block hx3z.out)).trans hx3z.out)
  have B14 : Hid (Below w1.heap.size w1 w4) := Lib.hid (bstep (bstep B2.out B3.out) hb4)
  have HC4 := Lib.hid (HCELL.out w4 8192 P4.out Z4.out (by decide))
  have HMP := pmap_good (w.heap.size + 1) (fun k => k = w.heap.size) 100 w.heap.size (fun _ => none) C0 (twoB 8192) 536870912 536870912 w4 (V1.out.below B14.out) (fun b hb => by have := S1.out; have := B14.out.size; omega) HC4.out HAP.out (by decide) two_ok
    (fun _ => by rw [two_span]; decide) (fun h => absurd h (by decide)) (by rw [two_span]; decide)
  rw [two_begin, two_span] at HMP
  have HMP := Lib.hid HMP
  have HOL : Hid (w2.heap.size < w4.heap.size) := Lib.hid (by have := hb4.size; have := S3.out; omega)
  clear hb4 HSP hx3p hx3z HOB
  go_wp2_with (refine wpList_load_row rfl 39 _ rfl w2.heap.size rfl 39 C0 (0, 0) _ HX4.out Try.underlying39 rfl HI.out ?_)
  refine HMP.out.mono ?_
  rintro e w5 ⟨rfl, hk5, V', F', hv5, hl5⟩
  have HK5 := Lib.hid hk5
  have HXN : Hid (w2.heap.size ≠ w.heap.size ∧ w1.heap.size + 1 ≠ w.heap.size ∧ w1.heap.size + 2 ≠ w.heap.size) := Lib.hid (by have := S1.out; have := S2.out; omega)
  have HX5 := Lib.hid ((hk5.block _ (lt_of_block HX4.out) HXN.out.1).trans HX4.out)
  have P5 := Lib.hid ((hk5.block _ (lt_of_block P4.out) HXN.out.2.1).trans P4.out)
  have Z5 := Lib.hid ((hk5.block _ (lt_of_block Z4.out) HXN.out.2.2).trans Z4.out)
  have HSA := Lib.hid (spans_small (w.heap.size + 1) _ 100 4 V' w.heap.size F' w5 hv5 (by omega))
  have HSX : Hid (∀ xs, AllOf (fun k => V' k ≠ none) 4 xs → UpTo xs xs.length → spansF (permF V') xs [] = [⟨536870912, 1, 5⟩, ⟨536875008, 1, 0⟩, ⟨536879104, 2, 6⟩]) := Lib.hid (fun xs ha hu => by
    have h4 : (536870912 / 4096 : Nat) = 131072 := by decide
    have hq : ∀ k, V' k ≠ none ↔ 131072 ≤ k ∧ k < 131072 + 4 := fun k => by
      constructor
      · intro hk
        by_cases hc : 131072 ≤ k ∧ k < 131072 + 4
        · exact hc
        · exact absurd (hl5.off k (by rw [h4]; exact hc)) hk
      · intro hk
        obtain ⟨p, hp⟩ := hl5.page (k := k) (by rw [h4]; exact hk.1) (by rw [h4]; exact hk.2)
        rw [hp]; simp
    rw [four_keys ha hu hq, ← two_spans]
    refine spansF_congr _ _ (fun k hk => ?_)
    have hpf : ∀ j, j < 4 → permF V' (131072 + j) = permL 0 (pagedF (kindF 1 (twoB 8192).ps)) j := fun j hj => by
      have := hl5.perm j hj
      rw [h4] at this
      unfold permF
      rw [this]
      rfl
    obtain ⟨t0, t1, t2, t3⟩ := two_perm
    simp only [List.mem_cons, List.not_mem_nil, or_false] at hk
    rcases hk with rfl | rfl | rfl | rfl
    · rw [show (131072 : Nat) = 131072 + 0 from rfl, hpf 0 (by omega), t0]; rfl
    · rw [hpf 1 (by omega), t1]; rfl
    · rw [hpf 2 (by omega), t2]; rfl
    · rw [hpf 3 (by omega), t3]; rfl)
  clear hk5 hv5 hl5 HMP HX4 P4 Z4
  go_wp2_with fail
  refine HSA.out.mono ?_
  rintro e w6 ⟨ad, cp, xs, ⟨hx1, hx2⟩, rfl, ho6, hb6⟩
  have hsx := HSX.out xs hx1 hx2
  rw [hsx] at ho6 ⊢
  have HO6 := Lib.hid ho6
  have HX6 := Lib.hid ((hb6.block _ (lt_of_block HX5.out)).trans HX5.out)
  have P6 := Lib.hid ((hb6.block _ (lt_of_block P5.out)).trans P5.out)
  have Z6 := Lib.hid ((hb6.block _ (lt_of_block Z5.out)).trans Z5.out)
  have B56 := Lib.hid hb6
  have HRE := relro_ok C0 (twoB 8192) w6 (HCELL.out w6 8192 P6.out Z6.out (by decide)) two_ok
  rw [two_rel] at HRE
  have HRE := Lib.hid HRE
  clear hx1 hx2 hsx ho6 hb6 HSX HSA HX5 P5 Z5
  go_wp2_with (refine wpList_load_row rfl 39 _ rfl w2.heap.size rfl 39 C0 (0, 0) _ HX6.out Try.underlying39 rfl HI.out ?_)
  refine HRE.out.mono ?_
  rintro e w7 ⟨rfl, hb7⟩
  have B57 := Lib.hid (bstep B56.out hb7)
  have HX7 := Lib.hid ((hb7.block _ (lt_of_block HX6.out)).trans HX6.out)
  have P7 := Lib.hid ((hb7.block _ (lt_of_block P6.out)).trans P6.out)
  have Z7 := Lib.hid ((hb7.block _ (lt_of_block Z6.out)).trans Z6.out)
  have HO7 := Lib.hid (HO6.out.below hb7)
  clear hb7 HRE HX6 P6 Z6 HO6
  obtain ⟨gb, hgb, hgc⟩ : ∃ gb, ad = some ⟨gb, 0, none⟩ ∧ w5.heap.size ≤ gb := by
    rcases HO7.out.1.2 with ⟨h1, h2⟩ | ⟨g', c', cur, h1, h2, -⟩
    · simp at h1
    · simp only [Value.slice.injEq] at h1
      exact ⟨g', h1.1, h2⟩
  subst hgb
  have HPL : Hid (w1.heap.size + 1 < w5.heap.size ∧ w1.heap.size + 2 < w5.heap.size ∧ w2.heap.size < w5.heap.size) := Lib.hid (by have h1 := S1.out; have h2 := S2.out; have h3 := S3.out; have h4 := B14.out.size; have h5 := HK5.out.size; have h6 := lt_of_block P7.out; have := HOL.out; omega)
  have c2 : w7.cell? ⟨w2.heap.size, 2, none⟩ = some (.slice (some ⟨w1.heap.size + 1, 0, none⟩) 3 3) := by rw [cell_of_row _ _ 2 _ _ _ HX7.out]; exact HC2.out
  have p10 : w7.cell? ⟨w1.heap.size + 1, 10, none⟩ = some (.int .u64 8192) := by rw [cell_of_row _ _ 10 _ _ _ P7.out]; rfl
  have f10 := frozen_of_row w7 (w1.heap.size + 1) 10 _ _ P7.out
  have P8 : Hid ((w7.setCell ⟨w1.heap.size + 1, 10, none⟩ (.int .u64 8200)).heap[w1.heap.size + 1]? = some (.cells #[.int .u32 1, .int .u32 5, .int .u64 0, .int .u64 0, .int .u64 5, .int .u64 5, .int .u64 0, .int .u32 1, .int .u32 6, .int .u64 4096, .int .u64 8200, .int .u64 8, .int .u64 6144, .int .u64 0, .int .u32 1685382482, .int .u32 0, .int .u64 0, .int .u64 8192, .int .u64 0, .int .u64 6144, .int .u64 0] 60)) := Lib.hid (heap_setCell_same _ (w1.heap.size + 1) 10 _ _ _ P7.out)
  have O8 : Hid (∀ j, j ≠ w1.heap.size + 1 → (w7.setCell ⟨w1.heap.size + 1, 10, none⟩ (.int .u64 8200)).heap[j]? = w7.heap[j]?) := Lib.hid (fun j hj => heap_setCell_other _ _ _ _ hj)
  have E8 : Hid (Below w.heap.size w (w7.setCell ⟨w1.heap.size + 1, 10, none⟩ (.int .u64 8200))) := Lib.hid (by
    have h1 := B1.out
    have h2 := S1.out
    have k1 : VKept (fun k => k = w.heap.size) w w4 := VKept.of_below (bstep B1.out B14.out)
    have k2 := (k1.trans HK5.out (fun _ _ h => h)).trans (VKept.of_below B57.out) (fun _ _ h => h)
    have k3 : Below w.heap.size w w7 := k2.below (Nat.le_refl _) (fun k hk e => by omega)
    exact ⟨k3.os, k3.tape, k3.output, by have := k3.size; simpa [World.setCell] using this, fun k hk => (O8.out k (by omega)).trans (k3.block k hk)⟩)
  have H8S : Hid ((w7.setCell ⟨w1.heap.size + 1, 10, none⟩ (.int .u64 8200)).heap.size = w7.heap.size) := Lib.hid (by simp)
  have r02 : w7.cell? ⟨gb, 2, none⟩ = some (.int .i64 5) := HO7.out.1.cells (g := gb) rfl 2 _ rfl
  have r21 : w7.cell? ⟨gb, 7, none⟩ = some (.int .i64 2) := HO7.out.1.cells (g := gb) rfl 7 _ rfl
  have R02 : Hid ((w7.setCell ⟨w1.heap.size + 1, 10, none⟩ (.int .u64 8200)).cell? ⟨gb, 2, none⟩ = some (.int .i64 5)) := Lib.hid ((cell_eqb (O8.out gb (by have := HPL.out; omega))).trans r02)
  have R21 : Hid ((w7.setCell ⟨w1.heap.size + 1, 10, none⟩ (.int .u64 8200)).cell? ⟨gb, 7, none⟩ = some (.int .i64 2)) := Lib.hid ((cell_eqb (O8.out gb (by have := HPL.out; omega))).trans r21)
  have X8 : Hid ((w7.setCell ⟨w1.heap.size + 1, 10, none⟩ (.int .u64 8200)).heap[w2.heap.size]? = some (.cells C0 39)) := Lib.hid ((O8.out _ (by have := S2.out; omega)).trans HX7.out)
  have Z8 : Hid ((w7.setCell ⟨w1.heap.size + 1, 10, none⟩ (.int .u64 8200)).heap[w1.heap.size + 2]? = some (.cells zer 5)) := Lib.hid ((O8.out _ (by omega)).trans Z7.out)
  clear r02 r21 O8 HO7 P7 Z7 HX7 B57 hgc
  go_upto_region 10 with fail
  generalize w7.setCell ⟨w1.heap.size + 1, 10, none⟩ (.int .u64 8200) = w8 at *
  clear c2 p10 f10
  have HCK := pcheck_any C0 (twoB 8200) w8 (HCELL.out w8 8200 P8.out Z8.out (by decide))
  rw [two_bad] at HCK
  replace HCK : Calls Try.prog 19 #[.agg C0] w8 fun e w' => e = .returned (.iface 51 (.int .i64 9)) ∧ Below w8.heap.size w8 w' := HCK
  have HCK := Lib.hid HCK
  have HRG : Hid (w8.rangeAt w2.heap.size 0 C0.toList) := Lib.hid (fun j v hj => by
    rw [Nat.zero_add, cell_of_row _ _ j _ _ _ X8.out]
    simpa using hj)
  have HI2 : Hid ((Try.prog.info? 39).map (·.size) = some C0.toList.length) := Lib.hid (by rw [HI.out]; simp)
  have r02 := R02.out
  have r21 := R21.out
  have he := run_eql_code
  go_wp2_with (refine BigFrame.wpList_want rfl fun _ hK => wp_load_mid 39 _ rfl w2.heap.size 0 (by rfl) C0.toList _ HRG.out Try.underlying39 rfl HI2.out (hK _ _ ?_); rw [Array.toArray_toList])
  refine HCK.out.mono ?_
  rintro e w9 ⟨rfl, hb9⟩
  have E9 := Lib.hid (bstep E8.out hb9)
  clear hb9 HCK r02 r21
  go_wp2_with fail
  go_ret
  exact ⟨rfl, E9.out⟩
end Go.Proofs.Ytjiifaeehhpkcaa
