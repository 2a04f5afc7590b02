/- Layer 15: taking away and sealing, without a memory and in an empty one. -/
import Derived.Test.YtjiifaeehhpkcaaPlaceCk2
import Derived.Test.YtjiifaeehhpkcaaVmProt
namespace Go.Proofs.Ytjiifaeehhpkcaa
open Go.RowKit
set_option linter.unusedVariables false
set_option linter.unusedSimpArgs false

theorem pcheck_any (C : Array Value) (x : POb) (w : World) (h : PCells w C x) :
    Calls Try.prog 19 #[.agg C] w fun e w' => e = .returned (errV (placeF x.ty x.bs.length x.ps : Int)) ∧ Below w.heap.size w w' := by
  by_cases h2 : x.ty = 2 ∨ x.ty = 3
  · by_cases hne : pagedF (kindF 1 x.ps) = []
    · have := check_empty C x w h h2 hne
      unfold placeF
      rw [if_pos (.inr hne)]
      exact this
    · exact check_good C x w h h2 hne
  · have := check_kind C x w h (fun e => h2 (.inl e)) (fun e => h2 (.inr e))
    unfold placeF
    rw [if_pos (.inl ⟨fun e => h2 (.inl e), fun e => h2 (.inr e)⟩)]
    exact this
theorem span_ok (C : Array Value) (x : POb) (w : World) (h : PCells w C x) (hp : placeF x.ty x.bs.length x.ps = 0) :
    Calls Try.prog 20 #[.agg C] w fun e w' => e = .returned (.tuple #[.int .u64 (beginF (pagedF (kindF 1 x.ps)) : Int), .int .i64 (spanN (pagedF (kindF 1 x.ps)) : Int)]) ∧ Below w.heap.size w w' :=
  span_any C x w h (placed_of hp).some (fun p hp' => (placed_of hp).low hp') (by have := (placed_of hp).span; omega)

theorem unmap_nil (C : Array Value) (base : Nat) (w : World) (h54 : C.size = 54) (hone : C.all (·.oneCell') = true) : Calls Try.prog 7 #[.pointer none, .agg C, .int .u64 (base : Int)] w fun e w' => e = .returned (errV 1) ∧ Below w.heap.size w w' := by
  go_enter Try.func7, Try.ntmps7
  go_wp2_with fail
  go_ret
  exact ⟨rfl, (Below.refl _ _).alloc (Nat.le_refl _) _⟩
theorem seal_nil (C : Array Value) (base : Nat) (w : World) (h54 : C.size = 54) (hone : C.all (·.oneCell') = true) : Calls Try.prog 8 #[.pointer none, .agg C, .int .u64 (base : Int)] w fun e w' => e = .returned (errV 1) ∧ Below w.heap.size w w' := by
  go_enter Try.func8, Try.ntmps8
  go_wp2_with fail
  go_ret
  exact ⟨rfl, (Below.refl _ _).alloc (Nat.le_refl _) _⟩
theorem map_nil (C : Array Value) (base : Nat) (w : World) (h54 : C.size = 54) (hone : C.all (·.oneCell') = true) : Calls Try.prog 6 #[.pointer none, .agg C, .int .u64 (base : Int)] w fun e w' => e = .returned (.tuple #[.int .u64 0, errV 1]) ∧ Below w.heap.size w w' := by
  go_enter Try.func6, Try.ntmps6
  go_wp2_with fail
  go_ret2
  exact ⟨rfl, (Below.refl _ _).alloc (Nat.le_refl _) _⟩

/-- an empty memory's Unmap and Protect change nothing -/
theorem vunmap_none (mb : Nat) (S : Nat → Prop) (q g : Nat) (F : Nat → Option Nat) (a n : Nat) (w : World) (h : VmAt w mb S q 0 (fun _ => none) g F) (ha : a < 18446744073709551616) (hn : n ≤ 34359738368) :
    Calls Try.prog 26 #[.pointer (some ⟨mb, 0, none⟩), .int .u64 (a : Int), .int .i64 (n : Int)] w fun e w' => (∃ v, e = .returned v) ∧ Below w.heap.size w w' := by
  by_cases hc : checkF a n 0 = 0
  · cases hbar : barredF (fun _ => none) 0 a (n * 4096) with
    | none =>
      obtain ⟨c1, -⟩ := checkF_ok2 (perm := 0) hc
      obtain ⟨p, h1, -⟩ := barredF_none hbar (i := 0) (by omega)
      cases h1
    | some y => exact (unmap_off mb S q 0 _ g F a w n y h ha hn hc hbar).mono (by rintro e w' ⟨rfl, rfl⟩; exact ⟨⟨_, rfl⟩, (Below.refl _ _).alloc (Nat.le_refl _) _⟩)
  · exact (unmap_bad mb a w n ha (by omega) (by omega) hc).mono (by rintro e w' ⟨rfl, rfl⟩; exact ⟨⟨_, rfl⟩, Below.refl _ _⟩)
theorem vprot_none (mb : Nat) (S : Nat → Prop) (q g : Nat) (F : Nat → Option Nat) (a n : Nat) (w : World) (h : VmAt w mb S q 0 (fun _ => none) g F) (ha : a < 18446744073709551616) (hn : n ≤ 34359738368) :
    Calls Try.prog 27 #[.pointer (some ⟨mb, 0, none⟩), .int .u64 (a : Int), .int .i64 (n : Int), .int .i64 4] w fun e w' => (∃ v, e = .returned v) ∧ Below w.heap.size w w' := by
  by_cases hc : checkF a n 4 = 0
  · cases hbar : barredF (fun _ => none) 0 a (n * 4096) with
    | none =>
      obtain ⟨c1, -⟩ := checkF_ok2 (perm := 4) hc
      obtain ⟨p, h1, -⟩ := barredF_none hbar (i := 0) (by omega)
      cases h1
    | some y => exact (protect_off mb S q 0 _ g F a w n 4 y h ha hn hc hbar).mono (by rintro e w' ⟨rfl, rfl⟩; exact ⟨⟨_, rfl⟩, (Below.refl _ _).alloc (Nat.le_refl _) _⟩)
  · exact (protect_bad mb a w n 4 ha (by omega) (by omega) hc).mono (by rintro e w' ⟨rfl, rfl⟩; exact ⟨⟨_, rfl⟩, Below.refl _ _⟩)

set_option maxRecDepth 100000 in
set_option maxHeartbeats 8000000 in
theorem unmap_empty (C : Array Value) (x : POb) (base mb : Nat) (S : Nat → Prop) (q g : Nat) (F : Nat → Option Nat) (w : World) (h : PCells w C x) (hm : VmAt w mb S q 0 (fun _ => none) g F) (hb : base < 18446744073709551616) :
    Calls Try.prog 7 #[.pointer (some ⟨mb, 0, none⟩), .agg C, .int .u64 (base : Int)] w fun e w' => (∃ v, e = .returned v ∧ (placeF x.ty x.bs.length x.ps ≠ 0 → v = errV (placeF x.ty x.bs.length x.ps : Int))) ∧ Below w.heap.size w w' := by
  have h54 := h.size
  have hone := h.one
  have HI := Lib.hid h.info
  have B1 : Hid (Below w.heap.size w (w.alloc (.cells C 39))) := Lib.hid ((Below.refl _ _).alloc (Nat.le_refl _) _)
  have HX : Hid ((w.alloc (.cells C 39)).heap[w.heap.size]? = some (.cells C 39)) := Lib.hid (heap_alloc_new _ _)
  have HCK := Lib.hid (pcheck_any C x _ (h.below B1.out))
  have HB := Lib.hid hb
  obtain ⟨P, hP⟩ : ∃ P, placeF x.ty x.bs.length x.ps = P := ⟨_, rfl⟩
  rw [hP] at HCK ⊢
  have HM := Lib.hid (hm.below B1.out)
  have HP := Lib.hid hP
  have HPC := Lib.hid (h.below B1.out)
  have HUN := Lib.hid (fun a n wx hv ha hn => vunmap_none mb S q g F a n wx hv ha hn)
  obtain ⟨Q, hQ⟩ : ∃ Q : Value → Prop, Q = fun v => P ≠ 0 → v = errV (P : Int) := ⟨_, rfl⟩
  have HQ := Lib.hid hQ
  show Calls _ _ _ _ fun e w' => (∃ v, e = .returned v ∧ (fun v => P ≠ 0 → v = errV (P : Int)) v) ∧ Below w.heap.size w w'
  rw [← hQ]
  clear h hm hb hP hQ
  go_enter Try.func7, Try.ntmps7
  go_wp2_with (refine wpList_load_row rfl 39 _ rfl w.heap.size rfl 39 C (0, 0) _ HX.out Try.underlying39 rfl HI.out ?_)
  refine HCK.out.mono ?_
  rintro e w2 ⟨rfl, hb2⟩
  have B2 := Lib.hid (bstep B1.out hb2)
  have HX2 := Lib.hid ((hb2.block _ (lt_of_block HX.out)).trans HX.out)
  have HM2 := Lib.hid (HM.out.below hb2)
  have HC2 := Lib.hid (HPC.out.below hb2)
  clear hb2 HCK HX HM HPC
  by_cases hp : P = 0
  · have HS := Lib.hid (span_ok C x w2 HC2.out (HP.out.trans hp))
    have HBD : Hid (beginF (pagedF (kindF 1 x.ps)) ≤ 140737488355328 ∧ spanN (pagedF (kindF 1 x.ps)) ≤ 34359738368) := Lib.hid (by have h1 := (placed_of (HP.out.trans hp)).span; have h2 := (placed_of (HP.out.trans hp)).count; omega)
    generalize beginF (pagedF (kindF 1 x.ps)) = bg at *
    generalize spanN (pagedF (kindF 1 x.ps)) = sn at *
    have HQT : Hid (∀ v, Q v) := Lib.hid (fun v => by rw [HQ.out]; exact fun h => absurd hp h)
    subst hp
    have he0 : errV ((0 : Nat) : Int) = .nilIface := rfl
    rw [he0]
    clear he0 HQ HP
    go_wp2_with (refine wpList_load_row rfl 39 _ rfl w.heap.size rfl 39 C (0, 0) _ HX2.out Try.underlying39 rfl HI.out ?_)
    refine HS.out.mono ?_
    rintro e w3 ⟨rfl, hb3⟩
    have B3 := Lib.hid (bstep B2.out hb3)
    have HM3 := Lib.hid (HM2.out.below hb3)
    obtain ⟨A, hA, hAl⟩ : ∃ A : Nat, IntKind.u64.wrap ((base : Int) + (bg : Int)) = (A : Int) ∧ A < 18446744073709551616 := ⟨(base + bg) % 18446744073709551616, by rw [IntKind.wrap_u64]; omega, by omega⟩
    have HAL := Lib.hid hAl
    clear hb3 HM2 HX2 HC2 HS hAl
    go_wp2_with fail
    refine (HUN.out A sn w3 HM3.out HAL.out HBD.out.2).mono ?_
    rintro e w4 ⟨⟨v, rfl⟩, hb4⟩
    have B4 := Lib.hid (bstep B3.out hb4)
    clear hb4 HUN HM3
    go_wp2_with fail
    go_ret
    exact ⟨⟨v, rfl, HQT.out v⟩, B4.out⟩
  · have he := errV_pos' hp
    have HQT : Hid (Q (errV (P : Int))) := Lib.hid (by rw [HQ.out]; exact fun _ => rfl)
    rw [he] at HQT ⊢
    clear HQ HP HUN he
    go_wp2_with fail
    go_ret
    exact ⟨⟨_, rfl, HQT.out⟩, B2.out⟩

/-- what is to be read alone, of an object that can be mapped -/
def relF (sl : List PT) : Nat × Nat :=
  if sl = [] then (0, 0)
  else if ((headP sl).vaddr + (headP sl).memsz - downF (headP sl).vaddr) / 4096 = 0 then (0, 0)
  else (downF (headP sl).vaddr, ((headP sl).vaddr + (headP sl).memsz - downF (headP sl).vaddr) / 4096)

set_option maxRecDepth 100000 in
set_option maxHeartbeats 8000000 in
theorem relro_ok (C : Array Value) (x : POb) (w : World) (h : PCells w C x) (hp : placeF x.ty x.bs.length x.ps = 0) :
    Calls Try.prog 18 #[.agg C] w fun e w' => e = .returned (.tuple #[.int .u64 ((relF (kindF 1685382482 x.ps)).1 : Int), .int .i64 ((relF (kindF 1685382482 x.ps)).2 : Int)]) ∧ Below w.heap.size w w' := by
  have h54 := h.size
  have hone := h.one
  have HI := Lib.hid h.info
  have B1 : Hid (Below w.heap.size w (w.alloc (.cells C 39))) := Lib.hid ((Below.refl _ _).alloc (Nat.le_refl _) _)
  have HX : Hid ((w.alloc (.cells C 39)).heap[w.heap.size]? = some (.cells C 39)) := Lib.hid (heap_alloc_new _ _)
  have HCK := Lib.hid (pcheck_any C x _ (h.below B1.out))
  have HPP := Lib.hid hp
  have HSE : Hid (∀ s ∈ kindF 1685382482 x.ps, s.vaddr + s.memsz ≤ 140737488355328) := Lib.hid (fun s hs => (placed_of hp).sealed hs)
  have HCS := Lib.hid (progs_any C x 1685382482 _ (h.below B1.out) (by decide))
  have HSW : Hid (∀ p ∈ kindF 1685382482 x.ps, p.wf) := Lib.hid (fun p hp => h.wf p (mem_kind hp).1)
  have HPC := Lib.hid (h.below B1.out)
  obtain ⟨r1, hr1⟩ : ∃ r1, (relF (kindF 1685382482 x.ps)).1 = r1 := ⟨_, rfl⟩
  obtain ⟨r2, hr2⟩ : ∃ r2, (relF (kindF 1685382482 x.ps)).2 = r2 := ⟨_, rfl⟩
  rw [hr1, hr2]
  have HR1 : Hid (relF (kindF 1685382482 x.ps) = (r1, r2)) := Lib.hid (by rw [← hr1, ← hr2])
  clear h hp hr1 hr2 HCK
  generalize kindF 1685382482 x.ps = sl at *
  go_enter Try.func18, Try.ntmps18
  go_wp2_with (refine wpList_load_row rfl 39 _ rfl w.heap.size rfl 39 C (0, 0) _ HX.out Try.underlying39 rfl HI.out ?_)
  refine HCS.out.mono ?_
  rintro e w2 ⟨ad, c, rfl, ho, hb2⟩
  have B2 := Lib.hid (bstep B1.out hb2)
  have HX2 := Lib.hid ((hb2.block _ (lt_of_block HX.out)).trans HX.out)
  have HC2 := Lib.hid (HPC.out.below hb2)
  have HRW := Lib.hid (OwnP.row ho HSW.out).2.1
  clear ho hb2 HCS HX HPC
  by_cases hsl : sl = []
  · have HRR : Hid (r1 = 0 ∧ r2 = 0) := Lib.hid (by
      have := HR1.out
      unfold relF at this
      rw [if_pos hsl] at this
      simp only [Prod.mk.injEq] at this
      omega)
    subst hsl
    clear HR1
    go_wp2_with fail
    go_ret2
    exact ⟨by rw [HRR.out.1, HRR.out.2]; rfl, B2.out⟩
  have HCK := Lib.hid (pcheck_any C x w2 HC2.out)
  rw [HPP.out, show errV ((0 : Nat) : Int) = .nilIface from rfl] at HCK
  have HHM := Lib.hid (HSE.out _ (headP_mem hsl))
  have hpos := List.length_pos_iff.2 hsl
  obtain ⟨hwf, b, o, rfl, hlt, hc0⟩ := HRW.out 0 hpos
  have hh : sl[0] = headP sl := by unfold headP; simp [List.getD, List.getElem?_eq_getElem hpos]
  have HRR : Hid ((r1, r2) = if ((headP sl).vaddr + (headP sl).memsz - downF (headP sl).vaddr) / 4096 = 0 then (0, 0) else (downF (headP sl).vaddr, ((headP sl).vaddr + (headP sl).memsz - downF (headP sl).vaddr) / 4096)) := Lib.hid (by
    rw [← HR1.out]
    unfold relF
    rw [if_neg hsl])
  rw [hh] at hc0 hwf
  obtain ⟨SN, hSN⟩ : ∃ SN, sl.length = SN := ⟨_, rfl⟩
  rw [hSN] at hpos ⊢
  have hd1 : ((SN : Int) == 0) = false := by rw [beq_eq_false_iff_ne]; omega
  have HPO := Lib.hid hpos
  clear hh hSN hsl HR1 HSE HSW
  generalize headP sl = p at *
  obtain ⟨a0, a1, a2, a3, a4, a5, a6⟩ := p
  have c3 := hc0 3 (by omega)
  have c5 := hc0 5 (by omega)
  simp only [PT.cells, List.getElem?_cons_zero, List.getElem?_cons_succ, Nat.add_zero, Nat.zero_mul] at c3 c5 HRR HHM
  have HCL : Hid (∀ wx, Below w2.heap.size w2 wx → wx.cell? ⟨b, o + 3, none⟩ = some (.int .u64 (a3 : Int)) ∧ wx.cell? ⟨b, o + 5, none⟩ = some (.int .u64 (a5 : Int))) := Lib.hid (fun wx hx => ⟨(hx.cell (p := ⟨b, o + 3, none⟩) hlt).trans c3, (hx.cell (p := ⟨b, o + 5, none⟩) hlt).trans c5⟩)
  have HRG : Hid (w2.rangeAt w.heap.size 0 C.toList) := Lib.hid (fun j v hj => by
    rw [Nat.zero_add, cell_of_row _ _ j _ _ _ HX2.out]
    simpa using hj)
  have HI2 : Hid ((Try.prog.info? 39).map (·.size) = some C.toList.length) := Lib.hid (by rw [HI.out]; simp)
  have HW3 := Lib.hid hwf.2.2.2.1
  have HDN := Lib.hid (fun wx => down_any a3 wx HW3.out)
  clear hc0 c3 c5 hlt hwf
  go_wp2_with (refine BigFrame.wpList_want rfl fun _ hK => wp_load_mid 39 _ rfl w.heap.size 0 (by rfl) C.toList _ HRG.out Try.underlying39 rfl HI2.out (hK _ _ ?_); rw [Array.toArray_toList])
  refine HCK.out.mono ?_
  rintro e w3 ⟨rfl, hb3⟩
  have B3 := Lib.hid (bstep B2.out hb3)
  obtain ⟨c3, c5⟩ := HCL.out _ hb3
  have hno : (0 : Int) ≤ 0 := Int.le_refl 0
  obtain ⟨d, hd⟩ : ∃ d, downF a3 = d := ⟨_, rfl⟩
  rw [hd] at HDN HRR
  have HD : Hid (d ≤ a3) := Lib.hid (by rw [← hd]; unfold downF; omega)
  have hpo : (0 : Int) < (SN : Int) := by have := HPO.out; omega
  clear hb3 HCK HCL HRG HX2 HC2 hd hd1 hno
  go_wp2_with fail
  refine (HDN.out w3).mono ?_
  rintro e w4 ⟨rfl, rfl⟩
  clear HDN
  have k1 : IntKind.u64.wrap ((a3 : Int) + (a5 : Int)) = ((a3 + a5 : Nat) : Int) := by rw [IntKind.wrap_u64]; have := HHM.out; omega
  have k2 : IntKind.u64.wrap (((a3 + a5 : Nat) : Int) - (d : Int)) = ((a3 + a5 - d : Nat) : Int) := by rw [IntKind.wrap_u64]; have := HHM.out; have := HD.out; omega
  have HKN : Hid (a3 + a5 - d ≤ 140737488355328) := Lib.hid (by have := HHM.out; omega)
  generalize a3 + a5 = s1 at *
  generalize s1 - d = s2 at *
  have k3 : ((s2 : Nat) : Int).tdiv 4096 = ((s2 / 4096 : Nat) : Int) := by rw [Int.tdiv_eq_ediv_of_nonneg (by omega)]; omega
  have k4 : IntKind.u64.wrap ((s2 : Int) / 4096) = ((s2 / 4096 : Nat) : Int) := by rw [IntKind.wrap_u64]; have := HKN.out; omega
  have k6 : IntKind.u64.wrap (((s2 / 4096 : Nat) : Int)) = ((s2 / 4096 : Nat) : Int) := by rw [IntKind.wrap_u64]; have := HKN.out; omega
  have k5 : IntKind.i64.wrap ((s2 / 4096 : Nat) : Int) = ((s2 / 4096 : Nat) : Int) := by rw [IntKind.wrap_i64]; have := HKN.out; omega
  have HNN : Hid (s2 / 4096 ≤ 34359738368) := Lib.hid (by have := HKN.out; omega)
  obtain ⟨n, hn⟩ : ∃ n, s2 / 4096 = n := ⟨_, rfl⟩
  have k7 : (s2 : Int) / 4096 = (n : Int) := by omega
  rw [hn] at k3 k4 k5 k6 HRR HNN
  clear hn
  rw [k7] at k4
  go_wp2_with fail
  go_quiet (fail)
  by_cases hn0 : n = 0
  · have HRT : Hid (r1 = 0 ∧ r2 = 0) := Lib.hid (by
      have := HRR.out
      rw [if_pos hn0] at this
      simp only [Prod.mk.injEq] at this
      exact this)
    have m0 : ((n : Int) == 0) = true := by rw [beq_iff_eq]; omega
    clear HRR hn0
    go_wp2_with fail
    go_ret2
    exact ⟨by rw [HRT.out.1, HRT.out.2]; rfl, below_drewN B3.out _⟩
  · have HRT : Hid (r1 = d ∧ r2 = n) := Lib.hid (by
      have := HRR.out
      rw [if_neg hn0] at this
      simp only [Prod.mk.injEq] at this
      exact this)
    have m0 : ((n : Int) == 0) = false := by rw [beq_eq_false_iff_ne]; omega
    clear HRR hn0
    go_wp2_with fail
    go_ret2
    exact ⟨by rw [HRT.out.1, HRT.out.2]; rfl, below_drewN B3.out _⟩

theorem relF_lt {sl : List PT} (h : ∀ s ∈ sl, s.vaddr + s.memsz ≤ 140737488355328) : (relF sl).1 ≤ 140737488355328 ∧ (relF sl).2 ≤ 34359738368 := by
  unfold relF
  by_cases hs : sl = []
  · rw [if_pos hs]; decide
  rw [if_neg hs]
  have h1 := h _ (headP_mem hs)
  generalize headP sl = p at *
  have h2 : downF p.vaddr ≤ p.vaddr := by unfold downF; omega
  split
  · decide
  · simp only
    omega

set_option maxRecDepth 100000 in
set_option maxHeartbeats 8000000 in
theorem seal_empty (C : Array Value) (x : POb) (base mb : Nat) (S : Nat → Prop) (q g : Nat) (F : Nat → Option Nat) (w : World) (h : PCells w C x) (hm : VmAt w mb S q 0 (fun _ => none) g F) (hb : base < 18446744073709551616) :
    Calls Try.prog 8 #[.pointer (some ⟨mb, 0, none⟩), .agg C, .int .u64 (base : Int)] w fun e w' => (∃ v, e = .returned v ∧ (placeF x.ty x.bs.length x.ps ≠ 0 → v = errV (placeF x.ty x.bs.length x.ps : Int))) ∧ Below w.heap.size w w' := by
  have h54 := h.size
  have hone := h.one
  have HI := Lib.hid h.info
  have B1 : Hid (Below w.heap.size w (w.alloc (.cells C 39))) := Lib.hid ((Below.refl _ _).alloc (Nat.le_refl _) _)
  have HX : Hid ((w.alloc (.cells C 39)).heap[w.heap.size]? = some (.cells C 39)) := Lib.hid (heap_alloc_new _ _)
  have HCK := Lib.hid (pcheck_any C x _ (h.below B1.out))
  have HB := Lib.hid hb
  obtain ⟨P, hP⟩ : ∃ P, placeF x.ty x.bs.length x.ps = P := ⟨_, rfl⟩
  rw [hP] at HCK ⊢
  have HM := Lib.hid (hm.below B1.out)
  have HP := Lib.hid hP
  have HPC := Lib.hid (h.below B1.out)
  have HUN := Lib.hid (fun a n wx hv ha hn => vprot_none mb S q g F a n wx hv ha hn)
  obtain ⟨Q, hQ⟩ : ∃ Q : Value → Prop, Q = fun v => P ≠ 0 → v = errV (P : Int) := ⟨_, rfl⟩
  have HQ := Lib.hid hQ
  show Calls _ _ _ _ fun e w' => (∃ v, e = .returned v ∧ (fun v => P ≠ 0 → v = errV (P : Int)) v) ∧ Below w.heap.size w w'
  rw [← hQ]
  clear h hm hb hP hQ
  go_enter Try.func8, Try.ntmps8
  go_wp2_with (refine wpList_load_row rfl 39 _ rfl w.heap.size rfl 39 C (0, 0) _ HX.out Try.underlying39 rfl HI.out ?_)
  refine HCK.out.mono ?_
  rintro e w2 ⟨rfl, hb2⟩
  have B2 := Lib.hid (bstep B1.out hb2)
  have HX2 := Lib.hid ((hb2.block _ (lt_of_block HX.out)).trans HX.out)
  have HM2 := Lib.hid (HM.out.below hb2)
  have HC2 := Lib.hid (HPC.out.below hb2)
  clear hb2 HCK HX HM HPC
  by_cases hp : P = 0
  · have HS := Lib.hid (relro_ok C x w2 HC2.out (HP.out.trans hp))
    have HBD := Lib.hid (relF_lt (fun s hs => (placed_of (HP.out.trans hp)).sealed (s := s) hs))
    generalize relF (kindF 1685382482 x.ps) = rr at *
    obtain ⟨bg, sn⟩ := rr
    simp only at HBD
    have HQT : Hid (∀ v, Q v) := Lib.hid (fun v => by rw [HQ.out]; exact fun h => absurd hp h)
    subst hp
    have he0 : errV ((0 : Nat) : Int) = .nilIface := rfl
    rw [he0]
    clear he0 HQ HP
    go_wp2_with (refine wpList_load_row rfl 39 _ rfl w.heap.size rfl 39 C (0, 0) _ HX2.out Try.underlying39 rfl HI.out ?_)
    refine HS.out.mono ?_
    rintro e w3 ⟨rfl, hb3⟩
    have B3 := Lib.hid (bstep B2.out hb3)
    have HM3 := Lib.hid (HM2.out.below hb3)
    obtain ⟨A, hA, hAl⟩ : ∃ A : Nat, IntKind.u64.wrap ((base : Int) + (bg : Int)) = (A : Int) ∧ A < 18446744073709551616 := ⟨(base + bg) % 18446744073709551616, by rw [IntKind.wrap_u64]; omega, by omega⟩
    have HAL := Lib.hid hAl
    clear hb3 HM2 HX2 HC2 HS hAl
    by_cases hs0 : sn = 0
    · have m0 : ((sn : Int) == 0) = true := by rw [beq_iff_eq]; omega
      clear hs0
      go_wp2_with fail
      go_ret
      exact ⟨⟨_, rfl, HQT.out _⟩, B3.out⟩
    · have m0 : ((sn : Int) == 0) = false := by rw [beq_eq_false_iff_ne]; omega
      clear hs0
      go_wp2_with fail
      refine (HUN.out A sn w3 HM3.out HAL.out HBD.out.2).mono ?_
      rintro e w4 ⟨⟨v, rfl⟩, hb4⟩
      have B4 := Lib.hid (bstep B3.out hb4)
      clear hb4 HUN HM3
      go_wp2_with fail
      go_ret
      exact ⟨⟨v, rfl, HQT.out v⟩, B4.out⟩
  · have he := errV_pos' hp
    have HQT : Hid (Q (errV (P : Int))) := Lib.hid (by rw [HQ.out]; exact fun _ => rfl)
    rw [he] at HQT ⊢
    clear HQ HP HUN he
    go_wp2_with fail
    go_ret
    exact ⟨⟨_, rfl, HQT.out⟩, B2.out⟩
end Go.Proofs.Ytjiifaeehhpkcaa
