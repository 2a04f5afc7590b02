/- Layer 15: the document's segments, and where they lie. -/
import Derived.Test.YtjiifaeehhpkcaaPlaceUs
namespace Go.Proofs.Ytjiifaeehhpkcaa
open Go.RowKit
set_option linter.unusedVariables false
set_option linter.unusedSimpArgs false

theorem rfirst_any (p : PT) (w : World) (hp : p.vaddr < 18446744073709551616) : Calls Try.prog 29 #[p.v] w fun e w' => e = .returned (.int .u64 ((p.vaddr / 4096 : Nat) : Int)) ∧ Below w.heap.size w w' := by
  obtain ⟨a0, a1, a2, a3, a4, a5, a6⟩ := p
  simp only at hp ⊢
  have h5 : IntKind.u64.wrap ((a3 : Int) / 4096) = ((a3 / 4096 : Nat) : Int) := by rw [IntKind.wrap_u64]; omega
  have H5 := Lib.hid h5
  clear h5
  unfold PT.v PT.cells
  go_enter Try.func29, Try.ntmps29
  go_wp2_with fail
  go_ret
  exact ⟨by first | rfl | (rw [← H5.out]; rfl), (Below.refl _ _).alloc (Nat.le_refl _) _⟩
theorem rlast_any (p : PT) (w : World) (hp : p.low) (hm : 0 < p.memsz) : Calls Try.prog 30 #[p.v] w fun e w' => e = .returned (.int .u64 (((p.vaddr + p.memsz - 1) / 4096 : Nat) : Int)) ∧ Below w.heap.size w w' := by
  obtain ⟨a0, a1, a2, a3, a4, a5, a6⟩ := p
  unfold PT.low at hp
  simp only at hp hm ⊢
  have e1 : IntKind.u64.wrap ((a3 : Int) + (a5 : Int)) = ((a3 + a5 : Nat) : Int) := by rw [IntKind.wrap_u64]; omega
  have e2 : IntKind.u64.wrap (((a3 + a5 : Nat) : Int) - 1) = ((a3 + a5 - 1 : Nat) : Int) := by rw [IntKind.wrap_u64]; omega
  have e3 : IntKind.u64.wrap (((a3 + a5 - 1 : Nat) : Int) / 4096) = (((a3 + a5 - 1) / 4096 : Nat) : Int) := by rw [IntKind.wrap_u64]; omega
  have E3 := Lib.hid e3
  generalize a3 + a5 = s1 at *
  generalize s1 - 1 = s2 at *
  unfold PT.v PT.cells
  clear e3 hp hm
  go_enter Try.func30, Try.ntmps30
  go_wp2_with fail
  go_ret
  exact ⟨by rw [← E3.out]; rfl, (Below.refl _ _).alloc (Nat.le_refl _) _⟩

set_option maxRecDepth 100000 in
set_option maxHeartbeats 8000000 in
theorem rsegments_any (C : Array Value) (x : POb) (w : World) (h : PCells w C x) :
    Calls Try.prog 28 #[.agg C] w (SomeP (kindF 1 x.ps) w) := by
  obtain ⟨pa, pc, e2, r2⟩ := h.head
  have h54 := h.size
  have hone := h.one
  have e2' : C[2]'(by omega) = .slice pa x.ps.length pc := by
    rw [Array.getElem?_eq_getElem (by omega)] at e2
    exact Option.some.inj e2
  have B1 : Hid (Below w.heap.size w (w.alloc (.cells C 39))) := Lib.hid ((Below.refl _ _).alloc (Nat.le_refl _) _)
  have HX : Hid ((w.alloc (.cells C 39)).heap[w.heap.size]? = some (.cells C 39)) := Lib.hid (heap_alloc_new _ _)
  have HR := Lib.hid (r2.below B1.out)
  have hpl := h.pl
  have HCI : Hid (∀ wx, Below w.heap.size w wx → True) := Lib.hid (fun _ _ => trivial)
  clear h r2
  obtain ⟨n, hn⟩ : ∃ n, x.ps.length = n := ⟨_, rfl⟩
  rw [hn] at e2 e2' hpl
  have HL := Lib.hid hn
  clear hn
  generalize x.ps = ps at *
  have HS := Lib.hid hpl
  go_enter Try.func28, Try.ntmps28
  go_wp2_with fail
  generalize w.alloc (.cells C 39) = w1 at *
  obtain ⟨xb, hxb⟩ : ∃ xb, w.heap.size = xb := ⟨_, rfl⟩
  have HXB := Lib.hid hxb
  rw [hxb] at HX ⊢
  have B1F : Hid (∀ wx, Below w1.heap.size w1 wx → Below w.heap.size w wx) := Lib.hid (fun wx hx => bstep B1.out hx)
  clear hxb
  go_loopg [3, 4] n (fun g lv iv wr => ∃ (k : Nat) (ad : Option Addr) (m c : Nat), k + g = n ∧ lv = .slice ad m c ∧ iv = .int .i64 (k : Int) ∧ Hid (OwnP wr w1.heap.size (.slice ad m c) ((ps.take k).filter (fun p => p.ty == 1))) ∧ Hid (Below w1.heap.size w1 wr))
  case atStart => exact ⟨0, none, 0, 0, by omega, rfl, rfl, Lib.hid (OwnS.nil _ _ _ _), Lib.hid (Below.refl _ _)⟩
  case round =>
    obtain ⟨k, ad, m, c, hk, rfl, rfl, HO, HB⟩ := hrel
    have hx := (HB.out.block _ (lt_of_block HX.out)).trans HX.out
    have c2 : wr.cell? ⟨xb, 2, none⟩ = some (.slice pa n pc) := by rw [cell_of_row _ _ 2 _ _ _ hx]; exact e2
    clear hx
    cases gk with
    | zero =>
      have hke : k = n := by omega
      subst hke
      clear hk
      go_wp2_with fail
      go_ret
      have e1 : ps.take k = ps := List.take_of_length_le (by rw [HL.out]; exact Nat.le_refl _)
      have h1 := HO.out
      rw [e1] at h1
      have h2 := (OwnS.at h1).1
      rw [List.length_map] at h2
      exact ⟨ad, c, by rw [h2]; rfl, (show OwnP wr w1.heap.size (.slice ad (kindF 1 ps).length c) (kindF 1 ps) from by rw [show (kindF 1 ps).length = m from h2.symm]; exact h1).mono B1.out.size, B1F.out _ HB.out⟩
    | succ g =>
      have hkn : k < n := by omega
      have hkl : k < ps.length := by rw [HL.out]; exact hkn
      obtain ⟨hwf, b, o, rfl, hb, hc⟩ := (HR.out.below HB.out) k hkl
      have HT := Lib.hid (filter_snoc (fun p => p.ty == 1) ps k hkl)
      generalize ps[k] = p at *
      obtain ⟨a0, a1, a2, a3, a4, a5, a6⟩ := p
      have d0 := hc 0 (by omega)
      have d1 := hc 1 (by omega)
      have d2 := hc 2 (by omega)
      have d3 := hc 3 (by omega)
      have d4 := hc 4 (by omega)
      have d5 := hc 5 (by omega)
      have d6 := hc 6 (by omega)
      simp only [PT.cells, List.getElem?_cons_zero, List.getElem?_cons_succ, Nat.add_zero] at d0 d1 d2 d3 d4 d5 d6
      have hm : (((ps.take k).filter (fun p => p.ty == 1)).map PT.cells).length = m := (OwnS.at HO.out).1.symm
      have HM := Lib.hid hm
      have HK1 : Hid (m + 1 ≤ maxLen ∧ (m + 1) * 48 ≤ 140737488355328) := Lib.hid (by have h1 := List.length_filter_le (fun (p : PT) => p.ty == 1) (ps.take k); rw [List.length_take] at h1; rw [List.length_map] at hm; have := HS.out; unfold maxLen; omega)
      have HKK := Lib.hid hk
      have HBS := Lib.hid HB.out.size
      clear hc hkl hwf hm hk
      by_cases hh : a0 = 1
      · have HT2 : Hid ((ps.take (k + 1)).filter (fun p => p.ty == 1) = (ps.take k).filter (fun p => p.ty == 1) ++ [⟨a0, a1, a2, a3, a4, a5, a6⟩]) := Lib.hid (by rw [HT.out, if_pos (by simpa using hh)])
        clear HT
        have m0 : ((a0 : Int) == 1) = true := by rw [beq_iff_eq]; omega
        clear hh
        go_wp2_with (at_builtin; refine wpList_push_row rfl (.tmp 21) (.tmp 28) progSlice rfl w1.heap.size w1 _ _ m (PT.cells ⟨a0, a1, a2, a3, a4, a5, a6⟩) rfl rfl HM.out rfl (by simp [PT.cells, Value.oneCell']) HO.out HK1.out.1 HK1.out.2 HB.out HBS.out ?_; rintro ad' c' w6 ho6 hb6 -)
        go_roundg g
        case measure => omega
        case rel => exact ⟨k + 1, ad', m + 1, c', by have := HKK.out; omega, rfl, by go_num, Lib.hid (by rw [HT2.out]; unfold OwnP; rw [List.map_append]; exact ho6), Lib.hid hb6⟩
      · have HT2 : Hid ((ps.take (k + 1)).filter (fun p => p.ty == 1) = (ps.take k).filter (fun p => p.ty == 1)) := Lib.hid (by rw [HT.out, if_neg (by simpa using hh), List.append_nil])
        clear HT
        have m0 : ((a0 : Int) == 1) = false := by rw [beq_eq_false_iff_ne]; omega
        clear hh
        go_wp2_with fail
        go_roundg g
        case measure => omega
        case rel => exact ⟨k + 1, ad, m, c, by have := HKK.out; omega, rfl, by go_num, Lib.hid (by rw [HT2.out]; exact HO.out), HB⟩

theorem paged_snoc (l : List PT) (k : Nat) (hk : k < l.length) : pagedF (l.take (k + 1)) = pagedF (l.take k) ++ (if hasPages l[k] = true then [l[k]] else []) := filter_snoc hasPages l k hk
theorem head_snoc (l : List PT) (p : PT) : headP (l ++ [p]) = if l = [] then p else headP l := by
  cases l with
  | nil => rfl
  | cons q r => rfl

set_option maxRecDepth 100000 in
set_option maxHeartbeats 8000000 in
theorem rspan_any (a : Option Addr) (n cap : Nat) (l : List PT) (w : World) (h : PRow w a l) (hl : l.length = n) (hn : n * 48 ≤ 140737488351232) (hlow : ∀ p ∈ l, p.low) :
    Calls Try.prog 31 #[.slice a n cap] w fun e w' => ∃ y : Int, e = .returned (.tuple #[.int .u64 (beginF (pagedF l) : Int), .int .i64 y]) ∧ Below w.heap.size w w' := by
  have HR := Lib.hid h
  have HL := Lib.hid hl
  have HLOW := Lib.hid hlow
  clear h hl hlow
  go_enter Try.func31, Try.ntmps31
  go_wp2_with fail
  go_loopg [4, 5, 6, 7] n (fun g fv tv hv iv wr => ∃ (k t : Nat), k + g = n ∧ fv = .int .u64 (((headP (pagedF (l.take k))).vaddr / 4096 : Nat) : Int) ∧ tv = .int .u64 (t : Int) ∧ hv = .bool (!(pagedF (l.take k)).isEmpty) ∧ iv = .int .i64 (k : Int) ∧ Hid (Below w.heap.size w wr))
  case atStart => exact ⟨0, 0, by omega, by simp [pagedF, headP, PT.zero], rfl, by simp [pagedF], rfl, Lib.hid (Below.refl _ _)⟩
  case round =>
    obtain ⟨k, t, hk, rfl, rfl, rfl, rfl, HB⟩ := hrel
    cases gk with
    | zero =>
      have hke : k = n := by omega
      subst hke
      clear hk
      have e1 : l.take k = l := List.take_of_length_le (by rw [HL.out]; exact Nat.le_refl _)
      rw [e1]
      clear e1
      by_cases hp : pagedF l = []
      · have hz : (pagedF l).isEmpty = true := by rw [hp]; rfl
        have HE : Hid (beginF (pagedF l) = 0) := Lib.hid (by rw [hp]; rfl)
        rw [hz]
        clear hz hp
        go_wp2_with fail
        go_ret2
        exact ⟨0, by rw [HE.out]; rfl, HB.out⟩
      · have hz : (pagedF l).isEmpty = false := by rw [List.isEmpty_eq_false_iff]; exact hp
        have HLW := Lib.hid (HLOW.out _ (mem_paged (headP_mem hp)).1)
        have HE : Hid (beginF (pagedF l) = (headP (pagedF l)).vaddr / 4096 * 4096) := Lib.hid rfl
        rw [hz]
        generalize headP (pagedF l) = p at *
        have e1 : IntKind.u64.wrap (((p.vaddr / 4096 : Nat) : Int) * 4096) = ((p.vaddr / 4096 * 4096 : Nat) : Int) := by rw [IntKind.wrap_u64]; have := HLW.out.1; omega
        have E1 := Lib.hid e1
        generalize hpv : p.vaddr / 4096 = pv at *
        clear hz hp hpv
        go_wp2_with fail
        go_ret2
        refine ⟨wrap64 (wrap64 (IntKind.u64.wrap ((t : Int) - (pv : Int))) + 1), ?_, HB.out⟩
        rw [HE.out]
        rfl
    | succ g =>
      have hkn : k < n := by omega
      have hkl : k < l.length := by rw [HL.out]; exact hkn
      obtain ⟨hwf, b, o, rfl, hb, hc⟩ := (HR.out.below HB.out) k hkl
      have HT := Lib.hid (paged_snoc l k hkl)
      have HLW := Lib.hid (HLOW.out l[k] (List.getElem_mem hkl))
      generalize l[k] = p at *
      have HF := Lib.hid (fun wx => rfirst_any p wx hwf.2.2.2.1)
      have HLA : Hid (0 < p.memsz → ∀ wx, Calls Try.prog 30 #[p.v] wx fun e w' => e = .returned (.int .u64 (((p.vaddr + p.memsz - 1) / 4096 : Nat) : Int)) ∧ Below wx.heap.size wx w') := Lib.hid (fun hm wx => rlast_any p wx HLW.out hm)
      have HHP : Hid (0 < p.memsz → pagedF (l.take (k + 1)) = pagedF (l.take k) ++ [p]) := Lib.hid (fun hm => by rw [HT.out, if_pos (by simpa [hasPages] using hm)])
      have HHN : Hid (¬ 0 < p.memsz → pagedF (l.take (k + 1)) = pagedF (l.take k)) := Lib.hid (fun hm => by rw [HT.out, if_neg (by simpa [hasPages] using hm), List.append_nil])
      have HHD := Lib.hid (head_snoc (pagedF (l.take k)) p)
      obtain ⟨a0, a1, a2, a3, a4, a5, a6⟩ := p
      have c0 := hc 0 (by omega)
      have c1 := hc 1 (by omega)
      have c2 := hc 2 (by omega)
      have c3 := hc 3 (by omega)
      have c4 := hc 4 (by omega)
      have c5 := hc 5 (by omega)
      have c6 := hc 6 (by omega)
      simp only [PT.cells, List.getElem?_cons_zero, List.getElem?_cons_succ, Nat.add_zero] at c0 c1 c2 c3 c4 c5 c6
      unfold PT.v PT.cells at HF HLA
      simp only at HF HLA HHP HHN
      have HII := Lib.hid hk
      have HCC : Hid (∀ wx, Below wr.heap.size wr wx → wx.cell? ⟨b, o + k * 7, none⟩ = some (.int .u32 (a0 : Int)) ∧ wx.cell? ⟨b, o + k * 7 + 1, none⟩ = some (.int .u32 (a1 : Int)) ∧ wx.cell? ⟨b, o + k * 7 + 2, none⟩ = some (.int .u64 (a2 : Int)) ∧ wx.cell? ⟨b, o + k * 7 + 3, none⟩ = some (.int .u64 (a3 : Int)) ∧ wx.cell? ⟨b, o + k * 7 + 4, none⟩ = some (.int .u64 (a4 : Int)) ∧ wx.cell? ⟨b, o + k * 7 + 5, none⟩ = some (.int .u64 (a5 : Int)) ∧ wx.cell? ⟨b, o + k * 7 + 6, none⟩ = some (.int .u64 (a6 : Int))) := Lib.hid (fun wx hx =>
        ⟨(hx.cell (p := ⟨b, _, none⟩) hb).trans c0, (hx.cell (p := ⟨b, _, none⟩) hb).trans c1, (hx.cell (p := ⟨b, _, none⟩) hb).trans c2, (hx.cell (p := ⟨b, _, none⟩) hb).trans c3, (hx.cell (p := ⟨b, _, none⟩) hb).trans c4, (hx.cell (p := ⟨b, _, none⟩) hb).trans c5, (hx.cell (p := ⟨b, _, none⟩) hb).trans c6⟩)
      clear hc hkl hwf hk HT
      by_cases hm : 0 < a5
      · have HP2 := Lib.hid (HHP.out hm)
        have HLA2 := Lib.hid (HLA.out hm)
        have m0 : ((a5 : Int) == 0) = false := by rw [beq_eq_false_iff_ne]; omega
        clear HHP HHN HLA hm
        obtain ⟨T, hT⟩ : ∃ T, (a3 + a5 - 1) / 4096 = T := ⟨_, rfl⟩
        rw [hT] at HLA2
        clear hT
        by_cases hz : pagedF (l.take k) = []
        · have hz2 : (pagedF (l.take k)).isEmpty = true := by rw [hz]; rfl
          rw [if_pos hz] at HHD
          rw [hz2]
          clear hz hz2
          go_wp2_with fail
          refine (HF.out wr).mono ?_
          rintro e w2 ⟨rfl, hb2⟩
          have B2 := Lib.hid (bstep HB.out hb2)
          obtain ⟨d0, d1, d2, d3, d4, d5, d6⟩ := HCC.out _ hb2
          clear hb2 c0 c1 c2 c3 c4 c5 c6 HF HCC hb
          go_wp2_with fail
          refine (HLA2.out w2).mono ?_
          rintro e w3 ⟨rfl, hb3⟩
          have B3 := Lib.hid (bstep B2.out hb3)
          clear hb3 HLA2 d0 d1 d2 d3 d4 d5 d6
          go_wp2_with fail
          go_roundg g
          case measure => omega
          case rel => exact ⟨k + 1, T, by have := HII.out; omega, by rw [HP2.out, HHD.out]; rfl, rfl, by rw [HP2.out]; simp, by go_num, B3⟩
        · have hz2 : (pagedF (l.take k)).isEmpty = false := by rw [List.isEmpty_eq_false_iff]; exact hz
          rw [if_neg hz] at HHD
          rw [hz2]
          clear hz hz2 HF
          go_wp2_with fail
          refine (HLA2.out wr).mono ?_
          rintro e w3 ⟨rfl, hb3⟩
          have B3 := Lib.hid (bstep HB.out hb3)
          clear hb3 HLA2 c0 c1 c2 c3 c4 c5 c6 HCC hb
          go_wp2_with fail
          go_roundg g
          case measure => omega
          case rel => exact ⟨k + 1, T, by have := HII.out; omega, by rw [HP2.out, HHD.out]; rfl, rfl, by rw [HP2.out]; simp, by go_num, B3⟩
      · have HP2 := Lib.hid (HHN.out hm)
        have m0 : ((a5 : Int) == 0) = true := by rw [beq_iff_eq]; omega
        clear HHP HHN HLA hm HF HCC HHD
        go_wp2_with fail
        go_roundg g
        case measure => omega
        case rel => exact ⟨k + 1, t, by have := HII.out; omega, by rw [HP2.out], rfl, by rw [HP2.out], by go_num, HB⟩
end Go.Proofs.Ytjiifaeehhpkcaa
