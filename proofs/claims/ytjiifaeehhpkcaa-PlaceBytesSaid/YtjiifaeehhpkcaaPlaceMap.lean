/- Layer 15: an object is laid into an empty memory. -/
import Derived.Test.YtjiifaeehhpkcaaPlaceLaid
import Derived.Test.YtjiifaeehhpkcaaPlaceFind
namespace Go.Proofs.Ytjiifaeehhpkcaa
open Go.RowKit
set_option linter.unusedVariables false
set_option linter.unusedSimpArgs false

set_option maxRecDepth 100000 in
set_option maxHeartbeats 32000000 in
theorem pmap_good (mb : Nat) (S : Nat → Prop) (q : Nat) (g : Nat) (F : Nat → Option Nat) (C : Array Value) (x : POb) (from_ at_ : Nat) (w : World) (h : VmAt w mb S q 0 (fun _ => none) g F) (hS : ∀ b, S b → b < w.heap.size) (hC : PCells w C x) (hap : PApart S C) (hfrom : from_ < 18446744073709551616)
    (hP : placeF x.ty x.bs.length x.ps = 0) (hat3 : x.ty = 3 → findE (spanN (pagedF (kindF 1 x.ps))) from_ = some at_) (hat2 : x.ty = 2 → at_ = beginF (pagedF (kindF 1 x.ps))) (hq : spanN (pagedF (kindF 1 x.ps)) ≤ q) :
    Calls Try.prog 6 #[.pointer (some ⟨mb, 0, none⟩), .agg C, .int .u64 (from_ : Int)] w fun e w' => e = .returned (.tuple #[.int .u64 (((at_ + 18446744073709551616 - beginF (pagedF (kindF 1 x.ps))) % 18446744073709551616 : Nat) : Int), .nilIface]) ∧ VKept S w w' ∧ ∃ V' F', VmAt w' mb (VGrow S w w') q (spanN (pagedF (kindF 1 x.ps))) V' g F' ∧ Laid V' at_ (spanN (pagedF (kindF 1 x.ps))) x.bs (beginF (pagedF (kindF 1 x.ps))) (pagedF (kindF 1 x.ps)) := by
  have h54 := hC.size
  have hone := hC.one
  have hc0 := hC.c0
  have HI := Lib.hid hC.info
  have PL := placed_of hP
  have hspan := PL.span
  have hcnt := PL.count
  have HBND : Hid (∀ p ∈ pagedF (kindF 1 x.ps), beginF (pagedF (kindF 1 x.ps)) ≤ downF p.vaddr ∧ endF p ≤ beginF (pagedF (kindF 1 x.ps)) + spanN (pagedF (kindF 1 x.ps)) * 4096) := Lib.hid (fun p hp => by
    obtain ⟨h1, h2⟩ := apart_bounds (walkF_apart PL.walk) (fun p hp => (mem_paged hp).2) p hp
    refine ⟨h1, Nat.le_trans h2 ?_⟩
    have e1 : endF (lastP (pagedF (kindF 1 x.ps))) % 4096 = 0 := by unfold endF downF; omega
    have e2 : beginF (pagedF (kindF 1 x.ps)) % 4096 = 0 := by unfold beginF downF; omega
    unfold spanN
    omega)
  have HSEG : Hid (∀ p ∈ pagedF (kindF 1 x.ps), p.low ∧ p.off ≤ x.bs.length ∧ p.filesz ≤ x.bs.length - p.off ∧ p.filesz ≤ p.memsz ∧ 0 < p.memsz) := Lib.hid (fun p hp => by
    obtain ⟨h1, h2⟩ := mem_paged hp
    obtain ⟨e', h3⟩ := walkF_zero PL.walk p h1
    obtain ⟨k1, k2, k3, k4, -⟩ := segF_zero h3
    exact ⟨k4, k2, k3, k1, h2⟩)
  have HWF : Hid (∀ p ∈ kindF 1 x.ps, p.wf) := Lib.hid (fun p hp => hC.wf p (mem_kind hp).1)
  have HATL : Hid (at_ % 4096 = 0 ∧ 4096 ≤ at_ ∧ at_ / 4096 + spanN (pagedF (kindF 1 x.ps)) ≤ 34359738368 ∧ at_ < 140737488355328) := Lib.hid (by
    rcases PL.kinds with h2 | h3
    · obtain rfl := hat2 h2
      have h4 := PL.first h2
      have e2 : beginF (pagedF (kindF 1 x.ps)) % 4096 = 0 := by unfold beginF downF; omega
      unfold spanN at *
      omega
    · have := findE_some (hat3 h3)
      omega)
  have HBG : Hid (beginF (pagedF (kindF 1 x.ps)) % 4096 = 0 ∧ beginF (pagedF (kindF 1 x.ps)) < 140737488355328) := Lib.hid ⟨by unfold beginF downF; omega, by omega⟩
  have B1 : Hid (Below w.heap.size w (w.alloc (.cells C 39))) := Lib.hid ((Below.refl _ _).alloc (Nat.le_refl _) _)
  have HX : Hid ((w.alloc (.cells C 39)).heap[w.heap.size]? = some (.cells C 39)) := Lib.hid (heap_alloc_new _ _)
  have HCK := pcheck_any C x _ (hC.below B1.out)
  rw [hP] at HCK
  replace HCK : Calls Try.prog 19 #[.agg C] (w.alloc (.cells C 39)) fun e w' => e = .returned .nilIface ∧ Below (w.alloc (.cells C 39)).heap.size (w.alloc (.cells C 39)) w' := HCK
  have HCK := Lib.hid HCK
  have HSP : Hid (∀ wx, PCells wx C x → Calls Try.prog 20 #[.agg C] wx fun e w' => e = .returned (.tuple #[.int .u64 (beginF (pagedF (kindF 1 x.ps)) : Int), .int .i64 (spanN (pagedF (kindF 1 x.ps)) : Int)]) ∧ Below wx.heap.size wx w') := Lib.hid (fun wx hx => span_ok C x wx hx hP)
  have HSG : Hid (∀ wx, PCells wx C x → Calls Try.prog 24 #[.agg C] wx (SomeP (kindF 1 x.ps) wx)) := Lib.hid (fun wx hx => segments_any C x wx hx)
  have HKL : Hid ((kindF 1 x.ps).length * 48 ≤ 140737488351232) := Lib.hid (by have h1 : (kindF 1 x.ps).length ≤ x.ps.length := List.length_filter_le _ _; have := hC.pl; omega)
  have hty := PL.kinds
  have HC0 := Lib.hid hC
  have HAP0 := Lib.hid hap
  have HS := Lib.hid hS
  have H := Lib.hid h
  have HFR := Lib.hid hfrom
  have HNQ := Lib.hid hq
  have HCN := Lib.hid hcnt
  have HA3 := Lib.hid hat3
  have HA2 := Lib.hid hat2
  clear PL hspan hP hC hap hS h hfrom hq hcnt hat3 hat2
  generalize kindF 1 x.ps = l at *
  have HPG : Hid (∀ (a : Option Addr) (cap : Nat) (wx : World), PRow wx a l → Calls Try.prog 23 #[.slice a l.length cap] wx (SomeP (pagedF l) wx)) := Lib.hid (fun a cap wx hx => paged_any a l.length cap l wx hx rfl HKL.out)
  have HWP : Hid (∀ p ∈ pagedF l, p.wf) := Lib.hid (fun p hp => HWF.out p (mem_paged hp).1)
  have HPL : Hid ((pagedF l).length * 48 ≤ 140737488351232) := Lib.hid (by have h1 : (pagedF l).length ≤ l.length := List.length_filter_le _ _; have := HKL.out; omega)
  generalize pagedF l = pl at *
  generalize beginF pl = bg at *
  generalize spanN pl = sn at *
  obtain ⟨base, hbase⟩ : ∃ base, (at_ + 18446744073709551616 - bg) % 18446744073709551616 = base := ⟨_, rfl⟩
  rw [hbase]
  have HBASE := Lib.hid hbase
  have HBL : Hid (base < 18446744073709551616 ∧ (base + bg) % 18446744073709551616 = at_) := Lib.hid (by have := HATL.out; have := HBG.out; omega)
  clear hbase
  go_enter Try.func6, Try.ntmps6
  go_wp2_with (refine wpList_load_row rfl 39 _ rfl w.heap.size rfl 39 C (0, 0) _ HX.out Try.underlying39 rfl HI.out ?_)
  refine HCK.out.mono ?_
  rintro e w2 ⟨rfl, hb2⟩
  have B2 := Lib.hid (bstep B1.out hb2)
  have HX2 := Lib.hid ((hb2.block _ (lt_of_block HX.out)).trans HX.out)
  clear hb2 HCK HX B1
  go_wp2_with (refine wpList_load_row rfl 39 _ rfl w.heap.size rfl 39 C (0, 0) _ HX2.out Try.underlying39 rfl HI.out ?_)
  refine (HSP.out w2 (HC0.out.below B2.out)).mono ?_
  rintro e w3 ⟨rfl, hb3⟩
  have B3 := Lib.hid (bstep B2.out hb3)
  have HX3 := Lib.hid ((hb3.block _ (lt_of_block HX2.out)).trans HX2.out)
  clear hb3 HSP HX2 B2
  have c0 := (cell_of_row _ _ 0 _ _ _ HX3.out).trans hc0
  have HMAP : Hid (∀ wx, VmAt wx mb S q 0 (fun _ => none) g F → Calls Try.prog 22 #[.pointer (some ⟨mb, 0, none⟩), .int .u64 (at_ : Int), .int .i64 (sn : Int), .int .i64 0] wx fun e w' => e = .returned .nilIface ∧ VKept S wx w' ∧ ∃ F', VmAt w' mb (VGrow S wx w') q sn (mapV (fun _ => none) (at_ / 4096) sn 0) g F') := Lib.hid (fun wx hx => by
    have := map_good mb S q 0 (fun _ => none) g F at_ sn 0 wx hx (by have := HATL.out; omega) (by have := HCN.out; omega) (checkF_zero HCN.out.1 (by decide) HATL.out.1 HATL.out.2.1 HATL.out.2.2.1) (takeF_none (fun _ _ _ => rfl)) (by have := HNQ.out; omega)
    rw [Nat.zero_add] at this
    exact this)
  rcases hty with h2 | h3
  rotate_left 1
  · have HF3 := Lib.hid (find_empty mb S q g F from_ sn w3 (H.out.below B3.out) HFR.out HCN.out.1 (by have := HCN.out; omega))
    rw [HA3.out h3] at HF3
    rw [h3] at c0
    go_wp2_with fail
    refine HF3.out.mono ?_
    rintro e w4 ⟨rfl, hb4⟩
    have B4 := Lib.hid (bstep B3.out hb4)
    have HX4 := Lib.hid ((hb4.block _ (lt_of_block HX3.out)).trans HX3.out)
    have e1 : IntKind.u64.wrap ((at_ : Int) - (bg : Int)) = (base : Int) := by rw [IntKind.wrap_u64]; have := HBASE.out; have := HATL.out; have := HBG.out; omega
    have e2 : IntKind.u64.wrap ((base : Int) + (bg : Int)) = (at_ : Int) := by rw [IntKind.wrap_u64]; have := HBL.out; omega
    unfold findEV
    clear hb4 HF3 HX3 B3 c0
    go_wp2_with fail
    clear e1 e2
    refine (HMAP.out w4 (H.out.below B4.out)).mono ?_
    rintro e w5 ⟨rfl, hk5, F', hv5⟩
    have HC4 := Lib.hid (HC0.out.below B4.out)
    have HC5 := Lib.hid (HC4.out.kept hk5 HAP0.out)
    have HAP5 := Lib.hid (PApart.grow (w' := w5) HC4.out HAP0.out)
    have HXN : Hid (¬ S w.heap.size) := Lib.hid (fun hs => by have := HS.out _ hs; omega)
    have HX5 := Lib.hid ((hk5.block w.heap.size (lt_of_block HX4.out) HXN.out).trans HX4.out)
    have HXL := Lib.hid (lt_of_block HX4.out)
    have HK5 := Lib.hid hk5
    have HV5 := Lib.hid hv5
    have HS5 : Hid (∀ b, VGrow S w4 w5 b → b < w5.heap.size) := Lib.hid (fun b hs => by
      have h1 := B4.out.size
      have h2 := HK5.out.size
      rcases hs with hs | ⟨-, hs⟩
      · have := HS.out b hs; omega
      · exact hs)
    have HXN5 : Hid (¬ VGrow S w4 w5 w.heap.size) := Lib.hid (fun hs => by
      rcases hs with hs | ⟨hs, -⟩
      · exact HXN.out hs
      · have := HXL.out; omega)
    clear hk5 hv5 HC4 HX4 HMAP
    obtain ⟨S5, hS5⟩ : ∃ S5, VGrow S w4 w5 = S5 := ⟨_, rfl⟩
    rw [hS5] at HAP5 HV5 HS5 HXN5
    have HSE := Lib.hid hS5
    clear hS5
    go_wp2_with (refine wpList_load_row rfl 39 _ rfl w.heap.size rfl 39 C (0, 0) _ HX5.out Try.underlying39 rfl HI.out ?_)
    refine (HSG.out w5 HC5.out).mono ?_
    rintro e w6 ⟨a6', c6', rfl, ho6, hb6⟩
    have B56 := Lib.hid hb6
    have HR6 := Lib.hid (OwnP.row ho6 HWF.out).2.1
    clear ho6 hb6 HSG
    go_wp2_with fail
    refine (HPG.out a6' c6' w6 HR6.out).mono ?_
    rintro e w7 ⟨a7', c7', rfl, ho7, hb7⟩
    have B57 := Lib.hid (bstep B56.out hb7)
    have HR7 := Lib.hid (OwnP.row ho7 HWP.out).2.1
    have HA7 : Hid (∀ b o, a7' = some ⟨b, o, none⟩ → ¬ S5 b) := Lib.hid (fun b o e hs => by
      have h1 := (World.ownsRow.lt ho7.1 b (by rw [e]; rfl)).1
      have h2 := HS5.out b hs
      have h3 := B56.out.size
      omega)
    have HV7 := Lib.hid (HV5.out.below B57.out)
    have HW7 : Hid (∀ wx, VKept S5 w7 wx → PCells wx C x ∧ wx.heap[w.heap.size]? = some (.cells C 39) ∧ PRow wx a7' pl) := Lib.hid (fun wx hx => by
      have hx7 := (B57.out.block _ (lt_of_block HX5.out)).trans HX5.out
      exact ⟨(HC5.out.below B57.out).kept hx HAP5.out, (hx.block _ (lt_of_block hx7) HXN5.out).trans hx7, HR7.out.kept hx (fun _ => HA7.out)⟩)
    have HK7 : Hid (VKept S w w7) := Lib.hid (((VKept.of_below B4.out).trans HK5.out (fun _ _ h => h)).trans (VKept.of_below B57.out) (fun _ _ h => h))
    clear ho7 hb7 HPG B56 HR6 HX5 HC5
    obtain ⟨N, hN⟩ : ∃ N, pl.length = N := ⟨_, rfl⟩
    rw [hN] at HPL ⊢
    have HNE := Lib.hid hN
    have hnb : N * 48 ≤ 140737488351232 := HPL.out
    clear hN
    go_wp2_with fail
    go_loopg [61] N (fun gg iv wr => ∃ (i : Nat) (V' : Nat → Option Pg), i + gg = N ∧ iv = .int .i64 (i : Int) ∧ Hid (VmAt wr mb S5 q sn V' g F') ∧ Hid (VKept S5 w7 wr) ∧ Hid (Laid V' at_ sn x.bs bg (pl.take i)))
    case atStart => exact ⟨0, _, by omega, rfl, HV7, Lib.hid (VKept.refl _ _), Lib.hid (laid_new at_ sn x.bs bg HATL.out.1)⟩
    case round =>
      obtain ⟨i, V', hi, rfl, HV, HK, HL⟩ := hrel
      cases gk with
      | zero =>
        have hie : i = N := by omega
        subst hie
        clear hi
        go_wp2_with fail
        go_ret2
        have hl := HL.out
        rw [List.take_of_length_le (by rw [HNE.out]; exact Nat.le_refl _)] at hl
        have hsz1 := B4.out.size
        have hsz2 := B57.out.size
        have hsz3 := HK.out.size
        refine ⟨rfl, HK7.out.trans HK.out (fun j hj hs => ?_), V', F', HV.out.mono (fun k hk => ?_), hl⟩
        · rw [← HSE.out] at hs
          rcases hs with hs | ⟨hs, -⟩
          · exact hs
          · omega
        · rw [← HSE.out] at hk
          rcases hk with hk | ⟨hk1, hk2⟩
          · exact .inl hk
          · exact .inr ⟨by omega, by omega⟩
      | succ gg =>
        have hin : i < N := by omega
        have hil : i < pl.length := by rw [HNE.out]; exact hin
        obtain ⟨hcx, hbx, hrx⟩ := HW7.out wr HK.out
        obtain ⟨hwf, b, o, rfl, hb, hc⟩ := hrx i hil
        have HTK : Hid (pl.take (i + 1) = pl.take i ++ [pl[i]]) := Lib.hid (List.take_succ_eq_append_getElem hil)
        have hbn := HBND.out pl[i] (List.getElem_mem hil)
        have hsg := HSEG.out pl[i] (List.getElem_mem hil)
        generalize pl[i] = p at *
        have hd0 : downF p.vaddr % 4096 = 0 ∧ downF p.vaddr ≤ p.vaddr := by unfold downF; omega
        have hd1 : endF p % 4096 = 0 := by unfold endF downF; omega
        have hd2 : p.vaddr < endF p := end_above hsg.2.2.2.2
        have HA1 : Hid (VKept S5 wr (wr.alloc (.cells p.cells.toArray 60))) := Lib.hid (VKept.of_below ((Below.refl _ _).alloc (Nat.le_refl _) _))
        have hkx := HK.out.trans HA1.out (fun _ _ h => h)
        obtain ⟨hcy, hby, -⟩ := HW7.out _ hkx
        have hfn := fill_nums (va := p.vaddr) (d := downF p.vaddr) (e := endF p) HATL.out.1 HATL.out.2.1 HATL.out.2.2.1 HBG.out.1 HBL.out.1 HBL.out.2 hd0.2 hd0.1 hbn.1 hsg.1.1 hd1 hbn.2 hd2 HATL.out.2.2.2
        have HFI := fill_any mb S5 q sn V' g F' C x p _ (at_ + (downF p.vaddr - bg)) (at_ + (p.vaddr - bg)) ((endF p - downF p.vaddr) / 4096) (wr.alloc (.cells p.cells.toArray 60)) (HV.out.below ((Below.refl _ _).alloc (Nat.le_refl _) _)) (fun b hs => Nat.lt_of_lt_of_le (HS5.out b hs) (Nat.le_trans B57.out.size hkx.size)) (Nat.lt_of_lt_of_le HV.out.lt HA1.out.size) hcy HAP5.out hwf hsg.1 hsg.2.1 hsg.2.2.1 hsg.2.2.2.1 hsg.2.2.2.2
          HBL.out.1 hfn.1 hfn.2.1 rfl hfn.2.2.1 hfn.2.2.2.1 hfn.2.2.2.2.1 (fun k h1 h2 => HL.out.page (hfn.2.2.2.2.2 k h1 h2).1 (hfn.2.2.2.2.2 k h1 h2).2)
        have HLS : Hid (∀ V2, Filled V' V2 (at_ + (downF p.vaddr - bg)) ((endF p - downF p.vaddr) / 4096) (p.flags % 8) (at_ + (p.vaddr - bg)) p.filesz ((x.bs.drop p.off).take p.filesz) → Laid V2 at_ sn x.bs bg (pl.take (i + 1))) := Lib.hid (fun V2 hf => by
          rw [HTK.out]
          exact laid_step HL.out hf rfl rfl rfl HATL.out.1 HBG.out.1 hbn.1 hbn.2 (Nat.le_of_lt (Nat.lt_of_le_of_lt hd0.2 hd2)))
        have HBY := Lib.hid hby
        have HKX := Lib.hid hkx
        obtain ⟨a0, f1, o2, a3, fz, a5, a6⟩ := p
        have c0 := hc 0 (by omega)
        have c1 := hc 1 (by omega)
        have c2 := hc 2 (by omega)
        have c3 := hc 3 (by omega)
        have c4 := hc 4 (by omega)
        have c5 := hc 5 (by omega)
        have c6 := hc 6 (by omega)
        simp only [PT.cells, List.getElem?_cons_zero, List.getElem?_cons_succ, Nat.add_zero] at c0 c1 c2 c3 c4 c5 c6
        unfold PT.v at HFI
        simp only [PT.cells] at HFI HBY HKX
        have HFI := Lib.hid HFI
        have HII := Lib.hid hi
        clear hfn hc hil hwf hi hbn hsg hd0 hd1 hd2 hcx hbx hrx hkx hcy hby HV HK HL HTK HA1
        go_wp2_with (refine wpList_load_row rfl 39 _ rfl w.heap.size rfl 39 C (0, 0) _ HBY.out Try.underlying39 rfl HI.out ?_)
        refine HFI.out.mono ?_
        rintro e w8 ⟨rfl, hk8, V2, hv8, hf8⟩
        have HK8 := Lib.hid (HKX.out.trans hk8 (fun _ _ h => h))
        have HV8 := Lib.hid hv8
        have HL8 := Lib.hid (HLS.out V2 hf8)
        clear hk8 hv8 hf8 HFI HLS HKX HBY c0 c1 c2 c3 c4 c5 c6 hb
        go_wp2_with fail
        go_roundg gg
        case measure => omega
        case rel => exact ⟨i + 1, V2, by have := HII.out; omega, by go_num, HV8, HK8, HL8⟩
  · have B4 := B3
    have HX4 := HX3
    have hat := HA2.out h2
    have hb0 : base = 0 := by have := HBASE.out; have := HBG.out; omega
    have e2 : IntKind.u64.wrap (bg : Int) = (bg : Int) := by rw [IntKind.wrap_u64]; have := HBG.out; omega
    rw [h2] at c0
    clear HX3 B3
    have c1 := Lib.hid c0
    generalize w3 = w4 at *
    go_wp2_with fail
    clear e2 c0
    rw [← hat]
    subst hb0
    refine (HMAP.out w4 (H.out.below B4.out)).mono ?_
    rintro e w5 ⟨rfl, hk5, F', hv5⟩
    have HC4 := Lib.hid (HC0.out.below B4.out)
    have HC5 := Lib.hid (HC4.out.kept hk5 HAP0.out)
    have HAP5 := Lib.hid (PApart.grow (w' := w5) HC4.out HAP0.out)
    have HXN : Hid (¬ S w.heap.size) := Lib.hid (fun hs => by have := HS.out _ hs; omega)
    have HX5 := Lib.hid ((hk5.block w.heap.size (lt_of_block HX4.out) HXN.out).trans HX4.out)
    have HXL := Lib.hid (lt_of_block HX4.out)
    have HK5 := Lib.hid hk5
    have HV5 := Lib.hid hv5
    have HS5 : Hid (∀ b, VGrow S w4 w5 b → b < w5.heap.size) := Lib.hid (fun b hs => by
      have h1 := B4.out.size
      have h2 := HK5.out.size
      rcases hs with hs | ⟨-, hs⟩
      · have := HS.out b hs; omega
      · exact hs)
    have HXN5 : Hid (¬ VGrow S w4 w5 w.heap.size) := Lib.hid (fun hs => by
      rcases hs with hs | ⟨hs, -⟩
      · exact HXN.out hs
      · have := HXL.out; omega)
    clear hk5 hv5 HC4 HX4 HMAP
    obtain ⟨S5, hS5⟩ : ∃ S5, VGrow S w4 w5 = S5 := ⟨_, rfl⟩
    rw [hS5] at HAP5 HV5 HS5 HXN5
    have HSE := Lib.hid hS5
    clear hS5
    go_wp2_with (refine wpList_load_row rfl 39 _ rfl w.heap.size rfl 39 C (0, 0) _ HX5.out Try.underlying39 rfl HI.out ?_)
    refine (HSG.out w5 HC5.out).mono ?_
    rintro e w6 ⟨a6', c6', rfl, ho6, hb6⟩
    have B56 := Lib.hid hb6
    have HR6 := Lib.hid (OwnP.row ho6 HWF.out).2.1
    clear ho6 hb6 HSG
    go_wp2_with fail
    refine (HPG.out a6' c6' w6 HR6.out).mono ?_
    rintro e w7 ⟨a7', c7', rfl, ho7, hb7⟩
    have B57 := Lib.hid (bstep B56.out hb7)
    have HR7 := Lib.hid (OwnP.row ho7 HWP.out).2.1
    have HA7 : Hid (∀ b o, a7' = some ⟨b, o, none⟩ → ¬ S5 b) := Lib.hid (fun b o e hs => by
      have h1 := (World.ownsRow.lt ho7.1 b (by rw [e]; rfl)).1
      have h2 := HS5.out b hs
      have h3 := B56.out.size
      omega)
    have HV7 := Lib.hid (HV5.out.below B57.out)
    have HW7 : Hid (∀ wx, VKept S5 w7 wx → PCells wx C x ∧ wx.heap[w.heap.size]? = some (.cells C 39) ∧ PRow wx a7' pl) := Lib.hid (fun wx hx => by
      have hx7 := (B57.out.block _ (lt_of_block HX5.out)).trans HX5.out
      exact ⟨(HC5.out.below B57.out).kept hx HAP5.out, (hx.block _ (lt_of_block hx7) HXN5.out).trans hx7, HR7.out.kept hx (fun _ => HA7.out)⟩)
    have HK7 : Hid (VKept S w w7) := Lib.hid (((VKept.of_below B4.out).trans HK5.out (fun _ _ h => h)).trans (VKept.of_below B57.out) (fun _ _ h => h))
    clear ho7 hb7 HPG B56 HR6 HX5 HC5
    obtain ⟨N, hN⟩ : ∃ N, pl.length = N := ⟨_, rfl⟩
    rw [hN] at HPL ⊢
    have HNE := Lib.hid hN
    have hnb : N * 48 ≤ 140737488351232 := HPL.out
    clear hN
    go_wp2_with fail
    go_loopg [61] N (fun gg iv wr => ∃ (i : Nat) (V' : Nat → Option Pg), i + gg = N ∧ iv = .int .i64 (i : Int) ∧ Hid (VmAt wr mb S5 q sn V' g F') ∧ Hid (VKept S5 w7 wr) ∧ Hid (Laid V' at_ sn x.bs bg (pl.take i)))
    case atStart => exact ⟨0, _, by omega, rfl, HV7, Lib.hid (VKept.refl _ _), Lib.hid (laid_new at_ sn x.bs bg HATL.out.1)⟩
    case round =>
      obtain ⟨i, V', hi, rfl, HV, HK, HL⟩ := hrel
      cases gk with
      | zero =>
        have hie : i = N := by omega
        subst hie
        clear hi
        go_wp2_with fail
        go_ret2
        have hl := HL.out
        rw [List.take_of_length_le (by rw [HNE.out]; exact Nat.le_refl _)] at hl
        have hsz1 := B4.out.size
        have hsz2 := B57.out.size
        have hsz3 := HK.out.size
        refine ⟨rfl, HK7.out.trans HK.out (fun j hj hs => ?_), V', F', HV.out.mono (fun k hk => ?_), hl⟩
        · rw [← HSE.out] at hs
          rcases hs with hs | ⟨hs, -⟩
          · exact hs
          · omega
        · rw [← HSE.out] at hk
          rcases hk with hk | ⟨hk1, hk2⟩
          · exact .inl hk
          · exact .inr ⟨by omega, by omega⟩
      | succ gg =>
        have hin : i < N := by omega
        have hil : i < pl.length := by rw [HNE.out]; exact hin
        obtain ⟨hcx, hbx, hrx⟩ := HW7.out wr HK.out
        obtain ⟨hwf, b, o, rfl, hb, hc⟩ := hrx i hil
        have HTK : Hid (pl.take (i + 1) = pl.take i ++ [pl[i]]) := Lib.hid (List.take_succ_eq_append_getElem hil)
        have hbn := HBND.out pl[i] (List.getElem_mem hil)
        have hsg := HSEG.out pl[i] (List.getElem_mem hil)
        generalize pl[i] = p at *
        have hd0 : downF p.vaddr % 4096 = 0 ∧ downF p.vaddr ≤ p.vaddr := by unfold downF; omega
        have hd1 : endF p % 4096 = 0 := by unfold endF downF; omega
        have hd2 : p.vaddr < endF p := end_above hsg.2.2.2.2
        have HA1 : Hid (VKept S5 wr (wr.alloc (.cells p.cells.toArray 60))) := Lib.hid (VKept.of_below ((Below.refl _ _).alloc (Nat.le_refl _) _))
        have hkx := HK.out.trans HA1.out (fun _ _ h => h)
        obtain ⟨hcy, hby, -⟩ := HW7.out _ hkx
        have hfn := fill_nums (va := p.vaddr) (d := downF p.vaddr) (e := endF p) HATL.out.1 HATL.out.2.1 HATL.out.2.2.1 HBG.out.1 HBL.out.1 HBL.out.2 hd0.2 hd0.1 hbn.1 hsg.1.1 hd1 hbn.2 hd2 HATL.out.2.2.2
        have HFI := fill_any mb S5 q sn V' g F' C x p _ (at_ + (downF p.vaddr - bg)) (at_ + (p.vaddr - bg)) ((endF p - downF p.vaddr) / 4096) (wr.alloc (.cells p.cells.toArray 60)) (HV.out.below ((Below.refl _ _).alloc (Nat.le_refl _) _)) (fun b hs => Nat.lt_of_lt_of_le (HS5.out b hs) (Nat.le_trans B57.out.size hkx.size)) (Nat.lt_of_lt_of_le HV.out.lt HA1.out.size) hcy HAP5.out hwf hsg.1 hsg.2.1 hsg.2.2.1 hsg.2.2.2.1 hsg.2.2.2.2
          HBL.out.1 hfn.1 hfn.2.1 rfl hfn.2.2.1 hfn.2.2.2.1 hfn.2.2.2.2.1 (fun k h1 h2 => HL.out.page (hfn.2.2.2.2.2 k h1 h2).1 (hfn.2.2.2.2.2 k h1 h2).2)
        have HLS : Hid (∀ V2, Filled V' V2 (at_ + (downF p.vaddr - bg)) ((endF p - downF p.vaddr) / 4096) (p.flags % 8) (at_ + (p.vaddr - bg)) p.filesz ((x.bs.drop p.off).take p.filesz) → Laid V2 at_ sn x.bs bg (pl.take (i + 1))) := Lib.hid (fun V2 hf => by
          rw [HTK.out]
          exact laid_step HL.out hf rfl rfl rfl HATL.out.1 HBG.out.1 hbn.1 hbn.2 (Nat.le_of_lt (Nat.lt_of_le_of_lt hd0.2 hd2)))
        have HBY := Lib.hid hby
        have HKX := Lib.hid hkx
        obtain ⟨a0, f1, o2, a3, fz, a5, a6⟩ := p
        have c0 := hc 0 (by omega)
        have c1 := hc 1 (by omega)
        have c2 := hc 2 (by omega)
        have c3 := hc 3 (by omega)
        have c4 := hc 4 (by omega)
        have c5 := hc 5 (by omega)
        have c6 := hc 6 (by omega)
        simp only [PT.cells, List.getElem?_cons_zero, List.getElem?_cons_succ, Nat.add_zero] at c0 c1 c2 c3 c4 c5 c6
        unfold PT.v at HFI
        simp only [PT.cells] at HFI HBY HKX
        have HFI := Lib.hid HFI
        have HII := Lib.hid hi
        clear hfn hc hil hwf hi hbn hsg hd0 hd1 hd2 hcx hbx hrx hkx hcy hby HV HK HL HTK HA1
        go_wp2_with (refine wpList_load_row rfl 39 _ rfl w.heap.size rfl 39 C (0, 0) _ HBY.out Try.underlying39 rfl HI.out ?_)
        refine HFI.out.mono ?_
        rintro e w8 ⟨rfl, hk8, V2, hv8, hf8⟩
        have HK8 := Lib.hid (HKX.out.trans hk8 (fun _ _ h => h))
        have HV8 := Lib.hid hv8
        have HL8 := Lib.hid (HLS.out V2 hf8)
        clear hk8 hv8 hf8 HFI HLS HKX HBY c0 c1 c2 c3 c4 c5 c6 hb
        go_wp2_with fail
        go_roundg gg
        case measure => omega
        case rel => exact ⟨i + 1, V2, by have := HII.out; omega, by go_num, HV8, HK8, HL8⟩
end Go.Proofs.Ytjiifaeehhpkcaa
