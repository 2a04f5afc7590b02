/- Layer 15: PlaceBytes. -/
import Derived.Test.YtjiifaeehhpkcaaPlaceArr
import Derived.Test.YtjiifaeehhpkcaaPlaceUp
import Derived.Test.YtjiifaeehhpkcaaPlaceOpen
import Derived.StillTailTactics
namespace Go.Proofs.Ytjiifaeehhpkcaa
open Go.RowKit
set_option linter.unusedVariables false
set_option linter.unusedSimpArgs false

theorem OwnI.rowAt {w : World} {B n cap : Nat} {e : TypeId} {k : IntKind} {a : Addr} {xs : List Int} (h : OwnI w B e k (.slice (some a) n cap) xs) : Row k w (some a) xs := by
  obtain ⟨a', c', hv, hr, -⟩ := h.row
  simp only [Value.slice.injEq] at hv
  obtain ⟨rfl, -, -⟩ := hv
  exact hr
theorem slice8p : IntSlice Try.prog 37 5 .u8 1 := ⟨Try.underlying37, by kernel_rfl⟩
theorem sliceip : IntSlice Try.prog 31 3 .i64 8 := ⟨Try.underlying31, by kernel_rfl⟩

set_option maxRecDepth 100000 in
set_option maxHeartbeats 32000000 in
/-- what cannot be mapped -/
theorem bytes_bad (C : Array Value) (x : POb) (from_ : Nat) (W : World) (h : PCells W C x)
    (hbad : ∀ (mb : Nat) (S : Nat → Prop) (g : Nat) (F : Nat → Option Nat) (wx : World), VmAt wx mb S 200 0 (fun _ => none) g F → PCells wx C x → Calls Try.prog 6 #[.pointer (some ⟨mb, 0, none⟩), .agg C, .int .u64 (from_ : Int)] wx fun e w' => (∃ c : Nat, c ≠ 0 ∧ e = .returned (.tuple #[.int .u64 0, .iface 51 (.int .i64 (c : Int))])) ∧ Below wx.heap.size wx w') :
    Calls Try.prog 4 #[.agg C, .int .u64 (from_ : Int)] W fun e w' => e = .returned (.bool true) ∧ Below W.heap.size W w' := by
  have h54 := h.size
  have hone := h.one
  have HI := Lib.hid h.info
  have B1 : Hid (Below W.heap.size W (W.alloc (.cells C 39))) := Lib.hid ((Below.refl _ _).alloc (Nat.le_refl _) _)
  have HX : Hid ((W.alloc (.cells C 39)).heap[W.heap.size]? = some (.cells C 39)) := Lib.hid (heap_alloc_new _ _)
  have HXL : Hid (W.heap.size < (W.alloc (.cells C 39)).heap.size) := Lib.hid (by simp)
  have HXF : Hid (∀ wx, Below (W.alloc (.cells C 39)).heap.size (W.alloc (.cells C 39)) wx → wx.heap[W.heap.size]? = some (.cells C 39) ∧ PCells wx C x) := Lib.hid (fun wx hx => ⟨(hx.block _ (lt_of_block HX.out)).trans HX.out, h.below (bstep B1.out hx)⟩)
  have HUP := Lib.hid (up_place (W.alloc (.cells C 39)))
  go_enter Try.func4, Try.ntmps4
  go_wp2_with fail
  refine HUP.out.mono ?_
  rintro e w2 ⟨rfl, hb2⟩
  have B2 := Lib.hid hb2
  generalize W.alloc (.cells C 39) = w1 at *
  have HNEW := Lib.hid (vnew_any 200 w2 (by omega))
  clear hb2 HUP HX
  go_wp2_with fail
  refine HNEW.out.mono ?_
  rintro e w3 ⟨rfl, hb3, hs3, hv3⟩
  have B3 := Lib.hid (bstep B2.out hb3)
  have V3 := Lib.hid hv3
  have S3 := Lib.hid hs3
  have HX3 := Lib.hid (HXF.out w3 B3.out).1
  have PC3 := Lib.hid (HXF.out w3 B3.out).2
  clear hb3 hs3 hv3 HNEW
  obtain ⟨gb, hgb⟩ : ∃ gb, w2.heap.size = gb := ⟨_, rfl⟩
  rw [hgb] at V3 S3 ⊢
  have HGB := Lib.hid hgb
  clear hgb
  have HMP := Lib.hid (hbad _ _ _ _ w3 V3.out PC3.out)
  clear hbad h
  go_wp2_with (refine wpList_load_row rfl 39 _ rfl W.heap.size rfl 39 C (0, 0) _ HX3.out Try.underlying39 rfl HI.out ?_)
  refine HMP.out.mono ?_
  rintro e w4 ⟨⟨c, hc, rfl⟩, hb4⟩
  have B4 := Lib.hid (bstep B3.out hb4)
  have V4 := Lib.hid (V3.out.below hb4)
  have HUS := Lib.hid (used_any _ _ _ _ _ _ _ w4 V4.out)
  clear hb4 HMP HX3 hc
  go_wp2_with fail
  refine HUS.out.mono ?_
  rintro e w' ⟨rfl, rfl⟩
  go_wp2_with fail
  go_ret
  exact ⟨rfl, bstep B1.out B4.out⟩

set_option maxRecDepth 100000 in
set_option maxHeartbeats 64000000 in
theorem bytes_good (C : Array Value) (x : POb) (from_ at_ : Nat) (W : World) (h : PCells W C x) (hfrom : from_ < 18446744073709551616) (hap0 : PApart (fun k => W.heap.size ≤ k) C)
    (hP : placeF x.ty x.bs.length x.ps = 0) (hat3 : x.ty = 3 → findE (spanN (segsF x.ps)) from_ = some at_) (hat2 : x.ty = 2 → at_ = beginF (segsF x.ps)) (hq : spanN (segsF x.ps) ≤ 200) :
    Calls Try.prog 4 #[.agg C, .int .u64 (from_ : Int)] W fun e w' => e = .returned (.bool true) ∧ Below W.heap.size W w' := by
  have h54 := h.size
  have hone := h.one
  have HI := Lib.hid h.info
  have B1 : Hid (Below W.heap.size W (W.alloc (.cells C 39))) := Lib.hid ((Below.refl _ _).alloc (Nat.le_refl _) _)
  have HX : Hid ((W.alloc (.cells C 39)).heap[W.heap.size]? = some (.cells C 39)) := Lib.hid (heap_alloc_new _ _)
  have HXL : Hid (W.heap.size < (W.alloc (.cells C 39)).heap.size) := Lib.hid (by simp)
  have HXF : Hid (∀ wx, Below (W.alloc (.cells C 39)).heap.size (W.alloc (.cells C 39)) wx → wx.heap[W.heap.size]? = some (.cells C 39) ∧ PCells wx C x) := Lib.hid (fun wx hx => ⟨(hx.block _ (lt_of_block HX.out)).trans HX.out, h.below (bstep B1.out hx)⟩)
  have HUP := Lib.hid (up_place (W.alloc (.cells C 39)))
  have HPM := Lib.hid (fun (mb : Nat) (S : Nat → Prop) (g : Nat) (F : Nat → Option Nat) (wx : World) (hm : VmAt wx mb S 200 0 (fun _ => none) g F) (hS : ∀ b, S b → b < wx.heap.size) (hc : PCells wx C x) (hap : PApart S C) => pmap_good mb S 200 g F C x from_ at_ wx hm hS hc hap hfrom hP hat3 hat2 hq)
  have HPS := Lib.hid (fun (wx : World) (hc : PCells wx C x) => pspan_ok C x wx hc hP)
  have PL := placed_of hP
  have HCN : Hid (1 ≤ spanN (segsF x.ps) ∧ spanN (segsF x.ps) ≤ 200) := Lib.hid ⟨PL.count.1, hq⟩
  have HATL : Hid (at_ % 4096 = 0 ∧ 4096 ≤ at_ ∧ at_ / 4096 + spanN (segsF x.ps) ≤ 34359738368 ∧ at_ < 140737488355328) := Lib.hid (by
    have hspan := PL.span
    have hcnt := PL.count
    rcases PL.kinds with h2 | h3
    · obtain rfl := hat2 h2
      have h4 := PL.first h2
      unfold segsF
      have e2 : beginF (pagedF (kindF 1 x.ps)) % 4096 = 0 := by unfold beginF downF; omega
      unfold spanN at *
      omega
    · have := findE_some (hat3 h3)
      omega)
  have HBG : Hid (beginF (segsF x.ps) % 4096 = 0 ∧ beginF (segsF x.ps) < 140737488355328) := Lib.hid ⟨by unfold beginF downF; omega, by have := PL.span; unfold segsF; omega⟩
  have HBND : Hid (∀ p ∈ segsF x.ps, beginF (segsF x.ps) ≤ downF p.vaddr ∧ endF p ≤ beginF (segsF x.ps) + spanN (segsF x.ps) * 4096) := Lib.hid (fun p hp => by
    obtain ⟨h1, h2⟩ := apart_bounds (walkF_apart PL.walk) (fun p hp => (mem_paged hp).2) p hp
    refine ⟨h1, Nat.le_trans h2 ?_⟩
    have e1 : endF (lastP (pagedF (kindF 1 x.ps))) % 4096 = 0 := by unfold endF downF; omega
    have e2 : beginF (pagedF (kindF 1 x.ps)) % 4096 = 0 := by unfold beginF downF; omega
    unfold segsF spanN
    omega)
  have HSEG : Hid (∀ p ∈ segsF x.ps, p.low ∧ p.off ≤ x.bs.length ∧ p.filesz ≤ x.bs.length - p.off ∧ p.filesz ≤ p.memsz ∧ 0 < p.memsz) := Lib.hid (fun p hp => by
    obtain ⟨h1, h2⟩ := mem_paged (l := kindF 1 x.ps) hp
    obtain ⟨e', h3⟩ := walkF_zero PL.walk p h1
    obtain ⟨k1, k2, k3, k4, -⟩ := segF_zero h3
    exact ⟨k4, k2, k3, k1, h2⟩)
  have HAP0 := Lib.hid hap0
  clear h hfrom hap0 hP hat3 hat2 hq PL
  have HPM : Hid (∀ (mb : Nat) (S : Nat → Prop) (g : Nat) (F : Nat → Option Nat) (wx : World), VmAt wx mb S 200 0 (fun _ => none) g F → (∀ b, S b → b < wx.heap.size) → PCells wx C x → PApart S C → Calls Try.prog 6 #[.pointer (some ⟨mb, 0, none⟩), .agg C, .int .u64 (from_ : Int)] wx fun e w' => e = .returned (.tuple #[.int .u64 (((at_ + 18446744073709551616 - beginF (segsF x.ps)) % 18446744073709551616 : Nat) : Int), .nilIface]) ∧ VKept S wx w' ∧ ∃ V' F', VmAt w' mb (VGrow S wx w') 200 (spanN (segsF x.ps)) V' g F' ∧ Laid V' at_ (spanN (segsF x.ps)) x.bs (beginF (segsF x.ps)) (segsF x.ps)) := HPM
  have HPS : Hid (∀ (wx : World), PCells wx C x → Calls Try.prog 13 #[.agg C] wx fun e w' => e = .returned (.tuple #[.int .u64 (beginF (segsF x.ps) : Int), .int .i64 (spanN (segsF x.ps) : Int)]) ∧ Below wx.heap.size wx w') := HPS
  obtain ⟨bg, hbg⟩ : ∃ bg, beginF (segsF x.ps) = bg := ⟨_, rfl⟩
  obtain ⟨sn, hsn⟩ : ∃ sn, spanN (segsF x.ps) = sn := ⟨_, rfl⟩
  rw [hbg] at HBG HPM HPS HBND
  rw [hsn] at HCN HATL HPM HPS HBND
  clear hbg hsn
  obtain ⟨base, hbase⟩ : ∃ base, (at_ + 18446744073709551616 - bg) % 18446744073709551616 = base := ⟨_, rfl⟩
  rw [hbase] at HPM
  have HBL : Hid (base < 18446744073709551616 ∧ (base + bg) % 18446744073709551616 = at_) := Lib.hid (by have := HATL.out; have := HBG.out; omega)
  clear hbase
  go_enter Try.func4, Try.ntmps4
  go_wp2_with fail
  refine HUP.out.mono ?_
  rintro e w2 ⟨rfl, hb2⟩
  have B2 := Lib.hid hb2
  generalize W.alloc (.cells C 39) = w1 at *
  have HNEW := Lib.hid (vnew_any 200 w2 (by omega))
  clear hb2 HUP HX
  go_wp2_with fail
  refine HNEW.out.mono ?_
  rintro e w3 ⟨rfl, hb3, hs3, hv3⟩
  have B3 := Lib.hid (bstep B2.out hb3)
  have V3 := Lib.hid hv3
  have S3 := Lib.hid hs3
  have HX3 := Lib.hid (HXF.out w3 B3.out).1
  have PC3 := Lib.hid (HXF.out w3 B3.out).2
  clear hb3 hs3 hv3 HNEW
  obtain ⟨gb, hgb⟩ : ∃ gb, w2.heap.size = gb := ⟨_, rfl⟩
  rw [hgb] at V3 S3 ⊢
  have HGB := Lib.hid hgb
  clear hgb
  have HMP := Lib.hid (HPM.out _ _ _ _ w3 V3.out (fun b hb => by have := S3.out; omega) PC3.out ⟨fun b o n c e hn hs => HAP0.out.c2 b o n c e hn (by have := HGB.out; have := B2.out.size; have := HXL.out; omega), fun b o n c e hn hs => HAP0.out.c53 b o n c e hn (by have := HGB.out; have := B2.out.size; have := HXL.out; omega)⟩)
  clear HPM
  go_wp2_with (refine wpList_load_row rfl 39 _ rfl W.heap.size rfl 39 C (0, 0) _ HX3.out Try.underlying39 rfl HI.out ?_)
  refine HMP.out.mono ?_
  rintro e w4 ⟨rfl, hk4, V', F', hv4, hl4⟩
  have HXN : Hid (W.heap.size ≠ gb) := Lib.hid (by have := HGB.out; have := B2.out.size; have := HXL.out; omega)
  have HX4 := Lib.hid ((hk4.block _ (lt_of_block HX3.out) HXN.out).trans HX3.out)
  have PC4 := Lib.hid (PC3.out.kept hk4 ⟨fun b o n c e hn hs => HAP0.out.c2 b o n c e hn (by have := HGB.out; have := B2.out.size; have := HXL.out; omega), fun b o n c e hn hs => HAP0.out.c53 b o n c e hn (by have := HGB.out; have := B2.out.size; have := HXL.out; omega)⟩)
  have BW4 : Hid (Below W.heap.size W w4) := Lib.hid (by
    have k1 : VKept (fun k => k = gb) W w3 := VKept.of_below (bstep B1.out B3.out)
    have k2 := k1.trans hk4 (fun _ _ h => h)
    exact k2.below (Nat.le_refl _) (fun k hk e => by have := HGB.out; have := B2.out.size; have := HXL.out; omega))
  have V4 := Lib.hid hv4
  have L4 := Lib.hid hl4
  clear hk4 hv4 hl4 HMP HX3 PC3
  go_wp2_with (refine wpList_load_row rfl 39 _ rfl W.heap.size rfl 39 C (0, 0) _ HX4.out Try.underlying39 rfl HI.out ?_)
  refine (HPS.out w4 PC4.out).mono ?_
  rintro e w5 ⟨rfl, hb5⟩
  have B5 := Lib.hid hb5
  have BW5 := Lib.hid (bstep BW4.out hb5)
  have V5 := Lib.hid (V4.out.below hb5)
  have HX5 := Lib.hid ((hb5.block _ (lt_of_block HX4.out)).trans HX4.out)
  have PC5 := Lib.hid (PC4.out.below hb5)
  have HUS := Lib.hid (used_any _ _ _ _ _ _ _ w5 V5.out)
  clear hb5 HPS HX4 PC4 V4
  have i0 : ¬ (sn : Int) < 1 := by have := HCN.out; omega
  have m0 : ((sn : Int) != (sn : Int)) = false := by simp
  go_wp2_with fail
  refine HUS.out.mono ?_
  rintro e w' ⟨rfl, rfl⟩
  have e1 : IntKind.u64.wrap ((base : Int) + (bg : Int)) = (at_ : Int) := by rw [IntKind.wrap_u64]; have := HBL.out; omega
  have e2 : IntKind.u64.wrap (sn : Int) = (sn : Int) := by rw [IntKind.wrap_u64]; have := HCN.out; omega
  have e3 : IntKind.u64.wrap ((sn : Int) * 4096) = ((sn * 4096 : Nat) : Int) := by rw [IntKind.wrap_u64]; have := HCN.out; omega
  have HPK := peek_any _ _ _ _ _ _ _ at_ (sn * 4096) w5 V5.out (by have := HATL.out; omega) (by have := HCN.out; omega)
  rw [barredF_all (fun i hi => by
    obtain ⟨pg, hpg⟩ := L4.out.page (k := (at_ + i) / 4096) (by have := HATL.out; omega) (by have := HATL.out; omega)
    exact ⟨pg, hpg, by simp⟩)] at HPK
  have HPK := Lib.hid HPK
  clear HUS
  obtain ⟨N, hN⟩ : ∃ N, sn * 4096 = N := ⟨_, rfl⟩
  rw [hN] at e3 HPK
  have HNN := Lib.hid hN
  clear hN
  go_wp2_with fail
  refine HPK.out.mono ?_
  rintro e w6 ⟨pb, rfl, hpb, hop, hbt, hb6⟩
  have B6 := Lib.hid hb6
  have BW6 := Lib.hid (bstep BW5.out hb6)
  have V6 := Lib.hid (V5.out.below hb6)
  have HX6 := Lib.hid ((hb6.block _ (lt_of_block HX5.out)).trans HX5.out)
  have PC6 := Lib.hid (PC5.out.below hb6)
  have OP6 := Lib.hid hop
  have HBT := Lib.hid hbt
  clear hb6 hop hbt hpb HPK HX5 PC5 V5 e1 e2 e3 i0 m0
  have e4 : IntKind.i64.wrap (4096 * (sn : Int)) = (N : Int) := by rw [IntKind.wrap_i64]; have := HCN.out; have := HNN.out; omega
  have m1 : ((N : Int) != (N : Int)) = false := by simp
  have HNB : Hid (N ≤ 819200) := Lib.hid (by have := HCN.out; have := HNN.out; omega)
  go_wp2_with (first
    | (at_make; refine wpList_make_nums rfl (.tmp 83) (.tmp 83) slice8p rfl w6.heap.size w6 N .i64 .i64 (N : Int) (N : Int) rfl rfl rfl rfl (by have := HNB.out; omega) (by have := HNB.out; unfold maxLen; omega) (Below.refl _ _) (Nat.le_refl _) ?_; intro gw w7 ho hge hb hb2; have O7 := Lib.hid ho; have B7 := Lib.hid hb; have HGW := Lib.hid hge; clear ho hge hb hb2)
    | (at_make; refine wpList_make_nums rfl (.tmp 85) (.tmp 85) sliceip rfl w6.heap.size w6 sn .i64 .i64 (sn : Int) (sn : Int) rfl rfl rfl rfl (by have := HCN.out; omega) (by have := HCN.out; unfold maxLen; omega) B7.out B7.out.size ?_; intro gp w8 ho hge hb hb2; have O8 := Lib.hid (O7.out.below hb2); have Q8 := Lib.hid ho; have B8 := Lib.hid hb; have HGP : Hid (gw ≠ gp) := Lib.hid (by have := O7.out.ge2; omega); clear ho hge hb hb2))
  clear e4 m1
  rw [arr_zero] at O8 Q8
  have BL : Hid (∀ wx, Below w6.heap.size w6 wx → wx.heap[W.heap.size]? = some (.cells C 39) ∧ PCells wx C x) := Lib.hid (fun wx hx => ⟨(hx.block _ (lt_of_block HX6.out)).trans HX6.out, PC6.out.below hx⟩)
  obtain ⟨pa, pcap, hc2, -⟩ := PC6.out.head
  obtain ⟨ba, bcap, hc53, -, -⟩ := PC6.out.bytes
  have BL2 : Hid (∀ wx, Below w6.heap.size w6 wx → wx.cell? ⟨W.heap.size, 2, none⟩ = some (.slice pa x.ps.length pcap) ∧ wx.cell? ⟨W.heap.size, 53, none⟩ = some (.slice ba x.bs.length bcap) ∧ PRow wx pa x.ps ∧ BRow wx ba x.bs) := Lib.hid (fun wx hx => by
    obtain ⟨k1, k2⟩ := BL.out wx hx
    obtain ⟨pa', pc', e2, r2⟩ := k2.head
    obtain ⟨ba', bc', e3, r3, -⟩ := k2.bytes
    rw [hc2] at e2
    rw [hc53] at e3
    simp only [Option.some.injEq, Value.slice.injEq] at e2 e3
    obtain ⟨rfl, -, -⟩ := e2
    obtain ⟨rfl, -, -⟩ := e3
    exact ⟨(cell_of_row _ _ 2 _ _ _ k1).trans hc2, (cell_of_row _ _ 53 _ _ _ k1).trans hc53, r2, r3⟩)
  have HPLB := Lib.hid PC6.out.pl
  have HBLB := Lib.hid PC6.out.bl
  generalize x.bs = bs at *
  generalize x.ps = ps at *
  obtain ⟨pn, hpn⟩ : ∃ pn, ps.length = pn := ⟨_, rfl⟩
  rw [hpn] at BL2 HPLB
  have HPN := Lib.hid hpn
  obtain ⟨BN, hBN⟩ : ∃ BN, bs.length = BN := ⟨_, rfl⟩
  rw [hBN] at BL2 HBLB HSEG
  have HBN := Lib.hid hBN
  clear hpn hBN hc2 hc53 HX6 PC6
  obtain ⟨W0, hW0⟩ : ∃ W0, W.heap.size = W0 := ⟨_, rfl⟩
  have HW0 := Lib.hid hW0
  rw [hW0] at BL BL2
  rw [hW0]
  clear hW0
  have hpnb : pn * 48 ≤ 140737488351232 := HPLB.out
  go_wp2_with fail
  go_loopg [16] pn (fun g iv wx => ∃ (i : Nat), i + g = pn ∧ iv = .int .i64 (i : Int) ∧ Hid (OwnI wx w6.heap.size 5 .u8 (.slice (some ⟨gw, 0, none⟩) N N) (arr (byteL bs bg (segsF (ps.take i))) N)) ∧ Hid (OwnI wx w6.heap.size 3 .i64 (.slice (some ⟨gp, 0, none⟩) sn sn) (arr (permL bg (segsF (ps.take i))) sn)) ∧ Hid (Below w6.heap.size w6 wx))
  case atStart => exact ⟨0, by omega, rfl, O8, Q8, B8⟩
  case round =>
    obtain ⟨i, hi, rfl, OR, QR, BR⟩ := hrel
    clear O8 Q8 B8
    obtain ⟨c2, c53, hrow, hbrow⟩ := BL2.out _ BR.out
    cases gk with
    | zero =>
      have hie : i = pn := by omega
      have htk : segsF (ps.take i) = segsF ps := by rw [List.take_of_length_le (by rw [HPN.out, hie]; exact Nat.le_refl _)]
      rw [htk] at OR QR
      have VR := Lib.hid (V6.out.below BR.out)
      have OPR := Lib.hid (OP6.out.below BR.out)
      have BWR := Lib.hid (bstep BW6.out BR.out)
      obtain rfl := hie.symm
      clear hi hie htk c53 hrow hbrow V6 OP6
      have HPF : Hid (∀ j, j < sn → permV (V' ((at_ + 4096 * j) / 4096)) = .tuple #[.int .i64 ((permL bg (segsF ps) j : Nat) : Int), .bool true]) := Lib.hid (fun j hj => by
        have h1 := L4.out.perm j hj
        rw [show (at_ + 4096 * j) / 4096 = at_ / 4096 + j from by have := HATL.out; omega]
        cases hv : V' (at_ / 4096 + j) with
        | none => rw [hv] at h1; cases h1
        | some p =>
          rw [hv] at h1
          simp only [Option.map_some, Option.some.injEq] at h1
          show Value.tuple #[.int .i64 (p.perm : Int), .bool true] = _
          rw [h1])
      have HTX : Hid (bytesAt V' at_ N = (List.range N).map (byteL bs bg (segsF ps))) := Lib.hid (by
        unfold bytesAt
        refine List.map_congr_left (fun y hy => ?_)
        exact L4.out.byte y (by have := HNN.out; have := List.mem_range.1 hy; omega))
      have hcv1 := conv_row wr ⟨pb, 0, none⟩ N N (bytesAt V' at_ N) (by unfold bytesAt; rw [List.length_map, List.length_range]) ⟨OPR.out.rowAt, HBT.out⟩
      have hcv2 := conv_row wr ⟨gw, 0, none⟩ N N ((List.range N).map (byteL bs bg (segsF ps))) (by rw [List.length_map, List.length_range]) ⟨OR.out.rowAt, by rw [← HTX.out]; exact HBT.out⟩
      rw [HTX.out] at hcv1
      generalize (⟨(Lib.bytesOf (toI ((List.range N).map (byteL bs bg (segsF ps))))).toArray⟩ : ByteArray) = TX at *
      have HC1 := Lib.hid hcv1
      have HC2 := Lib.hid hcv2
      clear hcv1 hcv2 HTX
      go_wp2_with fail
      clear c2
      generalize hwq : wr = wq at *
      clear hwq
      go_loopg [20] sn (fun g2 iv wx => ∃ (j : Nat), j + g2 = sn ∧ iv = .int .i64 (j : Int) ∧ wq = wx)
      case atStart => exact ⟨0, by omega, rfl, rfl⟩
      case round =>
        obtain ⟨j, hj, rfl, rfl⟩ := hrel
        have hsnb : sn ≤ 200 := HCN.out.2
        cases gk with
        | zero =>
          have hje : j = sn := by omega
          clear hj
          obtain rfl := hje.symm
          clear hje
          have hcv1 := HC1.out
          have hcv2 := HC2.out
          go_wp2_with fail
          go_ret
          exact ⟨by first | rfl | simp, BWR.out⟩
        | succ g2 =>
          have hjn : j < sn := by omega
          have e1 : IntKind.u64.wrap ((base : Int) + (bg : Int)) = (at_ : Int) := by rw [IntKind.wrap_u64]; have := HBL.out; omega
          obtain ⟨j4, hj4⟩ : ∃ j4, 4096 * j = j4 := ⟨_, rfl⟩
          have e2 : IntKind.i64.wrap (4096 * (j : Int)) = (j4 : Int) := by rw [IntKind.wrap_i64]; omega
          have e3 : IntKind.u64.wrap (j4 : Int) = (j4 : Int) := by rw [IntKind.wrap_u64]; omega
          have e4 : IntKind.u64.wrap ((at_ : Int) + (j4 : Int)) = ((at_ + j4 : Nat) : Int) := by rw [IntKind.wrap_u64]; have := HATL.out; omega
          have HPJ := perm_any _ _ _ _ _ _ _ (at_ + j4) wq VR.out (by have := HATL.out; omega)
          rw [← hj4, HPF.out j hjn, hj4] at HPJ
          have HPJ := Lib.hid HPJ
          have zq : wq.cell? ⟨gp, j, none⟩ = some (.int .i64 ((permL bg (segsF ps) j : Nat) : Int)) := QR.out.get2 j _ (arr_get hjn)
          generalize permL bg (segsF ps) j = pj at *
          have m1 : ((pj : Int) != (pj : Int)) = false := by simp
          have i1 : (0 : Int) ≤ (j : Int) := by omega
          have i2 : (j : Int) < (sn : Int) := by omega
          have HJJ := Lib.hid hj
          clear hj hj4
          generalize at_ + j4 = aj at *
          go_wp2_with fail
          refine HPJ.out.mono ?_
          rintro e w' ⟨rfl, rfl⟩
          clear e1 e2 e3 e4 HPJ
          go_wp2_with fail
          go_roundg g2
          case measure => omega
          case rel => exact ⟨j + 1, by have := HJJ.out; omega, by go_num, rfl⟩
    | succ g =>
      have hin : i < pn := by omega
      have hil : i < ps.length := by rw [HPN.out]; exact hin
      obtain ⟨hwf, b1, o1, hadd, hb, hc⟩ := hrow i hil
      subst hadd
      have HSN := Lib.hid (segs_snoc ps i hil)
      have HPM : Hid (ps[i] ∈ ps) := Lib.hid (List.getElem_mem hil)
      generalize ps[i] = p at *
      have HIN : Hid (p.ty = 1 → 0 < p.memsz → p ∈ segsF ps) := Lib.hid (fun h1 h2 => segs_mem HPM.out h1 h2)
      have HBN2 := Lib.hid (fun h1 h2 => HBND.out p (HIN.out h1 h2))
      have HSG2 := Lib.hid (fun h1 h2 => HSEG.out p (HIN.out h1 h2))
      obtain ⟨F, hF⟩ : ∃ F, byteL bs bg (segsF (ps.take i)) = F := ⟨_, rfl⟩
      obtain ⟨G, hG⟩ : ∃ G, permL bg (segsF (ps.take i)) = G := ⟨_, rfl⟩
      have HADDF : Hid (p.ty = 1 → 0 < p.memsz → byteL bs bg (segsF (ps.take (i + 1))) = byteU bs p.off (p.vaddr - bg) p.filesz F) := Lib.hid (fun h1 h2 => by rw [HSN.out, if_pos ⟨h1, h2⟩, byteL_snoc, hF]; rfl)
      have HADDG : Hid (p.ty = 1 → 0 < p.memsz → permL bg (segsF (ps.take (i + 1))) = permS bg G p) := Lib.hid (fun h1 h2 => by rw [HSN.out, if_pos ⟨h1, h2⟩, permL_snoc, hG])
      have HSAMEF : Hid (¬ (p.ty = 1 ∧ 0 < p.memsz) → byteL bs bg (segsF (ps.take (i + 1))) = F ∧ permL bg (segsF (ps.take (i + 1))) = G) := Lib.hid (fun h1 => by rw [HSN.out, if_neg h1, List.append_nil]; exact ⟨hF, hG⟩)
      rw [hF] at OR
      rw [hG] at QR
      clear hF hG
      obtain ⟨a0, a1, a2, a3, a4, a5, a6⟩ := p
      obtain ⟨f0, f1, f2, f3, f4, f5, f6⟩ := hwf
      have c0' := hc 0 (by omega)
      have c1' := hc 1 (by omega)
      have c2' := hc 2 (by omega)
      have c3' := hc 3 (by omega)
      have c4' := hc 4 (by omega)
      have c5' := hc 5 (by omega)
      have c6' := hc 6 (by omega)
      simp only [PT.cells, List.getElem?_cons_zero, List.getElem?_cons_succ, Nat.add_zero] at c0' c1' c2' c3' c4' c5' c6'
      simp only at HBN2 HSG2 HADDF HADDG HSAMEF f1
      have HF1 := Lib.hid f1
      have OA := Lib.hid (OR.out.allocO (.cells #[.int .u32 (a0 : Int), .int .u32 (a1 : Int), .int .u64 (a2 : Int), .int .u64 (a3 : Int), .int .u64 (a4 : Int), .int .u64 (a5 : Int), .int .u64 (a6 : Int)] 60))
      have QA := Lib.hid (QR.out.allocO (.cells #[.int .u32 (a0 : Int), .int .u32 (a1 : Int), .int .u64 (a2 : Int), .int .u64 (a3 : Int), .int .u64 (a4 : Int), .int .u64 (a5 : Int), .int .u64 (a6 : Int)] 60))
      have BA : Hid (Below w6.heap.size w6 (wr.alloc (.cells #[.int .u32 (a0 : Int), .int .u32 (a1 : Int), .int .u64 (a2 : Int), .int .u64 (a3 : Int), .int .u64 (a4 : Int), .int .u64 (a5 : Int), .int .u64 (a6 : Int)] 60))) := Lib.hid (BR.out.alloc BR.out.size _)
      have KB : Hid ((wr.alloc (.cells #[.int .u32 (a0 : Int), .int .u32 (a1 : Int), .int .u64 (a2 : Int), .int .u64 (a3 : Int), .int .u64 (a4 : Int), .int .u64 (a5 : Int), .int .u64 (a6 : Int)] 60)).heap[wr.heap.size]? = some (.cells #[.int .u32 (a0 : Int), .int .u32 (a1 : Int), .int .u64 (a2 : Int), .int .u64 (a3 : Int), .int .u64 (a4 : Int), .int .u64 (a5 : Int), .int .u64 (a6 : Int)] 60)) := Lib.hid (heap_alloc_new _ _)
      have HYB : Hid (gw ≠ wr.heap.size ∧ gp ≠ wr.heap.size) := Lib.hid (by have h1 := OR.out.ge2; have h2 := QR.out.ge2; omega)
      have HII := Lib.hid hi
      clear hc hil hi f0 f1 f2 f3 f4 f5 f6 HSN HPM hrow hbrow c53
      by_cases t1 : a0 = 1
      · by_cases t2 : 0 < a5
        · obtain ⟨n1, n2⟩ := HBN2.out t1 t2
          obtain ⟨s1, s2, s3, s4, -⟩ := HSG2.out t1 t2
          have HAF := Lib.hid (HADDF.out t1 t2)
          have HAG := Lib.hid (HADDG.out t1 t2)
          have hsp := seg_pages (bg := bg) (va := a3) (ms := a5) (sn := sn) HBG.out.1 n1 t2 n2
          have m1 : ((a0 : Int) != 1) = false := by rw [bne_eq_false_iff_eq]; omega
          have m2 : ((a5 : Int) == 0) = false := by rw [beq_eq_false_iff_ne]; omega
          obtain ⟨d, hd⟩ : ∃ d, a3 - bg = d := ⟨_, rfl⟩
          obtain ⟨K0, hK0⟩ : ∃ K0, d / 4096 = K0 := ⟨_, rfl⟩
          obtain ⟨K1, hK1⟩ : ∃ K1, (d + a5 - 1) / 4096 = K1 := ⟨_, rfl⟩
          rw [hd] at hsp HAF
          rw [hK0, hK1] at hsp
          have HPG : Hid (permS bg G ⟨a0, a1, a2, a3, a4, a5, a6⟩ = permU K0 (K1 + 1) (a1 % 8) G) := Lib.hid (by
            funext j
            show (if (a3 / 4096 * 4096 - bg) / 4096 ≤ j ∧ j < (a3 / 4096 * 4096 - bg) / 4096 + ((a3 + a5 + 4095) / 4096 * 4096 - a3 / 4096 * 4096) / 4096 then a1 % 8 else G j) = _
            rw [hsp.2.1, hsp.1]
            rfl)
          have HNUM : Hid (a4 ≤ a5 ∧ a2 + a4 ≤ BN ∧ d + a5 ≤ N ∧ K1 < sn ∧ K0 ≤ K1 ∧ a3 = bg + d ∧ a3 < 140737488355328 ∧ d / 4096 = K0 ∧ (d + a5 - 1) / 4096 = K1) := Lib.hid (by have h1 := s1; unfold PT.low at h1; simp only at h1; have := HNN.out; have h5 := hsp.2.2.2.2.1; omega)
          have HPOS : Hid (0 < a5) := Lib.hid t2
          clear HADDF HADDG HSAMEF HBN2 HSG2 HIN n1 n2 s1 s2 s3 s4 t1 t2 hsp hd hK0 hK1
          go_wp2_with fail
          clear c0' c1' c2' c3' c4' c5' c6' m1 m2 hb c2
          generalize wr.alloc (.cells #[.int .u32 (a0 : Int), .int .u32 (a1 : Int), .int .u64 (a2 : Int), .int .u64 (a3 : Int), .int .u64 (a4 : Int), .int .u64 (a5 : Int), .int .u64 (a6 : Int)] 60) = wA at *
          generalize wr.heap.size = yb at *
          go_loopg [18] a4 (fun g2 kv wx => ∃ (k : Nat), k + g2 = a4 ∧ kv = .int .u64 (k : Int) ∧ Hid (OwnI wx w6.heap.size 5 .u8 (.slice (some ⟨gw, 0, none⟩) N N) (arr (byteU bs a2 d k F) N)) ∧ Hid (OwnI wx w6.heap.size 3 .i64 (.slice (some ⟨gp, 0, none⟩) sn sn) (arr G sn)) ∧ Hid (Below w6.heap.size w6 wx) ∧ Hid (wx.heap[yb]? = some (.cells #[.int .u32 (a0 : Int), .int .u32 (a1 : Int), .int .u64 (a2 : Int), .int .u64 (a3 : Int), .int .u64 (a4 : Int), .int .u64 (a5 : Int), .int .u64 (a6 : Int)] 60)))
          case atStart => exact ⟨0, by omega, rfl, by rw [byteU_zero]; exact OA, QA, BA, KB⟩
          case round =>
            obtain ⟨k, hk, rfl, OK, QK, BK, KK⟩ := hrel
            have y4 : wr.cell? ⟨yb, 4, none⟩ = some (.int .u64 (a4 : Int)) := by rw [cell_of_row _ _ 4 _ _ _ KK.out]; rfl
            clear OA QA BA KB
            cases gk with
            | succ g2 =>
              have hkn : k < a4 := by omega
              obtain ⟨-, c53, -, hbr⟩ := BL2.out _ BK.out
              obtain ⟨bb, oo, hba, hbc⟩ := hbr.1 (a2 + k) (by rw [toI_length, HBN.out]; have := HNUM.out; omega)
              subst hba
              rw [toI_getD] at hbc
              obtain ⟨ok, hok⟩ : ∃ ok, a2 + k = ok := ⟨_, rfl⟩
              obtain ⟨dk, hdk⟩ : ∃ dk, d + k = dk := ⟨_, rfl⟩
              rw [hok] at hbc
              obtain ⟨v, hv⟩ : ∃ v, bs.getD ok 0 = v := ⟨_, rfl⟩
              rw [hv] at hbc
              have HST : Hid ((arr (byteU bs a2 d k F) N).set dk (v : Int) = arr (byteU bs a2 d (k + 1) F) N) := Lib.hid (by
                rw [arr_set (by have := HNUM.out; omega), ← byteU_succ, hdk, hok, hv])
              have z3 : (World.drew wr).cell? ⟨yb, 3, none⟩ = some (.int .u64 (a3 : Int)) := by
                change wr.cell? _ = _
                rw [cell_of_row _ _ 3 _ _ _ KK.out]; rfl
              have z2 : (World.drew wr).cell? ⟨yb, 2, none⟩ = some (.int .u64 (a2 : Int)) := by
                change wr.cell? _ = _
                rw [cell_of_row _ _ 2 _ _ _ KK.out]; rfl
              have z53 : (World.drew wr).cell? ⟨W0, 53, none⟩ = some (.slice (some ⟨bb, oo, none⟩) BN bcap) := c53
              have zb : (World.drew wr).cell? ⟨bb, oo + ok, none⟩ = some (.int .u8 (v : Int)) := hbc
              have zw : (World.drew wr).cell? ⟨gw, dk, none⟩ = some (.int .u8 ((byteU bs a2 d k F dk : Nat) : Int)) := OK.out.get2 dk _ (arr_get (by have := HNUM.out; omega))
              have zf : (World.drew wr).frozen? ⟨gw, dk, none⟩ = false := OK.out.free2 dk
              have e1 : IntKind.u64.wrap ((a3 : Int) - (bg : Int)) = (d : Int) := by rw [IntKind.wrap_u64]; have := HNUM.out; omega
              have e2 : IntKind.u64.wrap ((d : Int) + (k : Int)) = (dk : Int) := by rw [IntKind.wrap_u64]; have := HNUM.out; have := HNB.out; omega
              have e3 : IntKind.u64.wrap ((a2 : Int) + (k : Int)) = (ok : Int) := by rw [IntKind.wrap_u64]; have := HNUM.out; have := HBLB.out; omega
              have i1 : (dk : Int) < (N : Int) := by have := HNUM.out; omega
              have i2 : (0 : Int) ≤ (dk : Int) := by omega
              have i3 : (ok : Int) < (BN : Int) := by have := HNUM.out; omega
              have i4 : (0 : Int) ≤ (ok : Int) := by omega
              have OK2 := Lib.hid ((OK.out.below (w' := World.drew wr) (Below.refl _ _).drew).put2 (by rw [arr_len]) dk (v : Int))
              have QK2 : Hid (OwnI ((World.drew wr).setCell ⟨gw, dk, none⟩ (.int .u8 (v : Int))) w6.heap.size 3 .i64 (.slice (some ⟨gp, 0, none⟩) sn sn) (arr G sn)) := Lib.hid ((QK.out.below (w' := World.drew wr) (Below.refl _ _).drew).setO (a := ⟨gw, dk, none⟩) (by simp only [Value.ownBlock]; intro e; exact HGP.out (by simpa using e.symm)) _)
              have BK2 : Hid (Below w6.heap.size w6 ((World.drew wr).setCell ⟨gw, dk, none⟩ (.int .u8 (v : Int)))) := Lib.hid (BK.out.drew.setCell (p := ⟨gw, dk, none⟩) OK.out.ge2.1 _)
              have KK2 : Hid (((World.drew wr).setCell ⟨gw, dk, none⟩ (.int .u8 (v : Int))).heap[yb]? = some (.cells #[.int .u32 (a0 : Int), .int .u32 (a1 : Int), .int .u64 (a2 : Int), .int .u64 (a3 : Int), .int .u64 (a4 : Int), .int .u64 (a5 : Int), .int .u64 (a6 : Int)] 60)) := Lib.hid ((heap_setCell_other _ _ _ _ (fun e => HYB.out.1 e.symm)).trans KK.out)
              rw [HST.out] at OK2
              have HKJ := Lib.hid hk
              have hkb : k < 819200 := by have := HNUM.out; have := HNB.out; omega
              clear hok hdk hv hbc hbr c53 HST hk
              go_wp2_with fail
              refine wp_region_still_tail 16 (by kernel_rfl) (by kernel_rfl) ?_
              simp only [List.take_succ_cons, List.take_zero, List.drop_succ_cons, List.drop_zero]
              change wpStill _ _ (World.drew wr) _ _ _
              iterate 16 still_step
              refine wpStill_nil ?_
              change wpList _ _ _ _ _ (World.drew wr)
              go_wp2_with fail
              go_roundg g2
              case measure => omega
              case rel => exact ⟨k + 1, by have := HKJ.out; omega, by go_num, OK2, QK2, BK2, KK2⟩
            | zero =>
              have hke : k = a4 := by omega
              have OKF : Hid (OwnI wr w6.heap.size 5 .u8 (.slice (some ⟨gw, 0, none⟩) N N) (arr (byteL bs bg (segsF (ps.take (i + 1)))) N)) := Lib.hid (by rw [HAF.out, ← hke]; exact OK.out)
              have y3 : wr.cell? ⟨yb, 3, none⟩ = some (.int .u64 (a3 : Int)) := by rw [cell_of_row _ _ 3 _ _ _ KK.out]; rfl
              have e1 : IntKind.u64.wrap ((a3 : Int) - (bg : Int)) = (d : Int) := by rw [IntKind.wrap_u64]; have := HNUM.out; omega
              have E1 := Lib.hid e1
              obtain rfl := hke.symm
              clear hk hke OK HAF
              go_wp2_with fail
              clear y3 y4 e1
              have hdk : (d : Int) / 4096 = (K0 : Int) := by have := HNUM.out; omega
              rw [hdk]
              have hdk2 : IntKind.u64.wrap (K0 : Int) = (K0 : Int) := by rw [IntKind.wrap_u64]; have := HNUM.out; have := HCN.out; omega
              try rw [hdk2]
              clear hdk hdk2
              generalize wr = w9 at *
              go_loopg [19] (K1 + 1 - K0) (fun g3 kv wx => ∃ (K : Nat), K + g3 = K1 + 1 ∧ K0 ≤ K ∧ kv = .int .u64 (K : Int) ∧ Hid (OwnI wx w6.heap.size 5 .u8 (.slice (some ⟨gw, 0, none⟩) N N) (arr (byteL bs bg (segsF (ps.take (i + 1)))) N)) ∧ Hid (OwnI wx w6.heap.size 3 .i64 (.slice (some ⟨gp, 0, none⟩) sn sn) (arr (permU K0 K (a1 % 8) G) sn)) ∧ Hid (Below w6.heap.size w6 wx) ∧ Hid (wx.heap[yb]? = some (.cells #[.int .u32 (a0 : Int), .int .u32 (a1 : Int), .int .u64 (a2 : Int), .int .u64 (a3 : Int), .int .u64 (a4 : Int), .int .u64 (a5 : Int), .int .u64 (a6 : Int)] 60)))
              case atStart => exact ⟨K0, by have := HNUM.out; omega, Nat.le_refl _, rfl, OKF, by rw [permU_zero]; exact QK, BK, KK⟩
              case round =>
                obtain ⟨K, hK, hK0, rfl, O3, Q3, B3', K3⟩ := hrel
                have y1 : wr.cell? ⟨yb, 1, none⟩ = some (.int .u32 (a1 : Int)) := by rw [cell_of_row _ _ 1 _ _ _ K3.out]; rfl
                have y3 : wr.cell? ⟨yb, 3, none⟩ = some (.int .u64 (a3 : Int)) := by rw [cell_of_row _ _ 3 _ _ _ K3.out]; rfl
                have y5 : wr.cell? ⟨yb, 5, none⟩ = some (.int .u64 (a5 : Int)) := by rw [cell_of_row _ _ 5 _ _ _ K3.out]; rfl
                have e1 := E1.out
                obtain ⟨s1, hs1⟩ : ∃ s1, d + a5 = s1 := ⟨_, rfl⟩
                obtain ⟨s2, hs2⟩ : ∃ s2, d + a5 - 1 = s2 := ⟨_, rfl⟩
                have e2 : IntKind.u64.wrap ((d : Int) + (a5 : Int)) = (s1 : Int) := by rw [IntKind.wrap_u64]; have := HNUM.out; have := HNB.out; omega
                have e3 : IntKind.u64.wrap ((s1 : Int) - 1) = (s2 : Int) := by rw [IntKind.wrap_u64]; have := HNUM.out; have := HNB.out; have := HPOS.out; omega
                have e4 : (s2 : Int) / 4096 = (K1 : Int) := by have := HNUM.out; omega
                have e5 : IntKind.u64.wrap (K1 : Int) = (K1 : Int) := by rw [IntKind.wrap_u64]; have := HNUM.out; have := HCN.out; omega
                have e6 : (s2 : Int).tdiv 4096 = (K1 : Int) := by rw [Int.tdiv_eq_ediv_of_nonneg (by omega)]; exact e4
                have E4 := Lib.hid e4
                clear OKF QK BK KK hs1 hs2
                cases gk with
                | zero =>
                  have hke : K = K1 + 1 := by omega
                  have QF : Hid (OwnI wr w6.heap.size 3 .i64 (.slice (some ⟨gp, 0, none⟩) sn sn) (arr (permL bg (segsF (ps.take (i + 1)))) sn)) := Lib.hid (by rw [HAG.out, HPG.out, ← hke]; exact Q3.out)
                  have i1 : ¬ (K : Int) ≤ (K1 : Int) := by omega
                  clear hK hke Q3
                  have i3 : (K1 : Int) < (K : Int) := by omega
                  have i4 : K1 < K := by omega
                  have i5 : decide ((K : Int) ≤ (K1 : Int)) = false := decide_eq_false i1
                  go_wp2_with fail
                  go_roundg g
                  case measure => omega
                  case rel => exact ⟨i + 1, by have := HII.out; omega, by go_num, O3, QF, B3'⟩
                | succ g3 =>
                  have hKn : K ≤ K1 := by omega
                  have i1 : (K : Int) ≤ (K1 : Int) := by omega
                  have i3 : (K : Int) < (sn : Int) := by have := HNUM.out; omega
                  have i4 : (0 : Int) ≤ (K : Int) := by omega
                  have zw : wr.cell? ⟨gp, K, none⟩ = some (.int .i64 ((permU K0 K (a1 % 8) G K : Nat) : Int)) := Q3.out.get2 K _ (arr_get (by have := HNUM.out; omega))
                  have zf : wr.frozen? ⟨gp, K, none⟩ = false := Q3.out.free2 K
                  obtain ⟨fp, hfp⟩ : ∃ fp, a1 % 8 = fp := ⟨_, rfl⟩
                  have r1 : (a1 : Int) % 8 = (fp : Int) := by omega
                  have R1 := Lib.hid r1
                  have r2 : (a1 : Int).tmod 8 = (fp : Int) := by rw [Int.tmod_eq_emod_of_nonneg (by omega)]; exact r1
                  have r3 : IntKind.u32.wrap (fp : Int) = (fp : Int) := by rw [IntKind.wrap_u32]; omega
                  have R4 : Hid (wrap64 (fp : Int) = (fp : Int)) := Lib.hid (IntWalk.wrap64_in _ ⟨by omega, by omega⟩)
                  have R5 : Hid (wrap64 (IntKind.u32.wrap ((a1 : Int) % 8)) = (fp : Int)) := Lib.hid (by rw [r1, r3]; exact R4.out)
                  have HST : Hid ((arr (permU K0 K (a1 % 8) G) sn).set K (fp : Int) = arr (permU K0 (K + 1) (a1 % 8) G) sn) := Lib.hid (by rw [← hfp, arr_set (by have := HNUM.out; omega), permU_succ _ _ _ _ hK0])
                  have O4 := Lib.hid (O3.out.setO (a := ⟨gp, K, none⟩) (by simp only [Value.ownBlock]; intro e; exact HGP.out (by simpa using e)) (.int .i64 (fp : Int)))
                  have Q4 := Lib.hid (Q3.out.put2 (by rw [arr_len]) K (fp : Int))
                  have B4' : Hid (Below w6.heap.size w6 (wr.setCell ⟨gp, K, none⟩ (.int .i64 (fp : Int)))) := Lib.hid (B3'.out.setCell (p := ⟨gp, K, none⟩) Q3.out.ge2.1 _)
                  have K4 : Hid ((wr.setCell ⟨gp, K, none⟩ (.int .i64 (fp : Int))).heap[yb]? = some (.cells #[.int .u32 (a0 : Int), .int .u32 (a1 : Int), .int .u64 (a2 : Int), .int .u64 (a3 : Int), .int .u64 (a4 : Int), .int .u64 (a5 : Int), .int .u64 (a6 : Int)] 60)) := Lib.hid ((heap_setCell_other _ _ _ _ (fun e => HYB.out.2 e.symm)).trans K3.out)
                  rw [HST.out] at Q4
                  have hkb : K < 819200 := by have := HNUM.out; have := HCN.out; omega
                  have HKJ := Lib.hid hK
                  have HK0 := Lib.hid hK0
                  clear hK hK0 hKn HST O3 Q3 hfp r1
                  go_wp2_with fail
                  first | rw [R5.out] | rw [R4.out]
                  go_roundg g3
                  case measure => omega
                  case rel => exact ⟨K + 1, by have := HKJ.out; omega, by have := HK0.out; omega, by go_num, O4, Q4, B4', K4⟩
        · have hns : ¬ (a0 = 1 ∧ 0 < a5) := fun h => t2 h.2
          have HS2 := Lib.hid (HSAMEF.out hns)
          have m1 : ((a0 : Int) != 1) = false := by rw [bne_eq_false_iff_eq]; omega
          have m2 : ((a5 : Int) == 0) = true := by rw [beq_iff_eq]; omega
          clear HADDF HADDG HSAMEF HBN2 HSG2 HIN t1 t2 hns
          go_wp2_with fail
          go_roundg g
          case measure => omega
          case rel => exact ⟨i + 1, by have := HII.out; omega, by go_num, by rw [HS2.out.1]; exact OA, by rw [HS2.out.2]; exact QA, BA⟩
      · have hns : ¬ (a0 = 1 ∧ 0 < a5) := fun h => t1 h.1
        have HS2 := Lib.hid (HSAMEF.out hns)
        have m1 : ((a0 : Int) != 1) = true := by rw [bne_iff_ne]; omega
        clear HADDF HADDG HSAMEF HBN2 HSG2 HIN t1 hns
        go_wp2_with fail
        go_roundg g
        case measure => omega
        case rel => exact ⟨i + 1, by have := HII.out; omega, by go_num, by rw [HS2.out.1]; exact OA, by rw [HS2.out.2]; exact QA, BA⟩
end Go.Proofs.Ytjiifaeehhpkcaa
