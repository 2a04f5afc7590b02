/- Layer 15: a segment is laid into a memory. -/
import Derived.Test.YtjiifaeehhpkcaaPlaceUs
import Derived.Test.YtjiifaeehhpkcaaVmProt
import Derived.Test.YtjiifaeehhpkcaaVmRead
import Derived.Laws.BitsAllLaws
import Derived.StillTailTactics
namespace Go.Proofs.Ytjiifaeehhpkcaa
open Go.RowKit
set_option linter.unusedVariables false
set_option linter.unusedSimpArgs false

/-- an object's bytes and headers do not lie among these blocks -/
structure PApart (S : Nat → Prop) (C : Array Value) : Prop where
  c2 : ∀ b o n c, C[2]? = some (.slice (some ⟨b, o, none⟩) n c) → 0 < n → ¬ S b
  c53 : ∀ b o n c, C[53]? = some (.slice (some ⟨b, o, none⟩) n c) → 0 < n → ¬ S b
theorem cell_eqb {w w' : World} {b j : Nat} (h : w'.heap[b]? = w.heap[b]?) : w'.cell? ⟨b, j, none⟩ = w.cell? ⟨b, j, none⟩ := by
  simp only [World.cell?, h]
theorem PRow.kept {S : Nat → Prop} {w w' : World} {a : Option Addr} {ps : List PT} (h : PRow w a ps) (hk : VKept S w w') (hd : 0 < ps.length → ∀ b o, a = some ⟨b, o, none⟩ → ¬ S b) : PRow w' a ps := by
  intro i hi
  obtain ⟨hw, b, o, e, hlt, hc⟩ := h i hi
  refine ⟨hw, b, o, e, Nat.lt_of_lt_of_le hlt hk.size, fun j hj => ?_⟩
  rw [← hc j hj, cell_eqb (hk.block b hlt (hd (by omega) b o e))]
theorem BRow.kept {S : Nat → Prop} {w w' : World} {a : Option Addr} {bs : List Nat} (h : BRow w a bs) (hk : VKept S w w') (hd : 0 < bs.length → ∀ b o, a = some ⟨b, o, none⟩ → ¬ S b) : BRow w' a bs := by
  refine ⟨fun i hi => ?_, h.2⟩
  obtain ⟨b, o, e, hc⟩ := h.1 i hi
  refine ⟨b, o, e, ?_⟩
  rw [← hc, cell_eqb (hk.block b (by simpa using World.block_lt_of_cell? w _ hc) (hd (by rw [toI_length] at hi; omega) b o e))]
theorem PCells.kept {S : Nat → Prop} {w w' : World} {C : Array Value} {x : POb} (h : PCells w C x) (hk : VKept S w w') (ha : PApart S C) : PCells w' C x := by
  obtain ⟨p, pc, e1, r1⟩ := h.head
  obtain ⟨a, cap, e6, r6, r7⟩ := h.bytes
  exact ⟨h.size, h.one, h.c0, ⟨p, pc, e1, r1.kept hk (fun hn b o e => ha.c2 b o _ _ (e ▸ e1) hn)⟩, ⟨a, cap, e6, r6.kept hk (fun hn b o e => ha.c53 b o _ _ (e ▸ e6) hn), r7⟩, h.pl, h.bl⟩
/-- blocks that are new -/
theorem PApart.grow {S : Nat → Prop} {w w' : World} {C : Array Value} {x : POb} (h : PCells w C x) (ha : PApart S C) : PApart (VGrow S w w') C where
  c2 := fun b o n c e hn hs => by
    rcases hs with hs | ⟨hs, -⟩
    · exact ha.c2 b o n c e hn hs
    · obtain ⟨p, pc, e1, r1⟩ := h.head
      rw [e1] at e
      simp only [Option.some.injEq, Value.slice.injEq] at e
      obtain ⟨rfl, e2, -⟩ := e
      obtain ⟨-, b', o', e3, hlt, -⟩ := r1 0 (by omega)
      cases e3
      omega
  c53 := fun b o n c e hn hs => by
    rcases hs with hs | ⟨hs, -⟩
    · exact ha.c53 b o n c e hn hs
    · obtain ⟨p, pc, e1, r1, -⟩ := h.bytes
      rw [e1] at e
      simp only [Option.some.injEq, Value.slice.injEq] at e
      obtain ⟨rfl, e2, -⟩ := e
      obtain ⟨b', o', e3, hc⟩ := r1.1 0 (by rw [toI_length]; omega)
      cases e3
      have : b < w.heap.size := by simpa using World.block_lt_of_cell? w _ hc
      omega

theorem byteAt_prot (V : Nat → Option Pg) (k m perm y : Nat) : byteAt (protV V k m perm) y = byteAt V y := by
  unfold byteAt
  by_cases h : k ≤ y / 4096 ∧ y / 4096 < k + m
  · rw [show protV V k m perm (y / 4096) = (V (y / 4096)).map (fun p => ⟨p.bytes, perm⟩) from if_pos h]
    cases V (y / 4096) <;> rfl
  · rw [protV_off h]
theorem barredF_all {V : Nat → Option Pg} {perm a n : Nat} (h : ∀ i, i < n → ∃ p, V ((a + i) / 4096) = some p ∧ p.perm &&& perm = perm) : barredF V perm a n = none := barF_all h
theorem checkF_zero {a n perm : Nat} (h1 : 1 ≤ n) (h2 : perm < 8) (h3 : a % 4096 = 0) (h4 : 4096 ≤ a) (h5 : a / 4096 + n ≤ 34359738368) : checkF a (n : Int) (perm : Int) = 0 := by
  unfold checkF
  rw [if_neg (by omega), if_neg (by omega), if_neg ?_]
  rw [Int.toNat_natCast]
  rintro (h | h)
  · omega
  · unfold belowF at h
    have := of_decide_eq_false h
    omega

/-- how a segment stands in a memory -/
structure Filled (V V' : Nat → Option Pg) (a1 m perm a2 fl : Nat) (bs : List Nat) : Prop where
  perm : ∀ k, (V' k).map Pg.perm = if a1 / 4096 ≤ k ∧ k < a1 / 4096 + m then some perm else (V k).map Pg.perm
  byte : ∀ y, byteAt V' y = if a2 ≤ y ∧ y < a2 + fl then bs.getD (y - a2) 0 else byteAt V y

theorem filled_of {V V' : Nat → Option Pg} {a1 m perm a2 fl : Nat} {bs : List Nat} (hall : ∀ k, a1 / 4096 ≤ k → k < a1 / 4096 + m → ∃ p, V k = some p) (h1 : SamePerm (protV V (a1 / 4096) m perm) V') (h2 : ∀ y, byteAt V' y = if a2 ≤ y ∧ y < a2 + fl then bs.getD (y - a2) 0 else byteAt (protV V (a1 / 4096) m perm) y) : Filled V V' a1 m perm a2 fl bs where
  perm := fun k => by
    rw [h1 k]
    unfold protV
    split
    · rename_i h
      obtain ⟨p, hp⟩ := hall k h.1 h.2
      rw [hp]
      rfl
    · rfl
  byte := fun y => by rw [h2 y, byteAt_prot]

theorem sub_row {w : World} {b o : Nat} {bs : List Nat} (h : BRow w (some ⟨b, o, none⟩) bs) (d n : Nat) : BRow w (some ⟨b, o + d, none⟩) ((bs.drop d).take n) := by
  refine ⟨fun i hi => ?_, fun v hv => h.2 v (List.mem_of_mem_drop (List.mem_of_mem_take hv))⟩
  have hl : i < ((bs.drop d).take n).length := by simpa [toI] using hi
  have hl2 : d + i < bs.length := by rw [List.length_take, List.length_drop] at hl; omega
  obtain ⟨b', o', e, hc⟩ := h.1 (d + i) (by simpa [toI] using hl2)
  cases e
  refine ⟨b, o + d, rfl, ?_⟩
  rw [Nat.add_assoc, hc]
  congr 2
  unfold toI
  have e1 : (bs.map (fun (b : Nat) => (b : Int)))[d + i]? = some ((bs[d + i] : Nat) : Int) := by rw [List.getElem?_map, List.getElem?_eq_getElem hl2]; rfl
  have e2 : (((bs.drop d).take n).map (fun (b : Nat) => (b : Int)))[i]? = some ((bs[d + i] : Nat) : Int) := by
    rw [List.getElem?_map, List.getElem?_eq_getElem hl, List.getElem_take, List.getElem_drop]
    rfl
  rw [List.getD_eq_getElem?_getD, List.getD_eq_getElem?_getD, e1, e2]

theorem sub_addr {w : World} {ba : Option Addr} {o2 bc b o : Nat} {bs : List Nat} (hr : BRow w ba bs) (ho : o2 ≤ bs.length) (h : (if bc = o2 then ba else ba.map (fun x => x.add o2)) = some ⟨b, o, none⟩) : ∃ o', ba = some ⟨b, o', none⟩ := by
  by_cases hb : bc = o2
  · rw [if_pos hb] at h
    exact ⟨o, h⟩
  · rw [if_neg hb] at h
    cases ba with
    | none => cases h
    | some ad =>
      by_cases h0 : o2 = 0
      · subst h0
        rw [Option.map_some, show ad.add 0 = ad from by simp [Addr.add]] at h
        exact ⟨o, h⟩
      · obtain ⟨b1, o1, e, -⟩ := hr.1 0 (by unfold toI; rw [List.length_map]; omega)
        cases e
        rw [Option.map_some, WideShapes.add_plain] at h
        simp only [Option.some.injEq, Addr.mk.injEq] at h
        obtain ⟨rfl, -⟩ := h
        exact ⟨o1, rfl⟩
theorem sub_brow {w : World} {ba : Option Addr} {o2 fz bc : Nat} {bs : List Nat} (h : BRow w ba bs) (hof : o2 + fz ≤ bs.length) (hbc : bs.length ≤ bc) : BRow w (if bc = o2 then ba else ba.map (fun x => x.add o2)) ((bs.drop o2).take fz) := by
  by_cases hz : fz = 0
  · subst hz
    rw [List.take_zero]
    exact ⟨fun i hi => by simp [toI] at hi, fun v hv => by cases hv⟩
  · rw [if_neg (by omega)]
    obtain ⟨b, o, e, -⟩ := h.1 0 (by unfold toI; rw [List.length_map]; omega)
    subst e
    rw [Option.map_some, WideShapes.add_plain]
    exact sub_row h o2 fz

set_option maxRecDepth 100000 in
set_option maxHeartbeats 16000000 in
theorem fill_any (mb : Nat) (S : Nat → Prop) (q c : Nat) (V : Nat → Option Pg) (g : Nat) (F : Nat → Option Nat) (C : Array Value) (x : POb) (p : PT) (base a1 a2 m : Nat) (w : World) (h : VmAt w mb S q c V g F) (hS : ∀ b, S b → b < w.heap.size) (hmb : mb < w.heap.size) (hC : PCells w C x) (hap : PApart S C) (hp : p.wf) (hlow : p.low) (hoff : p.off ≤ x.bs.length) (hfz : p.filesz ≤ x.bs.length - p.off) (hfm : p.filesz ≤ p.memsz) (hm : 0 < p.memsz)
    (hbase : base < 18446744073709551616) (ha1 : (base + downF p.vaddr) % 18446744073709551616 = a1) (ha2 : (base + p.vaddr) % 18446744073709551616 = a2) (hm1 : (endF p - downF p.vaddr) / 4096 = m) (hal : a1 % 4096 = 0) (hlo : 4096 ≤ a1) (hhi : a1 / 4096 + m ≤ 34359738368) (hall : ∀ k, a1 / 4096 ≤ k → k < a1 / 4096 + m → ∃ pg, V k = some pg) :
    Calls Try.prog 25 #[.pointer (some ⟨mb, 0, none⟩), .agg C, .int .u64 (base : Int), p.v] w fun e w' => e = .returned .nilIface ∧ VKept S w w' ∧ ∃ V', VmAt w' mb S q c V' g F ∧ Filled V V' a1 m (p.flags % 8) a2 p.filesz ((x.bs.drop p.off).take p.filesz) := by
  have h54 := hC.size
  have hone := hC.one
  obtain ⟨ba, bc, e53, hbr, hbc⟩ := hC.bytes
  have e53' : C[53]'(by omega) = .slice ba x.bs.length bc := by
    rw [Array.getElem?_eq_getElem (by omega)] at e53
    exact Option.some.inj e53
  have hbl := hC.bl
  have HPG := Lib.hid (fun wx => pages_any p wx hlow)
  have ha21 : a2 = a1 + p.vaddr % 4096 ∧ a2 + p.memsz ≤ (a1 / 4096 + m) * 4096 := by
    have hl := hlow
    unfold PT.low at hl
    unfold endF downF at hm1
    unfold downF at ha1
    omega
  have hm2 : 1 ≤ m ∧ m ≤ 34359738368 := by
    have hl := hlow
    unfold PT.low at hl
    unfold endF downF at hm1
    omega
  obtain ⟨d1, hd1⟩ : ∃ d1, downF p.vaddr = d1 := ⟨_, rfl⟩
  obtain ⟨d2, hd2⟩ : ∃ d2, endF p = d2 := ⟨_, rfl⟩
  have hd12 : d1 ≤ d2 ∧ d2 ≤ 140737488355328 := by
    rw [← hd1, ← hd2]
    exact ⟨by have := end_above hm; have : downF p.vaddr ≤ p.vaddr := (by unfold downF; omega); omega, end_low hlow⟩
  rw [hd1, hd2] at HPG
  rw [hd1] at ha1
  rw [hd1, hd2] at hm1
  have HAP := Lib.hid hap
  have HS := Lib.hid hS
  have HALL := Lib.hid hall
  obtain ⟨a0, f1, o2, a3, fz, a5, a6⟩ := p
  obtain ⟨g0, g1, g2, g3, g4, g5, g6⟩ := hp
  simp only at *
  have HAND : Hid (bits .and .u32 (f1 : Int) 7 = ((f1 % 8 : Nat) : Int)) := Lib.hid (by
    have := u32_and_nat f1 7 g1 (by omega)
    rw [show ((7 : Nat) : Int) = 7 from rfl] at this
    rw [this, show (7 : Nat) = 2 ^ 3 - 1 from rfl, Nat.and_two_pow_sub_one_eq_mod])
  obtain ⟨fp, hfp⟩ : ∃ fp, f1 % 8 = fp := ⟨_, rfl⟩
  have hfp8 : fp < 8 := by omega
  rw [hfp] at HAND ⊢
  have HPR : Hid (∀ wx, VmAt wx mb S q c V g F → Calls Try.prog 27 #[.pointer (some ⟨mb, 0, none⟩), .int .u64 (a1 : Int), .int .i64 (m : Int), .int .i64 (fp : Int)] wx fun e w' => e = .returned .nilIface ∧ VKept S wx w' ∧ VmAt w' mb S q c (protV V (a1 / 4096) m fp) g F) := Lib.hid (fun wx hx =>
    protect_ok mb S q c V g F a1 m fp wx hx (by omega) (by omega) (checkF_zero hm2.1 hfp8 hal hlo hhi) (barredF_all (fun i hi => by
      obtain ⟨pg, hpg⟩ := hall ((a1 + i) / 4096) (by omega) (by omega)
      exact ⟨pg, hpg, by simp⟩)))
  have HPK : Hid (∀ wx (fa : Option Addr) (fc : Nat), VmAt wx mb S q c (protV V (a1 / 4096) m fp) g F → BRow wx fa ((x.bs.drop o2).take fz) → fz ≤ fc → (0 < fz → ∀ b o, fa = some ⟨b, o, none⟩ → ¬ S b) → Calls Try.prog 46 #[.pointer (some ⟨mb, 0, none⟩), .int .u64 (a2 : Int), .slice fa fz fc] wx fun e w' => e = .returned .nilIface ∧ VKept S wx w' ∧ ∃ V', VmAt w' mb S q c V' g F ∧ Filled V V' a1 m fp a2 fz ((x.bs.drop o2).take fz)) := Lib.hid (fun wx fa fc hx hb hfc hs => by
    have h1 := poke_any0 mb S q c (protV V (a1 / 4096) m fp) g F a2 fa fz fc ((x.bs.drop o2).take fz) wx hx (by omega) hb (by rw [List.length_take, List.length_drop]; omega) hfc (by omega) hs
    rw [barredF_all (fun i hi => by
      obtain ⟨pg, hpg⟩ := hall ((a2 + i) / 4096) (by omega) (by omega)
      refine ⟨⟨pg.bytes, fp⟩, ?_, by simp⟩
      unfold protV
      rw [if_pos (by omega), hpg]
      rfl)] at h1
    refine h1.mono ?_
    rintro e w' ⟨rfl, V', k1, k2, -, k4, k5⟩
    exact ⟨rfl, k2, V', k1, filled_of hall k4 k5⟩)
  have HOF : Hid (o2 + fz ≤ x.bs.length) := Lib.hid (by omega)
  have E1 : Hid (IntKind.u64.wrap ((base : Int) + (d1 : Int)) = (a1 : Int)) := Lib.hid (by rw [IntKind.wrap_u64]; omega)
  have E2 : Hid (IntKind.u64.wrap ((base : Int) + (a3 : Int)) = (a2 : Int)) := Lib.hid (by rw [IntKind.wrap_u64]; omega)
  have E3 : Hid (IntKind.u64.wrap ((d2 : Int) - (d1 : Int)) = ((d2 - d1 : Nat) : Int)) := Lib.hid (by rw [IntKind.wrap_u64]; omega)
  obtain ⟨dd, hdd⟩ : ∃ dd, d2 - d1 = dd := ⟨_, rfl⟩
  rw [hdd] at E3 hm1
  have E4 : Hid ((dd : Int).tdiv 4096 = (m : Int)) := Lib.hid (by rw [Int.tdiv_eq_ediv_of_nonneg (by omega)]; omega)
  have E5 : Hid ((dd : Int) / 4096 = (m : Int)) := Lib.hid (by omega)
  have E6 : Hid (IntKind.u64.wrap (m : Int) = (m : Int)) := Lib.hid (by rw [IntKind.wrap_u64]; omega)
  have E8 : Hid (wrap64 (m : Int) = (m : Int)) := Lib.hid (IntWalk.wrap64_in _ ⟨by omega, by omega⟩)
  have E9 : Hid (IntKind.u64.wrap ((o2 : Int) + (fz : Int)) = ((o2 + fz : Nat) : Int)) := Lib.hid (by rw [IntKind.wrap_u64]; omega)
  have E10 : Hid (wrap64 (fp : Int) = (fp : Int)) := Lib.hid (IntWalk.wrap64_in _ ⟨by omega, by omega⟩)
  have HBR := Lib.hid hbr
  have HBC := Lib.hid hbc
  have HBL := Lib.hid hbl
  have H := Lib.hid h
  have HMB := Lib.hid hmb
  have HCC := Lib.hid hC
  obtain ⟨n, hn⟩ : ∃ n, x.bs.length = n := ⟨_, rfl⟩
  rw [hn] at e53 e53' HOF HBC HBL
  have HN := Lib.hid hn
  clear h hS hmb hC hap hbase hal hlo hhi hall hbr hbc hbl hm2 ha1 hm1 hd12 hlow hoff hfz hfm hm ha2 ha21 hd1 hd2 g0 g1 g2 g3 g4 g5 g6 hdd hfp hfp8 hn
  unfold PT.v PT.cells at HPG
  unfold PT.v PT.cells
  simp only at HPG ⊢
  have BA : Hid (Below w.heap.size w ((w.alloc (.cells C 39)).alloc (.cells #[.int .u32 (a0 : Int), .int .u32 (f1 : Int), .int .u64 (o2 : Int), .int .u64 (a3 : Int), .int .u64 (fz : Int), .int .u64 (a5 : Int), .int .u64 (a6 : Int)] 60))) := Lib.hid (((Below.refl _ _).alloc (Nat.le_refl _) _).alloc (by simp) _)
  have HX0 : Hid (((w.alloc (.cells C 39)).alloc (.cells #[.int .u32 (a0 : Int), .int .u32 (f1 : Int), .int .u64 (o2 : Int), .int .u64 (a3 : Int), .int .u64 (fz : Int), .int .u64 (a5 : Int), .int .u64 (a6 : Int)] 60)).heap[w.heap.size]? = some (.cells C 39)) := Lib.hid ((heap_alloc_old _ _ (by simp)).trans (heap_alloc_new _ _))
  have HX1 : Hid (((w.alloc (.cells C 39)).alloc (.cells #[.int .u32 (a0 : Int), .int .u32 (f1 : Int), .int .u64 (o2 : Int), .int .u64 (a3 : Int), .int .u64 (fz : Int), .int .u64 (a5 : Int), .int .u64 (a6 : Int)] 60)).heap[w.heap.size + 1]? = some (.cells #[.int .u32 (a0 : Int), .int .u32 (f1 : Int), .int .u64 (o2 : Int), .int .u64 (a3 : Int), .int .u64 (fz : Int), .int .u64 (a5 : Int), .int .u64 (a6 : Int)] 60)) := Lib.hid (by
    have := heap_alloc_new (w.alloc (.cells C 39)) (.cells #[.int .u32 (a0 : Int), .int .u32 (f1 : Int), .int .u64 (o2 : Int), .int .u64 (a3 : Int), .int .u64 (fz : Int), .int .u64 (a5 : Int), .int .u64 (a6 : Int)] 60)
    simpa using this)
  go_enter Try.func25, Try.ntmps25
  go_wp2_with fail
  generalize (w.alloc (.cells C 39)).alloc (.cells #[.int .u32 (a0 : Int), .int .u32 (f1 : Int), .int .u64 (o2 : Int), .int .u64 (a3 : Int), .int .u64 (fz : Int), .int .u64 (a5 : Int), .int .u64 (a6 : Int)] 60) = w1 at *
  refine (HPG.out w1).mono ?_
  rintro e w2 ⟨rfl, hb2⟩
  have B2 := Lib.hid (bstep BA.out hb2)
  have K0 := Lib.hid ((hb2.block _ (lt_of_block HX0.out)).trans HX0.out)
  have K1 := Lib.hid ((hb2.block _ (lt_of_block HX1.out)).trans HX1.out)
  have d1c : w2.cell? ⟨w.heap.size + 1, 1, none⟩ = some (.int .u32 (f1 : Int)) := by rw [cell_of_row _ _ 1 _ _ _ K1.out]; rfl
  clear hb2 HX0 HX1 HPG BA
  have hand := HAND.out
  have e1 := E1.out
  have e3 := E3.out
  go_wp2_with fail
  rw [E5.out, E6.out, E8.out, E10.out]
  have HVK2 : Hid (VKept S w w2) := Lib.hid (VKept.of_below B2.out)
  refine (HPR.out w2 (H.out.below B2.out)).mono ?_
  rintro e w3 ⟨rfl, hk3, hv3⟩
  have K30 := Lib.hid ((hk3.block w.heap.size (lt_of_block K0.out) (fun hs => by have := HS.out _ hs; omega)).trans K0.out)
  have K31 := Lib.hid ((hk3.block (w.heap.size + 1) (lt_of_block K1.out) (fun hs => by have := HS.out _ hs; omega)).trans K1.out)
  have HV3 := Lib.hid hv3
  have HK3 : Hid (VKept S w w3) := Lib.hid (HVK2.out.trans hk3 (fun _ _ h => h))
  have HB3 := Lib.hid ((HBR.out.below B2.out).kept hk3 (fun hn b o e => HAP.out.c53 b o n bc (e ▸ e53) (by have := HN.out; omega)))
  clear hk3 hv3 hand e1 e3 d1c K0 K1 HPR H HVK2 B2 E1 E3 E4 E5 E6 E8 E10 HAND
  go_wp2_with fail
  have s2 : (World.drew w3).cell? ⟨w.heap.size + 1, 2, none⟩ = some (.int .u64 (o2 : Int)) := by
    change w3.cell? _ = _
    rw [cell_of_row _ _ 2 _ _ _ K31.out]; rfl
  have s3 : (World.drew w3).cell? ⟨w.heap.size + 1, 3, none⟩ = some (.int .u64 (a3 : Int)) := by
    change w3.cell? _ = _
    rw [cell_of_row _ _ 3 _ _ _ K31.out]; rfl
  have s4 : (World.drew w3).cell? ⟨w.heap.size + 1, 4, none⟩ = some (.int .u64 (fz : Int)) := by
    change w3.cell? _ = _
    rw [cell_of_row _ _ 4 _ _ _ K31.out]; rfl
  have s53 : (World.drew w3).cell? ⟨w.heap.size, 53, none⟩ = some (.slice ba n bc) := by
    change w3.cell? _ = _
    rw [cell_of_row _ _ 53 _ _ _ K30.out]; exact e53
  have e2 := E2.out
  have e8 := E9.out
  have HFR := Lib.hid (sub_brow (o2 := o2) (fz := fz) (bc := bc) (w := w3) HB3.out (by have := HOF.out; have := HN.out; omega) (by have := HBC.out; have := HN.out; omega))
  have HFS : Hid (0 < fz → ∀ b o, (if bc = o2 then ba else ba.map (fun x => x.add o2)) = some ⟨b, o, none⟩ → ¬ S b) := Lib.hid (fun hz b o e => by
    obtain ⟨o', e'⟩ := sub_addr HB3.out (by have := HOF.out; have := HN.out; omega) e
    exact HAP.out.c53 b o' n bc (e' ▸ e53) (by have := HOF.out; omega))
  obtain ⟨t, ht⟩ : ∃ t, o2 + fz = t := ⟨_, rfl⟩
  have hte : Hid (t - o2 = fz) := Lib.hid (by omega)
  have hfc : Hid (fz ≤ bc - o2) := Lib.hid (by have := HOF.out; have := HBC.out; omega)
  have g2 : o2 ≤ t := by omega
  have g3 : t ≤ bc := by have := HOF.out; have := HBC.out; omega
  have g4 : (t : Int) ≤ (bc : Int) := by omega
  rw [ht] at e8
  clear ht
  refine wp_region_still_tail 15 (by kernel_rfl) (by kernel_rfl) ?_
  simp only [List.take_succ_cons, List.take_zero, List.drop_succ_cons, List.drop_zero]
  change wpStill _ _ (World.drew w3) _ _ _
  iterate 15 still_step
  refine wpStill_nil ?_
  change wpList _ _ _ _ _ (World.drew w3)
  rw [hte.out]
  generalize (if bc = o2 then ba else ba.map (fun x => x.add o2)) = fa at *
  have HV4 : Hid (VmAt (World.drew w3) mb S q c (protV V (a1 / 4096) m fp) g F) := Lib.hid (HV3.out.below (Below.refl _ _).drew)
  have HK4 : Hid (VKept S w (World.drew w3)) := Lib.hid (HK3.out.trans (VKept.of_below (Below.refl w3.heap.size w3).drew) (fun _ _ h => h))
  have HR4 : Hid (BRow (World.drew w3) fa ((x.bs.drop o2).take fz)) := Lib.hid (HFR.out.below (Below.refl _ _).drew)
  generalize World.drew w3 = w4 at *
  clear s2 s3 s4 s53 e2 e8 g2 g3 g4
  go_wp2_with fail
  refine (HPK.out w4 fa (bc - o2) HV4.out HR4.out hfc.out HFS.out).mono ?_
  rintro e w5 ⟨rfl, hk5, hv5⟩
  have HK5 := Lib.hid (HK4.out.trans hk5 (fun _ _ h => h))
  have HV5 := Lib.hid hv5
  clear hk5 hv5
  go_wp2_with fail
  go_ret
  exact ⟨rfl, HK5.out, HV5.out⟩
end Go.Proofs.Ytjiifaeehhpkcaa
