/- Layer 7: how many symbols a table of the second kind tells. -/
import Derived.Test.YtpilccalgegadaaBloomI
namespace Go.Proofs.Ytpilccalgegadaa
open Go.RowKit
set_option linter.unusedVariables false
set_option linter.unusedSimpArgs false

theorem and_one (x : Nat) (h : x < 4294967296) : bits .and .u32 (x : Int) 1 = ((x % 2 : Nat) : Int) := by
  have := show bits .and .u32 (x : Int) 1 = (x : Int) % 2 from by
    have h0 : (0 : Int) ≤ (x : Int) := by omega
    have h1 : (x : Int) < 4294967296 := by omega
    generalize (x : Int) = z at *
    go_bits2
  rw [this]
  omega

set_option maxRecDepth 100000 in
set_option maxHeartbeats 4000000 in
theorem bcount_any (a : Option Addr) (cap : Nat) (bs : List Nat) (ty en : Int) (p : Option Addr) (pc : Nat) (ps : List PT) (t : BT) (ba : Option Addr) (bc : Nat) (ua : Option Addr) (uc : Nat) (w : World) (hb : BRow w a bs) (hbl : bs.length ≤ 140737488351232) (hbc : bs.length ≤ cap)
    (h : PRow w p ps) (hl : ps.length ≤ 140737488351232) (hf : t.first < 4294967296) (hbase : t.base < 18446744073709551616) (hu : Row .u32 w ua (toI t.buckets)) (hu0 : 0 < t.buckets.length) (hul : t.buckets.length ≤ 4096) (hum : maxF t.buckets < 4294967296) :
    Calls Try.prog 18 #[bloomV a bs.length cap ty en p ps.length pc t ba bc ua uc] w (NumErr (bcountF bs ps t) .i64 w) := by
  have HC := Lib.hid (fun (w1 : World) (i : Nat) (hb1 : Below w.heap.size w w1) (hi : i < 4294967296) => chain_any a cap bs ty en p pc ps t ba bc ua uc i w1 (hb.below hb1) hbl hbc (h.below hb1) hl hf hbase hi)
  have HM := Lib.hid (fun (w1 : World) (hb1 : Below w.heap.size w w1) => max_any ua uc t.buckets w1 (Row.below hu hb1) hu0 (by omega))
  have HLT := Lib.hid (fun i => wordF_lt (bs := bs) hb.2 ps (linkAt t i))
  have hwf := wrap_word hf
  obtain ⟨R, hR⟩ : ∃ R, bcountF bs ps t = R := ⟨_, rfl⟩
  have HR := Lib.hid hR
  rw [hR]
  unfold bloomV at *
  have hC2 : ∀ i, linkF bs ps t i = wordF bs ps (linkAt t i) := fun i => rfl
  have HF0 : Hid (maxF t.buckets = 0 → R = (t.first, 0)) := Lib.hid (fun h0 => by rw [← HR.out]; unfold bcountF; rw [if_pos h0])
  have HF1 : Hid (¬ maxF t.buckets = 0 → countGo bs ps t (4096 - maxF t.buckets) (maxF t.buckets) = R) := Lib.hid (fun h0 => by rw [← HR.out]; unfold bcountF; rw [if_neg h0])
  have HG := Lib.hid (fun f i => countGo_bad (bs := bs) (ps := ps) (t := t) (f := f) (i := i))
  have HG2 := Lib.hid (fun f i => countGo_end (bs := bs) (ps := ps) (t := t) (f := f) (i := i))
  have HG3 := Lib.hid (fun f i => countGo_next (bs := bs) (ps := ps) (t := t) (f := f) (i := i))
  have HLT2 : Hid (∀ i, (linkF bs ps t i).1 < 4294967296) := Lib.hid HLT.out
  have HAL : Hid (∀ i, (linkF bs ps t i).2 = 0 ∨ linkF bs ps t i = (0, 4)) := Lib.hid (fun i => wordF_alt bs ps (linkAt t i))
  obtain ⟨GO, hGO⟩ : ∃ GO : Nat → Nat → Nat × Nat, countGo bs ps t = GO := ⟨_, rfl⟩
  obtain ⟨LI, hLI⟩ : ∃ LI : Nat → Nat × Nat, linkF bs ps t = LI := ⟨_, rfl⟩
  rw [hGO] at HF1 HG HG2 HG3
  rw [hLI] at HC HG HG2 HG3 HLT2 HAL
  have HZ : Hid (∀ i, GO 0 i = (0, 2)) := Lib.hid (fun i => by rw [← hGO]; rfl)
  clear hGO hLI hC2 HLT hR HR hb h hu
  generalize maxF t.buckets = m at *
  obtain ⟨fi, hfi⟩ : ∃ fi, t.first = fi := ⟨_, rfl⟩
  obtain ⟨bl, hbl0⟩ : ∃ bl, t.bloom.length = bl := ⟨_, rfl⟩
  obtain ⟨ul, hul0⟩ : ∃ ul, t.buckets.length = ul := ⟨_, rfl⟩
  obtain ⟨ba0, hba0⟩ : ∃ ba0, t.base = ba0 := ⟨_, rfl⟩
  obtain ⟨sh, hsh⟩ : ∃ sh, t.shift = sh := ⟨_, rfl⟩
  rw [hfi, hbl0, hul0, hba0, hsh] at HC
  rw [hfi] at HF0 hwf hf
  rw [hul0] at HM hu0 hul
  rw [hfi, hbl0, hul0, hba0, hsh]
  clear hfi hbl0 hul0 hba0 hsh hbase
  have B1 : Hid (Below w.heap.size w (w.alloc (.cells #[.slice a bs.length cap, .int .i64 ty, .int .u64 en, .slice p ps.length pc, .int .u32 (fi : Int), .int .u32 (sh : Int), .slice ba bl bc, .slice ua ul uc, .int .u64 (ba0 : Int)] 78))) := Lib.hid ((Below.refl _ _).alloc (Nat.le_refl _) _)
  have hsz : (w.alloc (.cells #[.slice a bs.length cap, .int .i64 ty, .int .u64 en, .slice p ps.length pc, .int .u32 (fi : Int), .int .u32 (sh : Int), .slice ba bl bc, .slice ua ul uc, .int .u64 (ba0 : Int)] 78)).heap.size = w.heap.size + 1 := by simp
  have FB : Hid (∀ w1, Below (w.heap.size + 1) (w.alloc (.cells #[.slice a bs.length cap, .int .i64 ty, .int .u64 en, .slice p ps.length pc, .int .u32 (fi : Int), .int .u32 (sh : Int), .slice ba bl bc, .slice ua ul uc, .int .u64 (ba0 : Int)] 78)) w1 →
      w1.cell? ⟨w.heap.size, 0, none⟩ = some (.slice a bs.length cap) ∧ w1.cell? ⟨w.heap.size, 1, none⟩ = some (.int .i64 ty) ∧ w1.cell? ⟨w.heap.size, 2, none⟩ = some (.int .u64 en) ∧ w1.cell? ⟨w.heap.size, 3, none⟩ = some (.slice p ps.length pc) ∧ w1.cell? ⟨w.heap.size, 4, none⟩ = some (.int .u32 (fi : Int)) ∧
      w1.cell? ⟨w.heap.size, 5, none⟩ = some (.int .u32 (sh : Int)) ∧ w1.cell? ⟨w.heap.size, 6, none⟩ = some (.slice ba bl bc) ∧ w1.cell? ⟨w.heap.size, 7, none⟩ = some (.slice ua ul uc) ∧ w1.cell? ⟨w.heap.size, 8, none⟩ = some (.int .u64 (ba0 : Int))) := Lib.hid (by
    intro w1 h1
    have e1 : w1.heap[w.heap.size]? = some (.cells #[.slice a bs.length cap, .int .i64 ty, .int .u64 en, .slice p ps.length pc, .int .u32 (fi : Int), .int .u32 (sh : Int), .slice ba bl bc, .slice ua ul uc, .int .u64 (ba0 : Int)] 78) := by
      rw [h1.block _ (by omega)]
      exact heap_alloc_new _ _
    refine ⟨?_, ?_, ?_, ?_, ?_, ?_, ?_, ?_, ?_⟩ <;> (rw [cell_of_row _ _ _ _ _ _ e1]; rfl))
  have HSZ := Lib.hid hsz
  clear hsz
  go_enter Try.func18, Try.ntmps18
  go_wp2_with fail
  refine (HM.out _ B1.out).mono ?_
  rintro e w' ⟨rfl, rfl⟩
  clear HM
  by_cases h0 : m = 0
  · have HE := Lib.hid (HF0.out h0)
    subst h0
    go_wp2_with fail
    go_ret2
    rw [HE.out]
    exact ⟨rfl, B1.out⟩
  · have h1 : ((m : Int) == 0) = false := beq_eq_false_iff_ne.2 (by omega)
    have HE := Lib.hid (HF1.out h0)
    have HM0 := Lib.hid hum
    clear h0 hum HF0 HF1 hwf hf
    go_wp2_with fail
    generalize (w.alloc (.cells #[.slice a bs.length cap, .int .i64 ty, .int .u64 en, .slice p ps.length pc, .int .u32 (fi : Int), .int .u32 (sh : Int), .slice ba bl bc, .slice ua ul uc, .int .u64 (ba0 : Int)] 78)) = w1 at *
    go_loopg [4] (4096 - m) (fun g i wr => ∃ iv : Nat, g = 4096 - iv ∧ iv < 4294967296 ∧ i = .int .u32 (iv : Int) ∧ Hid (GO g iv = R) ∧ Hid (Below w1.heap.size w1 wr))
    case atStart => exact ⟨m, rfl, HM0.out, rfl, HE, Lib.hid (Below.refl _ _)⟩
    case round =>
      obtain ⟨iv, hg, hiv, rfl, HGO, BW⟩ := hrel
      have BWW := Lib.hid (bstep B1.out BW.out)
      obtain ⟨k0, k1, k2, k3, k4, k5, k6, k7, k8⟩ := FB.out wr (by have := BW.out; rwa [HSZ.out] at this)
      cases gk with
      | zero =>
        have h2 : (4096 : Int) ≤ (iv : Int) := by omega
        have HRR : Hid (R = (0, 2)) := Lib.hid (by rw [← HGO.out]; exact HZ.out iv)
        clear hg hiv
        go_wp2_with fail
        go_ret2
        rw [HRR.out]
        exact ⟨rfl, BWW.out⟩
      | succ g =>
        have h2 : ¬ (4096 : Int) ≤ (iv : Int) := by omega
        have HCI := Lib.hid (HC.out wr iv BWW.out hiv)
        have HIV := Lib.hid hg
        clear hg hiv
        rcases HAL.out iv with h3 | h3
        · obtain ⟨x, hx⟩ : ∃ x, LI iv = (x, 0) := ⟨(LI iv).1, by rw [← h3]⟩
          have hxl := HLT2.out iv
          have HHE := Lib.hid (HG2.out g iv)
          have HHN := Lib.hid (HG3.out g iv)
          rw [hx] at HCI hxl HHE HHN
          simp only at hxl
          have ha := and_one x hxl
          clear h3 hx hxl
          by_cases h4 : x % 2 = 1
          · have HRR : Hid (R = (iv + 1, 0)) := Lib.hid (by rw [← HGO.out]; exact HHE.out rfl h4)
            rw [h4] at ha
            have hiv2 : iv < 4096 := by omega
            have hwi : wrap64 (iv : Int) = (iv : Int) := wrap_word (by omega)
            clear h4
            go_wp2_with fail
            refine HCI.out.mono ?_
            rintro e w5 ⟨rfl, hb5⟩
            have B5 := Lib.hid (bstep BWW.out hb5)
            clear hb5
            rw [errV0]
            go_wp2_with fail
            go_ret2
            rw [HRR.out]
            exact ⟨rfl, B5.out⟩
          · have HRR : Hid (GO g (iv + 1) = R) := Lib.hid (by rw [← HGO.out]; exact (HHN.out rfl h4).symm)
            have h5 : x % 2 = 0 := by omega
            rw [h5] at ha
            have hwi : IntKind.u32.wrap ((iv : Int) + 1) = (iv : Int) + 1 := by rw [IntKind.wrap_u32]; omega
            clear h4 h5
            go_wp2_with fail
            refine HCI.out.mono ?_
            rintro e w5 ⟨rfl, hb5⟩
            have B5 := Lib.hid (bstep BW.out hb5)
            clear hb5
            rw [errV0]
            go_wp2_with fail
            go_roundg g
            case measure => omega
            case rel => exact ⟨iv + 1, by have := HIV.out; omega, by omega, by go_num, HRR, B5⟩
        · have HRR : Hid (R = (0, 4)) := Lib.hid (by rw [← HGO.out]; exact HG.out g iv h3)
          rw [h3] at HCI
          clear h3
          go_wp2_with fail
          refine HCI.out.mono ?_
          rintro e w5 ⟨rfl, hb5⟩
          have B5 := Lib.hid (bstep BWW.out hb5)
          clear hb5
          rw [errV4]
          go_wp2_with fail
          go_ret2
          rw [HRR.out]
          exact ⟨rfl, B5.out⟩
end Go.Proofs.Ytpilccalgegadaa
