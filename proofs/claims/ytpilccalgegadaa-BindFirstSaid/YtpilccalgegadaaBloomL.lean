/- Layer 7: a table of the second kind is asked. -/
import Derived.Test.YtpilccalgegadaaBloomM
namespace Go.Proofs.Ytpilccalgegadaa
open Go.RowKit
set_option linter.unusedVariables false
set_option linter.unusedSimpArgs false

def gnuN (l : List UInt8) : Nat := (gnuOf l).toNat
theorem gnuN_cast (l : List UInt8) : ((gnuN l : Nat) : Int) = gnuOf l := Int.toNat_of_nonneg (gnuOf_bounds l).1
theorem gnuN_lt (l : List UInt8) : gnuN l < 4294967296 := by have := gnuOf_bounds l; have := gnuN_cast l; omega
theorem gnuN_any (s : ByteArray) (w : World) (hs : s.size ≤ 9223372036854775807) :
    Calls Try.prog 32 #[.string s] w fun e w' => e = .returned (.int .u32 (gnuN s.data.toList : Nat)) ∧ w = w' := by
  rw [gnuN_cast]
  exact gnu_any s w hs
theorem or_one_nat (x : Nat) : x ||| 1 = x / 2 * 2 + 1 := by
  have h1 := Nat.two_pow_add_eq_or_of_lt (i := 1) (b := x % 2) (by omega) (x / 2)
  have h2 := Nat.two_pow_add_eq_or_of_lt (i := 1) (b := 1) (by omega) (x / 2)
  have hx : 2 ^ 1 * (x / 2) + x % 2 = x := by omega
  rw [hx] at h1
  have hb : x % 2 ||| 1 = 1 := by
    rcases (show x % 2 = 0 ∨ x % 2 = 1 from by omega) with h | h <;> rw [h] <;> rfl
  conv => lhs; rw [h1, Nat.or_assoc, hb, ← h2]
  omega
theorem or_one (x : Nat) (h : x < 4294967296) : bits .or .u32 (x : Int) 1 = ((x / 2 * 2 + 1 : Nat) : Int) := by
  have := show bits .or .u32 (x : Int) 1 = ((x ||| 1 : Nat) : Int) from by
    have h0 : (0 : Int) ≤ (x : Int) := by omega
    have h1 : (x : Int) < 4294967296 := by omega
    have h2 : x = (x : Int).toNat := rfl
    generalize (x : Int) = z at *
    subst h2
    go_bits2
  rw [this, or_one_nat]

theorem le_maxF {l : List Nat} {x : Nat} (h : x ∈ l) : x ≤ maxF l := by
  induction l using snocInd with
  | nil => cases h
  | snoc l y ih =>
    rw [maxF_snoc]
    show x ≤ max (maxF l) y
    rcases List.mem_append.1 h with h | h
    · have := ih h; omega
    · obtain rfl := List.mem_singleton.1 h; omega
theorem countGo_tells {bs : List Nat} {ps : List PT} {t : BT} {f i n : Nat} (h : countGo bs ps t f i = (n, 0)) : ∃ ee, i ≤ ee ∧ ee < i + f ∧ (linkF bs ps t ee).1 % 2 = 1 := by
  induction f generalizing i with
  | zero => simp [countGo] at h
  | succ f ih =>
    by_cases h1 : (linkF bs ps t i).2 = 0
    · by_cases h2 : (linkF bs ps t i).1 % 2 = 1
      · exact ⟨i, by omega, by omega, h2⟩
      · rw [countGo_next h1 h2] at h
        obtain ⟨ee, h3, h4, h5⟩ := ih h
        exact ⟨ee, by omega, by omega, h5⟩
    · rw [countGo, if_neg h1] at h
      simp at h
/-- where the chains end, once they are counted -/
theorem bcount_end {bs : List Nat} {ps : List PT} {t : BT} {n : Nat} (h : bcountF bs ps t = (n, 0)) : maxF t.buckets = 0 ∨ ∃ ee, maxF t.buckets ≤ ee ∧ ee < 4096 ∧ (linkF bs ps t ee).1 % 2 = 1 := by
  unfold bcountF at h
  split at h
  · rename_i h0; exact .inl h0
  · obtain ⟨ee, h1, h2, h3⟩ := countGo_tells h
    exact .inr ⟨ee, h1, by omega, h3⟩

set_option maxRecDepth 100000 in
set_option maxHeartbeats 8000000 in
theorem blook_any (a : Option Addr) (cap : Nat) (bs : List Nat) (ty en : Int) (p : Option Addr) (pc : Nat) (ps : List PT) (t : BT) (ba : Option Addr) (bc : Nat) (ua : Option Addr) (uc : Nat) (la : Option Addr) (lc : Nat) (names : List ByteArray) (name : ByteArray) (w : World)
    (hb : BRow w a bs) (hbl : bs.length ≤ 140737488351232) (hbc : bs.length ≤ cap)
    (h : PRow w p ps) (hl : ps.length ≤ 140737488351232) (hf : t.first < 4294967296) (hsh : t.shift < 32) (hbase : t.base < 18446744073709551616) (hu : Row .u32 w ua (toI t.buckets)) (hu0 : 0 < t.buckets.length) (hul : t.buckets.length ≤ 4096)
    (hut : ∀ x ∈ t.buckets, x < 4294967296) (hr : Row .u64 w ba (toI t.bloom)) (hrt : ∀ x ∈ t.bloom, x < 18446744073709551616) (hr0 : 0 < t.bloom.length) (hrl : t.bloom.length ≤ 4096)
    (hnr : NameRow w la names) (hnl : names.length ≤ 140737488351232) (hns : name.size ≤ 140737488351232) (hend : maxF t.buckets = 0 ∨ ∃ ee, maxF t.buckets ≤ ee ∧ ee < 4096 ∧ (linkF bs ps t ee).1 % 2 = 1) :
    Calls Try.prog 19 #[bloomV a bs.length cap ty en p ps.length pc t ba bc ua uc, .slice la names.length lc, .string name] w (NumsErr 3 .i64 (blookF bs ps t names name (gnuN name.data.toList)) w) := by
  have HK := Lib.hid (fun (w1 : World) => gnuN_any name w1 (by omega))
  have hkl := gnuN_lt name.data.toList
  generalize gnuN name.data.toList = k at *
  have HC := Lib.hid (fun (w1 : World) (i : Nat) (hb1 : Below w.heap.size w w1) (hi : i < 4294967296) => chain_any a cap bs ty en p pc ps t ba bc ua uc i w1 (hb.below hb1) hbl hbc (h.below hb1) hl hf hbase hi)
  have HMY := Lib.hid (fun (w1 : World) (hb1 : Below w.heap.size w w1) => may_any a bs.length cap ty en p ps.length pc t ba bc ua uc k w1 hkl hsh (Row.below hr hb1) hrt hr0 hrl)
  have HLT2 : Hid (∀ i, (linkF bs ps t i).1 < 4294967296) := Lib.hid (fun i => wordF_lt hb.2 ps (linkAt t i))
  have HAL : Hid (∀ i, (linkF bs ps t i).2 = 0 ∨ linkF bs ps t i = (0, 4)) := Lib.hid (fun i => wordF_alt bs ps (linkAt t i))
  obtain ⟨R, hR⟩ : ∃ R, blookF bs ps t names name k = R := ⟨_, rfl⟩
  have HR := Lib.hid hR
  rw [hR]
  have hblt : k % t.buckets.length < t.buckets.length := Nat.mod_lt _ hu0
  obtain ⟨b0, o0, rfl, hc0⟩ := hu (k % t.buckets.length) (by rw [toI_length]; exact hblt)
  rw [toI_getD] at hc0
  have hb0 : b0 < w.heap.size := by simpa using World.block_lt_of_cell? w _ hc0
  have h0lt : t.buckets.getD (k % t.buckets.length) 0 < 4294967296 := by
    refine hut _ ?_
    rw [List.getD, List.getElem?_eq_getElem hblt]
    exact List.getElem_mem _
  have HEX : Hid (¬ t.buckets.getD (k % t.buckets.length) 0 = 0 → ∃ ee, t.buckets.getD (k % t.buckets.length) 0 ≤ ee ∧ ee < 4096 ∧ (linkF bs ps t ee).1 % 2 = 1) := Lib.hid (fun h0 => by
    have hle : t.buckets.getD (k % t.buckets.length) 0 ≤ maxF t.buckets := by
      refine le_maxF ?_
      rw [List.getD, List.getElem?_eq_getElem hblt]
      exact List.getElem_mem _
    rcases hend with h1 | ⟨ee, h1, h2, h3⟩
    · omega
    · exact ⟨ee, by omega, h2, h3⟩)
  clear hend
  have HF0 : Hid (t.buckets.getD (k % t.buckets.length) 0 = 0 → R = ([], 0)) := Lib.hid (fun h0 => by rw [← HR.out]; unfold blookF; rw [if_pos (.inl h0)])
  have HF1 : Hid (mayF t k = false → R = ([], 0)) := Lib.hid (fun h0 => by rw [← HR.out]; unfold blookF; rw [if_pos (.inr h0)])
  have HF2 : Hid (¬ t.buckets.getD (k % t.buckets.length) 0 = 0 → mayF t k = true → blookGo bs ps t names name k (names.length - t.buckets.getD (k % t.buckets.length) 0) (t.buckets.getD (k % t.buckets.length) 0) [] = R) := Lib.hid (fun h0 h1 => by rw [← HR.out]; unfold blookF; rw [if_neg (fun h => h.elim h0 (fun h => by rw [h1] at h; cases h))])
  have HG := Lib.hid (fun f i told => blookGo_bad (bs := bs) (ps := ps) (t := t) (names := names) (name := name) (k := k) (f := f) (i := i) (told := told))
  have HG2 := Lib.hid (fun f i told => blookGo_end (bs := bs) (ps := ps) (t := t) (names := names) (name := name) (k := k) (f := f) (i := i) (told := told))
  have HG3 := Lib.hid (fun f i told => blookGo_next (bs := bs) (ps := ps) (t := t) (names := names) (name := name) (k := k) (f := f) (i := i) (told := told))
  obtain ⟨GO, hGO⟩ : ∃ GO : Nat → Nat → List Nat → List Nat × Nat, blookGo bs ps t names name k = GO := ⟨_, rfl⟩
  obtain ⟨LI, hLI⟩ : ∃ LI : Nat → Nat × Nat, linkF bs ps t = LI := ⟨_, rfl⟩
  rw [hGO] at HF2 HG HG2 HG3
  rw [hLI] at HC HG HG2 HG3 HLT2 HAL HEX
  have HZ : Hid (∀ i told, GO 0 i told = ([], 4)) := Lib.hid (fun i told => by rw [← hGO]; rfl)
  have HL := Lib.hid hnr
  clear hGO hLI hR HR hb h hu hut hr hrt hnr
  unfold bloomV at *
  have e1 : (k : Int).tmod (t.buckets.length : Int) = ((k % t.buckets.length : Nat) : Int) := by rw [Int.tmod_eq_emod_of_nonneg (by omega)]; omega
  have e2 : IntKind.u32.wrap (t.buckets.length : Int) = (t.buckets.length : Int) := by rw [IntKind.wrap_u32]; omega
  have e3 : ¬ t.buckets.length = 0 := by omega
  generalize mayF t k = my at *
  generalize t.buckets.getD (k % t.buckets.length) 0 = i0 at *
  obtain ⟨fi, hfi⟩ : ∃ fi, t.first = fi := ⟨_, rfl⟩
  obtain ⟨bl, hbl0⟩ : ∃ bl, t.bloom.length = bl := ⟨_, rfl⟩
  obtain ⟨ul, hul0⟩ : ∃ ul, t.buckets.length = ul := ⟨_, rfl⟩
  obtain ⟨ba0, hba0⟩ : ∃ ba0, t.base = ba0 := ⟨_, rfl⟩
  obtain ⟨sh, hshe⟩ : ∃ sh, t.shift = sh := ⟨_, rfl⟩
  rw [hfi, hbl0, hul0, hba0, hshe] at HC HMY
  rw [hul0] at hu0 hul hblt hc0 e1 e2 e3
  rw [hfi, hbl0, hul0, hba0, hshe]
  clear hfi hbl0 hul0 hba0 hshe hbase hf hsh hr0 hrl
  generalize k % ul = kb at *
  have hkb : (kb : Int) < (ul : Int) := by omega
  have hkb0 : (0 : Int) ≤ (kb : Int) := by omega
  have B1 : Hid (∀ nq, Below w.heap.size w ((w.alloc (.cells #[.slice a bs.length cap, .int .i64 ty, .int .u64 en, .slice p ps.length pc, .int .u32 (fi : Int), .int .u32 (sh : Int), .slice ba bl bc, .slice (some ⟨b0, o0, none⟩) ul uc, .int .u64 (ba0 : Int)] 78)).drewN nq)) := Lib.hid (fun nq => below_drewN ((Below.refl _ _).alloc (Nat.le_refl _) _) _)
  have hsz : ∀ nq, ((w.alloc (.cells #[.slice a bs.length cap, .int .i64 ty, .int .u64 en, .slice p ps.length pc, .int .u32 (fi : Int), .int .u32 (sh : Int), .slice ba bl bc, .slice (some ⟨b0, o0, none⟩) ul uc, .int .u64 (ba0 : Int)] 78)).drewN nq).heap.size = w.heap.size + 1 := fun nq => by show (w.heap.push _).size = _; simp
  have FB : Hid (∀ nq, ∀ w1, Below (w.heap.size + 1) ((w.alloc (.cells #[.slice a bs.length cap, .int .i64 ty, .int .u64 en, .slice p ps.length pc, .int .u32 (fi : Int), .int .u32 (sh : Int), .slice ba bl bc, .slice (some ⟨b0, o0, none⟩) ul uc, .int .u64 (ba0 : Int)] 78)).drewN nq) w1 →
      w1.cell? ⟨w.heap.size, 0, none⟩ = some (.slice a bs.length cap) ∧ w1.cell? ⟨w.heap.size, 1, none⟩ = some (.int .i64 ty) ∧ w1.cell? ⟨w.heap.size, 2, none⟩ = some (.int .u64 en) ∧ w1.cell? ⟨w.heap.size, 3, none⟩ = some (.slice p ps.length pc) ∧ w1.cell? ⟨w.heap.size, 4, none⟩ = some (.int .u32 (fi : Int)) ∧
      w1.cell? ⟨w.heap.size, 5, none⟩ = some (.int .u32 (sh : Int)) ∧ w1.cell? ⟨w.heap.size, 6, none⟩ = some (.slice ba bl bc) ∧ w1.cell? ⟨w.heap.size, 7, none⟩ = some (.slice (some ⟨b0, o0, none⟩) ul uc) ∧ w1.cell? ⟨w.heap.size, 8, none⟩ = some (.int .u64 (ba0 : Int))) := Lib.hid (by
    intro nq w1 h1
    have e1 : w1.heap[w.heap.size]? = some (.cells #[.slice a bs.length cap, .int .i64 ty, .int .u64 en, .slice p ps.length pc, .int .u32 (fi : Int), .int .u32 (sh : Int), .slice ba bl bc, .slice (some ⟨b0, o0, none⟩) ul uc, .int .u64 (ba0 : Int)] 78) := by
      rw [h1.block _ (by omega)]
      exact heap_alloc_new _ _
    refine ⟨?_, ?_, ?_, ?_, ?_, ?_, ?_, ?_, ?_⟩ <;> (rw [cell_of_row _ _ _ _ _ _ e1]; rfl))
  have HSZ := Lib.hid hsz
  clear hsz
  go_enter Try.func19, Try.ntmps19
  go_wp2_with fail
  refine (HK.out _).mono ?_
  rintro e w' ⟨rfl, rfl⟩
  go_wp2
  go_quiet (fail)
  have B1q := Lib.hid (B1.out nq); have FBq := Lib.hid (FB.out nq); have HSZq := Lib.hid (HSZ.out nq)
  clear B1 FB HSZ hc0 hb0 e1 e2 e3
  by_cases h0 : i0 = 0
  · have HE := Lib.hid (HF0.out h0)
    subst h0
    clear HF0 HF1 HF2
    go_wp2_with fail
    go_ret2
    rw [HE.out]
    exact ⟨none, 0, rfl, OwnI.nil _ _ _ _, B1q.out⟩
  · have h1 : ((i0 : Int) == 0) = false := beq_eq_false_iff_ne.2 (by omega)
    have H0 := Lib.hid h0
    clear h0
    have HMYw := Lib.hid (HMY.out _ B1q.out)
    generalize ((w.alloc (.cells #[.slice a bs.length cap, .int .i64 ty, .int .u64 en, .slice p ps.length pc, .int .u32 (fi : Int), .int .u32 (sh : Int), .slice ba bl bc, .slice (some ⟨b0, o0, none⟩) ul uc, .int .u64 (ba0 : Int)] 78)).drewN nq) = w1 at *
    obtain ⟨k0, k1, k2, k3, k4, k5, k6, k7, k8⟩ := FBq.out w1 (Below.refl _ _)
    go_wp2_with fail
    refine HMYw.out.mono ?_
    rintro e w2 ⟨rfl, hb2⟩
    rw [HSZq.out] at hb2
    have B2 := Lib.hid hb2
    clear hb2 k0 k1 k2 k3 k4 k5 k6 k7 k8 HMYw HMY
    cases my
    · have HE := Lib.hid (HF1.out rfl)
      clear HF0 HF1 HF2
      go_wp2_with fail
      go_ret2
      rw [HE.out]
      exact ⟨none, 0, rfl, OwnI.nil _ _ _ _, bstep B1q.out (by rw [HSZq.out]; exact B2.out)⟩
    · have HE := Lib.hid (HF2.out H0.out rfl)
      have HI0 := Lib.hid h0lt
      obtain ⟨ee, hei, he4, heo⟩ := HEX.out H0.out
      have HEI := Lib.hid hei
      have HEE : Hid (ee < 4096 ∧ (LI ee).1 % 2 = 1) := Lib.hid ⟨he4, heo⟩
      clear hei he4 heo HEX
      have BB2 : Hid (Below w.heap.size w w2) := Lib.hid (bstep B1q.out (by rw [HSZq.out]; exact B2.out))
      clear HF0 HF1 HF2 h0lt H0
      have HS2 : Hid (w.heap.size + 1 ≤ w2.heap.size) := Lib.hid (by have := B2.out.size; rwa [HSZq.out] at this)
      go_wp2_with fail
      go_loopg [9, 10] (names.length - i0) (fun g i u wr => ∃ (iv : Nat) (told : List Nat) (ad : Option Addr) (c : Nat), g = names.length - iv ∧ iv < 4294967296 ∧ told.length ≤ iv ∧ i = .int .u32 (iv : Int) ∧ u = .slice ad told.length c ∧
        Hid (GO g iv told = R) ∧ Hid (OwnI wr w2.heap.size 3 .i64 (.slice ad told.length c) (toI told)) ∧ Hid (Below w2.heap.size w2 wr) ∧ Hid (iv ≤ ee))
      case atStart => exact ⟨i0, [], none, 0, rfl, HI0.out, by simp, rfl, rfl, HE, Lib.hid (OwnI.nil _ _ _ _), Lib.hid (Below.refl _ _), HEI⟩
      case round =>
        obtain ⟨iv, told, ad, c, hg, hiv, htl, rfl, rfl, HGO, OT, BW, HIE⟩ := hrel
        have BWW := Lib.hid (bstep BB2.out BW.out)
        have HK9 : Hid (∀ w3, Below w2.heap.size w2 w3 → Below (w.heap.size + 1) w1 w3) := Lib.hid (fun w3 h3 => by
          have h4 : Below w1.heap.size w1 w2 := by rw [HSZq.out]; exact B2.out
          have h5 := bstep h4 h3
          rwa [HSZq.out] at h5)
        obtain ⟨k0, k1, k2, k3, k4, k5, k6, k7, k8⟩ := FBq.out wr (HK9.out wr BW.out)
        have HWI : Hid (wrap64 (iv : Int) = (iv : Int)) := Lib.hid (wrap_word hiv)
        cases gk with
        | zero =>
          have h2 : (names.length : Int) ≤ (iv : Int) := by omega
          have HRR : Hid (R = ([], 4)) := Lib.hid (by rw [← HGO.out]; exact HZ.out iv told)
          clear hg hiv htl
          have hwi := HWI.out
          go_wp2_with fail
          go_ret2
          rw [HRR.out]
          exact ⟨none, 0, rfl, OwnI.nil _ _ _ _, BWW.out⟩
        | succ g =>
          have h2 : ¬ (names.length : Int) ≤ (iv : Int) := by omega
          have hin : iv < names.length := by omega
          have HCI := Lib.hid (HC.out wr iv BWW.out hiv)
          have HIV := Lib.hid hg
          clear hg hiv
          rcases HAL.out iv with h3 | h3
          · obtain ⟨x, hx⟩ : ∃ x, LI iv = (x, 0) := ⟨(LI iv).1, by rw [← h3]⟩
            have hxl := HLT2.out iv
            have HNE : Hid (x % 2 = 0 → iv + 1 ≤ ee) := Lib.hid (fun h => by
              have h1 := HIE.out
              have h2 := HEE.out.2
              rcases Nat.lt_or_eq_of_le h1 with h3 | h3
              · exact h3
              · rw [← h3, hx] at h2
                simp only at h2
                omega)
            have HHE := Lib.hid (HG2.out g iv told)
            have HHN := Lib.hid (HG3.out g iv told)
            rw [hx] at HCI hxl HHE HHN
            simp only at hxl
            have HHW : Hid (IntKind.u32.wrap ((iv : Int) + 1) = (iv : Int) + 1) := Lib.hid (by have h8 := HIE.out; have h9 := HEE.out.1; rw [IntKind.wrap_u32]; omega)
            have HHA := Lib.hid (and_one x hxl)
            have HHO := Lib.hid (or_one x hxl)
            have HOK := Lib.hid (or_one k hkl)
            have HTL := Lib.hid htl; have HIN := Lib.hid hin
            clear h3 hx hxl htl hin hkl hblt hkb hkb0 hul hu0
            have hwi := HWI.out
            go_wp2_with fail
            refine HCI.out.mono ?_
            rintro e w5 ⟨rfl, hb5⟩
            clear hwi
            have htl := HTL.out; have hin := HIN.out
            have BW5 := Lib.hid (bstep BW.out hb5)
            have OT5 := Lib.hid (OT.out.below hb5)
            obtain ⟨nb0, no, rfl, -, hnc⟩ := (HL.out.below (bstep BB2.out BW5.out)) iv hin
            clear hb5
            rw [errV0]
            generalize names.getD iv .empty = nm at *
            by_cases hm : x / 2 = k / 2 ∧ nm = name
            · rw [if_pos hm] at HHE HHN
              obtain ⟨hm1, rfl⟩ := hm
              rw [hm1] at HHO
              have HB5 := Lib.hid BW5.out.size
              have HT1 : Hid (told.length + 1 ≤ maxLen) := Lib.hid (by have h8 := HIE.out; have h9 := HEE.out.1; unfold maxLen; omega)
              have HT2 : Hid ((told.length + 1) * 8 ≤ 140737488355328) := Lib.hid (by have h8 := HIE.out; have h9 := HEE.out.1; omega)
              clear hm1
              rcases (show x % 2 = 0 ∨ x % 2 = 1 from by omega) with h4 | h4
              · have HRR : Hid (GO g (iv + 1) (told ++ [iv]) = R) := Lib.hid (by rw [← HGO.out]; exact (HHN.out (by trivial) (by omega)).symm)
                have HN1 := Lib.hid (HNE.out h4)
                rw [h4] at HHA
                clear h4
                clear htl hin; have hwi := HWI.out; have ha := HHA.out; have ho := HHO.out; have hwn := HHW.out; have hok := HOK.out
                go_wp2_with (at_builtin; go_loud (refine wpList_push rfl (.tmp 64) (.tmp 67) slice64h rfl w2.heap.size w2 (.slice ad told.length c) (toI told) told.length (iv : Int) rfl (by rfl) (toI_length _) OT5.out HT1.out HT2.out BW5.out HB5.out ?_); intro ad6 c6 w6 hown6 hbe6; have O6 := Lib.hid hown6; have HB6 := Lib.hid hbe6; clear hown6 hbe6)
                go_roundg g
                case measure => clear hwi ha ho hwn hok; omega
                case rel =>
                  clear hwi ha ho hwn hok
                  have htl := HTL.out; have hin := HIN.out
                  have hT : toI told ++ [(iv : Int)] = toI (told ++ [iv]) := by simp [toI]
                  have o6 := O6.out
                  rw [hT] at o6
                  exact ⟨iv + 1, told ++ [iv], ad6, c6, by have := HIV.out; omega, by have h8 := HN1.out; have h9 := HEE.out.1; omega, by simp; omega, by go_num, by simp, HRR, Lib.hid (by simpa using o6), HB6, HN1⟩
              · have HRR : Hid (R = (told ++ [iv], 0)) := Lib.hid (by rw [← HGO.out]; exact HHE.out (by trivial) h4)
                rw [h4] at HHA
                clear h4
                clear htl hin; have hwi := HWI.out; have ha := HHA.out; have ho := HHO.out; have hwn := HHW.out; have hok := HOK.out
                go_wp2_with (at_builtin; go_loud (refine wpList_push rfl (.tmp 64) (.tmp 67) slice64h rfl w2.heap.size w2 (.slice ad told.length c) (toI told) told.length (iv : Int) rfl (by rfl) (toI_length _) OT5.out HT1.out HT2.out BW5.out HB5.out ?_); intro ad6 c6 w6 hown6 hbe6; have O6 := Lib.hid hown6; have HB6 := Lib.hid hbe6; clear hown6 hbe6)
                go_ret2
                rw [HRR.out]
                have hT : toI told ++ [(iv : Int)] = toI (told ++ [iv]) := by simp [toI]
                have o6 := O6.out
                rw [hT] at o6
                exact ⟨ad6, c6, by simp; rfl, by simpa using o6.mono BB2.out.size, bstep BB2.out HB6.out⟩
            · rw [if_neg hm] at HHE HHN
              have hval : ((x / 2 * 2 + 1 : Nat) : Int) ≠ ((k / 2 * 2 + 1 : Nat) : Int) ∨ (nm.toList == name.toList) = false := by
                rcases Decidable.em (x / 2 = k / 2) with h5 | h5
                · exact .inr (text_ne (fun h6 => hm ⟨h5, h6⟩))
                · exact .inl (by omega)
              clear hm
              generalize x / 2 * 2 + 1 = X at *
              generalize k / 2 * 2 + 1 = K at *
              have hcase : ((X : Int) == (K : Int)) = false ∨ (X = K ∧ (nm.toList == name.toList) = false) := by
                rcases Decidable.em (X = K) with h6 | h6
                · rcases hval with h7 | h7
                  · exact absurd (by rw [h6]) h7
                  · exact .inr ⟨h6, h7⟩
                · exact .inl (beq_eq_false_iff_ne.2 (by omega))
              clear hval
              rcases (show x % 2 = 0 ∨ x % 2 = 1 from by omega) with h4 | h4
              · have HRR : Hid (GO g (iv + 1) told = R) := Lib.hid (by rw [← HGO.out]; exact (HHN.out (by trivial) (by omega)).symm)
                have HN1 := Lib.hid (HNE.out h4)
                rw [h4] at HHA
                clear h4
                rcases hcase with h8 | ⟨rfl, h8⟩
                · clear htl hin; have hwi := HWI.out; have ha := HHA.out; have ho := HHO.out; have hwn := HHW.out; have hok := HOK.out
                  go_wp2_with fail
                  go_roundg g
                  case measure => clear hwi ha ho hwn hok; omega
                  case rel => clear hwi ha ho hwn hok; have htl := HTL.out; have hin := HIN.out; exact ⟨iv + 1, told, ad, c, by have := HIV.out; omega, by have h8 := HN1.out; have h9 := HEE.out.1; omega, by omega, by go_num, rfl, HRR, OT5, BW5, HN1⟩
                · clear htl hin; have hwi := HWI.out; have ha := HHA.out; have ho := HHO.out; have hwn := HHW.out; have hok := HOK.out
                  go_wp2_with fail
                  go_roundg g
                  case measure => clear hwi ha ho hwn hok; omega
                  case rel => clear hwi ha ho hwn hok; have htl := HTL.out; have hin := HIN.out; exact ⟨iv + 1, told, ad, c, by have := HIV.out; omega, by have h8 := HN1.out; have h9 := HEE.out.1; omega, by omega, by go_num, rfl, HRR, OT5, BW5, HN1⟩
              · have HRR : Hid (R = (told, 0)) := Lib.hid (by rw [← HGO.out]; exact HHE.out (by trivial) h4)
                rw [h4] at HHA
                clear h4
                rcases hcase with h8 | ⟨rfl, h8⟩
                · clear htl hin; have hwi := HWI.out; have ha := HHA.out; have ho := HHO.out; have hwn := HHW.out; have hok := HOK.out
                  go_wp2_with fail
                  go_ret2
                  rw [HRR.out]
                  exact ⟨ad, c, rfl, OT5.out.mono BB2.out.size, bstep BB2.out BW5.out⟩
                · clear htl hin; have hwi := HWI.out; have ha := HHA.out; have ho := HHO.out; have hwn := HHW.out; have hok := HOK.out
                  go_wp2_with fail
                  go_ret2
                  rw [HRR.out]
                  exact ⟨ad, c, rfl, OT5.out.mono BB2.out.size, bstep BB2.out BW5.out⟩
          · have HRR : Hid (R = ([], 4)) := Lib.hid (by rw [← HGO.out]; exact HG.out g iv told h3)
            rw [h3] at HCI
            clear h3 htl hin
            have hwi := HWI.out
            go_wp2_with fail
            refine HCI.out.mono ?_
            rintro e w5 ⟨rfl, hb5⟩
            have B5 := Lib.hid (bstep BWW.out hb5)
            clear hb5
            rw [errV4]
            go_wp2_with fail
            go_ret2
            rw [HRR.out]
            exact ⟨none, 0, rfl, OwnI.nil _ _ _ _, B5.out⟩
end Go.Proofs.Ytpilccalgegadaa
