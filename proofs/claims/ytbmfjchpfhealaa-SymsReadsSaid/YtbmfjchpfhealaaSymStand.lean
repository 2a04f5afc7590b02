/- Layer 6: SymsStand. -/
import Derived.Test.YtbmfjchpfhealaaSymReads
import Derived.Test.YtbmfjchpfhealaaSymUp
import Derived.Deep.LoopGhost
namespace Go.Proofs.Ytbmfjchpfhealaa
open Go.RowKit
set_option linter.unusedVariables false
set_option linter.unusedSimpArgs false

theorem textF_yes {s : List Nat} (hb : ∀ b ∈ s, b < 256) {off : Nat} {nm : ByteArray} (h : textF s off = (nm, 0)) : ∃ m, off + m < s.length ∧ m ≤ 255 ∧ s.getD (off + m) 0 = 0 ∧ nm = ⟨(Lib.bytesOf (cutOf (toI s) off m)).toArray⟩ := by
  unfold textF at h
  by_cases h1 : off < s.length
  · rw [if_pos h1] at h
    rcases indexByte_cases (Lib.bytesOf ((toI s).drop off)) with hk | ⟨k, hk⟩
    · rw [hk, if_pos (by omega)] at h
      simp at h
    · rw [hk, if_neg (by omega)] at h
      by_cases h3 : 255 < k
      · rw [if_pos (by omega)] at h
        simp at h
      · rw [if_neg (by omega)] at h
        simp only [Prod.mk.injEq, and_true, Int.toNat_natCast] at h
        obtain ⟨h4, h5, -⟩ := first_zero (toI_bytes hb) off k hk
        rw [toI_length] at h4
        rw [toI_getD] at h5
        exact ⟨k, h4, by omega, by omega, h.symm⟩
  · rw [if_neg h1] at h
    simp at h
theorem cut_size {s : List Nat} {off m : Nat} (h : off + m < s.length) : (⟨(Lib.bytesOf (cutOf (toI s) off m)).toArray⟩ : ByteArray).size = m := by
  show (Lib.bytesOf (cutOf (toI s) off m)).toArray.size = m
  simp only [List.size_toArray, Lib.bytesOf, List.length_map]
  exact cutOf_length (by rw [toI_length]; omega)
theorem symsErr_all {s t : List Nat} {n : Nat} (h : symsErr s t n = 0) : ∀ k, k < n → symErr s t k = 0 := by
  induction n with
  | zero => intro k hk; omega
  | succ n ih =>
    unfold symsErr at h
    by_cases h0 : symsErr s t n = 0
    · rw [if_neg (by omega)] at h
      intro k hk
      by_cases hkn : k = n
      · rw [hkn]; exact h
      · exact ih h0 k (by omega)
    · rw [if_pos h0] at h
      exact absurd h h0
/-- a symbol that was read has a name that stands in the strings -/
theorem sym_named {s t : List Nat} (hb : ∀ b ∈ s, b < 256) {n k : Nat} (h : symsErr s t n = 0) (hk : k < n) (hl : k < (symsTo s t n).length) : ∃ off m, off + m < s.length ∧ m ≤ 255 ∧ s.getD (off + m) 0 = 0 ∧ (symsTo s t n)[k][0]? = some (.string ⟨(Lib.bytesOf (cutOf (toI s) off m)).toArray⟩) := by
  have h1 := symsErr_all h k hk
  have h2 : (symAt s t k).2 = 0 := by
    unfold symErr at h1
    split at h1
    · simp at h1
    · exact h1
  have e : (symsTo s t n)[k] = (symAt s t k).1 := by simp [symsTo]
  rw [e]
  unfold symAt symF at h2 ⊢
  generalize (t.drop (24 * k)).take 24 = bs at *
  obtain ⟨nm, c, ht⟩ : ∃ nm c, textF s (numOf (bs.take 4)) = (nm, c) := ⟨_, _, rfl⟩
  rw [ht] at h2 ⊢
  by_cases h0 : c = 0
  · subst h0
    rw [if_pos rfl] at h2 ⊢
    cases hok : symOk bs with
    | true =>
      obtain ⟨m, h3, h4, h5, rfl⟩ := textF_yes hb ht
      exact ⟨_, m, h3, h4, h5, rfl⟩
    | false =>
      rw [hok] at h2
      simp at h2
  · rw [if_neg h0] at h2
    exact absurd h2 h0

theorem errV_zero : errV ((0 : Nat) : Int) = .nilIface := rfl
theorem sym_cell {s t : List Nat} (hb : ∀ b ∈ s, b < 256) {n k : Nat} (h : symsErr s t n = 0) (hk : k < n) : ∃ off m, off + m < s.length ∧ m ≤ 255 ∧ s.getD (off + m) 0 = 0 ∧
    ∀ w ad, RowS w 7 ad (symsTo s t n) → ∃ b o, ad = some ⟨b, o, none⟩ ∧ w.cell? ⟨b, o + k * 7, none⟩ = some (.string ⟨(Lib.bytesOf (cutOf (toI s) off m)).toArray⟩) := by
  have hl : k < (symsTo s t n).length := by simp [symsTo]; exact hk
  obtain ⟨off, m, h1, h2, h3, h4⟩ := sym_named hb h hk hl
  refine ⟨off, m, h1, h2, h3, fun w ad hr => ?_⟩
  obtain ⟨b, o, e, -, hc⟩ := hr k hl
  exact ⟨b, o, e, by rw [← h4]; exact hc 0 (by omega)⟩

set_option maxRecDepth 100000 in
set_option maxHeartbeats 8000000 in
theorem stand_no (a : Option Addr) (cap : Nat) (bs : List Nat) (ty en : Int) (p : Option Addr) (pc : Nat) (ps : List PT) (d : DT) (n : Int) (w : World) (hb : BRow w a bs) (hbl : bs.length ≤ 140737488351232) (hbc : bs.length ≤ cap) (hbn : a = none → bs.length = 0 ∧ cap = 0)
    (h : PRow w p ps) (hl : ps.length ≤ 140737488351232) (hd : d.wf) (hn1 : -9223372036854775808 ≤ n) (hn2 : n < 9223372036854775808) (c : Nat) (hF : readF bs ps d n = ([], c)) (hc : 0 < c) :
    Calls Try.prog 3 #[.slice a bs.length cap, headV ty en p ps.length pc, .agg d.cells, .int .i64 n] w fun e w' => e = .returned (.bool true) ∧ Below w.heap.size w w' := by
  have HRD := Lib.hid (fun (w1 : World) (hb1 : Below w.heap.size w w1) => read_any a cap bs ty en p pc ps d n w1 (hb.below hb1) hbl hbc hbn (h.below hb1) hl hd hn1 hn2)
  rw [hF] at HRD
  have HUP := Lib.hid up_true
  have HC := Lib.hid (errV_pos hc)
  clear h hb hbn hd hF
  have HI : Hid ((Try.prog.info? 29).map (·.size) = some d.cells.size) := Lib.hid (show _ = some 37 by kernel_rfl)
  generalize d.cells = D at *
  have B1 : Hid (Below w.heap.size w ((w.alloc (.cells #[.int .i64 ty, .int .u64 en, .slice p ps.length pc] 26)).alloc (.cells D 29))) := Lib.hid (((Below.refl _ _).alloc (Nat.le_refl _) _).alloc (by simp) _)
  have FH : Hid (∀ w1, Below ((w.alloc (.cells #[.int .i64 ty, .int .u64 en, .slice p ps.length pc] 26)).alloc (.cells D 29)).heap.size ((w.alloc (.cells #[.int .i64 ty, .int .u64 en, .slice p ps.length pc] 26)).alloc (.cells D 29)) w1 →
      w1.cell? ⟨w.heap.size, 0, none⟩ = some (.int .i64 ty) ∧ w1.cell? ⟨w.heap.size, 1, none⟩ = some (.int .u64 en) ∧ w1.cell? ⟨w.heap.size, 2, none⟩ = some (.slice p ps.length pc) ∧
      w1.heap[w.heap.size + 1]? = some (.cells D 29)) := Lib.hid (by
    intro w1 hw1
    have e1 : ∀ j, w1.cell? ⟨w.heap.size, j, none⟩ = (w.alloc (.cells #[.int .i64 ty, .int .u64 en, .slice p ps.length pc] 26)).cell? ⟨w.heap.size, j, none⟩ := fun j => by
      rw [hw1.cell (p := ⟨w.heap.size, j, none⟩) (by simp; omega)]
      exact (Below.cell (((Below.refl _ _).alloc (Nat.le_refl _) _)) (p := ⟨w.heap.size, j, none⟩) (by simp))
    refine ⟨?_, ?_, ?_, ?_⟩
    · rw [e1, World.cell?_alloc_new]; rfl
    · rw [e1, World.cell?_alloc_new]; rfl
    · rw [e1, World.cell?_alloc_new]; rfl
    · rw [hw1.block _ (by simp)]
      have := heap_alloc_new (w.alloc (.cells #[.int .i64 ty, .int .u64 en, .slice p ps.length pc] 26)) (.cells D 29)
      simpa using this)
  unfold headV at *
  go_enter Try.func3, Try.ntmps3
  go_wp2_with fail
  refine (HUP.out _).mono ?_
  rintro e w1 ⟨rfl, hb1⟩
  obtain ⟨f0, f1, f2, f3⟩ := FH.out _ hb1
  have B2 := Lib.hid (bstep B1.out hb1)
  have F3 := Lib.hid f3; clear f3
  clear hb1 FH B1
  go_wp2_with (refine wpList_load_row rfl 29 _ rfl (w.heap.size + 1) rfl 29 D (0, 0) _ F3.out Try.underlying29 rfl HI.out ?_)
  refine (HRD.out _ B2.out).mono ?_
  rintro e w2 ⟨ad, ac, rfl, ho, hb2⟩
  have B3 := Lib.hid (bstep B2.out hb2)
  clear ho hb2 HRD HUP f0 f1 f2 F3 HI B2
  simp only [List.length_nil]
  rw [HC.out]
  go_wp2
  go_ret
  exact ⟨rfl, B3.out⟩

set_option maxRecDepth 100000 in
set_option maxHeartbeats 8000000 in
theorem stand_yes (a : Option Addr) (cap : Nat) (bs : List Nat) (ty en : Int) (p : Option Addr) (pc : Nat) (ps : List PT) (d : DT) (n : Nat) (w : World) (hb : BRow w a bs) (hbl : bs.length ≤ 140737488351232) (hbc : bs.length ≤ cap) (hbn : a = none → bs.length = 0 ∧ cap = 0)
    (h : PRow w p ps) (hl : ps.length ≤ 140737488351232) (hd : d.wf) (hn : n ≤ 4096) (s t : List Nat) (hS : strF bs ps d.strtab d.strsz = (s, 0)) (hE : symsErr s t n = 0) (hF : readF bs ps d (n : Int) = (symsTo s t n, 0)) :
    Calls Try.prog 3 #[.slice a bs.length cap, headV ty en p ps.length pc, .agg d.cells, .int .i64 (n : Int)] w fun e w' => e = .returned (.bool true) ∧ Below w.heap.size w w' := by
  have HRD := Lib.hid (fun (w1 : World) (hb1 : Below w.heap.size w w1) => read_any a cap bs ty en p pc ps d (n : Int) w1 (hb.below hb1) hbl hbc hbn (h.below hb1) hl hd (by omega) (by omega))
  have HST := Lib.hid (fun (w1 : World) (hb1 : Below w.heap.size w w1) => strings_any a cap bs ty en p pc ps d w1 (hb.below hb1) hbl hbc hbn (h.below hb1) hl hd.strtab hd.strsz)
  rw [hF] at HRD
  rw [hS] at HST
  obtain ⟨hs1, hs2, hs3⟩ := strF_told hS
  have hsb : ∀ b ∈ s, b < 256 := fun b hm => hb.2 b (hs3 b hm)
  have HUP := Lib.hid up_true
  have hlen : (symsTo s t n).length = n := by simp [symsTo]
  have HNM := Lib.hid (fun (k : Nat) (hk : k < n) => sym_cell hsb hE hk)
  have HSB := Lib.hid hsb
  have HLN := Lib.hid hlen
  simp only at HST
  clear h hb hbn hd hF hS hE hs3 hsb hlen
  have HI : Hid ((Try.prog.info? 29).map (·.size) = some d.cells.size) := Lib.hid (show _ = some 37 by kernel_rfl)
  generalize d.cells = D at *
  have B1 : Hid (Below w.heap.size w ((w.alloc (.cells #[.int .i64 ty, .int .u64 en, .slice p ps.length pc] 26)).alloc (.cells D 29))) := Lib.hid (((Below.refl _ _).alloc (Nat.le_refl _) _).alloc (by simp) _)
  have FH : Hid (∀ w1, Below ((w.alloc (.cells #[.int .i64 ty, .int .u64 en, .slice p ps.length pc] 26)).alloc (.cells D 29)).heap.size ((w.alloc (.cells #[.int .i64 ty, .int .u64 en, .slice p ps.length pc] 26)).alloc (.cells D 29)) w1 →
      w1.cell? ⟨w.heap.size, 0, none⟩ = some (.int .i64 ty) ∧ w1.cell? ⟨w.heap.size, 1, none⟩ = some (.int .u64 en) ∧ w1.cell? ⟨w.heap.size, 2, none⟩ = some (.slice p ps.length pc) ∧
      w1.heap[w.heap.size + 1]? = some (.cells D 29)) := Lib.hid (by
    intro w1 hw1
    have e1 : ∀ j, w1.cell? ⟨w.heap.size, j, none⟩ = (w.alloc (.cells #[.int .i64 ty, .int .u64 en, .slice p ps.length pc] 26)).cell? ⟨w.heap.size, j, none⟩ := fun j => by
      rw [hw1.cell (p := ⟨w.heap.size, j, none⟩) (by simp; omega)]
      exact (Below.cell (((Below.refl _ _).alloc (Nat.le_refl _) _)) (p := ⟨w.heap.size, j, none⟩) (by simp))
    refine ⟨?_, ?_, ?_, ?_⟩
    · rw [e1, World.cell?_alloc_new]; rfl
    · rw [e1, World.cell?_alloc_new]; rfl
    · rw [e1, World.cell?_alloc_new]; rfl
    · rw [hw1.block _ (by simp)]
      have := heap_alloc_new (w.alloc (.cells #[.int .i64 ty, .int .u64 en, .slice p ps.length pc] 26)) (.cells D 29)
      simpa using this)
  unfold headV at *
  go_enter Try.func3, Try.ntmps3
  go_wp2_with fail
  refine (HUP.out _).mono ?_
  rintro e w1 ⟨rfl, hb1⟩
  obtain ⟨f0, f1, f2, f3⟩ := FH.out _ hb1
  have B2 := Lib.hid (bstep B1.out hb1)
  have F3 := Lib.hid f3; clear f3
  have S1 := Lib.hid hb1
  clear hb1 B1
  go_wp2_with (refine wpList_load_row rfl 29 _ rfl (w.heap.size + 1) rfl 29 D (0, 0) _ F3.out Try.underlying29 rfl HI.out ?_)
  refine (HRD.out _ B2.out).mono ?_
  rintro e w2 ⟨ad, ac, rfl, ho, hb2⟩
  clear f0 f1 f2 F3
  obtain ⟨f0, f1, f2, f3⟩ := FH.out _ (bstep S1.out hb2)
  have F3 := Lib.hid f3; clear f3
  have B3 := Lib.hid (bstep B2.out hb2)
  have O2 := Lib.hid ho
  clear ho hb2 HRD HUP B2 S1
  rw [errV_zero]
  simp only [HLN.out]
  go_wp2_with (refine wpList_load_row rfl 29 _ rfl (w.heap.size + 1) rfl 29 D (0, 0) _ F3.out Try.underlying29 rfl HI.out ?_)
  refine (HST.out _ B3.out).mono ?_
  rintro e w3 ⟨sa, sc, rfl, ho, hb3⟩
  have B4 := Lib.hid (bstep B3.out hb3)
  have O3 := Lib.hid (O2.out.below hb3)
  have OS := Lib.hid ho
  clear ho hb3 f0 f1 f2 F3 FH HST B3 O2 HI
  rw [errV_zero]
  have hsz : ((s.length : Int) == 0) = false := by rw [beq_eq_false_iff_ne]; omega
  go_wp2
  go_loopg [14] (n + 1) (fun gk i wr => ∃ j : Nat, j ≤ n ∧ j + gk = n + 1 ∧ i = .int .i64 (j : Int) ∧ w3 = wr)
  case atStart => exact ⟨0, by omega, by omega, rfl, rfl⟩
  case round =>
    obtain ⟨j, hj, hjg, rfl, rfl⟩ := hrel
    have hlj := HLN.out
    obtain ⟨g1, rfl⟩ : ∃ g', gk = g' + 1 := ⟨gk - 1, by omega⟩
    by_cases hlt : j < n ∧ j < 50
    · obtain ⟨hlt, hlt5⟩ := hlt
      have d1 : decide ((j : Int) < (n : Int)) = true := by rw [decide_eq_true_eq]; omega
      have d2 : decide ((j : Int) < 50) = true := by rw [decide_eq_true_eq]; omega
      obtain ⟨off, m, hm1, hm2, hm3, hcell⟩ := HNM.out j hlt
      obtain ⟨b, o, rfl, hc⟩ := hcell w3 ad O3.out.at.2.1
      have HM3 := Lib.hid hm3
      have hnz := cut_size hm1
      have HND := Lib.hid (show (⟨(Lib.bytesOf (cutOf (toI s) off m)).toArray⟩ : ByteArray) = ⟨(Lib.bytesOf (cutOf (toI s) off m)).toArray⟩ from rfl)
      obtain ⟨nm, hnm⟩ : ∃ nm : ByteArray, nm = ⟨(Lib.bytesOf (cutOf (toI s) off m)).toArray⟩ := ⟨_, rfl⟩
      rw [← hnm] at hc hnz
      have HNZ := Lib.hid hnz
      have HNM' := Lib.hid hnm
      clear hcell hm3 hnm hnz HND
      go_wp2
      obtain ⟨b2, o2, rfl, -⟩ := OS.out.at.2.1 0 (by rw [toI_length]; omega)
      have hfit := OS.out.fit.1
      have HSR : Hid (BRow w3 (some ⟨b2, o2, none⟩) s) := Lib.hid ⟨OS.out.at.2.1, HSB.out⟩
      have HCV : Hid (∀ k c, k + m ≤ s.length → (convert 22 9 (.slice (some ⟨b2, o2 + k, none⟩) m c)).run Try.prog w3 = .ok (.string ⟨(Lib.bytesOf (cutOf (toI s) k m)).toArray⟩) w3) := Lib.hid (fun k c hk => conv_bytes w3 b2 (o2 + k) c (cutOf (toI s) k m) m (cutOf_length (by rw [toI_length]; omega)) (fun i hi => by
        obtain ⟨b', o', e, hc⟩ := HSR.out.1.cut k m i (by rw [cutOf_length (by rw [toI_length]; omega)]; exact hi)
        simp only [Option.map_some, Option.some.injEq, WideShapes.add_plain, Addr.mk.injEq, and_true] at e
        obtain ⟨rfl, rfl⟩ := e
        exact hc))
      have HCL : Hid (∀ k, k < s.length → w3.cell? ⟨b2, o2 + k, none⟩ = some (.int .u8 ((s.getD k 0 : Nat) : Int))) := Lib.hid (fun k hk => by
        obtain ⟨b', o', e, -, hc, -⟩ := HSR.out.at hk
        simp only [Option.some.injEq, Addr.mk.injEq, and_true] at e
        obtain ⟨rfl, rfl⟩ := e
        exact hc)
      have hsm : nm.size = m := HNZ.out
      have hm63 : (nm.size : Int) = (m : Int) := by rw [hsm]
      clear hc hlj
      go_loopg [15, 17] (off + 2) (fun gm f q wr => ∃ (z : Bool) (k : Nat), f = .bool z ∧ q = .int .i64 (k : Int) ∧ ((z = false ∧ k ≤ off) ∨ (z = true ∧ k ≤ off + 1)) ∧ k + gm = off + 2 ∧ w3 = wr)
      case atStart => exact ⟨false, 0, rfl, rfl, .inl ⟨rfl, by omega⟩, by omega, rfl⟩
      case round =>
        obtain ⟨z, k, rfl, rfl, hz, hkg, rfl⟩ := hrel
        rcases hz with ⟨rfl, hk⟩ | ⟨rfl, hk⟩
        · have hc := HCL.out (k + m) (by omega)
          have hne : ¬ sc = k := by omega
          obtain ⟨g2, rfl⟩ : ∃ g', gk = g' + 1 := ⟨gk - 1, by omega⟩
          by_cases hko : k = off
          · have hcv := HCV.out k (sc - k) (by omega)
            rw [hko, HM3.out] at hc
            rw [hko, ← HNM'.out] at hcv
            subst hko
            go_wp2
            go_roundg g2
            case measure => omega
            case rel => exact ⟨true, k + 1, rfl, by go_num, .inr ⟨rfl, by omega⟩, by omega, rfl⟩
          · have hcv := HCV.out k (sc - k) (by omega)
            obtain ⟨v, hv⟩ : ∃ v : ByteArray, v = ⟨(Lib.bytesOf (cutOf (toI s) k m)).toArray⟩ := ⟨_, rfl⟩
            rw [← hv] at hcv
            clear hv
            generalize s.getD (k + m) 0 = x at *
            by_cases hx : x = 0
            · subst hx
              go_wp2
              go_roundg g2
              case measure => omega
              case rel =>
                cases hz' : (v.toList == nm.toList) with
                | true => exact ⟨true, k + 1, rfl, by go_num, .inr ⟨rfl, by omega⟩, by omega, rfl⟩
                | false => exact ⟨false, k + 1, rfl, by go_num, .inl ⟨rfl, by omega⟩, by omega, rfl⟩
            · have hxz : ((x : Int) == 0) = false := by rw [beq_eq_false_iff_ne]; omega
              clear hx
              go_wp2
              go_roundg g2
              case measure => omega
              case rel => exact ⟨false, k + 1, rfl, by go_num, .inl ⟨rfl, by omega⟩, by omega, rfl⟩
        · by_cases hlt : k + m < s.length
          · go_wp2
            go_roundg g1
            case measure => omega
            case rel => exact ⟨j + 1, by omega, by omega, by go_num, rfl⟩
          · go_wp2
            go_roundg g1
            case measure => omega
            case rel => exact ⟨j + 1, by omega, by omega, by go_num, rfl⟩
    · have B4' := B4.out
      by_cases hlt1 : j < n
      · have h50 : ¬ j < 50 := by omega
        clear hlt
        go_wp2
        go_ret
        exact ⟨rfl, B4'⟩
      · clear hlt
        go_wp2
        go_ret
        exact ⟨rfl, B4'⟩

theorem stand_any (a : Option Addr) (cap : Nat) (bs : List Nat) (ty en : Int) (p : Option Addr) (pc : Nat) (ps : List PT) (d : DT) (n : Int) (w : World) (hb : BRow w a bs) (hbl : bs.length ≤ 140737488351232) (hbc : bs.length ≤ cap) (hbn : a = none → bs.length = 0 ∧ cap = 0)
    (h : PRow w p ps) (hl : ps.length ≤ 140737488351232) (hd : d.wf) (hn1 : -9223372036854775808 ≤ n) (hn2 : n < 9223372036854775808) :
    Calls Try.prog 3 #[.slice a bs.length cap, headV ty en p ps.length pc, .agg d.cells, .int .i64 n] w fun e w' => e = .returned (.bool true) ∧ Below w.heap.size w w' := by
  rcases readF_code bs ps d n with h0 | ⟨h1, h2, h3⟩
  · obtain ⟨hn0, hn4, s, t, hS, -, hE, hF⟩ := readF_yes h0
    obtain ⟨m, rfl⟩ := Int.eq_ofNat_of_zero_le hn0
    rw [Int.toNat_natCast] at hE hF
    exact stand_yes a cap bs ty en p pc ps d m w hb hbl hbc hbn h hl hd (by omega) s t hS hE hF
  · exact stand_no a cap bs ty en p pc ps d n w hb hbl hbc hbn h hl hd hn1 hn2 _ (Prod.ext h1 rfl) h2

theorem bytes_row {W : World} {a : Option Addr} {len cap : Nat} {z : List Int} (w0 : IsRow .u8 W a len cap z) : ∃ bs : List Nat, bs.length = len ∧ BRow W a bs ∧ len ≤ cap ∧ (a = none → len = 0 ∧ cap = 0) := by
  obtain ⟨xs, h1, h2, h3, h4, -, h6⟩ := w0.row
  refine ⟨xs.map Int.toNat, by simp [h1], ⟨?_, ?_⟩, h4, h6⟩
  · have : toI (xs.map Int.toNat) = xs := by
      unfold toI
      rw [List.map_map]
      conv => rhs; rw [← List.map_id xs]
      apply List.map_congr_left
      intro x hx
      have := wf_u8_bounds (h3 x hx)
      simp
      omega
    rw [this]
    exact h2
  · intro b hb
    obtain ⟨x, hx, rfl⟩ := List.mem_map.1 hb
    have := wf_u8_bounds (h3 x hx)
    omega
theorem walk_SymsStand (a : Option Addr) (len cap : Nat) (z : List Int) (ty en : Int) (p : Option Addr) (pc : Nat) (ps : List PT) (d : DT) (n : Int) (W : World) (w0 : IsRow .u8 W a len cap z) (s0 : cap * 1 ≤ 140737488351232) (hp : PRow W p ps) (hpl : ps.length ≤ 140737488351232) (hd : d.wf) (w3 : (Lit.int .i64 n).wf = true) :
    Calls Try.prog 3 #[.slice a len cap, headV ty en p ps.length pc, .agg d.cells, .int .i64 n] W fun e w' => e = .returned (.bool true) ∧ Below W.heap.size W w' := by
  obtain ⟨bs, rfl, hb, hc, hn⟩ := bytes_row w0
  have := bounds_i64 w3
  exact stand_any a cap bs ty en p pc ps d n W hb (by omega) hc hn hp hpl hd (by omega) (by omega)
end Go.Proofs.Ytbmfjchpfhealaa
