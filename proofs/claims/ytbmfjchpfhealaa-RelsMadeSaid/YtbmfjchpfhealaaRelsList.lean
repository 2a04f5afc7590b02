/- Layer 9: the relocations of a file, in bytes: the program's answer. -/
import Derived.Test.YtbmfjchpfhealaaRel
namespace Go.Proofs.Ytbmfjchpfhealaa
open Go.RowKit
set_option linter.unusedVariables false
set_option linter.unusedSimpArgs false

/-- the bytes of a table, and what is amiss with it -/
def entF (bs : List Nat) (ps : List PT) (addr bytes width : Nat) : List Nat × Nat :=
  if ¬ bytes % width = 0 then ([], 3) else if 16384 < bytes / width then ([], 2) else if bytes = 0 then ([], 0) else sliceF bs ps addr bytes

theorem sliceF_err (bs : List Nat) (ps : List PT) (addr size : Nat) : (sliceF bs ps addr size).2 = 0 ∨ sliceF bs ps addr size = ([], 4) := by
  unfold sliceF
  split
  · left; rfl
  · right; rfl
theorem entF_err (bs : List Nat) (ps : List PT) (addr bytes width : Nat) : (entF bs ps addr bytes width).2 = 0 ∨ ((entF bs ps addr bytes width).1 = [] ∧ ((entF bs ps addr bytes width).2 = 2 ∨ (entF bs ps addr bytes width).2 = 3 ∨ (entF bs ps addr bytes width).2 = 4)) := by
  unfold entF
  split
  · right; simp
  · split
    · right; simp
    · split
      · left; rfl
      · rcases sliceF_err bs ps addr bytes with h | h
        · left; exact h
        · right; rw [h]; simp

set_option maxRecDepth 100000 in
set_option maxHeartbeats 4000000 in
theorem entries_any (a : Option Addr) (cap : Nat) (bs : List Nat) (ty en : Int) (p : Option Addr) (pc : Nat) (ps : List PT) (addr bytes width : Nat) (w : World) (hb : BRow w a bs) (hbl : bs.length ≤ 140737488351232) (hbc : bs.length ≤ cap) (hbn : a = none → bs.length = 0 ∧ cap = 0)
    (h : PRow w p ps) (hl : ps.length ≤ 140737488351232) (ha : addr < 18446744073709551616) (hs : bytes < 18446744073709551616) (hw0 : 0 < width) (hw : width < 18446744073709551616) :
    Calls Try.prog 28 #[.slice a bs.length cap, headV ty en p ps.length pc, .int .u64 addr, .int .u64 bytes, .int .u64 width] w fun e w' => ∃ ad c, e = .returned (.tuple #[.slice ad (entF bs ps addr bytes width).1.length c, errV ((entF bs ps addr bytes width).2 : Int)]) ∧
      OwnI w' w.heap.size 5 .u8 (.slice ad (entF bs ps addr bytes width).1.length c) (toI (entF bs ps addr bytes width).1) ∧ Below w.heap.size w w' := by
  have HSL := Lib.hid (fun (w1 : World) (hb1 : Below w.heap.size w w1) => slice_any a cap bs ty en p pc ps addr bytes w1 (hb.below hb1) hbl hbc hbn (h.below hb1) hl ha hs)
  clear h hb hbn
  have B1 : Hid (Below w.heap.size w (w.alloc (.cells #[.int .i64 ty, .int .u64 en, .slice p ps.length pc] 26))) := Lib.hid ((Below.refl _ _).alloc (Nat.le_refl _) _)
  have hm : ((bytes : Int).tmod (width : Int)) = ((bytes % width : Nat) : Int) := by rw [Int.tmod_eq_emod_of_nonneg (by omega)]; exact (Int.natCast_emod _ _).symm
  have hq : ((bytes : Int).tdiv (width : Int)) = ((bytes / width : Nat) : Int) := by rw [Int.tdiv_eq_ediv_of_nonneg (by omega)]; exact (Int.natCast_ediv _ _).symm
  have hwne : ¬ (width : Int) = 0 := by omega
  have hqb := Nat.div_le_self bytes width
  by_cases h1 : bytes % width = 0
  · by_cases h2 : 16384 < bytes / width
    · have hF : entF bs ps addr bytes width = ([], 2) := by rw [entF, if_neg (by simp [h1]), if_pos h2]
      rw [hF]
      clear hF
      generalize bytes / width = q at *
      rw [h1] at hm
      unfold headV
      go_enter Try.func28, Try.ntmps28
      go_wp2
      go_ret2
      exact ⟨none, 0, rfl, OwnI.nil _ _ _ _, B1.out⟩
    · by_cases h3 : bytes = 0
      · have hF : entF bs ps addr bytes width = ([], 0) := by rw [entF, if_neg (by simp [h1]), if_neg h2, if_pos h3]
        rw [hF]
        clear hF
        generalize bytes / width = q at *
        rw [h1] at hm
        unfold headV
        go_enter Try.func28, Try.ntmps28
        go_wp2
        go_ret2
        exact ⟨none, 0, rfl, OwnI.nil _ _ _ _, B1.out⟩
      · have hF : entF bs ps addr bytes width = sliceF bs ps addr bytes := by rw [entF, if_neg (by simp [h1]), if_neg h2, if_neg h3]
        rw [hF]
        clear hF
        generalize bytes / width = q at *
        rw [h1] at hm
        unfold headV
        go_enter Try.func28, Try.ntmps28
        go_wp2_with fail
        refine (HSL.out _ B1.out).mono ?_
        rintro e w2 ⟨ad, c, rfl, ho, hb2⟩
        have HO := Lib.hid (ho.mono B1.out.size); have HB := Lib.hid (bstep B1.out hb2)
        clear ho hb2 HSL B1
        obtain ⟨ev, hev⟩ : ∃ ev, errV ((sliceF bs ps addr bytes).2 : Int) = ev := ⟨_, rfl⟩
        rw [hev]
        have HEV := Lib.hid hev
        clear hev
        go_wp2
        go_ret2
        exact ⟨ad, c, by rw [HEV.out]; rfl, HO.out, HB.out⟩
  · have hF : entF bs ps addr bytes width = ([], 3) := by rw [entF, if_pos h1]
    rw [hF]
    have hm0 : ¬ ((bytes : Int).tmod (width : Int)) = 0 := by rw [hm]; omega
    clear hm
    unfold headV
    go_enter Try.func28, Try.ntmps28
    go_wp2
    go_ret2
    exact ⟨none, 0, rfl, OwnI.nil _ _ _ _, B1.out⟩
theorem sliceF_mem (bs : List Nat) (ps : List PT) (addr size : Nat) : ∀ b ∈ (sliceF bs ps addr size).1, b ∈ bs := by
  unfold sliceF
  split
  · intro b hb
    exact List.mem_of_mem_drop (List.mem_of_mem_take hb)
  · intro b hb
    cases hb
theorem entF_mem (bs : List Nat) (ps : List PT) (addr bytes width : Nat) : ∀ b ∈ (entF bs ps addr bytes width).1, b ∈ bs := by
  unfold entF
  split
  · intro b hb; cases hb
  · split
    · intro b hb; cases hb
    · split
      · intro b hb; cases hb
      · exact sliceF_mem bs ps addr bytes
theorem sliceF_len {bs : List Nat} {ps : List PT} {addr size : Nat} (h : (sliceF bs ps addr size).2 = 0) : (sliceF bs ps addr size).1.length = size := by
  unfold sliceF at h ⊢
  split
  · rename_i h1
    obtain ⟨-, h2, h3⟩ := h1
    simp
    omega
  · rename_i h1
    rw [if_neg h1] at h
    simp at h
/-- a table that isn't amiss holds whole entries, not too many -/
theorem entF_len (bs : List Nat) (ps : List PT) (addr bytes width : Nat) (hw : 0 < width) : ∃ K, (entF bs ps addr bytes width).1.length = width * K ∧ K ≤ 16384 := by
  unfold entF
  by_cases h1 : bytes % width = 0
  · rw [if_neg (by simp [h1])]
    split
    · exact ⟨0, by simp, by omega⟩
    · rename_i h2
      split
      · exact ⟨0, by simp, by omega⟩
      · rcases sliceF_err bs ps addr bytes with h | h
        · refine ⟨bytes / width, ?_, by omega⟩
          rw [sliceF_len h, Nat.mul_comm, Nat.div_mul_cancel (Nat.dvd_of_mod_eq_zero h1)]
        · rw [h]
          exact ⟨0, by simp, by omega⟩
  · rw [if_pos h1]
    exact ⟨0, by simp, by omega⟩

def relAt (t : List Nat) (k : Nat) : RT := relOf ((t.drop (24 * k)).take 24)
def okAt (n : Int) (t : List Nat) (k : Nat) : Prop := (relAt t k).sym = 0 ∨ (relAt t k).sym < n
def relsTo (t : List Nat) (k : Nat) : List (List Value) := (List.range k).map fun j => (relAt t j).cells
theorem relsTo_succ (t : List Nat) (k : Nat) : relsTo t (k + 1) = relsTo t k ++ [(relAt t k).cells] := by simp [relsTo, List.range_succ]
theorem relsTo_length (t : List Nat) (k : Nat) : (relsTo t k).length = k := by simp [relsTo]

theorem relSlice : RowSlice Try.prog 47 49 (.agg #[.int .u64 0, .int .i64 0, .int .i64 0, .int .i64 0]) 4 32 := ⟨Try.underlying47, by kernel_rfl, rfl, by omega⟩

open Classical in
/-- the relocations of a table -/
noncomputable def listF (n : Int) (t : List Nat) : List (List Value) × Nat := if ∀ k, k < t.length / 24 → okAt n t k then (relsTo t (t.length / 24), 0) else ([], 4)
theorem listF_yes {n : Int} {t : List Nat} {K : Nat} (hK : t.length = 24 * K) (h : ∀ k, k < K → okAt n t k) : listF n t = (relsTo t K, 0) := by
  have : t.length / 24 = K := by omega
  rw [listF, this, if_pos h]
theorem listF_no {n : Int} {t : List Nat} {K : Nat} (hK : t.length = 24 * K) {k : Nat} (hk : k < K) (h : ¬ okAt n t k) : listF n t = ([], 4) := by
  have : t.length / 24 = K := by omega
  rw [listF, this, if_neg (fun hh => h (hh k hk))]

set_option maxRecDepth 100000 in
set_option maxHeartbeats 8000000 in
theorem list_ok (a : Option Addr) (cap : Nat) (bs : List Nat) (ty en : Int) (p : Option Addr) (pc : Nat) (ps : List PT) (addr bytes : Nat) (n : Int) (w : World) (hb : BRow w a bs) (hbl : bs.length ≤ 140737488351232) (hbc : bs.length ≤ cap) (hbn : a = none → bs.length = 0 ∧ cap = 0)
    (h : PRow w p ps) (hl : ps.length ≤ 140737488351232) (ha : addr < 18446744073709551616) (hs : bytes < 18446744073709551616) (t : List Nat) (hE : entF bs ps addr bytes 24 = (t, 0)) :
    Calls Try.prog 27 #[.slice a bs.length cap, headV ty en p ps.length pc, .int .u64 addr, .int .u64 bytes, .int .i64 n] w fun e w' => ∃ ad c, e = .returned (.tuple #[.slice ad (listF n t).1.length c, errV ((listF n t).2 : Int)]) ∧
      OwnS w' w.heap.size 49 4 (.slice ad (listF n t).1.length c) (listF n t).1 ∧ Below w.heap.size w w' := by
  have hent := fun (w1 : World) (hb1 : Below w.heap.size w w1) => entries_any a cap bs ty en p pc ps addr bytes 24 w1 (hb.below hb1) hbl hbc hbn (h.below hb1) hl ha hs (by omega) (by omega)
  rw [hE] at hent
  have HEN := Lib.hid hent
  have hT : ∀ b ∈ t, b < 256 := fun b hm => hb.2 b (by have := entF_mem bs ps addr bytes 24 b; rw [hE] at this; exact this hm)
  have HT := Lib.hid hT
  obtain ⟨K, hK, hK2⟩ := entF_len bs ps addr bytes 24 (by omega)
  rw [hE] at hK
  simp only at hK
  clear hent h hb hbn hT hE
  obtain ⟨rr, hrr⟩ : ∃ rr, listF n t = rr := ⟨_, rfl⟩
  rw [hrr]
  have HRR := Lib.hid hrr
  clear hrr
  have B1 : Hid (Below w.heap.size w (w.alloc (.cells #[.int .i64 ty, .int .u64 en, .slice p ps.length pc] 26))) := Lib.hid ((Below.refl _ _).alloc (Nat.le_refl _) _)
  have HKK := Lib.hid hK
  unfold headV
  go_enter Try.func27, Try.ntmps27
  go_wp2_with fail
  refine (HEN.out _ B1.out).mono ?_
  rintro e w2 ⟨ad, c, rfl, ho, hb2⟩
  simp only [errV]
  have HO := Lib.hid ho; have B2 := Lib.hid (bstep B1.out hb2)
  clear ho hb2 HEN B1
  have hfit := HO.out.fit.1
  try simp only at hfit
  rw [hK] at hfit
  rw [hK]
  go_wp2
  go_loopg [14, 15] K (fun g u i wr => ∃ (k : Nat) (ad1 : Option Addr) (c1 : Nat), k + g = K ∧ i = .int .i64 (24 * k : Nat) ∧ u = .slice ad1 k c1 ∧ OwnS wr w2.heap.size 49 4 (.slice ad1 k c1) (relsTo t k) ∧ Below w2.heap.size w2 wr ∧ Hid (∀ j, j < k → okAt n t j))
  case atStart => exact ⟨0, none, 0, by omega, rfl, rfl, OwnS.nil _ _ _ _, Below.refl _ _, Lib.hid (fun j hj => by omega)⟩
  case round =>
    obtain ⟨k, ad1, c1, hk, rfl, rfl, hown, hbe, hok⟩ := hrel
    have hsz := hbe.size
    cases gk with
    | zero =>
      obtain rfl : k = K := by omega
      go_wp2
      go_ret2
      rw [← HRR.out, listF_yes HKK.out hok.out]
      simp only [relsTo_length]
      exact ⟨ad1, c1, rfl, hown.mono B2.out.size, B2.out.trans (hbe.mono B2.out.size)⟩
    | succ g =>
      have hlt : k < K := by omega
      have hne : ¬ c = 24 * k := by omega
      obtain ⟨b, o, hab, -⟩ := HO.out.at.2.1 0 (by rw [toI_length, HKK.out]; omega)
      subst hab
      have hcut : BRow wr (some ⟨b, o + 24 * k, none⟩) ((t.drop (24 * k)).take 24) := by
        have := (BRow.below (⟨HO.out.at.2.1, HT.out⟩ : BRow w2 (some ⟨b, o, none⟩) t) hbe).cut (24 * k) 24
        simpa [WideShapes.add_plain] using this
      have hrel' := rel_any b (o + 24 * k) (c - 24 * k) ((t.drop (24 * k)).take 24) wr hcut (by simp; have := HKK.out; omega) (by omega)
      have HRA := Lib.hid (show relOf ((t.drop (24 * k)).take 24) = relAt t k from rfl)
      rw [HRA.out] at hrel'
      have HS := Lib.hid (relsTo_succ t k)
      have HOK : Hid (okAt n t k ↔ ((relAt t k).sym = 0 ∨ (relAt t k).sym < n)) := Lib.hid Iff.rfl
      have HRL := Lib.hid hrel'
      clear hrel' hcut
      generalize relAt t k = r at *
      go_wp2_with fail
      refine HRL.out.mono ?_
      rintro e w4 ⟨rfl, hb4⟩
      have B4 := Lib.hid (hbe.trans (hb4.mono hsz))
      have HOW := Lib.hid (hown.below hb4)
      have hs4 := hb4.size
      have HB4 := Lib.hid hb4
      clear hbe hown hb4 HRL
      have hcells : r.cells.toArray = #[.int .u64 r.off, .int .i64 r.ty, .int .i64 r.sym, .int .i64 r.add] := rfl
      rw [hcells]
      by_cases hok2 : r.sym = 0 ∨ r.sym < n
      · have HP := Lib.hid (HOK.out.2 hok2)
        by_cases g0 : r.sym = 0
        · have hc0 : r.cells = [.int .u64 r.off, .int .i64 r.ty, .int .i64 0, .int .i64 r.add] := by simp [RT.cells, g0]
          rw [hc0] at HS
          rw [g0]
          clear hok2 hc0 hcells
          go_wp2_with (at_builtin; (refine wpList_push_row rfl (.tmp 49) (.tmp 51) relSlice rfl w2.heap.size w2 (.slice ad1 k c1) (relsTo t k) k [.int .u64 r.off, .int .i64 r.ty, .int .i64 0, .int .i64 r.add] rfl (by change Value.slice (some ⟨w4.heap.size + 1, 0, none⟩) 1 1 = _; simp) (relsTo_length t k) rfl (by intro u hu; simp only [List.mem_cons, List.not_mem_nil, or_false] at hu; rcases hu with rfl | rfl | rfl | rfl <;> rfl) (HOW.out.below ((Below.refl _ _).alloc (Nat.le_refl _) _)) (by unfold maxLen; omega) (by omega) (B4.out.alloc (by omega) _) (by simp; omega) ?_); intro ad5 c5 w5 hown5 hbe5 hkp5; have O5 := Lib.hid hown5; have HB5 := Lib.hid hbe5; clear hown5 hkp5)
          go_roundg g
          case measure => omega
          case rel =>
            refine ⟨k + 1, ad5, c5, by omega, by go_num, rfl, ?_, HB5.out, Lib.hid ?_⟩
            · rw [HS.out]; exact O5.out
            · intro j hj
              by_cases hjk : j = k
              · rw [hjk]; exact HP.out
              · exact hok.out j (by omega)
        · have hlt2 : r.sym < n := by omega
          have hge : ¬ n ≤ r.sym := by omega
          clear hok2
          go_wp2_with (at_builtin; (refine wpList_push_row rfl (.tmp 49) (.tmp 51) relSlice rfl w2.heap.size w2 (.slice ad1 k c1) (relsTo t k) k [.int .u64 r.off, .int .i64 r.ty, .int .i64 r.sym, .int .i64 r.add] rfl (by change Value.slice (some ⟨w4.heap.size + 1, 0, none⟩) 1 1 = _; simp) (relsTo_length t k) rfl (by intro u hu; simp only [List.mem_cons, List.not_mem_nil, or_false] at hu; rcases hu with rfl | rfl | rfl | rfl <;> rfl) (HOW.out.below ((Below.refl _ _).alloc (Nat.le_refl _) _)) (by unfold maxLen; omega) (by omega) (B4.out.alloc (by omega) _) (by simp; omega) ?_); intro ad5 c5 w5 hown5 hbe5 hkp5; have O5 := Lib.hid hown5; have HB5 := Lib.hid hbe5; clear hown5 hkp5)
          go_roundg g
          case measure => omega
          case rel =>
            refine ⟨k + 1, ad5, c5, by omega, by go_num, rfl, ?_, HB5.out, Lib.hid ?_⟩
            · rw [HS.out]; exact O5.out
            · intro j hj
              by_cases hjk : j = k
              · rw [hjk]; exact HP.out
              · exact hok.out j (by omega)
      · have g0 : ¬ r.sym = 0 := fun h => hok2 (.inl h)
        have hge : n ≤ r.sym := by omega
        have HP := Lib.hid (fun h => hok2 (HOK.out.1 h))
        clear hok2
        go_wp2
        go_ret2
        rw [← HRR.out, listF_no HKK.out hlt HP.out]
        exact ⟨none, 0, rfl, OwnS.nil _ _ _ _, B2.out.trans (Below.mono ((B4.out.alloc (by omega) _)) B2.out.size)⟩
end Go.Proofs.Ytbmfjchpfhealaa
