/- Layer 9: the relocations of a file, in bytes: the program's answer. -/
import Derived.Test.YtnaejlfjlennhaaGreatDoorHeadByR
namespace Go.Proofs.YtnaejlfjlennhaaGreatDoor
open Go.RowKit
set_option linter.unusedVariables false
set_option linter.unusedSimpArgs false

/-- the bytes of a table, and what is amiss with it -/
def entRF (bs : List Nat) (ps : List PT) (addr bytes width : Nat) : List Nat × Nat :=
  if ¬ bytes % width = 0 then ([], 3) else if 16384 < bytes / width then ([], 2) else if bytes = 0 then ([], 0) else sliceF bs ps addr bytes

theorem sliceF_err (bs : List Nat) (ps : List PT) (addr size : Nat) : (sliceF bs ps addr size).2 = 0 ∨ sliceF bs ps addr size = ([], 4) := by
  unfold sliceF
  split
  · left; rfl
  · right; rfl
theorem entF_err (bs : List Nat) (ps : List PT) (addr bytes width : Nat) : (entRF bs ps addr bytes width).2 = 0 ∨ ((entRF bs ps addr bytes width).1 = [] ∧ ((entRF bs ps addr bytes width).2 = 2 ∨ (entRF bs ps addr bytes width).2 = 3 ∨ (entRF bs ps addr bytes width).2 = 4)) := by
  unfold entRF
  split
  · right; simp
  · split
    · right; simp
    · split
      · left; rfl
      · rcases sliceF_err bs ps addr bytes with h | h
        · left; exact h
        · right; rw [h]; simp

set_option maxRecDepth 100000 in
set_option maxHeartbeats 4000000 in
theorem entriesR_any (a : Option Addr) (cap : Nat) (bs : List Nat) (ty en : Int) (p : Option Addr) (pc : Nat) (ps : List PT) (addr bytes width : Nat) (w : World) (hb : BRow w a bs) (hbl : bs.length ≤ 140737488351232) (hbc : bs.length ≤ cap) (hbn : a = none → bs.length = 0 ∧ cap = 0)
    (h : PRow w p ps) (hl : ps.length ≤ 140737488351232) (ha : addr < 18446744073709551616) (hs : bytes < 18446744073709551616) (hw0 : 0 < width) (hw : width < 18446744073709551616) :
    Calls Tryz.prog 63 #[.slice a bs.length cap, headV ty en p ps.length pc, .int .u64 addr, .int .u64 bytes, .int .u64 width] w fun e w' => ∃ ad c, e = .returned (.tuple #[.slice ad (entRF bs ps addr bytes width).1.length c, errV ((entRF bs ps addr bytes width).2 : Int)]) ∧
      OwnI w' w.heap.size 5 .u8 (.slice ad (entRF bs ps addr bytes width).1.length c) (toI (entRF bs ps addr bytes width).1) ∧ Below w.heap.size w w' := by
  have HSL := Lib.hid (fun (w1 : World) (hb1 : Below w.heap.size w w1) => slice_any a cap bs ty en p pc ps addr bytes w1 (hb.below hb1) hbl hbc hbn (h.below hb1) hl ha hs)
  clear h hb hbn
  have B1 : Hid (Below w.heap.size w (w.alloc (.cells #[.int .i64 ty, .int .u64 en, .slice p ps.length pc] 27))) := Lib.hid ((Below.refl _ _).alloc (Nat.le_refl _) _)
  have hm : ((bytes : Int).tmod (width : Int)) = ((bytes % width : Nat) : Int) := by rw [Int.tmod_eq_emod_of_nonneg (by omega)]; exact (Int.natCast_emod _ _).symm
  have hq : ((bytes : Int).tdiv (width : Int)) = ((bytes / width : Nat) : Int) := by rw [Int.tdiv_eq_ediv_of_nonneg (by omega)]; exact (Int.natCast_ediv _ _).symm
  have hwne : ¬ (width : Int) = 0 := by omega
  have hqb := Nat.div_le_self bytes width
  by_cases h1 : bytes % width = 0
  · by_cases h2 : 16384 < bytes / width
    · have hF : entRF bs ps addr bytes width = ([], 2) := by rw [entRF, if_neg (by simp [h1]), if_pos h2]
      rw [hF]
      clear hF
      generalize bytes / width = q at *
      rw [h1] at hm
      unfold headV
      go_enter Tryz.func63, Tryz.ntmps63
      go_wp2
      go_ret2
      exact ⟨none, 0, rfl, OwnI.nil _ _ _ _, B1.out⟩
    · by_cases h3 : bytes = 0
      · have hF : entRF bs ps addr bytes width = ([], 0) := by rw [entRF, if_neg (by simp [h1]), if_neg h2, if_pos h3]
        rw [hF]
        clear hF
        generalize bytes / width = q at *
        rw [h1] at hm
        unfold headV
        go_enter Tryz.func63, Tryz.ntmps63
        go_wp2
        go_ret2
        exact ⟨none, 0, rfl, OwnI.nil _ _ _ _, B1.out⟩
      · have hF : entRF bs ps addr bytes width = sliceF bs ps addr bytes := by rw [entRF, if_neg (by simp [h1]), if_neg h2, if_neg h3]
        rw [hF]
        clear hF
        generalize bytes / width = q at *
        rw [h1] at hm
        unfold headV
        go_enter Tryz.func63, Tryz.ntmps63
        go_wp2_with fail
        refine (HSL.out _ B1.out).mono ?_
        rintro e w2 ⟨ad, c, rfl, ho, hb2⟩
        have HO := Lib.hid (ho.mono B1.out.size); have HB := Lib.hid (bstep B1.out hb2)
        clear ho hb2 HSL B1
        obtain ⟨ev, hev⟩ : ∃ ev, errV ((sliceF bs ps addr bytes).2 : Int) = ev := ⟨_, rfl⟩
        rw [hev]
        have HEV := Lib.hid hev
        clear hev
        go_wp2
        go_ret2
        exact ⟨ad, c, by rw [HEV.out]; rfl, HO.out, HB.out⟩
  · have hF : entRF bs ps addr bytes width = ([], 3) := by rw [entRF, if_pos h1]
    rw [hF]
    have hm0 : ¬ ((bytes : Int).tmod (width : Int)) = 0 := by rw [hm]; omega
    clear hm
    unfold headV
    go_enter Tryz.func63, Tryz.ntmps63
    go_wp2
    go_ret2
    exact ⟨none, 0, rfl, OwnI.nil _ _ _ _, B1.out⟩
theorem sliceRF_mem (bs : List Nat) (ps : List PT) (addr size : Nat) : ∀ b ∈ (sliceF bs ps addr size).1, b ∈ bs := by
  unfold sliceF
  split
  · intro b hb
    exact List.mem_of_mem_drop (List.mem_of_mem_take hb)
  · intro b hb
    cases hb
theorem entF_mem (bs : List Nat) (ps : List PT) (addr bytes width : Nat) : ∀ b ∈ (entRF bs ps addr bytes width).1, b ∈ bs := by
  unfold entRF
  split
  · intro b hb; cases hb
  · split
    · intro b hb; cases hb
    · split
      · intro b hb; cases hb
      · exact sliceRF_mem bs ps addr bytes
theorem sliceRF_len {bs : List Nat} {ps : List PT} {addr size : Nat} (h : (sliceF bs ps addr size).2 = 0) : (sliceF bs ps addr size).1.length = size := by
  unfold sliceF at h ⊢
  split
  · rename_i h1
    obtain ⟨-, h2, h3⟩ := h1
    simp
    omega
  · rename_i h1
    rw [if_neg h1] at h
    simp at h
/-- a table that isn't amiss holds whole entries, not too many -/
theorem entF_len (bs : List Nat) (ps : List PT) (addr bytes width : Nat) (hw : 0 < width) : ∃ K, (entRF bs ps addr bytes width).1.length = width * K ∧ K ≤ 16384 := by
  unfold entRF
  by_cases h1 : bytes % width = 0
  · rw [if_neg (by simp [h1])]
    split
    · exact ⟨0, by simp, by omega⟩
    · rename_i h2
      split
      · exact ⟨0, by simp, by omega⟩
      · rcases sliceF_err bs ps addr bytes with h | h
        · refine ⟨bytes / width, ?_, by omega⟩
          rw [sliceRF_len h, Nat.mul_comm, Nat.div_mul_cancel (Nat.dvd_of_mod_eq_zero h1)]
        · rw [h]
          exact ⟨0, by simp, by omega⟩
  · rw [if_pos h1]
    exact ⟨0, by simp, by omega⟩

def relAt (t : List Nat) (k : Nat) : RT := relOf ((t.drop (24 * k)).take 24)
def okAt (n : Int) (t : List Nat) (k : Nat) : Prop := (relAt t k).sym = 0 ∨ (relAt t k).sym < n
def relsTo (t : List Nat) (k : Nat) : List (List Value) := (List.range k).map fun j => (relAt t j).cells
theorem relsTo_succ (t : List Nat) (k : Nat) : relsTo t (k + 1) = relsTo t k ++ [(relAt t k).cells] := by simp [relsTo, List.range_succ]
theorem relsTo_length (t : List Nat) (k : Nat) : (relsTo t k).length = k := by simp [relsTo]

theorem relSlice : RowSlice Tryz.prog 38 46 (.agg #[.int .u64 0, .int .i64 0, .int .i64 0, .int .i64 0]) 4 32 := ⟨Tryz.underlying38, by kernel_rfl, rfl, by omega⟩

open Classical in
/-- the relocations of a table -/
noncomputable def listF (n : Int) (t : List Nat) : List (List Value) × Nat := if ∀ k, k < t.length / 24 → okAt n t k then (relsTo t (t.length / 24), 0) else ([], 4)
theorem listF_yes {n : Int} {t : List Nat} {K : Nat} (hK : t.length = 24 * K) (h : ∀ k, k < K → okAt n t k) : listF n t = (relsTo t K, 0) := by
  have : t.length / 24 = K := by omega
  rw [listF, this, if_pos h]
theorem listF_no {n : Int} {t : List Nat} {K : Nat} (hK : t.length = 24 * K) {k : Nat} (hk : k < K) (h : ¬ okAt n t k) : listF n t = ([], 4) := by
  have : t.length / 24 = K := by omega
  rw [listF, this, if_neg (fun hh => h (hh k hk))]

set_option maxRecDepth 100000 in
set_option maxHeartbeats 8000000 in
theorem list_ok (a : Option Addr) (cap : Nat) (bs : List Nat) (ty en : Int) (p : Option Addr) (pc : Nat) (ps : List PT) (addr bytes : Nat) (n : Int) (w : World) (hb : BRow w a bs) (hbl : bs.length ≤ 140737488351232) (hbc : bs.length ≤ cap) (hbn : a = none → bs.length = 0 ∧ cap = 0)
    (h : PRow w p ps) (hl : ps.length ≤ 140737488351232) (ha : addr < 18446744073709551616) (hs : bytes < 18446744073709551616) (t : List Nat) (hE : entRF bs ps addr bytes 24 = (t, 0)) :
    Calls Tryz.prog 62 #[.slice a bs.length cap, headV ty en p ps.length pc, .int .u64 addr, .int .u64 bytes, .int .i64 n] w fun e w' => ∃ ad c, e = .returned (.tuple #[.slice ad (listF n t).1.length c, errV ((listF n t).2 : Int)]) ∧
      OwnS w' w.heap.size 46 4 (.slice ad (listF n t).1.length c) (listF n t).1 ∧ Below w.heap.size w w' := by
  have hent := fun (w1 : World) (hb1 : Below w.heap.size w w1) => entriesR_any a cap bs ty en p pc ps addr bytes 24 w1 (hb.below hb1) hbl hbc hbn (h.below hb1) hl ha hs (by omega) (by omega)
  rw [hE] at hent
  have HEN := Lib.hid hent
  have hT : ∀ b ∈ t, b < 256 := fun b hm => hb.2 b (by have := entF_mem bs ps addr bytes 24 b; rw [hE] at this; exact this hm)
  have HT := Lib.hid hT
  obtain ⟨K, hK, hK2⟩ := entF_len bs ps addr bytes 24 (by omega)
  rw [hE] at hK
  simp only at hK
  clear hent h hb hbn hT hE
  obtain ⟨rr, hrr⟩ : ∃ rr, listF n t = rr := ⟨_, rfl⟩
  rw [hrr]
  have HRR := Lib.hid hrr
  clear hrr
  have B1 : Hid (Below w.heap.size w (w.alloc (.cells #[.int .i64 ty, .int .u64 en, .slice p ps.length pc] 27))) := Lib.hid ((Below.refl _ _).alloc (Nat.le_refl _) _)
  have HKK := Lib.hid hK
  unfold headV
  go_enter Tryz.func62, Tryz.ntmps62
  go_wp2_with fail
  refine (HEN.out _ B1.out).mono ?_
  rintro e w2 ⟨ad, c, rfl, ho, hb2⟩
  simp only [errV]
  have HO := Lib.hid ho; have B2 := Lib.hid (bstep B1.out hb2)
  clear ho hb2 HEN B1
  have hfit := HO.out.fit.1
  try simp only at hfit
  rw [hK] at hfit
  rw [hK]
  go_wp2
  go_loopg [14, 15] K (fun g u i wr => ∃ (k : Nat) (ad1 : Option Addr) (c1 : Nat), k + g = K ∧ i = .int .i64 (24 * k : Nat) ∧ u = .slice ad1 k c1 ∧ OwnS wr w2.heap.size 46 4 (.slice ad1 k c1) (relsTo t k) ∧ Below w2.heap.size w2 wr ∧ Hid (∀ j, j < k → okAt n t j))
  case atStart => exact ⟨0, none, 0, by omega, rfl, rfl, OwnS.nil _ _ _ _, Below.refl _ _, Lib.hid (fun j hj => by omega)⟩
  case round =>
    obtain ⟨k, ad1, c1, hk, rfl, rfl, hown, hbe, hok⟩ := hrel
    have hsz := hbe.size
    cases gk with
    | zero =>
      obtain rfl : k = K := by omega
      go_wp2
      go_ret2
      rw [← HRR.out, listF_yes HKK.out hok.out]
      simp only [relsTo_length]
      exact ⟨ad1, c1, rfl, hown.mono B2.out.size, B2.out.trans (hbe.mono B2.out.size)⟩
    | succ g =>
      have hlt : k < K := by omega
      have hne : ¬ c = 24 * k := by omega
      obtain ⟨b, o, hab, -⟩ := HO.out.at.2.1 0 (by rw [toI_length, HKK.out]; omega)
      subst hab
      have hcut : BRow wr (some ⟨b, o + 24 * k, none⟩) ((t.drop (24 * k)).take 24) := by
        have := (BRow.below (⟨HO.out.at.2.1, HT.out⟩ : BRow w2 (some ⟨b, o, none⟩) t) hbe).cut (24 * k) 24
        simpa [WideShapes.add_plain] using this
      have hrel' := rel_any b (o + 24 * k) (c - 24 * k) ((t.drop (24 * k)).take 24) wr hcut (by simp; have := HKK.out; omega) (by omega)
      have HRA := Lib.hid (show relOf ((t.drop (24 * k)).take 24) = relAt t k from rfl)
      rw [HRA.out] at hrel'
      have HS := Lib.hid (relsTo_succ t k)
      have HOK : Hid (okAt n t k ↔ ((relAt t k).sym = 0 ∨ (relAt t k).sym < n)) := Lib.hid Iff.rfl
      have HRL := Lib.hid hrel'
      clear hrel' hcut
      generalize relAt t k = r at *
      go_wp2_with fail
      refine HRL.out.mono ?_
      rintro e w4 ⟨rfl, hb4⟩
      have B4 := Lib.hid (hbe.trans (hb4.mono hsz))
      have HOW := Lib.hid (hown.below hb4)
      have hs4 := hb4.size
      have HB4 := Lib.hid hb4
      clear hbe hown hb4 HRL
      have hcells : r.cells.toArray = #[.int .u64 r.off, .int .i64 r.ty, .int .i64 r.sym, .int .i64 r.add] := rfl
      rw [hcells]
      by_cases hok2 : r.sym = 0 ∨ r.sym < n
      · have HP := Lib.hid (HOK.out.2 hok2)
        by_cases g0 : r.sym = 0
        · have hc0 : r.cells = [.int .u64 r.off, .int .i64 r.ty, .int .i64 0, .int .i64 r.add] := by simp [RT.cells, g0]
          rw [hc0] at HS
          rw [g0]
          clear hok2 hc0 hcells
          go_wp2_with (at_builtin; (refine wpList_push_row rfl (.tmp 49) (.tmp 51) relSlice rfl w2.heap.size w2 (.slice ad1 k c1) (relsTo t k) k [.int .u64 r.off, .int .i64 r.ty, .int .i64 0, .int .i64 r.add] rfl (by change Value.slice (some ⟨w4.heap.size + 1, 0, none⟩) 1 1 = _; simp) (relsTo_length t k) rfl (by intro u hu; simp only [List.mem_cons, List.not_mem_nil, or_false] at hu; rcases hu with rfl | rfl | rfl | rfl <;> rfl) (HOW.out.below ((Below.refl _ _).alloc (Nat.le_refl _) _)) (by unfold maxLen; omega) (by omega) (B4.out.alloc (by omega) _) (by simp; omega) ?_); intro ad5 c5 w5 hown5 hbe5 hkp5; have O5 := Lib.hid hown5; have HB5 := Lib.hid hbe5; clear hown5 hkp5)
          go_roundg g
          case measure => omega
          case rel =>
            refine ⟨k + 1, ad5, c5, by omega, by go_num, rfl, ?_, HB5.out, Lib.hid ?_⟩
            · rw [HS.out]; exact O5.out
            · intro j hj
              by_cases hjk : j = k
              · rw [hjk]; exact HP.out
              · exact hok.out j (by omega)
        · have hlt2 : r.sym < n := by omega
          have hge : ¬ n ≤ r.sym := by omega
          clear hok2
          go_wp2_with (at_builtin; (refine wpList_push_row rfl (.tmp 49) (.tmp 51) relSlice rfl w2.heap.size w2 (.slice ad1 k c1) (relsTo t k) k [.int .u64 r.off, .int .i64 r.ty, .int .i64 r.sym, .int .i64 r.add] rfl (by change Value.slice (some ⟨w4.heap.size + 1, 0, none⟩) 1 1 = _; simp) (relsTo_length t k) rfl (by intro u hu; simp only [List.mem_cons, List.not_mem_nil, or_false] at hu; rcases hu with rfl | rfl | rfl | rfl <;> rfl) (HOW.out.below ((Below.refl _ _).alloc (Nat.le_refl _) _)) (by unfold maxLen; omega) (by omega) (B4.out.alloc (by omega) _) (by simp; omega) ?_); intro ad5 c5 w5 hown5 hbe5 hkp5; have O5 := Lib.hid hown5; have HB5 := Lib.hid hbe5; clear hown5 hkp5)
          go_roundg g
          case measure => omega
          case rel =>
            refine ⟨k + 1, ad5, c5, by omega, by go_num, rfl, ?_, HB5.out, Lib.hid ?_⟩
            · rw [HS.out]; exact O5.out
            · intro j hj
              by_cases hjk : j = k
              · rw [hjk]; exact HP.out
              · exact hok.out j (by omega)
      · have g0 : ¬ r.sym = 0 := fun h => hok2 (.inl h)
        have hge : n ≤ r.sym := by omega
        have HP := Lib.hid (fun h => hok2 (HOK.out.1 h))
        clear hok2
        go_wp2
        go_ret2
        rw [← HRR.out, listF_no HKK.out hlt HP.out]
        exact ⟨none, 0, rfl, OwnS.nil _ _ _ _, B2.out.trans (Below.mono ((B4.out.alloc (by omega) _)) B2.out.size)⟩
end Go.Proofs.YtnaejlfjlennhaaGreatDoor
/- Layer 9: Read, of whatever bytes. -/
namespace Go.Proofs.YtnaejlfjlennhaaGreatDoor
open Go.RowKit
set_option linter.unusedVariables false
set_option linter.unusedSimpArgs false
set_option maxRecDepth 100000

theorem errVd {c : Nat} (h : c = 2 ∨ c = 3 ∨ c = 4) : errV (c : Int) = .iface 56 (.int .i64 (c : Int)) := by
  rcases h with rfl | rfl | rfl <;> rfl
/-- the relocations of a list in a file -/
noncomputable def listAF (bs : List Nat) (ps : List PT) (addr bytes : Nat) (n : Int) : List (List Value) × Nat := if (entRF bs ps addr bytes 24).2 = 0 then listF n (entRF bs ps addr bytes 24).1 else ([], (entRF bs ps addr bytes 24).2)
theorem listF_code (n : Int) (t : List Nat) : (listF n t).2 = 0 ∨ listF n t = ([], 4) := by
  unfold listF
  split
  · exact .inl rfl
  · exact .inr rfl
theorem listAF_code (bs : List Nat) (ps : List PT) (addr bytes : Nat) (n : Int) : (listAF bs ps addr bytes n).2 = 0 ∨ ∃ c, (c = 2 ∨ c = 3 ∨ c = 4) ∧ listAF bs ps addr bytes n = ([], c) := by
  unfold listAF
  split
  · rcases listF_code n (entRF bs ps addr bytes 24).1 with h | h
    · exact .inl h
    · exact .inr ⟨4, by simp, h⟩
  · rename_i h
    rcases entF_err bs ps addr bytes 24 with h2 | ⟨-, h3⟩
    · exact absurd h2 h
    · exact .inr ⟨_, h3, rfl⟩
set_option maxHeartbeats 8000000 in
theorem list_err (a : Option Addr) (cap : Nat) (bs : List Nat) (ty en : Int) (p : Option Addr) (pc : Nat) (ps : List PT) (addr bytes : Nat) (n : Int) (w : World) (hb : BRow w a bs) (hbl : bs.length ≤ 140737488351232) (hbc : bs.length ≤ cap) (hbn : a = none → bs.length = 0 ∧ cap = 0)
    (h : PRow w p ps) (hl : ps.length ≤ 140737488351232) (ha : addr < 18446744073709551616) (hs : bytes < 18446744073709551616) (c : Nat) (hc : c = 2 ∨ c = 3 ∨ c = 4) (hE : entRF bs ps addr bytes 24 = ([], c)) :
    Calls Tryz.prog 62 #[.slice a bs.length cap, headV ty en p ps.length pc, .int .u64 addr, .int .u64 bytes, .int .i64 n] w fun e w' => e = .returned (.tuple #[.slice none 0 0, errV (c : Int)]) ∧ Below w.heap.size w w' := by
  have HEN := Lib.hid (fun (w1 : World) (hb1 : Below w.heap.size w w1) => entriesR_any a cap bs ty en p pc ps addr bytes 24 w1 (hb.below hb1) hbl hbc hbn (h.below hb1) hl ha hs (by omega) (by omega))
  rw [hE] at HEN
  have B1 : Hid (Below w.heap.size w (w.alloc (.cells #[.int .i64 ty, .int .u64 en, .slice p ps.length pc] 27))) := Lib.hid ((Below.refl _ _).alloc (Nat.le_refl _) _)
  have HC := Lib.hid hc
  unfold headV at *
  clear h hb hbn hE
  go_enter Tryz.func62, Tryz.ntmps62
  go_wp2_with fail
  refine (HEN.out _ B1.out).mono ?_
  rintro e w2 ⟨ad, cc, he, -, hb2⟩
  replace he : e = .returned (.tuple #[.slice ad 0 cc, errV (c : Int)]) := he
  rw [errVd hc] at he
  subst he
  have B2 := Lib.hid (bstep B1.out hb2)
  clear hb2 HEN
  go_wp2_with fail
  go_ret2
  rw [errVd hc]
  exact ⟨rfl, B2.out⟩
theorem list_any (a : Option Addr) (cap : Nat) (bs : List Nat) (ty en : Int) (p : Option Addr) (pc : Nat) (ps : List PT) (addr bytes : Nat) (n : Int) (w : World) (hb : BRow w a bs) (hbl : bs.length ≤ 140737488351232) (hbc : bs.length ≤ cap) (hbn : a = none → bs.length = 0 ∧ cap = 0)
    (h : PRow w p ps) (hl : ps.length ≤ 140737488351232) (ha : addr < 18446744073709551616) (hs : bytes < 18446744073709551616) :
    Calls Tryz.prog 62 #[.slice a bs.length cap, headV ty en p ps.length pc, .int .u64 addr, .int .u64 bytes, .int .i64 n] w fun e w' => ∃ ad c, e = .returned (.tuple #[.slice ad (listAF bs ps addr bytes n).1.length c, errV ((listAF bs ps addr bytes n).2 : Int)]) ∧
      OwnS w' w.heap.size 46 4 (.slice ad (listAF bs ps addr bytes n).1.length c) (listAF bs ps addr bytes n).1 ∧ Below w.heap.size w w' := by
  rcases entF_err bs ps addr bytes 24 with h2 | ⟨h1, h3⟩
  · rw [show listAF bs ps addr bytes n = listF n (entRF bs ps addr bytes 24).1 by unfold listAF; rw [if_pos h2]]
    exact list_ok a cap bs ty en p pc ps addr bytes n w hb hbl hbc hbn h hl ha hs _ (Prod.ext rfl h2)
  · rw [show listAF bs ps addr bytes n = ([], (entRF bs ps addr bytes 24).2) by unfold listAF; rw [if_neg (by omega)]]
    refine (list_err a cap bs ty en p pc ps addr bytes n w hb hbl hbc hbn h hl ha hs _ h3 (Prod.ext h1 rfl)).mono ?_
    rintro e w' ⟨rfl, hb'⟩
    exact ⟨none, 0, rfl, OwnS.nil _ _ _ _, hb'⟩
--READ
/-- the numbers of 8 bytes that stand one behind the other -/
def numsF (t : List Nat) : List Nat := (List.range (t.length / 8)).map fun j => numOf ((t.drop (8 * j)).take 8)
/-- so many of them -/
def numsTo (t : List Nat) (k : Nat) : List Nat := (List.range k).map fun j => numOf ((t.drop (8 * j)).take 8)
theorem numsTo_succ (t : List Nat) (k : Nat) : numsTo t (k + 1) = numsTo t k ++ [numOf ((t.drop (8 * k)).take 8)] := by simp [numsTo, List.range_succ]
theorem numsTo_lt {t : List Nat} (h : ∀ b ∈ t, b < 256) (k : Nat) : ∀ y ∈ numsTo t k, y < 18446744073709551616 := by
  intro y hy
  obtain ⟨j, -, rfl⟩ := List.mem_map.1 hy
  have h1 := numOf_lt ((t.drop (8 * j)).take 8) (fun b hb => h b (List.mem_of_mem_drop (List.mem_of_mem_take hb)))
  have h2 : ((t.drop (8 * j)).take 8).length ≤ 8 := by rw [List.length_take]; omega
  have h3 : (256 : Nat) ^ ((t.drop (8 * j)).take 8).length ≤ 256 ^ 8 := Nat.pow_le_pow_right (by omega) h2
  have h4 : (256 : Nat) ^ 8 = 18446744073709551616 := by decide
  omega
theorem numsTo_len (t : List Nat) (k : Nat) : (numsTo t k).length = k := by simp [numsTo]
/-- what Read answers: the relocations, those of the linkage table, the packed ones; the error's number -/
noncomputable def relsAF (bs : List Nat) (ps : List PT) (A S J T Q Z : Nat) (n : Int) : (List (List Value) × List (List Value) × List Nat) × Nat :=
  if (listAF bs ps A S n).2 ≠ 0 then (([], [], []), (listAF bs ps A S n).2)
  else if (listAF bs ps J T n).2 ≠ 0 then (([], [], []), (listAF bs ps J T n).2)
  else if (entRF bs ps Q Z 8).2 ≠ 0 then (([], [], []), (entRF bs ps Q Z 8).2)
  else if (unRF (numsF (entRF bs ps Q Z 8).1)).1 ≠ 0 then (([], [], []), (unRF (numsF (entRF bs ps Q Z 8).1)).1)
  else (((listAF bs ps A S n).1, (listAF bs ps J T n).1, (unRF (numsF (entRF bs ps Q Z 8).1)).2), 0)
theorem unRF_code (ys : List Nat) : (unRF ys).1 = 0 ∨ ∃ c, (c = 2 ∨ c = 3 ∨ c = 4) ∧ unRF ys = (c, []) := by
  unfold unRF
  split
  · exact .inr ⟨3, by simp, rfl⟩
  · split
    · exact .inr ⟨2, by simp, rfl⟩
    · exact .inl rfl
def RelsPost (R : (List (List Value) × List (List Value) × List Nat) × Nat) (w : World) (e : Ending) (w' : World) : Prop := ∃ a1 n1 c1 a2 n2 c2 a3 n3 c3, e = .returned (.tuple #[.slice a1 n1 c1, .slice a2 n2 c2, .slice a3 n3 c3, errV (R.2 : Int)]) ∧ OwnS w' w.heap.size 46 4 (.slice a1 n1 c1) R.1.1 ∧ OwnS w' w.heap.size 46 4 (.slice a2 n2 c2) R.1.2.1 ∧ OwnI w' w.heap.size 24 .u64 (.slice a3 n3 c3) (toI R.1.2.2) ∧ Below w.heap.size w w'
theorem RelsPost.err {R : (List (List Value) × List (List Value) × List Nat) × Nat} {w w' : World} {c : Nat} (h : R = (([], [], []), c)) (hb : Below w.heap.size w w') : RelsPost R w (.returned (.tuple #[.slice none 0 0, .slice none 0 0, .slice none 0 0, errV (c : Int)])) w' := by
  subst h
  exact ⟨none, 0, 0, none, 0, 0, none, 0, 0, rfl, OwnS.nil _ _ _ _, OwnS.nil _ _ _ _, OwnI.nil _ _ _ _, hb⟩
set_option maxHeartbeats 32000000 in
theorem rels_any (a : Option Addr) (cap : Nat) (bs : List Nat) (ty en : Int) (p : Option Addr) (pc : Nat) (ps : List PT) (D : Array Value) (A S J T Q Z : Nat) (n : Int) (w : World) (hb : BRow w a bs) (hbl : bs.length ≤ 140737488351232) (hbc : bs.length ≤ cap) (hbn : a = none → bs.length = 0 ∧ cap = 0)
    (h : PRow w p ps) (hl : ps.length ≤ 140737488351232) (hD : D.size = 37) (d6 : D[6]? = some (.int .u64 (A : Int))) (d7 : D[7]? = some (.int .u64 (S : Int))) (d17 : D[17]? = some (.int .u64 (J : Int))) (d1 : D[1]? = some (.int .u64 (T : Int))) (d23 : D[23]? = some (.int .u64 (Q : Int))) (d24 : D[24]? = some (.int .u64 (Z : Int)))
    (hA : A < 18446744073709551616) (hS : S < 18446744073709551616) (hJ : J < 18446744073709551616) (hT : T < 18446744073709551616) (hQ : Q < 18446744073709551616) (hZ : Z < 18446744073709551616) :
    Calls Tryz.prog 32 #[.slice a bs.length cap, headV ty en p ps.length pc, .agg D, .int .i64 n] w (RelsPost (relsAF bs ps A S J T Q Z n) w) := by
  have H1 := Lib.hid (fun (w1 : World) (hb1 : Below w.heap.size w w1) => list_any a cap bs ty en p pc ps A S n w1 (hb.below hb1) hbl hbc hbn (h.below hb1) hl hA hS)
  have H2 := Lib.hid (fun (w1 : World) (hb1 : Below w.heap.size w w1) => list_any a cap bs ty en p pc ps J T n w1 (hb.below hb1) hbl hbc hbn (h.below hb1) hl hJ hT)
  have H3 := Lib.hid (fun (w1 : World) (hb1 : Below w.heap.size w w1) => entriesR_any a cap bs ty en p pc ps Q Z 8 w1 (hb.below hb1) hbl hbc hbn (h.below hb1) hl hQ hZ (by omega) (by omega))
  have HC1 := Lib.hid (listAF_code bs ps A S n)
  have HC2 := Lib.hid (listAF_code bs ps J T n)
  have HC3 := Lib.hid (entF_err bs ps Q Z 8)
  have HM3 : Hid (∀ b ∈ (entRF bs ps Q Z 8).1, b < 256) := Lib.hid (fun b hm => hb.2 b (entF_mem bs ps Q Z 8 b hm))
  have HL3 := Lib.hid (entF_len bs ps Q Z 8 (by omega))
  have HRD : Hid (relsAF bs ps A S J T Q Z n = if (listAF bs ps A S n).2 ≠ 0 then (([], [], []), (listAF bs ps A S n).2) else if (listAF bs ps J T n).2 ≠ 0 then (([], [], []), (listAF bs ps J T n).2) else if (entRF bs ps Q Z 8).2 ≠ 0 then (([], [], []), (entRF bs ps Q Z 8).2) else if (unRF (numsF (entRF bs ps Q Z 8).1)).1 ≠ 0 then (([], [], []), (unRF (numsF (entRF bs ps Q Z 8).1)).1) else (((listAF bs ps A S n).1, (listAF bs ps J T n).1, (unRF (numsF (entRF bs ps Q Z 8).1)).2), 0)) := Lib.hid rfl
  generalize relsAF bs ps A S J T Q Z n = R at *
  generalize listAF bs ps A S n = L1 at *
  generalize listAF bs ps J T n = L2 at *
  generalize entRF bs ps Q Z 8 = E3 at *
  obtain ⟨l1, e1⟩ := L1
  obtain ⟨l2, e2⟩ := L2
  obtain ⟨t3, e3⟩ := E3
  simp only [] at H1 H2 H3 HC1 HC2 HC3 HM3 HL3 HRD
  have B1 : Hid (Below w.heap.size w ((w.alloc (.cells #[.int .i64 ty, .int .u64 en, .slice p ps.length pc] 27)).alloc (.cells D 30))) := Lib.hid (((Below.refl _ _).alloc (Nat.le_refl _) _).alloc (by simp) _)
  have FH : Hid (∀ w1, Below ((w.alloc (.cells #[.int .i64 ty, .int .u64 en, .slice p ps.length pc] 27)).alloc (.cells D 30)).heap.size ((w.alloc (.cells #[.int .i64 ty, .int .u64 en, .slice p ps.length pc] 27)).alloc (.cells D 30)) w1 →
      w1.cell? ⟨w.heap.size, 0, none⟩ = some (.int .i64 ty) ∧ w1.cell? ⟨w.heap.size, 1, none⟩ = some (.int .u64 en) ∧ w1.cell? ⟨w.heap.size, 2, none⟩ = some (.slice p ps.length pc) ∧
      w1.cell? ⟨w.heap.size + 1, 6, none⟩ = some (.int .u64 (A : Int)) ∧ w1.cell? ⟨w.heap.size + 1, 7, none⟩ = some (.int .u64 (S : Int)) ∧ w1.cell? ⟨w.heap.size + 1, 17, none⟩ = some (.int .u64 (J : Int)) ∧ w1.cell? ⟨w.heap.size + 1, 1, none⟩ = some (.int .u64 (T : Int)) ∧ w1.cell? ⟨w.heap.size + 1, 23, none⟩ = some (.int .u64 (Q : Int)) ∧ w1.cell? ⟨w.heap.size + 1, 24, none⟩ = some (.int .u64 (Z : Int))) := Lib.hid (by
    intro w1 hw1
    have h0 : ((w.alloc (.cells #[.int .i64 ty, .int .u64 en, .slice p ps.length pc] 27)).alloc (.cells D 30)).heap[w.heap.size]? = some (.cells #[.int .i64 ty, .int .u64 en, .slice p ps.length pc] 27) := by rw [heap_alloc_old _ _ (by simp)]; exact heap_alloc_new _ _
    have h1 : ((w.alloc (.cells #[.int .i64 ty, .int .u64 en, .slice p ps.length pc] 27)).alloc (.cells D 30)).heap[w.heap.size + 1]? = some (.cells D 30) := by have := heap_alloc_new (w.alloc (.cells #[.int .i64 ty, .int .u64 en, .slice p ps.length pc] 27)) (.cells D 30); rwa [World.size_alloc] at this
    have k0 := (hw1.block _ (lt_of_block h0)).trans h0
    have k1 := (hw1.block _ (lt_of_block h1)).trans h1
    refine ⟨?_, ?_, ?_, ?_, ?_, ?_, ?_, ?_, ?_⟩
    · rw [cell_of_row _ _ 0 _ _ _ k0]; rfl
    · rw [cell_of_row _ _ 1 _ _ _ k0]; rfl
    · rw [cell_of_row _ _ 2 _ _ _ k0]; rfl
    · rw [cell_of_row _ _ 6 _ _ _ k1]; exact d6
    · rw [cell_of_row _ _ 7 _ _ _ k1]; exact d7
    · rw [cell_of_row _ _ 17 _ _ _ k1]; exact d17
    · rw [cell_of_row _ _ 1 _ _ _ k1]; exact d1
    · rw [cell_of_row _ _ 23 _ _ _ k1]; exact d23
    · rw [cell_of_row _ _ 24 _ _ _ k1]; exact d24)
  clear h hb hbn hA hS hJ hT hQ hZ d6 d7 d17 d1 d23 d24
  unfold headV at *
  obtain ⟨f0, f1, f2, f3, f4, f5, f6, f7, f8⟩ := FH.out _ (Below.refl _ _)
  have HDS := Lib.hid hD
  clear hD
  go_enter Tryz.func32, Tryz.ntmps32
  go_wp2_with fail
  generalize ((w.alloc (.cells #[.int .i64 ty, .int .u64 en, .slice p ps.length pc] 27)).alloc (.cells D 30)) = w0 at *
  refine (H1.out _ B1.out).mono ?_
  rintro e w1 ⟨ad1, c1, he, ho1, hb1⟩
  have S1 := Lib.hid hb1
  have BB1 := Lib.hid (bstep B1.out hb1)
  have O1 := Lib.hid (ho1.mono B1.out.size)
  clear f0 f1 f2 f3 f4 f5 f6 f7 f8
  obtain ⟨f0, f1, f2, f3, f4, f5, f6, f7, f8⟩ := FH.out _ S1.out
  clear ho1 hb1 H1
  rcases HC1.out with h0 | ⟨c, hc, h0⟩
  case inr =>
    simp only [Prod.mk.injEq] at h0
    obtain ⟨rfl, rfl⟩ := h0
    have HR : Hid (R = (([], [], []), e1)) := Lib.hid (by rw [HRD.out, if_pos (by omega)])
    rw [errVd hc] at he
    subst he
    go_wp2_with fail
    go_returns
    rw [← errVd hc]
    exact RelsPost.err HR.out BB1.out
  obtain rfl : e1 = 0 := h0
  replace he : e = .returned (.tuple #[.slice ad1 l1.length c1, .nilIface]) := he
  subst he
  go_wp2_with fail
  refine (H2.out _ BB1.out).mono ?_
  rintro e w2 ⟨ad2, c2, he, ho2, hb2⟩
  have S2 := Lib.hid (bstep S1.out hb2)
  have BB2 := Lib.hid (bstep BB1.out hb2)
  have O1' := Lib.hid (O1.out.below hb2)
  have O2 := Lib.hid (ho2.mono BB1.out.size)
  clear f0 f1 f2 f3 f4 f5 f6 f7 f8
  obtain ⟨f0, f1, f2, f3, f4, f5, f6, f7, f8⟩ := FH.out _ S2.out
  clear ho2 hb2 H2
  rcases HC2.out with h0 | ⟨c, hc, h0⟩
  case inr =>
    simp only [Prod.mk.injEq] at h0
    obtain ⟨rfl, rfl⟩ := h0
    have HR : Hid (R = (([], [], []), e2)) := Lib.hid (by rw [HRD.out, if_neg (by simp), if_pos (by omega)])
    rw [errVd hc] at he
    subst he
    go_wp2_with fail
    go_returns
    rw [← errVd hc]
    exact RelsPost.err HR.out BB2.out
  obtain rfl : e2 = 0 := h0
  replace he : e = .returned (.tuple #[.slice ad2 l2.length c2, .nilIface]) := he
  subst he
  go_wp2_with fail
  refine (H3.out _ BB2.out).mono ?_
  rintro e w3 ⟨ad3, c3, he, ho3, hb3⟩
  have BB3 := Lib.hid (bstep BB2.out hb3)
  have O13 := Lib.hid (O1'.out.below hb3)
  have O23 := Lib.hid (O2.out.below hb3)
  have O3 := Lib.hid ho3
  clear f0 f1 f2 f3 f4 f5 f6 f7 f8
  clear ho3 hb3 H3 FH
  rcases HC3.out with h0 | ⟨ht3, hc⟩
  case inr =>
    subst ht3
    have HR : Hid (R = (([], [], []), e3)) := Lib.hid (by rw [HRD.out, if_neg (by simp), if_neg (by simp), if_pos (by omega)])
    rw [errVd hc] at he
    subst he
    go_wp2_with fail
    go_returns
    rw [← errVd hc]
    exact RelsPost.err HR.out BB3.out
  obtain rfl : e3 = 0 := h0
  replace he : e = .returned (.tuple #[.slice ad3 t3.length c3, .nilIface]) := he
  subst he
  obtain ⟨K, hK, hK2⟩ := HL3.out
  have HKK : Hid (t3.length = 8 * K ∧ K ≤ 16384) := Lib.hid ⟨hK, hK2⟩
  obtain ⟨M, hM⟩ : ∃ M, t3.length = M := ⟨_, rfl⟩
  have HM := Lib.hid hM
  rw [hM] at O3
  simp only [hM]
  have hMl : (M : Int) ≤ 131072 := by omega
  clear hK hK2 hM
  go_wp2_with fail
  go_loopg [16, 17] K (fun g u i wr => ∃ (k : Nat) (ad : Option Addr) (c : Nat), k + g = K ∧ i = .int .i64 ((8 * k : Nat) : Int) ∧ u = .slice ad k c ∧ Hid (OwnI wr w3.heap.size 24 .u64 (.slice ad k c) (toI (numsTo t3 k))) ∧ Hid (Below w3.heap.size w3 wr))
  case atStart => exact ⟨0, none, 0, by omega, rfl, rfl, Lib.hid (OwnI.nil _ _ _ _), Lib.hid (Below.refl _ _)⟩
  case round =>
    obtain ⟨k, ad, c, hk, rfl, rfl, HO, HBR⟩ := hrel
    have BR := Lib.hid (bstep BB3.out HBR.out)
    cases gk with
    | zero =>
      have hkK : k = K := by omega
      have hM8 : M = 8 * k := by have := HM.out; have := HKK.out; omega
      have HNF : Hid (numsTo t3 k = numsF t3) := Lib.hid (by unfold numsF numsTo; rw [HKK.out.1, hkK, Nat.mul_div_cancel_left _ (by omega)])
      have HUN : Hid (∀ wz, Below wr.heap.size wr wz → Calls Tryz.prog 64 #[.slice ad k c] wz (Tells progEnd (unRF (numsF t3)) wz)) := Lib.hid (fun wz hz => by
        have h1 := OwnI.at (HO.out.below hz)
        have := unpack_any ad c (numsTo t3 k) wz ⟨h1.2.1, numsTo_lt HM3.out k⟩ (by rw [numsTo_len]; have := HKK.out; omega)
        rw [numsTo_len, HNF.out] at this
        exact this)
      have O14 := Lib.hid (O13.out.below HBR.out)
      have O24 := Lib.hid (O23.out.below HBR.out)
      have hlt : ¬ (((8 * k : Nat) : Int) < (M : Int)) := by omega
      have hd : decide (8 * k < M) = false := decide_eq_false (by omega)
      clear hk hkK hM8
      go_wp2_with fail
      refine (HUN.out _ (Below.refl _ _)).mono ?_
      rintro e w5 ⟨v, he, ho, hb5⟩
      have B5 := Lib.hid (bstep BR.out hb5)
      have O15 := Lib.hid (O14.out.below hb5)
      have O25 := Lib.hid (O24.out.below hb5)
      rcases unRF_code (numsF t3) with h0 | ⟨cc, hcc, h0⟩
      · have HR : Hid (R = ((l1, l2, (unRF (numsF t3)).2), 0)) := Lib.hid (by rw [HRD.out, if_neg (by simp), if_neg (by simp), if_neg (by simp), if_neg (by simpa using h0)])
        have HU5 := Lib.hid (ho.mono BR.out.size)
        obtain ⟨au, cu, rfl⟩ := OwnI.len_le ho
        rw [h0] at he
        replace he : e = .returned (.tuple #[.slice au (toI (unRF (numsF t3)).2).length cu, .nilIface]) := he
        subst he
        clear ho hb5 h0
        go_wp2_with fail
        go_returns
        rw [HR.out]
        exact ⟨_, _, _, _, _, _, _, _, _, rfl, O15.out, O25.out, HU5.out, B5.out⟩
      · have HR : Hid (R = (([], [], []), cc)) := Lib.hid (by rw [HRD.out, if_neg (by simp), if_neg (by simp), if_neg (by simp), if_pos (by rw [h0]; show ¬ cc = 0; omega), h0])
        rw [h0] at he
        replace he : e = .returned (.tuple #[v, errV (cc : Int)]) := he
        rw [errVd hcc] at he
        subst he
        clear ho hb5 h0
        go_wp2_with fail
        go_returns
        rw [← errVd hcc]
        exact RelsPost.err HR.out B5.out
    | succ g =>
      have hkK : k < K := by omega
      have hM8 : 8 * k + 8 ≤ M := by have := HM.out; have := HKK.out; omega
      have hfit := OwnI.fit O3.out
      obtain ⟨hl3, hrow3, -⟩ := OwnI.at O3.out
      obtain ⟨b, o, hab, -⟩ := hrow3 0 (by rw [toI_length]; have := HM.out; omega)
      subst hab
      have hcut : BRow wr (some ⟨b, o + 8 * k, none⟩) ((t3.drop (8 * k)).take 8) := by
        have := (BRow.below (⟨hrow3, HM3.out⟩ : BRow w3 (some ⟨b, o, none⟩) t3) HBR.out).cut (8 * k) 8
        simpa [WideShapes.add_plain] using this
      have HNU : Hid (∀ wz, Below wr.heap.size wr wz → Calls Tryz.prog 48 #[.slice (some ⟨b, o + 8 * k, none⟩) 8 (c3 - 8 * k)] wz fun e w' => e = .returned (.int .u64 ((numOf ((t3.drop (8 * k)).take 8) : Nat) : Int)) ∧ w' = wz) := Lib.hid (fun wz hz => number_still _ _ _ wz 8 (by rw [List.length_take, List.length_drop]; have := HM.out; omega) (hcut.below hz) (by omega))
      have HNX := Lib.hid (numsTo_succ t3 k)
      generalize numOf ((t3.drop (8 * k)).take 8) = nx at *
      have HLE : Hid ((toI (numsTo t3 k)).length = k) := Lib.hid (by rw [toI_length, numsTo_len])
      have HKX : Hid (k + 1 ≤ maxLen ∧ (k + 1) * 8 ≤ 140737488355328) := Lib.hid (by have := HKK.out; unfold maxLen; omega)
      have hk2 := Lib.hid hk
      have hc3 : M ≤ c3 := hfit.1
      obtain ⟨I, hI⟩ : ∃ I, 8 * k = I := ⟨_, rfl⟩
      have HI1 := Lib.hid hI
      rw [hI] at HNU hM8
      simp only [hI]
      have i0 : (0 : Int) ≤ (I : Int) := by omega
      have i1 : (I : Int) ≤ (M : Int) := by omega
      have i2 : (I : Int) ≤ (c3 : Int) := by omega
      have i3 : ¬ c3 = I := by omega
      have i4 : decide (I < M) = true := decide_eq_true (by omega)
      have i5 : ((c3 : Int) - (I : Int)).toNat = c3 - I := by omega
      have i6 : ((M : Int) - (I : Int)).toNat = M - I := by omega
      have i7 : (8 : Int) ≤ ((c3 - I : Nat) : Int) := by omega
      have i8 : 8 ≤ c3 - I := by omega
      have HIW : Hid (IntKind.i64.wrap ((I : Int) + 8) = (((8 * (k + 1) : Nat)) : Int)) := Lib.hid (by rw [IntKind.wrap_i64]; omega)
      have HWB := Lib.hid (bstep BB3.out HBR.out)
      clear hcut hl3 hrow3 hkK hk hI hM8 hfit hc3
      go_wp2_with fail
      refine (HNU.out _ (Below.refl _ _)).mono ?_
      rintro e w4 ⟨rfl, rfl⟩
      go_wp2_with (at_builtin; go_loud (refine wpList_push rfl (.tmp 66) (.tmp 72) slice64 rfl w3.heap.size w3 (.slice ad k c) (toI (numsTo t3 k)) k (nx : Int) rfl (by rfl) HLE.out HO.out HKX.out.1 HKX.out.2 HBR.out HBR.out.size ?_); intro ad9 c9 w9 hown9 hbe9; have O9 := Lib.hid hown9; have B9 := Lib.hid hbe9; clear hown9 hbe9)
      go_roundg g
      case measure => have := hk2.out; omega
      case rel =>
        refine ⟨k + 1, ad9, c9, by have := hk2.out; omega, ?_, rfl, ?_, ?_⟩
        · exact congrArg _ (by have := HI1.out; omega)
        · refine Lib.hid ?_
          rw [HNX.out, show toI (numsTo t3 k ++ [nx]) = toI (numsTo t3 k) ++ [(nx : Int)] from by simp [toI]]
          exact O9.out
        · exact Lib.hid B9.out
end Go.Proofs.YtnaejlfjlennhaaGreatDoor
