/- Layer 14: a text with its tokens put in. -/
import Derived.Test.YtppeapafnnanbaaDoorToken
namespace Go.Proofs.YtppeapafnnanbaaDoor
open Go.RowKit
set_option linter.unusedVariables false
set_option linter.unusedSimpArgs false

theorem expGo_grows (dir : List UInt8) : ∀ (f : Nat) (l out : List UInt8) (told : Bool), out.length ≤ (expGo dir f l out told).1.length
  | 0, l, out, told => Nat.le_refl _
  | f + 1, l, out, told => by
    by_cases h : l = []
    · subst h; rw [expGo_nil]; exact Nat.le_refl _
    · rw [expGo_step h]
      have := expGo_grows dir f (l.drop (tokF l).2) (out ++ textF dir l (tokF l).1) (told || (tokF l).1 == 1)
      rw [List.length_append] at this
      omega
theorem take_one (l : ByteArray) (h : 0 < l.size) : l.data.toList.take 1 = [l[0]] := by
  obtain ⟨⟨l⟩⟩ := l
  cases l with
  | nil => exact absurd h (by decide)
  | cons c l => rfl
theorem ne_nil_of_size {l : ByteArray} (h : 0 < l.size) : l.data.toList ≠ [] := by
  intro e
  have : l.size = l.data.toList.length := by simp
  rw [this, e] at h
  exact absurd h (by decide)
/-- a text and whether the origin was put in -/
def ExpAns (R : List UInt8 × Bool) (w : World) (e : Ending) (w' : World) : Prop := e = .returned (.tuple #[.string ⟨R.1.toArray⟩, .bool R.2]) ∧ Below w.heap.size w w'

set_option maxRecDepth 100000 in
set_option maxHeartbeats 4000000 in
theorem expand_any (s origin : ByteArray) (w : World) (hs : s.size ≤ 140737488355328) (ho : origin.size ≤ 140737488355328) (hR : (expF s origin).1.length ≤ 140737488355328) :
    Calls Tryd.prog 9 #[.string s, .string origin] w (ExpAns (expF s origin) w) := by
  have HD := Lib.hid (fun (w1 : World) => directory_any origin w1 ho)
  obtain ⟨dir, hdir⟩ : ∃ dir, dirF origin = dir := ⟨_, rfl⟩
  obtain ⟨R, hRe⟩ : ∃ R, expF s origin = R := ⟨_, rfl⟩
  have HE : Hid (expGo dir s.size s.data.toList [] false = R) := Lib.hid (by rw [← hRe, ← hdir]; rfl)
  rw [hdir] at HD
  rw [hRe] at hR ⊢
  have HRL := Lib.hid hR
  have HF0 : Hid (Bld (w.alloc (.cells #[.pointer none, .slice none 0 0] 59)) w.heap.size w.heap.size []) := Lib.hid (Lib.fresh_isBuilder _ _ w)
  have HB0 : Hid (Below w.heap.size w (w.alloc (.cells #[.pointer none, .slice none 0 0] 59))) := Lib.hid ((Below.refl _ _).alloc (Nat.le_refl _) _)
  have HS := Lib.hid hs
  clear hdir hRe hR hs
  go_enter Tryd.func9, Tryd.ntmps9
  go_wp2_with fail
  go_loopg [0, 7] s.size (fun g sv tv wr => ∃ (l : ByteArray) (out : List UInt8) (told : Bool), l.size ≤ g ∧ sv = .string l ∧ tv = .bool told ∧ Hid (l.size ≤ 140737488355328) ∧ Hid (expGo dir g l.data.toList out told = R) ∧ Hid (Bld wr w.heap.size w.heap.size out) ∧ Hid (Below w.heap.size w wr))
  case atStart => exact ⟨s, [], false, Nat.le_refl _, rfl, rfl, HS, HE, HF0, HB0⟩
  case round =>
    obtain ⟨l, out, told, hl, rfl, rfl, HLS, HG, HB, BW⟩ := hrel
    by_cases h0 : l.size = 0
    · have hnil : l.data.toList = [] := by
        have : l.data.toList.length = 0 := by simpa using h0
        exact List.length_eq_zero_iff.1 this
      have HEQ : Hid (R = (out, told)) := Lib.hid (by rw [← HG.out, hnil, expGo_nil])
      have HST := Lib.hid (Tryd.Builder_String_any w.heap.size w.heap.size out wr HB.out BW.out.size)
      have h0i : ¬ (0 : Int) < (l.size : Int) := by omega
      clear hnil h0 hl
      go_wp2_with fail
      refine HST.out.mono ?_
      rintro e w' ⟨rfl, hb'⟩
      have B' := Lib.hid (BW.out.trans hb')
      clear hb'
      go_wp2_with fail
      go_ret2
      rw [HEQ.out]
      exact ⟨rfl, B'.out⟩
    · have h0i : (0 : Int) < (l.size : Int) := by omega
      have h0n : 0 < l.size := by omega
      obtain ⟨g, rfl⟩ : ∃ g, gk = g + 1 := ⟨gk - 1, by omega⟩
      have hne := ne_nil_of_size h0n
      have hst := expGo_step (dir := dir) (f := g) (out := out) (told := told) hne
      have hsz := tokF_size hne
      have HTK := Lib.hid (token_any l wr h0n HLS.out)
      have HT1 := Lib.hid (take_one l h0n)
      have hll : l.data.toList.length = l.size := by simp
      have HLL := Lib.hid hll
      rw [HG.out] at hst
      have hwh := tokF_which l.data.toList
      obtain ⟨k, n, hkn⟩ : ∃ k n, tokF l.data.toList = (k, n) := ⟨_, _, rfl⟩
      rw [hkn] at hst hsz HTK hwh
      simp only at hst hsz hwh
      have HSTP := Lib.hid hst
      have hgr := expGo_grows dir g (l.data.toList.drop n) (out ++ textF dir l.data.toList k) (told || k == 1)
      rw [← hst, List.length_append] at hgr
      have HGR := Lib.hid hgr
      have hn1 : 1 ≤ n := hsz.1
      have hn2 : (n : Int) ≤ (l.size : Int) := by omega
      have hn0 : (0 : Int) ≤ (n : Int) := by omega
      have HL' : Hid ((l.extract n l.size).data.toList = l.data.toList.drop n) := Lib.hid (by rw [extract_drop])
      have HLS' : Hid ((l.extract n l.size).size ≤ g) := Lib.hid (by simp [ByteArray.size_extract]; omega)
      have HLS2 : Hid ((l.extract n l.size).size ≤ 140737488355328) := Lib.hid (by have := HLS.out; simp [ByteArray.size_extract]; omega)
      clear hst hsz hkn hne hll hgr h0 hl hn1
      rcases (show k = 0 ∨ k = 1 ∨ k = 2 ∨ k = 3 by omega) with rfl | rfl | rfl | rfl
      · clear hwh
        have HST2 : Hid (expGo dir g (l.data.toList.drop n) (out ++ textF dir l.data.toList 0) told = R) := Lib.hid (by have h1 := HSTP.out.symm; rwa [show (told || (0 : Nat) == 1) = told from by cases told <;> rfl] at h1)
        have HLEN : Hid (out.length + 1 ≤ 140737488355328) := Lib.hid (by
          have h1 := HGR.out
          have h2 := HRL.out
          rw [show textF dir l.data.toList 0 = l.data.toList.take 1 from rfl, HT1.out] at h1
          simp at h1
          omega)
        have HWB := Lib.hid (writeByte_any w.heap.size w.heap.size out l[0] wr HB.out HLEN.out BW.out.size)
        go_wp2_with fail
        refine HTK.out.mono ?_
        rintro e w' ⟨rfl, rfl⟩
        go_wp2_with fail
        refine HWB.out.mono ?_
        rintro e w2 ⟨rfl, hb2, hbe⟩
        have HB2 : Hid (Bld w2 w.heap.size w.heap.size (out ++ textF dir l.data.toList 0)) := Lib.hid (by rw [show textF dir l.data.toList 0 = l.data.toList.take 1 from rfl, HT1.out]; exact hb2)
        have BB2 := Lib.hid (BW.out.trans hbe)
        clear hb2 hbe HWB
        go_wp2_with fail
        go_roundg g
        case measure => omega
        case rel => exact ⟨_, _, told, HLS'.out, rfl, rfl, HLS2, Lib.hid (by rw [HL'.out]; exact HST2.out), HB2, BB2⟩
      · clear hwh
        have HST2 : Hid (expGo dir g (l.data.toList.drop n) (out ++ textF dir l.data.toList 1) true = R) := Lib.hid (by have h1 := HSTP.out.symm; rwa [show (told || (1 : Nat) == 1) = true from by cases told <;> rfl] at h1)
        have HLEN : Hid (out.length + (⟨dir.toArray⟩ : ByteArray).size ≤ 140737488355328) := Lib.hid (by
          have h1 := HGR.out
          have h2 := HRL.out
          have e1 : (⟨dir.toArray⟩ : ByteArray).size = dir.length := by simp [ByteArray.size]
          have e2 : (textF dir l.data.toList 1).length = dir.length := rfl
          omega)
        have HWB := Lib.hid (writeString_any w.heap.size w.heap.size out ⟨dir.toArray⟩ wr HB.out HLEN.out BW.out.size)
        go_wp2_with fail
        refine HTK.out.mono ?_
        rintro e w' ⟨rfl, rfl⟩
        go_wp2_with fail
        refine (HD.out _).mono ?_
        rintro e w2 ⟨rfl, rfl⟩
        go_wp2_with fail
        refine HWB.out.mono ?_
        rintro e w2 ⟨rfl, hb2, hbe⟩
        have HB2 : Hid (Bld w2 w.heap.size w.heap.size (out ++ textF dir l.data.toList 1)) := Lib.hid hb2
        have BB2 := Lib.hid (BW.out.trans hbe)
        clear hb2 hbe HWB
        go_wp2_with fail
        go_roundg g
        case measure => omega
        case rel => exact ⟨_, _, true, HLS'.out, rfl, rfl, HLS2, Lib.hid (by rw [HL'.out]; exact HST2.out), HB2, BB2⟩
      · clear hwh
        have HST2 : Hid (expGo dir g (l.data.toList.drop n) (out ++ textF dir l.data.toList 2) told = R) := Lib.hid (by have h1 := HSTP.out.symm; rwa [show (told || (2 : Nat) == 1) = told from by cases told <;> rfl] at h1)
        have HLEN : Hid (out.length + (⟨#[108, 105, 98, 54, 52]⟩ : ByteArray).size ≤ 140737488355328) := Lib.hid (by
          have h1 := HGR.out
          have h2 := HRL.out
          have e1 : (⟨#[108, 105, 98, 54, 52]⟩ : ByteArray).size = 5 := by rfl
          have e2 : (textF dir l.data.toList 2).length = 5 := rfl
          omega)
        have HWB := Lib.hid (writeString_any w.heap.size w.heap.size out ⟨#[108, 105, 98, 54, 52]⟩ wr HB.out HLEN.out BW.out.size)
        go_wp2_with fail
        refine HTK.out.mono ?_
        rintro e w' ⟨rfl, rfl⟩
        go_wp2_with fail
        refine HWB.out.mono ?_
        rintro e w2 ⟨rfl, hb2, hbe⟩
        have HB2 : Hid (Bld w2 w.heap.size w.heap.size (out ++ textF dir l.data.toList 2)) := Lib.hid hb2
        have BB2 := Lib.hid (BW.out.trans hbe)
        clear hb2 hbe HWB
        go_wp2_with fail
        go_roundg g
        case measure => omega
        case rel => exact ⟨_, _, told, HLS'.out, rfl, rfl, HLS2, Lib.hid (by rw [HL'.out]; exact HST2.out), HB2, BB2⟩
      · clear hwh
        have HST2 : Hid (expGo dir g (l.data.toList.drop n) (out ++ textF dir l.data.toList 3) told = R) := Lib.hid (by have h1 := HSTP.out.symm; rwa [show (told || (3 : Nat) == 1) = told from by cases told <;> rfl] at h1)
        have HLEN : Hid (out.length + (⟨#[120, 56, 54, 95, 54, 52]⟩ : ByteArray).size ≤ 140737488355328) := Lib.hid (by
          have h1 := HGR.out
          have h2 := HRL.out
          have e1 : (⟨#[120, 56, 54, 95, 54, 52]⟩ : ByteArray).size = 6 := by rfl
          have e2 : (textF dir l.data.toList 3).length = 6 := rfl
          omega)
        have HWB := Lib.hid (writeString_any w.heap.size w.heap.size out ⟨#[120, 56, 54, 95, 54, 52]⟩ wr HB.out HLEN.out BW.out.size)
        go_wp2_with fail
        refine HTK.out.mono ?_
        rintro e w' ⟨rfl, rfl⟩
        go_wp2_with fail
        refine HWB.out.mono ?_
        rintro e w2 ⟨rfl, hb2, hbe⟩
        have HB2 : Hid (Bld w2 w.heap.size w.heap.size (out ++ textF dir l.data.toList 3)) := Lib.hid hb2
        have BB2 := Lib.hid (BW.out.trans hbe)
        clear hb2 hbe HWB
        go_wp2_with fail
        go_roundg g
        case measure => omega
        case rel => exact ⟨_, _, told, HLS'.out, rfl, rfl, HLS2, Lib.hid (by rw [HL'.out]; exact HST2.out), HB2, BB2⟩
end Go.Proofs.YtppeapafnnanbaaDoor
