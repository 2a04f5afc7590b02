/- Layer 9: the examples at the head of the statements. -/
import Derived.Test.YtbmfjchpfhealaaRelsPack
import Derived.Test.YtbmfjchpfhealaaAlike9
namespace Go.Proofs.Ytbmfjchpfhealaa
open Go.RowKit
set_option linter.unusedVariables false
set_option linter.unusedSimpArgs false

/-- what Tells gives to a caller who began at w0 -/
theorem Tells.at {f : Value → Nat → Ending} {F : Nat × List Nat} {c : Nat} {r : List Nat} {w0 w w' : World} {e : Ending} (h : Tells f F w e w') (hF : F = (c, r)) (hb : Below w0.heap.size w0 w) :
    ∃ ad cap, e = f (.slice ad r.length cap) c ∧ OwnI w' w0.heap.size 23 .u64 (.slice ad r.length cap) (toI r) ∧ Below w0.heap.size w0 w' ∧ Below w.heap.size w w' := by
  subst hF
  obtain ⟨v, rfl, ho, hb2⟩ := h
  obtain ⟨ad, cap, hv⟩ := ho.len_le
  rw [toI_length] at hv
  subst hv
  exact ⟨ad, cap, rfl, ho.mono hb.size, hb.trans (hb2.mono hb.size), hb2⟩

theorem new_row (w : World) (L : List Nat) (T : TypeId) (hL : ∀ y ∈ L, y < 18446744073709551616) : NRow (w.alloc (.cells ((toI L).map (Value.int .u64)).toArray T)) (some ⟨w.heap.size, 0, none⟩) L := ⟨Row.new .u64 w (toI L) T, hL⟩

theorem un_lit1 : unF [4096, 3] = (0, [4096, 4104]) := by decide +kernel
theorem un_lit2 : unF [3] = (3, []) := by decide +kernel
theorem pack_lit : packF [4096, 4104, 4120] = (0, [4096, 11]) := by
  have hok : okTo [4096, 4104, 4120] [4096, 4104, 4120].length := by
    intro i hi
    match i, hi with
    | 0, _ => decide
    | 1, _ => decide
    | 2, _ => decide
  rw [packF_yes hok (by decide), packW_cons, packW_word (show spanK (4096 + 8) [4104, 4120] = 2 from by decide) (by decide)]
  rw [show ([4104, 4120] : List Nat).drop 2 = [] from rfl, packW_stop (show spanK (4096 + 8 + 504) [] = 0 from rfl), packW_nil]
  decide +kernel

theorem up_one (w0 w : World) (h : Below w0.heap.size w0 w) : Calls Try.prog 24 #[.slice (some ⟨w.heap.size, 0, none⟩) 2 2] (w.alloc (.cells #[.int .u64 4096, .int .u64 3] 23)) fun e w' =>
    ∃ ad cap, e = .returned (.tuple #[.slice ad 2 cap, .nilIface]) ∧ OwnI w' w0.heap.size 23 .u64 (.slice ad 2 cap) [4096, 4104] ∧ Below w0.heap.size w0 w' := by
  refine (unpack_any _ 2 [4096, 3] _ (new_row w [4096, 3] _ (by decide)) (by decide)).mono ?_
  intro e w' ht
  obtain ⟨ad, cap, rfl, ho, hb, -⟩ := ht.at un_lit1 (h.alloc h.size _)
  exact ⟨ad, cap, rfl, ho, hb⟩
theorem up_two (w0 w : World) (h : Below w0.heap.size w0 w) : Calls Try.prog 25 #[.slice (some ⟨w.heap.size, 0, none⟩) 3 3] (w.alloc (.cells #[.int .u64 4096, .int .u64 4104, .int .u64 4120] 23)) fun e w' =>
    ∃ ad cap, e = .returned (.tuple #[.slice ad 2 cap, .nilIface]) ∧ OwnI w' w0.heap.size 23 .u64 (.slice ad 2 cap) [4096, 11] ∧ Below w0.heap.size w0 w' ∧ Below w.heap.size w w' := by
  refine (pack_any _ 3 [4096, 4104, 4120] _ (new_row w [4096, 4104, 4120] _ (by decide)) (by decide)).mono ?_
  intro e w' ht
  obtain ⟨ad, cap, rfl, ho, hb, hb2⟩ := ht.at pack_lit (h.alloc h.size _)
  exact ⟨ad, cap, rfl, ho, hb, bstep ((Below.refl _ w).alloc (Nat.le_refl _) _) hb2⟩
theorem up_three (w0 w : World) (h : Below w0.heap.size w0 w) : Calls Try.prog 24 #[.slice (some ⟨w.heap.size, 0, none⟩) 1 1] (w.alloc (.cells #[.int .u64 3] 23)) fun e w' =>
    ∃ ad cap, e = .returned (.tuple #[.slice ad 0 cap, .iface 59 (.int .i64 3)]) ∧ Below w0.heap.size w0 w' ∧ Below w.heap.size w w' := by
  refine (unpack_any _ 1 [3] _ (new_row w [3] _ (by decide)) (by decide)).mono ?_
  intro e w' ht
  obtain ⟨ad, cap, rfl, ho, hb, hb2⟩ := ht.at un_lit2 (h.alloc h.size _)
  exact ⟨ad, cap, rfl, hb, bstep ((Below.refl _ w).alloc (Nat.le_refl _) _) hb2⟩
theorem up_like (w0 w : World) (h : Below w0.heap.size w0 w) (ad : Option Addr) (cap a b : Nat) (hr : Row .u64 w ad [(a : Int), (b : Int)]) : Calls Try.prog 26 #[.slice ad 2 cap, .slice (some ⟨w.heap.size, 0, none⟩) 2 2] (w.alloc (.cells #[.int .u64 (a : Int), .int .u64 (b : Int)] 23)) fun e w' =>
    e = .returned (.bool true) ∧ Below w0.heap.size w0 w' ∧ Below w.heap.size w w' := by
  refine (alike_eq _ _ cap 2 2 2 [(a : Int), (b : Int)] _ rfl rfl (hr.below ((Below.refl _ w).alloc (Nat.le_refl _) _)) (Row.new .u64 w [(a : Int), (b : Int)] _) (by simp [maxLen])).mono ?_
  rintro e w' ⟨rfl, hb⟩
  exact ⟨rfl, bstep (h.alloc h.size _) hb, bstep ((Below.refl _ w).alloc (Nat.le_refl _) _) hb⟩

set_option maxHeartbeats 2000000 in
theorem up_true (w : World) : Calls Try.prog 13 #[] w fun e w' => e = .returned (.bool true) ∧ Below w.heap.size w w' := by
  have he := run_eql_code
  have H1 := Lib.hid (up_one w)
  have H2 := Lib.hid (up_two w)
  have H3 := Lib.hid (up_three w)
  have H4 := Lib.hid (up_like w)
  have HB0 := Lib.hid (Below.refl w.heap.size w)
  go_enter Try.func13, Try.ntmps13
  go_wp2_with fail
  refine (H1.out w HB0.out).mono ?_
  rintro e w1 ⟨ad1, cap1, rfl, ho1, hb1⟩
  have O1 := Lib.hid ho1; have B1 := Lib.hid hb1; clear ho1 hb1
  go_wp2_with fail
  refine (H2.out w1 B1.out).mono ?_
  rintro e w2 ⟨ad2, cap2, rfl, ho2, hb2, hs2⟩
  have O2 := Lib.hid ho2; have B2 := Lib.hid hb2; have S2 := Lib.hid hs2; clear ho2 hb2 hs2
  go_wp2_with fail
  refine (H3.out w2 B2.out).mono ?_
  rintro e w3 ⟨ad3, cap3, rfl, hb3, hs3⟩
  have B3 := Lib.hid hb3; have S3 := Lib.hid hs3; clear hb3 hs3
  go_wp2_with fail
  refine (H4.out w3 B3.out ad1 cap1 4096 4104 (O1.out.below (bstep S2.out S3.out)).at.2.1).mono ?_
  rintro e w4 ⟨rfl, hb4, hs4⟩
  have B4 := Lib.hid hb4; have S4 := Lib.hid hs4; clear hb4 hs4
  go_wp2_with fail
  refine (H4.out w4 B4.out ad2 cap2 4096 11 (O2.out.below (bstep S3.out S4.out)).at.2.1).mono ?_
  rintro e w5 ⟨rfl, hb5, hs5⟩
  have B5 := Lib.hid hb5; clear hb5 hs5
  go_wp2_with fail
  go_ret
  exact ⟨rfl, B5.out⟩
end Go.Proofs.Ytbmfjchpfhealaa
