/- Layer 7, the statement's own walk: a name's hash with a byte more hangs on the hash alone. -/
import Derived.Test.YtcapigdnkjhflaaHashUp
import Derived.Laws.Concat
import Derived.Laws.IdiomStrings
namespace Go.Proofs.Ytcapigdnkjhflaa
open Go.RowKit
set_option linter.unusedVariables false
set_option linter.unusedSimpArgs false

def One (c : UInt8) : ByteArray := ⟨#[c]⟩
theorem app_list (a : ByteArray) (c : UInt8) : (a ++ One c).data.toList = a.data.toList ++ [c] := by
  simp [One, ByteArray.data_append]

theorem gnu_one (a : ByteArray) (c : UInt8) : gnuOf (a ++ One c).data.toList = (gnuOf a.data.toList * 33 + (c.toNat : Int)) % 4294967296 := by
  rw [app_list, gnuOf_snoc]
theorem sys_one (a : ByteArray) (c : UInt8) : sysOf (a ++ One c).data.toList = sysStep (sysOf a.data.toList) c.toNat := by
  rw [app_list, sysOf_snoc]
theorem sysOf_lt (l : List UInt8) : sysOf l < 268435456 := by
  rcases List.eq_nil_or_concat l with rfl | ⟨xs, b, rfl⟩
  · decide
  · rw [List.concat_eq_append, sysOf_snoc]; exact sysStep_lt _ _

theorem conv_one (w : World) (c : UInt8) : (convert 23 9 (.slice (some ⟨w.heap.size, 0, none⟩) 1 1)).run Try.prog (w.alloc (.cells #[.int .u8 (c.toNat : Int)] 5)) = .ok (.string (One c)) (w.alloc (.cells #[.int .u8 (c.toNat : Int)] 5)) :=
  run_convert_bytes_back (P := Try.prog) (w.alloc (.cells #[.int .u8 (c.toNat : Int)] 5)) 23 9 5 ⟨w.heap.size, 0, none⟩ 1 [c] Try.underlying23 Try.underlying5 Try.underlying9 (by
    intro j hj
    have : j = 0 := by simp at hj; omega
    subst this
    rw [WideShapes.add_plain, World.cell?_alloc_new]
    rfl)
theorem bel_one (w : World) (c : UInt8) (v : Value) (T : TypeId) (m : Nat × Nat) : Below w.heap.size w (w.alloc (.cells #[v] T m)) := (Below.refl _ _).alloc (Nat.le_refl _) _

set_option maxRecDepth 100000 in
set_option maxHeartbeats 2000000 in
theorem walk_HashGrows_at (a b : ByteArray) (c : UInt8) (w : World) (ha : a.size ≤ 140737488351232) (hb : b.size ≤ 140737488351232) :
    Calls Try.prog 3 #[.string a, .string b, .int .u8 (c.toNat : Int)] w fun e w' => e = .returned (.bool true) ∧ Below w.heap.size w w' := by
  have hu := Lib.hid (up_true w)
  have so : (One c).size = 1 := rfl
  have sa : (a ++ One c).size ≤ 9223372036854775807 := by rw [ByteArray.size_append, so]; omega
  have sb : (b ++ One c).size ≤ 9223372036854775807 := by rw [ByteArray.size_append, so]; omega
  have ka := fun (w : World) => run_string_add_sum (P := Try.prog) (w := w) a (One c) (by rw [so]; omega)
  have kb := fun (w : World) => run_string_add_sum (P := Try.prog) (w := w) b (One c) (by rw [so]; omega)
  have sysA := Lib.hid (fun (w : World) => sysv_any a w (by omega))
  have sysB := Lib.hid (fun (w : World) => sysv_any b w (by omega))
  have sysAx := Lib.hid (fun (w : World) => sysv_any (a ++ One c) w sa)
  have sysBx := Lib.hid (fun (w : World) => sysv_any (b ++ One c) w sb)
  have gnuA := Lib.hid (fun (w : World) => gnu_any a w (by omega))
  have gnuB := Lib.hid (fun (w : World) => gnu_any b w (by omega))
  have gnuAx := Lib.hid (fun (w : World) => gnu_any (a ++ One c) w sa)
  have gnuBx := Lib.hid (fun (w : World) => gnu_any (b ++ One c) w sb)
  rw [gnu_one] at gnuAx gnuBx
  rw [sys_one] at sysAx sysBx
  have gA := gnuOf_bounds a.data.toList
  have gB := gnuOf_bounds b.data.toList
  have sA := sysOf_lt a.data.toList
  have sB := sysOf_lt b.data.toList
  have hc : c.toNat < 256 := c.toNat_lt
  have kc := conv_one w c
  generalize gnuOf a.data.toList = ga at *
  generalize gnuOf b.data.toList = gb at *
  have step : ((sysOf a.data.toList : Nat) : Int) = ((sysOf b.data.toList : Nat) : Int) → ((sysStep (sysOf a.data.toList) c.toNat : Nat) : Int) = ((sysStep (sysOf b.data.toList) c.toNat : Nat) : Int) := by
    intro h
    rw [Int.ofNat_inj.1 h]
  have slt : ((sysOf a.data.toList : Nat) : Int) < 268435456 := by omega
  clear sA sB
  generalize ((sysStep (sysOf a.data.toList) c.toNat : Nat) : Int) = xa at *
  generalize ((sysStep (sysOf b.data.toList) c.toNat : Nat) : Int) = xb at *
  generalize ((sysOf a.data.toList : Nat) : Int) = sa at *
  generalize ((sysOf b.data.toList : Nat) : Int) = sb at *
  have last : ((ga * 33 + (c.toNat : Int)) % 4294967296 == (33 * ga + (c.toNat : Int)) % 4294967296) = true := by rw [beq_iff_eq]; omega
  by_cases e1 : ga = gb
  · subst e1
    by_cases e2 : sa = sb
    · have e3 := step e2
      clear step
      subst e2
      subst e3
      go_enter Try.func3, Try.ntmps3
      go_wp2_with fail
      refine (Hid.out hu).mono ?_
      rintro e w' ⟨rfl, rfl⟩
      go_wp2_with fail
      have bel := bel_one w c (.int .u8 (c.toNat : Int)) 5 (0, 0)
      clear kc
      generalize w.alloc (.cells #[.int .u8 (c.toNat : Int)] 5) = w1 at *
      refine (Hid.out gnuA _).mono ?_
      rintro e w' ⟨rfl, rfl⟩
      go_wp2_with fail
      refine (Hid.out gnuB _).mono ?_
      rintro e w' ⟨rfl, rfl⟩
      go_wp2_with fail
      refine (Hid.out gnuAx _).mono ?_
      rintro e w' ⟨rfl, rfl⟩
      go_wp2_with fail
      refine (Hid.out gnuBx _).mono ?_
      rintro e w' ⟨rfl, rfl⟩
      go_wp2_with fail
      refine (Hid.out sysA _).mono ?_
      rintro e w' ⟨rfl, rfl⟩
      go_wp2_with fail
      refine (Hid.out sysB _).mono ?_
      rintro e w' ⟨rfl, rfl⟩
      go_wp2_with fail
      refine (Hid.out sysAx _).mono ?_
      rintro e w' ⟨rfl, rfl⟩
      go_wp2_with fail
      refine (Hid.out sysBx _).mono ?_
      rintro e w' ⟨rfl, rfl⟩
      go_wp2_with fail
      refine (Hid.out sysA _).mono ?_
      rintro e w' ⟨rfl, rfl⟩
      go_wp2_with fail
      refine (Hid.out gnuAx _).mono ?_
      rintro e w' ⟨rfl, rfl⟩
      go_wp2_with fail
      refine (Hid.out gnuA _).mono ?_
      rintro e w' ⟨rfl, rfl⟩
      go_wp2_with fail
      go_ret
      exact ⟨rfl, bel⟩
    · clear step
      go_enter Try.func3, Try.ntmps3
      go_wp2_with fail
      refine (Hid.out hu).mono ?_
      rintro e w' ⟨rfl, rfl⟩
      go_wp2_with fail
      have bel := bel_one w c (.int .u8 (c.toNat : Int)) 5 (0, 0)
      clear kc
      generalize w.alloc (.cells #[.int .u8 (c.toNat : Int)] 5) = w1 at *
      refine (Hid.out gnuA _).mono ?_
      rintro e w' ⟨rfl, rfl⟩
      go_wp2_with fail
      refine (Hid.out gnuB _).mono ?_
      rintro e w' ⟨rfl, rfl⟩
      go_wp2_with fail
      refine (Hid.out gnuAx _).mono ?_
      rintro e w' ⟨rfl, rfl⟩
      go_wp2_with fail
      refine (Hid.out gnuBx _).mono ?_
      rintro e w' ⟨rfl, rfl⟩
      go_wp2_with fail
      refine (Hid.out sysA _).mono ?_
      rintro e w' ⟨rfl, rfl⟩
      go_wp2_with fail
      refine (Hid.out sysB _).mono ?_
      rintro e w' ⟨rfl, rfl⟩
      go_wp2_with fail
      refine (Hid.out sysA _).mono ?_
      rintro e w' ⟨rfl, rfl⟩
      go_wp2_with fail
      refine (Hid.out gnuAx _).mono ?_
      rintro e w' ⟨rfl, rfl⟩
      go_wp2_with fail
      refine (Hid.out gnuA _).mono ?_
      rintro e w' ⟨rfl, rfl⟩
      go_wp2_with fail
      go_ret
      exact ⟨rfl, bel⟩
  · skip
    by_cases e2 : sa = sb
    · have e3 := step e2
      clear step
      subst e2
      subst e3
      go_enter Try.func3, Try.ntmps3
      go_wp2_with fail
      refine (Hid.out hu).mono ?_
      rintro e w' ⟨rfl, rfl⟩
      go_wp2_with fail
      have bel := bel_one w c (.int .u8 (c.toNat : Int)) 5 (0, 0)
      clear kc
      generalize w.alloc (.cells #[.int .u8 (c.toNat : Int)] 5) = w1 at *
      refine (Hid.out gnuA _).mono ?_
      rintro e w' ⟨rfl, rfl⟩
      go_wp2_with fail
      refine (Hid.out gnuB _).mono ?_
      rintro e w' ⟨rfl, rfl⟩
      go_wp2_with fail
      refine (Hid.out sysA _).mono ?_
      rintro e w' ⟨rfl, rfl⟩
      go_wp2_with fail
      refine (Hid.out sysB _).mono ?_
      rintro e w' ⟨rfl, rfl⟩
      go_wp2_with fail
      refine (Hid.out sysAx _).mono ?_
      rintro e w' ⟨rfl, rfl⟩
      go_wp2_with fail
      refine (Hid.out sysBx _).mono ?_
      rintro e w' ⟨rfl, rfl⟩
      go_wp2_with fail
      refine (Hid.out sysA _).mono ?_
      rintro e w' ⟨rfl, rfl⟩
      go_wp2_with fail
      refine (Hid.out gnuAx _).mono ?_
      rintro e w' ⟨rfl, rfl⟩
      go_wp2_with fail
      refine (Hid.out gnuA _).mono ?_
      rintro e w' ⟨rfl, rfl⟩
      go_wp2_with fail
      go_ret
      exact ⟨rfl, bel⟩
    · clear step
      go_enter Try.func3, Try.ntmps3
      go_wp2_with fail
      refine (Hid.out hu).mono ?_
      rintro e w' ⟨rfl, rfl⟩
      go_wp2_with fail
      have bel := bel_one w c (.int .u8 (c.toNat : Int)) 5 (0, 0)
      clear kc
      generalize w.alloc (.cells #[.int .u8 (c.toNat : Int)] 5) = w1 at *
      refine (Hid.out gnuA _).mono ?_
      rintro e w' ⟨rfl, rfl⟩
      go_wp2_with fail
      refine (Hid.out gnuB _).mono ?_
      rintro e w' ⟨rfl, rfl⟩
      go_wp2_with fail
      refine (Hid.out sysA _).mono ?_
      rintro e w' ⟨rfl, rfl⟩
      go_wp2_with fail
      refine (Hid.out sysB _).mono ?_
      rintro e w' ⟨rfl, rfl⟩
      go_wp2_with fail
      refine (Hid.out sysA _).mono ?_
      rintro e w' ⟨rfl, rfl⟩
      go_wp2_with fail
      refine (Hid.out gnuAx _).mono ?_
      rintro e w' ⟨rfl, rfl⟩
      go_wp2_with fail
      refine (Hid.out gnuA _).mono ?_
      rintro e w' ⟨rfl, rfl⟩
      go_wp2_with fail
      go_ret
      exact ⟨rfl, bel⟩

theorem walk_HashGrows (a b : ByteArray) (c : Int) (w : World) (wa : a.size ≤ maxLen) (ha : a.size ≤ 140737488351232) (wb : b.size ≤ maxLen) (hb : b.size ≤ 140737488351232) (wc : (Lit.int .u8 c).wf = true) :
    Calls Try.prog 3 #[.string a, .string b, .int .u8 c] w fun e w' => e = .returned (.bool true) ∧ Below w.heap.size w w' := by
  obtain ⟨h0, h1⟩ := wf_u8_bounds wc
  obtain ⟨n, rfl⟩ := Int.eq_ofNat_of_zero_le h0
  have := walk_HashGrows_at a b (UInt8.ofNat n) w ha hb
  rw [show (UInt8.ofNat n).toNat = n from by simp; omega] at this
  exact this
end Go.Proofs.Ytcapigdnkjhflaa
