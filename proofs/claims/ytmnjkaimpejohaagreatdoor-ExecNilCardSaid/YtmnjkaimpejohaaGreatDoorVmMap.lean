/- Layer 2: pages are mapped. -/
import Derived.Test.YtmnjkaimpejohaaGreatDoorVmTaken
import Derived.Test.YtmnjkaimpejohaaGreatDoorVmCheck
import Derived.Test.YtmnjkaimpejohaaGreatDoorVmPage
import Derived.Test.YtmnjkaimpejohaaGreatDoorVmStore
namespace Go.Proofs.YtmnjkaimpejohaaGreatDoor
open Go.RowKit
set_option linter.unusedVariables false
set_option linter.unusedSimpArgs false

/-- new pages with a permission -/
def mapV (V : Nat → Option Pg) (a n perm : Nat) : Nat → Option Pg := fun k => if a ≤ k ∧ k < a + n then some (newPg perm) else V k
theorem mapV_zero (V : Nat → Option Pg) (a perm : Nat) : mapV V a 0 perm = V := by
  funext k
  unfold mapV
  rw [if_neg (by omega)]
theorem mapV_succ (V : Nat → Option Pg) (a n perm : Nat) : mapV V a (n + 1) perm = updV (mapV V a n perm) (a + n) (some (newPg perm)) := by
  funext k
  unfold mapV updV
  by_cases e : k = a + n
  · rw [if_pos (by omega), if_pos e]
  · rw [if_neg e]
    by_cases h : a ≤ k ∧ k < a + n
    · rw [if_pos (by omega)]
      exact (if_pos h).symm
    · rw [if_neg (by omega)]
      exact (if_neg h).symm
theorem mapV_at {V : Nat → Option Pg} {a n perm k : Nat} (h1 : a ≤ k) (h2 : k < a + n) : mapV V a n perm k = some (newPg perm) := if_pos ⟨h1, h2⟩
theorem mapV_off {V : Nat → Option Pg} {a n perm k : Nat} (h : ¬ (a ≤ k ∧ k < a + n)) : mapV V a n perm k = V k := if_neg h

theorem checkF_ok {a : Nat} {n perm : Int} (h : checkF a n perm = 0) : 1 ≤ n ∧ 0 ≤ perm ∧ perm ≤ 7 ∧ a % 4096 = 0 ∧ 4096 ≤ a ∧ a / 4096 + n.toNat ≤ 34359738368 := by
  unfold checkF at h
  by_cases h1 : n < 1 ∨ perm < 0 ∨ 7 < perm
  · rw [if_pos h1] at h; cases h
  · rw [if_neg h1] at h
    by_cases h2 : a % 4096 ≠ 0
    · rw [if_pos h2] at h; cases h
    · rw [if_neg h2] at h
      by_cases h3 : a < 4096 ∨ belowF a n.toNat = false
      · rw [if_pos h3] at h; cases h
      · have h4 : belowF a n.toNat = true := by
          cases hb : belowF a n.toNat
          · exact absurd (.inr hb) h3
          · rfl
        unfold belowF at h4
        rw [decide_eq_true_eq] at h4
        omega

set_option maxRecDepth 100000 in
set_option maxHeartbeats 8000000 in
theorem map_bad (mb : Nat) (a : Nat) (n perm : Int) (w : World) (ha : a < 18446744073709551616) (hn1 : -9223372036854775808 ≤ n) (hn2 : n < 9223372036854775808) (hc : checkF a n perm ≠ 0) :
    Calls Tryz.prog 12 #[.pointer (some ⟨mb, 0, none⟩), .int .u64 (a : Int), .int .i64 n, .int .i64 perm] w fun e w' => e = .returned (errV (checkF a n perm : Int)) ∧ w = w' := by
  have HC := Lib.hid (check_any a n perm w ha hn1 hn2)
  have he : errV (checkF a n perm : Int) = .iface 36 (.int .i64 (checkF a n perm : Int)) := if_neg (by omega)
  rw [he] at HC ⊢
  generalize checkF a n perm = cc at *
  clear hc ha hn1 hn2 he
  go_enter Tryz.func12, Tryz.ntmps12
  go_wp2_with (go_at_call 18; refine HC.out.mono ?_; rintro e w' ⟨rfl, rfl⟩)
  go_ret
  exact ⟨rfl, rfl⟩

set_option maxRecDepth 100000 in
set_option maxHeartbeats 8000000 in
theorem map_taken (mb : Nat) (S : Nat → Prop) (q c : Nat) (V : Nat → Option Pg) (g : Nat) (F : Nat → Option Nat) (a : Nat) (n perm : Int) (x : Nat) (w : World) (h : VmAt w mb S q c V g F) (ha : a < 18446744073709551616) (hn2 : n < 9223372036854775808) (hc : checkF a n perm = 0) (ht : takeF V n.toNat (a / 4096) = some x) (hx : x < 34359738368) :
    Calls Tryz.prog 12 #[.pointer (some ⟨mb, 0, none⟩), .int .u64 (a : Int), .int .i64 n, .int .i64 perm] w fun e w' => ∃ b, e = .returned (spotV b) ∧ w'.heap[b]? = some (SpotObj (x * 4096) 8) ∧ Below w.heap.size w w' ∧ w.heap.size ≤ b := by
  obtain ⟨c1, c2, c3, c4, c5, c6⟩ := checkF_ok hc
  obtain ⟨m, rfl⟩ : ∃ m : Nat, n = (m : Int) := ⟨n.toNat, by omega⟩
  rw [Int.toNat_natCast] at ht c6
  have hcx := check_any a (m : Int) perm w ha (by omega) hn2
  rw [hc] at hcx
  replace hcx : Calls Tryz.prog 18 #[.int .u64 (a : Int), .int .i64 (m : Int), .int .i64 perm] w fun e w' => e = .returned .nilIface ∧ w = w' := hcx
  have HC := Lib.hid hcx
  have htx := taken_any mb S q c V g F (a / 4096) m w h c6
  rw [ht] at htx
  simp only [barV] at htx
  have HT := Lib.hid htx
  have e1 : (a : Int).tdiv 4096 = ((a / 4096 : Nat) : Int) := by rw [Int.tdiv_eq_ediv_of_nonneg (by omega)]; omega
  have e2 : IntKind.u64.wrap ((a / 4096 : Nat) : Int) = ((a / 4096 : Nat) : Int) := by rw [IntKind.wrap_u64]; omega
  have e3 : IntKind.u64.wrap (m : Int) = (m : Int) := by rw [IntKind.wrap_u64]; omega
  have e4 : IntKind.u64.wrap ((x : Int) * 4096) = ((x * 4096 : Nat) : Int) := by rw [IntKind.wrap_u64]; omega
  generalize hX : x * 4096 = X at *
  clear h ha hn2 hc ht hx c1 c2 c3 c4 c5 c6 hcx htx hX
  generalize a / 4096 = k at *
  go_enter Tryz.func12, Tryz.ntmps12
  go_wp2_with (go_at_call 18; refine HC.out.mono ?_; rintro e w' ⟨rfl, rfl⟩)
  refine HT.out.mono ?_
  rintro e w1 ⟨rfl, hb1⟩
  have B1 := Lib.hid hb1
  clear hb1
  go_wp2_with fail
  go_ret
  exact ⟨w1.heap.size, rfl, heap_alloc_new _ _, B1.out.alloc B1.out.size _, B1.out.size⟩

set_option maxRecDepth 100000 in
set_option maxHeartbeats 8000000 in
theorem map_full (mb : Nat) (S : Nat → Prop) (q c : Nat) (V : Nat → Option Pg) (g : Nat) (F : Nat → Option Nat) (a : Nat) (n perm : Int) (w : World) (h : VmAt w mb S q c V g F) (ha : a < 18446744073709551616) (hn2 : n < 9223372036854775808) (hc : checkF a n perm = 0) (ht : takeF V n.toNat (a / 4096) = none) (hq : ((q - c : Nat) : Int) < n) :
    Calls Tryz.prog 12 #[.pointer (some ⟨mb, 0, none⟩), .int .u64 (a : Int), .int .i64 n, .int .i64 perm] w fun e w' => e = .returned (errV 7) ∧ Below w.heap.size w w' := by
  obtain ⟨c1, c2, c3, c4, c5, c6⟩ := checkF_ok hc
  obtain ⟨m, rfl⟩ : ∃ m : Nat, n = (m : Int) := ⟨n.toNat, by omega⟩
  rw [Int.toNat_natCast] at ht c6
  have hcx := check_any a (m : Int) perm w ha (by omega) hn2
  rw [hc] at hcx
  replace hcx : Calls Tryz.prog 18 #[.int .u64 (a : Int), .int .i64 (m : Int), .int .i64 perm] w fun e w' => e = .returned .nilIface ∧ w = w' := hcx
  have HC := Lib.hid hcx
  have htx := taken_any mb S q c V g F (a / 4096) m w h c6
  rw [ht] at htx
  simp only [barV] at htx
  have HT := Lib.hid htx
  have H := Lib.hid h
  have e1 : (a : Int).tdiv 4096 = ((a / 4096 : Nat) : Int) := by rw [Int.tdiv_eq_ediv_of_nonneg (by omega)]; omega
  have e2 : IntKind.u64.wrap ((a / 4096 : Nat) : Int) = ((a / 4096 : Nat) : Int) := by rw [IntKind.wrap_u64]; omega
  have e3 : IntKind.u64.wrap (m : Int) = (m : Int) := by rw [IntKind.wrap_u64]; omega
  have hqc := h.count
  have hqq := h.quota
  have e5 : IntKind.i64.wrap ((q : Int) - (c : Int)) = ((q - c : Nat) : Int) := by rw [IntKind.wrap_i64]; omega
  generalize q - c = z at *
  clear h ha hn2 hc ht c1 c2 c3 c4 c5 c6 hcx htx hqc hqq
  generalize a / 4096 = k at *
  go_enter Tryz.func12, Tryz.ntmps12
  go_wp2_with (go_at_call 18; refine HC.out.mono ?_; rintro e w' ⟨rfl, rfl⟩)
  refine HT.out.mono ?_
  rintro e w1 ⟨rfl, hb1⟩
  have B1 := Lib.hid hb1
  have hV := H.out.below hb1
  have m0 : w1.drew.cell? ⟨mb, 0, none⟩ = some (.int .i64 (q : Int)) := by
    show w1.cell? _ = _
    rw [cell_of_row _ _ 0 _ _ _ hV.box]; rfl
  have m1 : w1.drew.cell? ⟨mb, 1, none⟩ = some (.map (some g)) := by
    show w1.cell? _ = _
    rw [cell_of_row _ _ 1 _ _ _ hV.box]; rfl
  have hlen : ∀ ty, (Builtin.len_ #[61] ty #[.map (some g)]).run Tryz.prog w1.drew = .ok (.int .i64 (c : Int)) w1.drew := fun ty => (hV.below (Below.refl _ _).drew).map.len Tryz.underlying61 ty
  clear hb1 hV HC HT H
  go_wp2_with fail
  go_region_held3 (fun wx => wx.cell? ⟨mb, 0, none⟩ = some (.int .i64 (q : Int)) ∧ wx.cell? ⟨mb, 1, none⟩ = some (.map (some g)) ∧ ∀ ty, (Builtin.len_ #[61] ty #[.map (some g)]).run Tryz.prog wx = .ok (.int .i64 (c : Int)) wx) (exact ⟨m0, m1, hlen⟩) (fail)
  go_wp2_with fail
  go_ret
  exact ⟨rfl, B1.out.drew⟩
end Go.Proofs.YtmnjkaimpejohaaGreatDoor
