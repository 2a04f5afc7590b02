/- Layer 4: tests as function values: one that tells an error unless something holds; the first of several that tells one. -/
import Derived.Test.YtmjfkcclhbpclaaDoorHeadF
import Derived.Deep.LoopGhost
import Derived.WalkMore
namespace Go.Proofs.YtmjfkcclhbpclaaDoor
open Go.RowKit
set_option linter.unusedVariables false
set_option linter.unusedSimpArgs false

/-- what a test answers -/
def TestPost (r : Option (Nat × Nat)) (w : World) (e : Ending) (w' : World) : Prop := (∃ v, e = .returned v ∧ ErrAt w' v r) ∧ Below w.heap.size w w'
/-- a function value that is such a test, from this world on -/
structure TestV (v : Value) (w : World) (r : Option (Nat × Nat)) : Prop where
  mk ::
  is : ∃ (F : FuncId) (b c : Array Value), v = .func (.func F) b c ∧ (∀ (args : Array Value) (w : World), (callFunc F args).run Tryd.prog w = .ok (.enter F args) w) ∧ ∀ wx, Below w.heap.size w wx → Calls Tryd.prog F (b ++ c) wx (TestPost r wx)
theorem TestV.below {v : Value} {w w' : World} {r : Option (Nat × Nat)} (h : TestV v w r) (hb : Below w.heap.size w w') : TestV v w' r := by
  obtain ⟨F, b, c, e, h1, h2⟩ := h.is
  exact ⟨F, b, c, e, h1, fun wx hx => h2 wx (bstep hb hx)⟩

set_option maxRecDepth 100000 in
set_option maxHeartbeats 4000000 in
theorem hspot_any (a c : Nat) (w : World) (ha : a < 18446744073709551616) : Calls Tryd.prog 21 #[.int .u64 (a : Int), .int .i64 (c : Int)] w (TestPost (some (a, c)) w) := by
  have HP : Hid (TestPost (some (a, c)) w (.returned (.iface 90 (.pointer (some ⟨w.heap.size, 0, none⟩)))) (w.alloc (.cells #[.int .u64 (a : Int), .iface 38 (.int .i64 (c : Int))] 95))) := Lib.hid ⟨⟨_, rfl, w.heap.size, rfl, heap_alloc_new _ _⟩, (Below.refl _ _).alloc (Nat.le_refl _) _⟩
  generalize TestPost (some (a, c)) w = P at *
  go_enter Tryd.func21, Tryd.ntmps21
  go_wp2_with fail
  exact HP.out
theorem enters_unless : ∀ (args : Array Value) (w : World), (callFunc 69 args).run Tryd.prog w = .ok (.enter 69 args) w := enters_of Tryd.func69 (by kernel_rfl) rfl
set_option maxRecDepth 100000 in
set_option maxHeartbeats 4000000 in
theorem unless1_any (ok : Bool) (a c b0 b1 b2 : Nat) (w : World) (ha : a < 18446744073709551616) (h0 : w.cell? ⟨b0, 0, none⟩ = some (.bool ok)) (h1 : w.cell? ⟨b1, 0, none⟩ = some (.int .u64 (a : Int))) (h2 : w.cell? ⟨b2, 0, none⟩ = some (.int .i64 (c : Int))) :
    Calls Tryd.prog 69 #[.pointer (some ⟨b0, 0, none⟩), .pointer (some ⟨b1, 0, none⟩), .pointer (some ⟨b2, 0, none⟩)] w (TestPost (unF ok a c) w) := by
  cases ok with
  | true =>
    have HP : Hid (TestPost none w (.returned .nilIface) w) := Lib.hid ⟨⟨_, rfl, rfl⟩, Below.refl _ _⟩
    show Calls _ _ _ _ (TestPost none w)
    generalize TestPost none w = P at *
    go_enter Tryd.func69, Tryd.ntmps69
    go_wp2_with fail
    exact HP.out
  | false =>
    have HS := Lib.hid (hspot_any a c w ha)
    show Calls _ _ _ _ (TestPost (some (a, c)) w)
    have HP : Hid (∀ e w', TestPost (some (a, c)) w e w' → ∃ v, e = .returned v ∧ TestPost (some (a, c)) w (.returned v) w') := Lib.hid (fun e w' h => by
      obtain ⟨⟨v, rfl, h1⟩, h2⟩ := h
      exact ⟨v, rfl, ⟨v, rfl, h1⟩, h2⟩)
    generalize TestPost (some (a, c)) w = P at *
    go_enter Tryd.func69, Tryd.ntmps69
    go_wp2_with fail
    refine HS.out.mono ?_
    intro e w' h
    obtain ⟨v, rfl, hv⟩ := HP.out e w' h
    have HV := Lib.hid hv
    clear h hv HP HS
    go_wp2_with fail
    exact HV.out
set_option maxRecDepth 100000 in
set_option maxHeartbeats 4000000 in
theorem unless_any (ok : Bool) (a c : Nat) (w : World) (ha : a < 18446744073709551616) :
    Calls Tryd.prog 45 #[.bool ok, .int .u64 (a : Int), .int .i64 (c : Int)] w fun e w' => (∃ v, e = .returned v ∧ TestV v w' (unF ok a c)) ∧ Below w.heap.size w w' := by
  obtain ⟨w3, hw3⟩ : ∃ w3, ((w.alloc (.cells #[.bool ok] 4)).alloc (.cells #[.int .u64 (a : Int)] 22)).alloc (.cells #[.int .i64 (c : Int)] 38) = w3 := ⟨_, rfl⟩
  have B3 : Hid (Below w.heap.size w w3) := Lib.hid (by
    rw [← hw3]
    have h1 := (Below.refl w.heap.size w).alloc (Nat.le_refl _) (.cells #[.bool ok] 4)
    have h2 := h1.alloc h1.size (.cells #[.int .u64 (a : Int)] 22)
    exact h2.alloc h2.size _)
  have HT : Hid (TestV (.func (.func 69) #[] #[.pointer (some ⟨w.heap.size, 0, none⟩), .pointer (some ⟨w.heap.size + 1, 0, none⟩), .pointer (some ⟨w.heap.size + 2, 0, none⟩)]) w3 (unF ok a c)) := Lib.hid ⟨_, _, _, rfl, enters_unless, fun wx hb => by
    have k0 : w3.heap[w.heap.size]? = some (.cells #[.bool ok] 4) := by
      rw [← hw3, heap_alloc_old _ _ (by simp; omega), heap_alloc_old _ _ (by simp)]
      exact heap_alloc_new _ _
    have k1 : w3.heap[w.heap.size + 1]? = some (.cells #[.int .u64 (a : Int)] 22) := by
      rw [← hw3, heap_alloc_old _ _ (by simp)]
      have := heap_alloc_new (w.alloc (.cells #[.bool ok] 4)) (.cells #[.int .u64 (a : Int)] 22)
      rwa [World.size_alloc] at this
    have k2 : w3.heap[w.heap.size + 2]? = some (.cells #[.int .i64 (c : Int)] 38) := by
      rw [← hw3]
      have := heap_alloc_new ((w.alloc (.cells #[.bool ok] 4)).alloc (.cells #[.int .u64 (a : Int)] 22)) (.cells #[.int .i64 (c : Int)] 38)
      rwa [World.size_alloc, World.size_alloc] at this
    have k0' := (hb.block _ (lt_of_block k0)).trans k0
    have k1' := (hb.block _ (lt_of_block k1)).trans k1
    have k2' := (hb.block _ (lt_of_block k2)).trans k2
    exact unless1_any ok a c _ _ _ wx ha (by rw [cell_of_row _ _ 0 _ _ _ k0']; rfl) (by rw [cell_of_row _ _ 0 _ _ _ k1']; rfl) (by rw [cell_of_row _ _ 0 _ _ _ k2']; rfl)⟩
  have HW3 := Lib.hid hw3
  clear hw3
  go_enter Tryd.func45, Tryd.ntmps45
  go_wp2_with fail
  rw [HW3.out]
  go_ret
  exact ⟨⟨_, rfl, HT.out⟩, B3.out⟩

theorem firstF_at : ∀ (rs : List (Option (Nat × Nat))) (k : Nat) (x : Nat × Nat), (∀ j, j < k → rs[j]? = some none) → rs[k]? = some (some x) → firstF rs = some x
  | [], k, x, _, h => by simp at h
  | none :: rs, 0, x, _, h => by simp at h
  | none :: rs, k + 1, x, h1, h2 => firstF_at rs k x (fun j hj => by have := h1 (j + 1) (by omega); simpa using this) (by simpa using h2)
  | some y :: rs, 0, x, _, h => by simpa [firstF] using h
  | some y :: rs, k + 1, x, h1, h2 => by have := h1 0 (by omega); simp at this
theorem firstF_none : ∀ (rs : List (Option (Nat × Nat))), (∀ j, j < rs.length → rs[j]? = some none) → firstF rs = none
  | [], _ => rfl
  | none :: rs, h => firstF_none rs (fun j hj => by have := h (j + 1) (by simpa using hj); simpa using this)
  | some y :: rs, h => by have := h 0 (by simp); simp at this

set_option maxRecDepth 100000 in
set_option maxHeartbeats 8000000 in
theorem first_any (sb n cap : Nat) (vs : List Value) (rs : List (Option (Nat × Nat))) (w : World) (hv : vs.length = n) (hr : rs.length = n) (hnl : n ≤ 1048576) (hsb : sb < w.heap.size) (hc : ∀ (i : Nat) (v : Value), vs[i]? = some v → w.cell? ⟨sb, i, none⟩ = some v)
    (hT : ∀ (i : Nat) (v : Value) (r : Option (Nat × Nat)), vs[i]? = some v → rs[i]? = some r → TestV v w r) :
    Calls Tryd.prog 22 #[.slice (some ⟨sb, 0, none⟩) n cap] w (TestPost (firstF rs) w) := by
  have HC := Lib.hid hc
  have HT := Lib.hid hT
  have HL := Lib.hid (And.intro hv (And.intro hr hsb))
  have HPN : Hid (∀ w', (∀ j, j < n → rs[j]? = some none) → Below w.heap.size w w' → TestPost (firstF rs) w (.returned .nilIface) w') := Lib.hid (fun w' h hb => by
    rw [firstF_none rs (fun j hj => h j (by omega))]
    exact ⟨⟨_, rfl, rfl⟩, hb⟩)
  have HPS : Hid (∀ w' k x v, (∀ j, j < k → rs[j]? = some none) → rs[k]? = some (some x) → ErrAt w' v (some x) → Below w.heap.size w w' → TestPost (firstF rs) w (.returned v) w') := Lib.hid (fun w' k x v h h2 h3 hb => by
    rw [firstF_at rs k x h h2]
    exact ⟨⟨_, rfl, h3⟩, hb⟩)
  generalize TestPost (firstF rs) w = P at *
  have hnn : (n : Int) ≤ 1048576 := by omega
  clear hc hT hv hr hsb hnl
  go_enter Tryd.func22, Tryd.ntmps22
  go_wp2_with fail
  go_loopg [8] n (fun g iv wr => ∃ k : Nat, k + g = n ∧ iv = .int .i64 (k : Int) ∧ Hid (∀ j, j < k → rs[j]? = some none) ∧ Hid (Below w.heap.size w wr))
  case atStart => exact ⟨0, by omega, rfl, Lib.hid (fun j hj => by omega), Lib.hid (Below.refl _ _)⟩
  case round =>
    obtain ⟨k, hk, rfl, HJ, HB⟩ := hrel
    cases gk with
    | zero =>
      have hkn : k = n := by omega
      subst hkn
      clear hk
      go_wp2_with fail
      exact HPN.out _ HJ.out HB.out
    | succ g =>
      have hlt : k < n := by omega
      obtain ⟨v, hv⟩ : ∃ v, vs[k]? = some v := ⟨_, List.getElem?_eq_getElem (by have := HL.out.1; omega)⟩
      obtain ⟨r, hr⟩ : ∃ r, rs[k]? = some r := ⟨_, List.getElem?_eq_getElem (by have := HL.out.2.1; omega)⟩
      have c0 : wr.cell? ⟨sb, k, none⟩ = some v := (HB.out.cell (p := ⟨sb, k, none⟩) HL.out.2.2).trans (HC.out k v hv)
      obtain ⟨F, b, c, rfl, hen, hcall⟩ := (HT.out k v r hv hr).is
      have HCL := Lib.hid (hcall wr HB.out)
      have HR := Lib.hid hr
      have HK := Lib.hid hk
      have i0 : (0 : Int) ≤ (k : Int) := by omega
      have i1 : (k : Int) < (n : Int) := by omega
      clear hk hv hr hcall
      go_wp2_with fail
      refine HCL.out.mono ?_
      rintro e w2 ⟨⟨u, rfl, hu⟩, hb2⟩
      have B2 := Lib.hid (bstep HB.out hb2)
      clear hb2
      cases r with
      | none =>
        obtain rfl : u = _ := hu
        have HJ2 : Hid (∀ j, j < k + 1 → rs[j]? = some none) := Lib.hid (fun j hj => by
          by_cases h : j < k
          · exact HJ.out j h
          · obtain rfl : j = k := by omega
            exact HR.out)
        clear c0 HCL hen
        go_wp2_with fail
        go_roundg g
        case measure => have := HK.out; omega
        case rel => exact ⟨k + 1, by have := HK.out; omega, by go_num, HJ2, B2⟩
      | some x =>
        have HU := Lib.hid hu
        obtain ⟨sb2, rfl, -⟩ := hu
        clear c0 HCL hen
        go_wp2_with fail
        exact HPS.out _ k x _ HJ.out HR.out HU.out B2.out
end Go.Proofs.YtmjfkcclhbpclaaDoor
