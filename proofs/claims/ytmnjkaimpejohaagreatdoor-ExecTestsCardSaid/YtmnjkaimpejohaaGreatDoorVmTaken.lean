/- Layer 2: the first of some pages that is mapped. -/
import Derived.Test.YtmnjkaimpejohaaGreatDoorVmByte
import Derived.Deep.LoopGhost
import Derived.WalkMore
namespace Go.Proofs.YtmnjkaimpejohaaGreatDoor
open Go.RowKit
set_option linter.unusedVariables false
set_option linter.unusedSimpArgs false

/-- the first of m pages from one on that is mapped -/
def takeF (V : Nat → Option Pg) : Nat → Nat → Option Nat
  | 0, _ => none
  | m + 1, n => if (V n).isSome then some n else takeF V m (n + 1)
theorem takeF_none {V : Nat → Option Pg} : ∀ {m n : Nat}, (∀ k, n ≤ k → k < n + m → V k = none) → takeF V m n = none
  | 0, _, _ => rfl
  | m + 1, n, h => by
    rw [takeF, h n (Nat.le_refl _) (by omega), if_neg (by simp)]
    exact takeF_none (fun k h1 h2 => h k (by omega) (by omega))
theorem takeF_some {V : Nat → Option Pg} : ∀ {m n x : Nat}, n ≤ x → x < n + m → V x ≠ none → (∀ k, n ≤ k → k < x → V k = none) → takeF V m n = some x
  | 0, n, x, h1, h2, _, _ => by omega
  | m + 1, n, x, h1, h2, hx, h => by
    rw [takeF]
    by_cases e : x = n
    · subst e
      rw [if_pos (Option.isSome_iff_ne_none.2 hx)]
    · rw [h n (Nat.le_refl _) (by omega), if_neg (by simp)]
      exact takeF_some (by omega) (by omega) hx (fun k h3 h4 => h k (by omega) h4)
theorem takeF_free {V : Nat → Option Pg} : ∀ {m n : Nat}, takeF V m n = none → ∀ k, n ≤ k → k < n + m → V k = none
  | 0, n, _, k, h1, h2 => by omega
  | m + 1, n, h, k, h1, h2 => by
    rw [takeF] at h
    split at h
    · cases h
    · rename_i hn
      by_cases e : k = n
      · subst e
        cases hv : V k with
        | none => rfl
        | some p => rw [hv] at hn; simp at hn
      · exact takeF_free h k (by omega) (by omega)

set_option maxRecDepth 100000 in
set_option maxHeartbeats 4000000 in
theorem taken_few (mb : Nat) (S : Nat → Prop) (q c : Nat) (V : Nat → Option Pg) (g : Nat) (F : Nat → Option Nat) (a n : Nat) (w : World) (h : VmAt w mb S q c V g F) (hlow : a + n ≤ 34359738368) (hfew : n ≤ c) :
    Calls Tryz.prog 19 #[.pointer (some ⟨mb, 0, none⟩), .int .u64 (a : Int), .int .u64 (n : Int)] w fun e w' => e = .returned (barV (takeF V n a)) ∧ w = w' := by
  obtain ⟨R, hR⟩ : ∃ R, takeF V n a = R := ⟨_, rfl⟩
  have HR0 : Hid (takeF V n a = R) := Lib.hid hR
  rw [hR]
  have H := Lib.hid h
  have hq : c ≤ 65536 := Nat.le_trans h.count h.quota
  have m1 : w.cell? ⟨mb, 1, none⟩ = some (.map (some g)) := by rw [cell_of_row _ _ 1 _ _ _ h.box]; rfl
  have HL : Hid (∀ k, k < 18446744073709551616 → (Instr.lookup 61 (.map (some g)) (.int .u64 ((k : Nat) : Int)) false).run Tryz.prog w = .ok (ptrV (F k)) w) := Lib.hid (fun k hk => h.map.look Tryz.underlying22 Tryz.underlying61 (page_zero w) hk)
  have hlen := fun ty => h.map.len (T := 61) Tryz.underlying61 ty
  have e1 : IntKind.u64.wrap (c : Int) = (c : Int) := by rw [IntKind.wrap_u64]; omega
  have e2 : IntKind.u64.wrap ((a : Int) + (n : Int)) = ((a + n : Nat) : Int) := by rw [IntKind.wrap_u64]; omega
  have HLOW := Lib.hid hlow
  have hfI : (n : Int) ≤ (c : Int) := by omega
  clear h hR hq hfew hlow
  go_enter Tryz.func19, Tryz.ntmps19
  go_wp2_with fail
  clear hlen e1 hfI
  go_loopg [8] n (fun f x wr => ∃ j : Nat, x = .int .u64 ((a + j : Nat) : Int) ∧ Hid (j + f = n ∧ takeF V f (a + j) = R) ∧ w = wr)
  case atStart => exact ⟨0, rfl, Lib.hid ⟨by omega, HR0.out⟩, rfl⟩
  case round =>
    clear HR0
    obtain ⟨j, rfl, HJ, rfl⟩ := hrel
    obtain ⟨h1, h2⟩ := HJ.out
    cases gk with
    | zero =>
      obtain rfl : R = none := h2.symm
      have hn : ¬ ((a + j : Nat) : Int) < ((a + n : Nat) : Int) := by omega
      clear h1 h2 HJ
      generalize a + j = x at *
      generalize a + n = y at *
      go_wp2_with fail
      go_ret2
      exact ⟨rfl, rfl⟩
    | succ f =>
      have hn : ((a + j : Nat) : Int) < ((a + n : Nat) : Int) := by omega
      have hl0 := HL.out (a + j) (by have := HLOW.out; omega)
      cases hv : V (a + j) with
      | none =>
        rw [H.out.at_none hv] at hl0
        have hl : (Instr.lookup 61 (.map (some g)) (.int .u64 ((a + j : Nat) : Int)) false).run Tryz.prog w = .ok (.pointer none) w := hl0
        have HN : Hid ((j + 1) + f = n ∧ takeF V f (a + (j + 1)) = R) := Lib.hid ⟨by omega, by
          rw [← h2, takeF, hv, if_neg (by simp)]
          rfl⟩
        have e3 : IntKind.u64.wrap (((a + j : Nat) : Int) + 1) = ((a + (j + 1) : Nat) : Int) := by rw [IntKind.wrap_u64]; have := HLOW.out; omega
        clear h1 h2 HJ hl0 hv
        obtain ⟨x2, hx2⟩ : ∃ x2, a + (j + 1) = x2 := ⟨_, rfl⟩
        rw [hx2] at e3
        have HX2 := Lib.hid hx2
        clear hx2
        generalize a + j = x at *
        generalize a + n = y at *
        go_wp2_with fail
        go_roundg f
        case measure => omega
        case rel => exact ⟨j + 1, by rw [HX2.out], HN, rfl⟩
      | some p =>
        obtain ⟨b, hf, -⟩ := H.out.at_page hv
        rw [hf] at hl0
        have hl : (Instr.lookup 61 (.map (some g)) (.int .u64 ((a + j : Nat) : Int)) false).run Tryz.prog w = .ok (.pointer (some ⟨b, 0, none⟩)) w := hl0
        have HR9 : Hid (R = some (a + j)) := Lib.hid (by rw [← h2, takeF, hv, if_pos (by simp)])
        clear h1 h2 HJ hl0 hv hf
        generalize a + j = x at *
        generalize a + n = y at *
        go_wp2_with fail
        go_ret2
        exact ⟨by rw [HR9.out]; rfl, rfl⟩

theorem nk_key {P : Program} {K k : Nat} (hK : P.underlying K = some (.int .u64)) (hk : k < 18446744073709551616) : WideAt.IsKeyLit (nk k) := (Maps.int_keyed hK).key (Maps.keyOf_int_mk hK (nk_wf hk))

/-- what has been found while the pages were gone through: those that are still to come are 'left' -/
def TakeAt (V : Nat → Option Pg) (a n : Nat) (left : Lit → Bool) (l : Nat) (fd : Bool) : Prop :=
  (fd = false ∧ l = 0 ∧ ∀ k, a ≤ k → k < a + n → V k ≠ none → left (nk k) = true) ∨
  (fd = true ∧ V l ≠ none ∧ a ≤ l ∧ l < a + n ∧ ∀ k, a ≤ k → k < a + n → V k ≠ none → left (nk k) = true ∨ l ≤ k)
theorem strike_other {left : Lit → Bool} {j k : Nat} (h : j ≠ k) : (left (nk j) && !(nk j).sameKey (nk k)) = left (nk j) := by
  rw [Maps.sameKey_ne (fun e => h (nk_inj e))]
  simp
theorem TakeAt.skip {V : Nat → Option Pg} {a n : Nat} {left : Lit → Bool} {l k : Nat} {fd : Bool} (h : TakeAt V a n left l fd) (hk : ¬ (a ≤ k ∧ k < a + n) ∨ (fd = true ∧ l ≤ k)) : TakeAt V a n (fun z => left z && !z.sameKey (nk k)) l fd := by
  rcases h with ⟨rfl, rfl, h⟩ | ⟨rfl, h1, h2, h3, h⟩
  · refine .inl ⟨rfl, rfl, fun j h4 h5 h6 => ?_⟩
    have hne : j ≠ k := fun e => by
      rcases hk with hk | ⟨hk, -⟩
      · exact hk ⟨by omega, by omega⟩
      · cases hk
    show (left (nk j) && !(nk j).sameKey (nk k)) = true
    rw [strike_other hne]
    exact h j h4 h5 h6
  · refine .inr ⟨rfl, h1, h2, h3, fun j h4 h5 h6 => ?_⟩
    by_cases e : j = k
    · right
      rcases hk with hk | ⟨-, hk⟩
      · exact absurd ⟨by omega, by omega⟩ hk
      · omega
    · show (left (nk j) && !(nk j).sameKey (nk k)) = true ∨ _
      rw [strike_other e]
      exact h j h4 h5 h6
theorem TakeAt.take {V : Nat → Option Pg} {a n : Nat} {left : Lit → Bool} {l k : Nat} {fd : Bool} (h : TakeAt V a n left l fd) (hv : V k ≠ none) (h1 : a ≤ k) (h2 : k < a + n) (hk : fd = false ∨ k < l) : TakeAt V a n (fun z => left z && !z.sameKey (nk k)) k true := by
  refine .inr ⟨rfl, hv, h1, h2, fun j h4 h5 h6 => ?_⟩
  by_cases e : j = k
  · right; omega
  · show (left (nk j) && !(nk j).sameKey (nk k)) = true ∨ _
    rw [strike_other e]
    rcases h with ⟨rfl, rfl, h⟩ | ⟨rfl, h7, h8, h9, h⟩
    · exact .inl (h j h4 h5 h6)
    · rcases h j h4 h5 h6 with h | h
      · exact .inl h
      · right
        rcases hk with hk | hk
        · cases hk
        · omega
theorem TakeAt.done {V : Nat → Option Pg} {a n : Nat} {left : Lit → Bool} {l : Nat} {fd : Bool} (h : TakeAt V a n left l fd) (hl : ∀ kl, left kl = false) : barV (takeF V n a) = .tuple #[.int .u64 (l : Int), .bool fd] := by
  rcases h with ⟨rfl, rfl, h⟩ | ⟨rfl, h1, h2, h3, h⟩
  · rw [takeF_none (fun k h1 h2 => by
      by_cases e : V k = none
      · exact e
      · have := h k h1 h2 e
        rw [hl] at this
        cases this)]
    rfl
  · rw [takeF_some h2 h3 h1 (fun k h4 h5 => by
      by_cases e : V k = none
      · exact e
      · rcases h k h4 (by omega) e with h6 | h6
        · rw [hl] at h6; cases h6
        · omega)]
    rfl

set_option maxRecDepth 100000 in
set_option maxHeartbeats 8000000 in
theorem taken_many (mb : Nat) (S : Nat → Prop) (q c : Nat) (V : Nat → Option Pg) (g : Nat) (F : Nat → Option Nat) (a n : Nat) (w : World) (h : VmAt w mb S q c V g F) (hlow : a + n ≤ 34359738368) (hmany : c < n) :
    Calls Tryz.prog 19 #[.pointer (some ⟨mb, 0, none⟩), .int .u64 (a : Int), .int .u64 (n : Int)] w fun e w' => e = .returned (barV (takeF V n a)) ∧ Below w.heap.size w w' := by
  obtain ⟨R, hR⟩ : ∃ R, barV (takeF V n a) = R := ⟨_, rfl⟩
  have HR0 : Hid (∀ left l fd, TakeAt V a n left l fd → (∀ kl, left kl = false) → R = .tuple #[.int .u64 ((l : Nat) : Int), .bool fd]) := Lib.hid (fun left l fd h1 h2 => by rw [← hR]; exact h1.done h2)
  rw [hR]
  have hq : c ≤ 65536 := Nat.le_trans h.count h.quota
  have m1 : w.cell? ⟨mb, 1, none⟩ = some (.map (some g)) := by rw [cell_of_row _ _ 1 _ _ _ h.box]; rfl
  have hlen := fun ty => h.map.len (T := 61) Tryz.underlying61 ty
  obtain ⟨D, hown, hsz, hD⟩ := h.map
  have HV : Hid (∀ k, k < 18446744073709551616 → (Maps.has D (nk k) = true ↔ V k ≠ none)) := Lib.hid (fun k hk => by
    rw [(hD k hk).2]
    constructor
    · intro hk2 e
      rw [h.at_none e] at hk2
      cases hk2
    · intro hk2
      cases hf : F k with
      | none => exact absurd (h.out k hf) hk2
      | some b => rfl)
  have HOWN := Lib.hid hown
  have law := Maps.int_keyed (P := Tryz.prog) (k := 22) Tryz.underlying22
  have LAW := Lib.hid law
  have HLT : Hid (mb < w.heap.size ∧ g < w.heap.size) := Lib.hid ⟨h.lt, h.map.lt⟩
  have HB := Lib.hid h.box
  have HSZ := Lib.hid hsz
  have HLOW := Lib.hid hlow
  have HV35 : Hid (∀ k, V k ≠ none → k < 34359738368) := Lib.hid h.low
  have e1 : IntKind.u64.wrap (c : Int) = (c : Int) := by rw [IntKind.wrap_u64]; omega
  have hfI : ¬ (n : Int) ≤ (c : Int) := by omega
  have INVK : Hid (∀ key kl, keyOf Tryz.prog 22 key = some kl → ∃ x, key = Value.int .u64 x) := Lib.hid (fun key kl hh => by
    obtain ⟨x, e, -⟩ := Maps.keyOf_int_inv Tryz.underlying22 hh
    exact ⟨x, e⟩)
  have INVV : Hid (∀ v y, ptrR v = some y → ∃ o, v = ptrV o) := Lib.hid (fun v y hh => by
    obtain ⟨o, e, -⟩ := ptrR_inv hh
    exact ⟨o, e⟩)
  clear h hR hown hsz hD law hq hlow hmany
  go_enter Tryz.func19, Tryz.ntmps19
  go_wp2_with (first | (at_range; refine wpList_range_own _ rfl _ 61 rfl 22 72 LAW.out Tryz.underlying61 ptrR g c D rfl HOWN.out ?_; intro w0 hrg0 hg0 hs0))
  have B0 : Hid (Below w.heap.size w w0) := Lib.hid ⟨hg0.os, hg0.tape, hg0.output, hg0.size, fun k hk => hg0.block k hk (by simp)⟩
  have HC0 : Maps.size D = c := HSZ.out
  rw [HC0] at hrg0
  have HRG0 := Lib.hid hrg0
  have HT0 : Hid (TakeAt V a n (Maps.has D) 0 false) := Lib.hid (.inl ⟨rfl, rfl, fun k h1 h2 h3 => (HV.out k (by have := HV35.out k h3; omega)).2 h3⟩)
  obtain ⟨r, hr⟩ : ∃ r, w.heap.size = r := ⟨_, rfl⟩
  rw [hr] at B0 HRG0 HLT ⊢
  have HWR := Lib.hid hr
  clear hr
  clear hrg0 hg0 hs0 hlen m1 e1 hfI HC0
  go_loopg [9, 10] c (fun f x y wr => ∃ (left : Lit → Bool) (l : Nat) (fd : Bool), x = .int .u64 (l : Int) ∧ y = .bool fd ∧ Hid (TakeAt V a n left l fd ∧ l < 34359738368) ∧ Hid (wr.ranges Tryz.prog 22 ptrR g r c D left f) ∧ Hid (Below r w wr))
  case atStart => exact ⟨_, 0, false, rfl, rfl, Lib.hid ⟨HT0.out, by omega⟩, HRG0, B0⟩
  case round =>
    clear HT0 HRG0 B0
    obtain ⟨left, l, fd, rfl, rfl, HT, HRG, HB9⟩ := hrel
    go_wp2_with (first | (at_next; refine wpList_next_ranges _ rfl _ rfl 22 LAW.out ptrR (Value.int .u64) ptrV INVK.out INVV.out g r c D left gk rfl HRG.out ?_ ?_))
    · intro hc0 hl0
      have HR9 := HR0.out left l fd HT.out.1 hl0
      clear HR0
      go_wp2_with fail
      go_ret2
      exact ⟨by rw [HR9]; rfl, by rw [HWR.out]; exact HB9.out⟩
    · intro x o kl y ps w1 cnt1 hkey hlk hRy hat hrg1 hlt hg1 hs1 hen
      obtain ⟨x', ex, rfl, hwx⟩ := Maps.keyOf_int_inv Tryz.underlying22 hkey
      cases ex
      have hbx := wf_u64_bounds hwx
      obtain ⟨k, rfl⟩ : ∃ k : Nat, x = (k : Int) := ⟨x.toNat, by omega⟩
      have hk64 : k < 18446744073709551616 := by unfold M64 at hbx; omega
      have hvk : V k ≠ none := (HV.out k hk64).1 (Maps.has_true_of_atKey hat)
      have hk35 := HV35.out k hvk
      have BN : Hid (Below r w w1) := Lib.hid (HB9.out.trans ⟨hg1.os, hg1.tape, hg1.output, hg1.size, fun j hj => hg1.block j (Nat.lt_trans hj HRG.out.lt) (by simp; omega)⟩)
      have HRN := Lib.hid hrg1
      have hlt9 := Lib.hid hlt
      have HK := Lib.hid (And.intro hvk hk35)
      clear hrg1 hlt hg1 hs1 hat hRy hlk hkey hbx hwx hvk hk35 hk64
      by_cases c1 : a ≤ k
      · have e3 : IntKind.u64.wrap ((k : Int) - (a : Int)) = ((k - a : Nat) : Int) := by rw [IntKind.wrap_u64]; have := HK.out.2; omega
        have i1 : (a : Int) ≤ (k : Int) := by omega
        by_cases c2 : k - a < n
        · have i2 : ((k - a : Nat) : Int) < (n : Int) := by omega
          have hkn : k < a + n := by omega
          cases fd with
          | false =>
            have HTN := Lib.hid (HT.out.1.take HK.out.1 c1 hkn (.inl rfl))
            generalize k - a = d at *
            clear c1 c2 hkn
            go_wp2_with fail
            go_roundg cnt1
            case measure => exact hlt9.out
            case rel => exact ⟨_, k, true, by go_num, rfl, Lib.hid ⟨HTN.out, HK.out.2⟩, HRN, BN⟩
          | true =>
            by_cases c3 : k < l
            · have HTN := Lib.hid (HT.out.1.take HK.out.1 c1 hkn (.inr c3))
              have i3 : (k : Int) < (l : Int) := by omega
              generalize k - a = d at *
              clear c1 c2 hkn c3
              go_wp2_with fail
              go_roundg cnt1
              case measure => exact hlt9.out
              case rel => exact ⟨_, k, true, by go_num, rfl, Lib.hid ⟨HTN.out, HK.out.2⟩, HRN, BN⟩
            · have HTN := Lib.hid (HT.out.1.skip (k := k) (.inr ⟨rfl, by omega⟩))
              have i3 : ¬ (k : Int) < (l : Int) := by omega
              generalize k - a = d at *
              clear c1 c2 hkn c3
              go_wp2_with fail
              go_roundg cnt1
              case measure => exact hlt9.out
              case rel => exact ⟨_, l, true, by go_num, rfl, Lib.hid ⟨HTN.out, HT.out.2⟩, HRN, BN⟩
        · have i2 : ¬ ((k - a : Nat) : Int) < (n : Int) := by omega
          have HTN := Lib.hid (HT.out.1.skip (k := k) (.inl (by omega)))
          generalize k - a = d at *
          clear c1 c2
          go_wp2_with fail
          go_roundg cnt1
          case measure => exact hlt9.out
          case rel => exact ⟨_, l, fd, by go_num, rfl, Lib.hid ⟨HTN.out, HT.out.2⟩, HRN, BN⟩
      · have i1 : ¬ (a : Int) ≤ (k : Int) := by omega
        have HTN := Lib.hid (HT.out.1.skip (k := k) (.inl (by omega)))
        clear c1
        go_wp2_with fail
        go_roundg cnt1
        case measure => exact hlt9.out
        case rel => exact ⟨_, l, fd, by go_num, rfl, Lib.hid ⟨HTN.out, HT.out.2⟩, HRN, BN⟩
theorem taken_any (mb : Nat) (S : Nat → Prop) (q c : Nat) (V : Nat → Option Pg) (g : Nat) (F : Nat → Option Nat) (a n : Nat) (w : World) (h : VmAt w mb S q c V g F) (hlow : a + n ≤ 34359738368) :
    Calls Tryz.prog 19 #[.pointer (some ⟨mb, 0, none⟩), .int .u64 (a : Int), .int .u64 (n : Int)] w fun e w' => e = .returned (barV (takeF V n a)) ∧ Below w.heap.size w w' := by
  by_cases hf : n ≤ c
  · refine (taken_few mb S q c V g F a n w h hlow hf).mono ?_
    rintro e w' ⟨h1, rfl⟩
    exact ⟨h1, Below.refl _ _⟩
  · exact taken_many mb S q c V g F a n w h hlow (by omega)
end Go.Proofs.YtmnjkaimpejohaaGreatDoor
