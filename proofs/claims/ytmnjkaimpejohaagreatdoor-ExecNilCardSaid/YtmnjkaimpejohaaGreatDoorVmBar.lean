/- Layer 2: the first of some bytes whose page isn't mapped with a permission. -/
import Derived.Test.YtmnjkaimpejohaaGreatDoorVm
import Derived.Deep.LoopGhost
import Derived.WalkMore
namespace Go.Proofs.YtmnjkaimpejohaaGreatDoor
open Go.RowKit
set_option linter.unusedVariables false
set_option linter.unusedSimpArgs false

theorem and8 : ∀ a b : Fin 8, bits .and .i64 (a.val : Int) (b.val : Int) = ((a.val &&& b.val : Nat) : Int) := by decide +kernel
theorem and_perm {a b : Nat} (ha : a < 8) (hb : b < 8) : bits .and .i64 (a : Int) (b : Int) = ((a &&& b : Nat) : Int) := and8 ⟨a, ha⟩ ⟨b, hb⟩

/-- how many of n bytes from an address on lie in its page -/
def stepF (a n : Nat) : Nat := min n (4096 - a % 4096)
def barF (V : Nat → Option Pg) (perm : Nat) : Nat → Nat → Nat → Option Nat
  | 0, _, _ => none
  | f + 1, a, n => if n = 0 then none else match V (a / 4096) with
    | none => some a
    | some p => if p.perm &&& perm = perm then barF V perm f (a + stepF a n) (n - stepF a n) else some a
/-- the first of n bytes from an address on that may not be got at -/
def barredF (V : Nat → Option Pg) (perm a n : Nat) : Option Nat := barF V perm (n + 1) a n
def barV : Option Nat → Value
  | none => .tuple #[.int .u64 0, .bool false]
  | some a => .tuple #[.int .u64 (a : Int), .bool true]

theorem page_zero (w : World) : (zeroValue 72).run Tryz.prog w = .ok (.pointer none) w := by kernel_rfl
theorem page_perm {w : World} {b : Nat} {p : Pg} (ho : p.Ok) (h : w.heap[b]? = some (.cells p.cells.toArray 76)) : w.cell? ⟨b, 4096, none⟩ = some (.int .i64 (p.perm : Int)) := by
  rw [cell_of_row _ _ 4096 _ _ _ h]
  unfold Pg.cells
  rw [List.getElem?_toArray, List.getElem?_append_right (by simp [ho.len])]
  simp [ho.len]

set_option maxRecDepth 100000 in
set_option maxHeartbeats 4000000 in
theorem barred_any (mb : Nat) (S : Nat → Prop) (q c : Nat) (V : Nat → Option Pg) (g : Nat) (F : Nat → Option Nat) (a n perm : Nat) (w : World) (h : VmAt w mb S q c V g F) (ha : a < 18446744073709551616) (hn : n < 18446744073709551616) (hp : perm < 8) :
    Calls Tryz.prog 32 #[.pointer (some ⟨mb, 0, none⟩), .int .u64 (a : Int), .int .u64 (n : Int), .int .i64 (perm : Int)] w fun e w' => e = .returned (barV (barredF V perm a n)) ∧ w = w' := by
  obtain ⟨R, hR⟩ : ∃ R, barredF V perm a n = R := ⟨_, rfl⟩
  have HR0 : Hid (n < n + 1 ∧ a < 18446744073709551616 ∧ n < 18446744073709551616 ∧ barF V perm (n + 1) a n = R) := Lib.hid ⟨by omega, ha, hn, hR⟩
  rw [hR]
  have H := Lib.hid h
  have m1 : w.cell? ⟨mb, 1, none⟩ = some (.map (some g)) := by rw [cell_of_row _ _ 1 _ _ _ h.box]; rfl
  have HL : Hid (∀ k, k < 18446744073709551616 → (Instr.lookup 61 (.map (some g)) (.int .u64 ((k : Nat) : Int)) false).run Tryz.prog w = .ok (ptrV (F k)) w) := Lib.hid (fun k hk => h.map.look Tryz.underlying22 Tryz.underlying61 (page_zero w) hk)
  have HP := Lib.hid hp
  clear h ha hn hR hp
  go_enter Tryz.func32, Tryz.ntmps32
  go_wp2_with fail
  go_loopg [1, 2] (n + 1) (fun f x y wr => ∃ a n : Nat, x = .int .u64 (a : Int) ∧ y = .int .u64 (n : Int) ∧ w = wr ∧ Hid (n < f ∧ a < 18446744073709551616 ∧ n < 18446744073709551616 ∧ barF V perm f a n = R))
  case atStart => exact ⟨a, n, rfl, rfl, rfl, HR0⟩
  case round =>
    clear HR0
    obtain ⟨a, n, rfl, rfl, rfl, HR⟩ := hrel
    obtain ⟨h1, h2, h3, h4⟩ := HR.out
    cases gk with
    | zero => omega
    | succ f =>
      by_cases hn0 : n = 0
      · subst hn0
        obtain rfl : R = none := by rw [← h4]; rfl
        clear h1 h2 h3 h4 HR
        go_wp2_with fail
        go_ret2
        exact ⟨rfl, rfl⟩
      · have HB : Hid ((match V (a / 4096) with
          | none => some a
          | some p => if p.perm &&& perm = perm then barF V perm f (a + stepF a n) (n - stepF a n) else some a) = R) := Lib.hid (by
          rw [← h4]; exact (if_neg hn0).symm)
        have hnp : (0 : Int) < (n : Int) := by omega
        have e1 : (a : Int).tdiv 4096 = ((a / 4096 : Nat) : Int) := by rw [Int.tdiv_eq_ediv_of_nonneg (by omega)]; omega
        have e2 : IntKind.u64.wrap ((a / 4096 : Nat) : Int) = ((a / 4096 : Nat) : Int) := by rw [IntKind.wrap_u64]; omega
        have hl := HL.out (a / 4096) (by omega)
        cases hv : V (a / 4096) with
        | none =>
          have HB2 := HB.out
          rw [hv] at HB2
          obtain rfl : R = some a := HB2.symm
          rw [H.out.at_none hv] at hl
          replace hl : (Instr.lookup 61 (.map (some g)) (.int .u64 ((a / 4096 : Nat) : Int)) false).run Tryz.prog w = .ok (.pointer none) w := hl
          clear h1 h2 h3 h4 HR HB HB2 hv
          generalize a / 4096 = k at *
          go_wp2_with fail
          go_ret2
          exact ⟨rfl, rfl⟩
        | some p =>
          have HB2 := HB.out
          rw [hv] at HB2
          obtain ⟨b, hf, -, hpo, hpb⟩ := H.out.at_page hv
          rw [hf] at hl
          replace hl : (Instr.lookup 61 (.map (some g)) (.int .u64 ((a / 4096 : Nat) : Int)) false).run Tryz.prog w = .ok (.pointer (some ⟨b, 0, none⟩)) w := hl
          have hc := page_perm hpo hpb
          have ha8 := and_perm hpo.perm HP.out
          have HLOW : Hid (a / 4096 < 34359738368) := Lib.hid (H.out.low _ (by rw [hv]; simp))
          have hst : stepF a n ≤ n := by unfold stepF; omega
          have hs0 : 0 < stepF a n := by unfold stepF; omega
          have hs1 : a % 4096 + stepF a n ≤ 4096 := by unfold stepF; omega
          have hsc : (stepF a n = n ∧ ¬ (4096 - a % 4096 < n)) ∨ (stepF a n = 4096 - a % 4096 ∧ 4096 - a % 4096 < n) := by unfold stepF; omega
          generalize stepF a n = s at *
          have hsum : a + s < 18446744073709551616 := by have := HLOW.out; omega
          have e3 : (a : Int).tmod 4096 = ((a % 4096 : Nat) : Int) := by rw [Int.tmod_eq_emod_of_nonneg (by omega)]; omega
          have e4 : IntKind.u64.wrap ((a % 4096 : Nat) : Int) = ((a % 4096 : Nat) : Int) := by rw [IntKind.wrap_u64]; omega
          have e5 : IntKind.u64.wrap (4096 - ((a % 4096 : Nat) : Int)) = ((4096 - a % 4096 : Nat) : Int) := by rw [IntKind.wrap_u64]; omega
          have HN : Hid (n - s < f ∧ a + s < 18446744073709551616 ∧ n - s < 18446744073709551616) := Lib.hid (by omega)
          clear h1 h4 HR HB hv HLOW hs0 hs1 hpb hpo hf
          obtain ⟨rr, hrr⟩ : ∃ rr, 4096 - a % 4096 = rr := ⟨_, rfl⟩
          rw [hrr] at hsc e5
          clear hrr
          generalize a % 4096 = r at *
          generalize a / 4096 = k at *
          rcases hsc with ⟨rfl, hlt⟩ | ⟨rfl, hlt⟩
          · have e6 : IntKind.u64.wrap ((a : Int) + (s : Int)) = ((a + s : Nat) : Int) := by rw [IntKind.wrap_u64]; omega
            have e7 : IntKind.u64.wrap 0 = ((s - s : Nat) : Int) := by rw [IntKind.wrap_u64]; omega
            have hltI : ¬ (rr : Int) < (s : Int) := by omega
            generalize s - s = n2 at *
            generalize a + s = a2 at *
            clear h2 h3 hsum hst
            by_cases hok : p.perm &&& perm = perm
            · have HB3 : Hid (barF V perm f a2 n2 = R) := Lib.hid (by rw [← HB2]; exact (if_pos hok).symm)
              rw [hok] at ha8
              clear HB2 hok
              generalize p.perm = pp at *
              go_wp2_with fail
              go_roundg f
              case measure => omega
              case rel => exact ⟨a2, n2, rfl, rfl, rfl, Lib.hid ⟨HN.out.1, HN.out.2.1, HN.out.2.2, HB3.out⟩⟩
            · obtain rfl : R = some a := by rw [← HB2]; exact if_neg hok
              have hokI : ¬ ((p.perm &&& perm : Nat) : Int) = (perm : Int) := by omega
              clear HB2 hok
              generalize p.perm &&& perm = pa at *
              generalize p.perm = pp at *
              go_wp2_with fail
              go_ret2
              exact ⟨rfl, rfl⟩
          · have e6 : IntKind.u64.wrap ((a : Int) + (s : Int)) = ((a + s : Nat) : Int) := by rw [IntKind.wrap_u64]; omega
            have e7 : IntKind.u64.wrap ((n : Int) - (s : Int)) = ((n - s : Nat) : Int) := by rw [IntKind.wrap_u64]; omega
            have hltI : (s : Int) < (n : Int) := by omega
            generalize n - s = n2 at *
            generalize a + s = a2 at *
            clear h2 h3 hsum hst
            by_cases hok : p.perm &&& perm = perm
            · have HB3 : Hid (barF V perm f a2 n2 = R) := Lib.hid (by rw [← HB2]; exact (if_pos hok).symm)
              rw [hok] at ha8
              clear HB2 hok
              generalize p.perm = pp at *
              go_wp2_with fail
              go_roundg f
              case measure => omega
              case rel => exact ⟨a2, n2, rfl, rfl, rfl, Lib.hid ⟨HN.out.1, HN.out.2.1, HN.out.2.2, HB3.out⟩⟩
            · obtain rfl : R = some a := by rw [← HB2]; exact if_neg hok
              have hokI : ¬ ((p.perm &&& perm : Nat) : Int) = (perm : Int) := by omega
              clear HB2 hok
              generalize p.perm &&& perm = pa at *
              generalize p.perm = pp at *
              go_wp2_with fail
              go_ret2
              exact ⟨rfl, rfl⟩
end Go.Proofs.YtmnjkaimpejohaaGreatDoor
