/- The document's memory: bytes are told and written, within the first of the pages that all examples map. -/
import Derived.Test.YtmnjkaimpejohaaGreatDoorRmMap
import Derived.Test.YtmnjkaimpejohaaGreatDoorVmLoad
import Derived.Deep.DeepCutAuto
import Derived.Deep.RegionHeld3
namespace Go.Proofs.YtmnjkaimpejohaaGreatDoor
open Go.RowKit
set_option linter.unusedVariables false
set_option linter.unusedSimpArgs false

/-- the first page -/
theorem RM.first {w : World} {rb : Nat} {R : Nat → Prop} {ad : Option Addr} {n c : Nat} {L : List RP} (h : RM w rb R ad n c L) (hL : L.map (·.1) = rAds) :
    ∃ b o pb, ad = some ⟨b, o, none⟩ ∧ n = 4 ∧ R pb ∧ w.cell? ⟨b, o, none⟩ = some (.pointer (some ⟨pb, 0, none⟩)) ∧ (∃ pm : Nat, w.cell? ⟨pb, 1, none⟩ = some (.int .i64 (pm : Int))) ∧ (∀ j, w.frozen? ⟨pb, j, none⟩ = false) ∧ (∀ j, j < 4096 → ∃ x : Nat, x < 256 ∧ w.cell? ⟨pb, 2 + j, none⟩ = some (.int .u8 (x : Int))) ∧ ∃ r, L = (65536, pb) :: r := by
  obtain ⟨⟨a0, pb⟩, r, rfl⟩ : ∃ x r, L = x :: r := by
    rcases L with _ | ⟨x, r⟩
    · simp [rAds] at hL
    · exact ⟨x, r, rfl⟩
  have h0 : a0 = 65536 := by simp [rAds] at hL; exact hL.1
  subst h0
  have hn := h.len
  have hl : (List.map (·.1) ((65536, pb) :: r)).length = 4 := by rw [hL]; rfl
  rw [List.length_map, hn] at hl
  obtain ⟨⟨b, o, rfl, q0⟩, -⟩ := h.at_ (k := 0) rfl
  obtain ⟨-, hp2, C, c1, c2, c3, ⟨pm, c4⟩, c5⟩ := h.page (65536, pb) (by simp)
  simp only [Nat.zero_mul, Nat.add_zero] at q0
  refine ⟨b, o, pb, rfl, hl, hp2, q0, ⟨pm, ?_⟩, fun j => frozen_of_row _ _ _ _ _ c1, fun j hj => ?_, r, rfl⟩
  · rw [cell_of_row _ _ 1 _ _ _ c1]; exact c4
  · obtain ⟨x, hx, hc⟩ := c5 j hj
    exact ⟨x, hx, by rw [cell_of_row _ _ (2 + j) _ _ _ c1]; exact hc⟩
theorem results_tmpcell {P : Program} {fn : Func} {p q : Tmp} {ty : TypeId} (h : fn.results = #[.tmp p, .cell q ty]) (tmps : Array Value) (w : World) (g : Nat) (t : TypeId) (cs : Array Value) (fr : Nat × Nat) (d : TypeDesc)
    (hp : tmps.getD q undef = .pointer (some ⟨g, 0, none⟩)) (hg : w.heap[g]? = some (.cells cs t fr))
    (hu : P.underlying ty = some d) (hd : (match d with | .struct _ | .array _ _ => true | _ => false) = true) (hi : (P.info? ty).map (·.size) = some cs.size) :
    (results fn tmps).run P w = .ok (.tuple #[tmps.getD p undef, .agg cs]) w := by
  have hp' : tmps[q]?.getD undef = .pointer (some ⟨g, 0, none⟩) := by simpa using hp
  simp [results, h, hp', asAddr, run_loadVar_row w g t ty cs fr d hg hu hd hi]
/-- a byte of a page is written -/
theorem RM.poke {w : World} {rb : Nat} {R : Nat → Prop} {ad : Option Addr} {n c : Nat} {L : List RP} (h : RM w rb R ad n c L) {a0 pb : Nat} (hp : (a0, pb) ∈ L) {q x : Nat} (hq : q < 4096) (hx : x < 256) : RM (w.setCell ⟨pb, 2 + q, none⟩ (.int .u8 (x : Int))) rb R ad n c L := by
  obtain ⟨-, hR, C, c1, c2, c3, c4, c5⟩ := h.page _ hp
  simp only at c1
  have n1 : rb ≠ pb := fun e => by
    have := h.box
    rw [e, c1] at this
    simp only [Option.some.injEq, Obj.cells.injEq] at this
    exact absurd this.2.1 (by decide)
  refine ⟨(Below.heap_setCell _ _ _ _ n1).trans h.box, ownS_of_block h.row (fun g hg => Below.heap_setCell _ _ _ _ (fun e => own_off h.row.1 c1 (by decide) (by rw [hg]; exact congrArg some e))), ?_, h.self, h.own, h.few⟩
  intro p hp'
  obtain ⟨q1, q2, q3⟩ := h.page p hp'
  refine ⟨q1, q2, ?_⟩
  by_cases e : p.2 = pb
  · obtain ⟨C', d1, d2, d3, ⟨pm, d4⟩, d5⟩ := q3
    refine ⟨C'.setIfInBounds (2 + q) (.int .u8 (x : Int)), ?_, by simpa using d2, ?_, ⟨pm, ?_⟩, fun j hj => ?_⟩
    · rw [e]
      rw [e] at d1
      exact block_set d1
    · rw [Array.getElem?_setIfInBounds_ne (by omega)]; exact d3
    · rw [Array.getElem?_setIfInBounds_ne (by omega)]; exact d4
    · by_cases e2 : j = q
      · subst e2
        exact ⟨x, hx, by rw [Array.getElem?_setIfInBounds_self_of_lt (by omega)]⟩
      · rw [Array.getElem?_setIfInBounds_ne (by omega)]
        exact d5 j hj
  · exact q3.of (Below.heap_setCell _ _ _ _ e)
theorem RM.apart {w : World} {rb : Nat} {R : Nat → Prop} {ad : Option Addr} {n c : Nat} {L : List RP} (h : RM w rb R ad n c L) {a0 pb : Nat} (hp : (a0, pb) ∈ L) : rb ≠ pb ∧ ∀ b o, ad = some ⟨b, o, none⟩ → b ≠ pb := by
  obtain ⟨-, hR, C, c1, -⟩ := h.page _ hp
  simp only at c1
  refine ⟨fun e => ?_, fun b o e1 e => ?_⟩
  · have := h.box
    rw [e, c1] at this
    simp only [Option.some.injEq, Obj.cells.injEq] at this
    exact absurd this.2.1 (by decide)
  · subst e1
    refine own_off h.row.1 c1 (by decide) ?_
    rw [← e]
    rfl
theorem cell_set_ne {w : World} {b o p j : Nat} {v : Value} (h : b ≠ p) : (w.setCell ⟨p, j, none⟩ v).cell? ⟨b, o, none⟩ = w.cell? ⟨b, o, none⟩ := World.cell?_setCell_other (h := fun e => h (congrArg Addr.block e).symm) ..
theorem and_zero_i (c : Int) : bits .and .i64 c 0 = 0 := by
  show IntKind.i64.wrap ((BitVec.ofInt 64 c &&& BitVec.ofInt 64 ((0 : Nat) : Int)).toNat : Int) = _
  rw [BitVec.toNat_and, BitVec.toNat_ofInt, BitVec.toNat_ofInt]
  simp
  decide
set_option maxRecDepth 100000 in
set_option maxHeartbeats 16000000 in
theorem rget_ok (rb : Nat) (R : Nat → Prop) (ad : Option Addr) (n c : Nat) (L : List RP) (a m : Nat) (w : World) (h : RM w rb R ad n c L) (hL : m = 0 ∨ L.map (·.1) = rAds) (h1 : 65536 ≤ a) (h2 : m = 0 ∨ a + m ≤ 69632) (h3 : a < 1048576) :
    Calls Tryz.prog 34 #[.pointer (some ⟨rb, 0, none⟩), .int .u64 (a : Int), .int .u64 (m : Int), .int .i64 0, .int .i64 6] w fun e w' => (∃ v, e = .returned (.tuple #[v, .agg #[.int .i64 0, .bool false, .int .u64 0]])) ∧ Below w.heap.size w w' := by
  have H : Hid (∀ wx, Below w.heap.size w wx → RM wx rb R ad n c L) := Lib.hid fun wx hb => h.below hb
  have HL : Hid (m = 0 ∨ L.map (·.1) = rAds) := Lib.hid hL
  have HA : Hid (65536 ≤ a ∧ a < 1048576 ∧ (m = 0 ∨ a + m ≤ 69632)) := Lib.hid ⟨h1, h3, h2⟩
  have w0 : IntKind.u64.wrap 0 = 0 := by decide
  have FB : IntSlice Tryz.prog 39 5 .u8 1 := ⟨Tryz.underlying39, by kernel_rfl⟩
  clear h hL h1 h2 h3
  go_enter Tryz.func34, Tryz.ntmps34
  go_wp2_with fail
  have HW2 : Hid (Below w.heap.size w (w.alloc (.cells #[.int .i64 0, .bool false, .int .u64 0] 47)) ∧ (w.alloc (.cells #[.int .i64 0, .bool false, .int .u64 0] 47)).heap[w.heap.size]? = some (.cells rBadZ 47)) := Lib.hid ⟨by go_grown, heap_alloc_new _ _⟩
  generalize w.alloc (.cells #[.int .i64 0, .bool false, .int .u64 0] 47) = w2 at *
  go_loopg [12, 13, 14, 15] m (fun g x12 x13 x14 x15 wr => ∃ (k : Nat) (ad' : Option Addr) (c' : Nat) (xs : List Int), k + g = m ∧ x13 = .int .u64 (k : Int) ∧ x12 = .slice ad' k c' ∧ Hid (xs.length = k ∧ OwnI wr w2.heap.size 5 .u8 (.slice ad' k c') xs ∧ Below w2.heap.size w2 wr))
  case atStart => exact ⟨0, none, 0, [], by omega, rfl, rfl, Lib.hid ⟨rfl, OwnI.nil _ _ _ _, Below.refl _ _⟩⟩
  case round =>
    obtain ⟨k, ad', c', xs, hk, rfl, rfl, HR⟩ := hrel
    cases gk with
    | zero =>
      obtain rfl : k = m := by omega
      have HB : Hid (Below w.heap.size w wr ∧ wr.heap[w.heap.size]? = some (.cells rBadZ 47)) := Lib.hid ⟨HW2.out.1.trans (HR.out.2.2.mono HW2.out.1.size), (HR.out.2.2.block _ (lt_of_block HW2.out.2)).trans HW2.out.2⟩
      have z0 : wr.cell? ⟨w.heap.size, 0, none⟩ = some (.int .i64 0) := by rw [cell_of_row _ _ 0 _ _ _ HB.out.2]; rfl
      have z1 : wr.cell? ⟨w.heap.size, 1, none⟩ = some (.bool false) := by rw [cell_of_row _ _ 1 _ _ _ HB.out.2]; rfl
      have z2 : wr.cell? ⟨w.heap.size, 2, none⟩ = some (.int .u64 0) := by rw [cell_of_row _ _ 2 _ _ _ HB.out.2]; rfl
      have y0 : wr.frozen? ⟨w.heap.size, 0, none⟩ = false := frozen_of_row _ _ _ _ _ HB.out.2
      have y1 : wr.frozen? ⟨w.heap.size, 1, none⟩ = false := frozen_of_row _ _ _ _ _ HB.out.2
      have y2 : wr.frozen? ⟨w.heap.size, 2, none⟩ = false := frozen_of_row _ _ _ _ _ HB.out.2
      clear hk HR
      go_wp2_with fail
      rw [three_stores HB.out.2]
      refine bodyPost_ret_by (results_tmpcell Tryz.results34 _ _ w.heap.size 47 rBadZ (0, 0) _ rfl (setRow_heap _ _ _ _ _ _ HB.out.2) Tryz.underlying47 rfl rbad_info) (by rfl) ?_
      exact ⟨⟨_, rfl⟩, below_setRow HB.out.1 (Nat.le_refl _) _⟩
    | succ f =>
      have hL : L.map (·.1) = rAds := by
        rcases HL.out with h | h
        · omega
        · exact h
      have hA := HA.out
      have hak : 65536 ≤ a + k ∧ a + k < 69632 := by omega
      have hrm := H.out wr (HW2.out.1.trans (HR.out.2.2.mono HW2.out.1.size))
      obtain ⟨b, o, pb, rfl, rfl, -, q0, ⟨pm, q1⟩, -, qc, -⟩ := hrm.first hL
      have HF := Lib.hid (rfind_zero rb R _ _ _ L (a + k) wr hrm hL hak.1 hak.2)
      obtain ⟨c0, c1, -⟩ := hrm.cells
      have e1 : IntKind.u64.wrap ((a : Int) + (k : Int)) = ((a + k : Nat) : Int) := by rw [IntKind.wrap_u64]; omega
      obtain ⟨q, hq⟩ : ∃ q, (a + k) % 4096 = q := ⟨_, rfl⟩
      have hq2 : q < 4096 := by omega
      have e2 : ((a + k : Nat) : Int).tmod 4096 = (q : Int) := by rw [Int.tmod_eq_emod_of_nonneg (by omega)]; omega
      have e2b : IntKind.u64.wrap (q : Int) = (q : Int) := by rw [IntKind.wrap_u64]; omega
      have e3 : (0 : Int) ≤ (q : Int) := by omega
      have e4 : (q : Int) < 4096 := by omega
      obtain ⟨x, hx, q2⟩ := qc q hq2
      have e5 : IntKind.u64.wrap ((k : Int) + 1) = ((k + 1 : Nat) : Int) := by rw [IntKind.wrap_u64]; omega
      have e6 : (k : Int) < (m : Int) := by omega
      have a0 := and_zero_i (pm : Int)
      have HKL : Hid (k < 1048576) := Lib.hid (by omega)
      have hk2 : k + 1 + f = m := by omega
      obtain ⟨k2, hkk⟩ : ∃ k2, k + 1 = k2 := ⟨_, rfl⟩
      have HKK := Lib.hid hkk
      rw [hkk] at e5 hk2
      generalize a + k = ak at *
      clear hL hA hak hrm hq hq2 hx qc hkk hk
      go_wp2_with fail
      refine HF.out.mono ?_
      rintro e w' ⟨rfl, rfl⟩
      go_wp2_with (show wpList _ _ _ ({ dst := some 63, .. } :: _) _ _; refine wpList_push rfl (.tmp 48) (.tmp 62) FB rfl w2.heap.size w2 _ xs k (x : Int) (by rfl) (by rfl) HR.out.1 HR.out.2.1 (by have := HKL.out; unfold maxLen; omega) (by have := HKL.out; omega) HR.out.2.2 HR.out.2.2.size ?_; intro ad2 c2 wq hown hbq; have HQ := Lib.hid (And.intro hown hbq); clear hown hbq; rw [HKK.out])
      go_roundg f
      case measure => omega
      case rel => exact ⟨k2, ad2, c2, xs ++ [(x : Int)], hk2, rfl, rfl, Lib.hid ⟨by rw [List.length_append, HR.out.1, ← HKK.out]; rfl, by rw [← HKK.out]; exact HQ.out.1, HQ.out.2⟩⟩
set_option maxRecDepth 100000 in
set_option maxHeartbeats 16000000 in
theorem rput_ok (rb : Nat) (R : Nat → Prop) (ad : Option Addr) (n c : Nat) (L : List RP) (a m fc : Nat) (fa : Option Addr) (bs : List Nat) (w : World) (h : RM w rb R ad n c L) (hR : ∀ k, R k → k < w.heap.size) (hL : m = 0 ∨ L.map (·.1) = rAds) (h1 : 65536 ≤ a) (h2 : m = 0 ∨ a + m ≤ 69632) (h3 : a < 1048576)
    (hb : BRow w fa bs) (hbl : bs.length = m) (hlc : m ≤ fc) (hsrc : 0 < m → ∀ b o, fa = some ⟨b, o, none⟩ → ¬ R b) :
    Calls Tryz.prog 22 #[.pointer (some ⟨rb, 0, none⟩), .int .u64 (a : Int), .slice fa m fc, .int .i64 0, .int .i64 6] w fun e w' => e = .returned (.agg rBadZ) ∧ VKept R w w' ∧ RM w' rb R ad n c L := by
  have H : Hid (RM w rb R ad n c L ∧ ∀ k, R k → k < w.heap.size) := Lib.hid ⟨h, hR⟩
  have HL : Hid (m = 0 ∨ L.map (·.1) = rAds) := Lib.hid hL
  have HA : Hid (65536 ≤ a ∧ a < 1048576 ∧ (m = 0 ∨ a + m ≤ 69632)) := Lib.hid ⟨h1, h3, h2⟩
  have hm : m < 1048576 := by omega
  have e0 : IntKind.u64.wrap (m : Int) = (m : Int) := by rw [IntKind.wrap_u64]; omega
  have HG : Hid (∀ wx, Below w.heap.size w wx → Calls Tryz.prog 34 #[.pointer (some ⟨rb, 0, none⟩), .int .u64 (a : Int), .int .u64 (m : Int), .int .i64 0, .int .i64 6] wx fun e w' => (∃ v, e = .returned (.tuple #[v, .agg #[.int .i64 0, .bool false, .int .u64 0]])) ∧ Below wx.heap.size wx w') := Lib.hid fun wx hx => rget_ok rb R ad n c L a m wx (h.below hx) hL h1 h2 h3
  have HS : Hid (BRow w fa bs ∧ bs.length = m ∧ (0 < m → ∀ b o, fa = some ⟨b, o, none⟩ → ¬ R b)) := Lib.hid ⟨hb, hbl, hsrc⟩
  clear h hR hL h1 h2 h3 hb hbl hsrc
  go_enter Tryz.func22, Tryz.ntmps22
  go_wp2_with fail
  refine (HG.out _ (by go_grown)).mono ?_
  rintro e w1 ⟨⟨v, rfl⟩, b1⟩
  go_wp2_with fail
  have HW2 : Hid (Below w.heap.size w (w1.alloc (.cells #[.int .i64 0, .bool false, .int .u64 0] 47)) ∧ (w1.alloc (.cells #[.int .i64 0, .bool false, .int .u64 0] 47)).heap[w.heap.size]? = some (.cells rBadZ 47)) := Lib.hid ⟨Below.alloc (Below.trans (by go_grown) (b1.mono (by simp))) (by have := b1.size; simp at this; omega) _, (heap_alloc_old _ _ (by have := b1.size; simp at this; omega)).trans ((b1.block _ (by simp)).trans (heap_alloc_new _ _))⟩
  clear b1
  generalize w1.alloc (.cells #[.int .i64 0, .bool false, .int .u64 0] 47) = w2 at *
  clear HG e0
  go_loopg [13, 14] m (fun g x13 x14 wr => ∃ (k : Nat), k + g = m ∧ x13 = .int .i64 (k : Int) ∧ Hid (VKept R w2 wr ∧ wr.heap.size = w2.heap.size ∧ RM wr rb R ad n c L))
  case atStart => exact ⟨0, by omega, rfl, Lib.hid ⟨VKept.refl _ _, rfl, H.out.1.below HW2.out.1⟩⟩
  case round =>
    obtain ⟨k, hk, rfl, HR⟩ := hrel
    cases gk with
    | zero =>
      obtain rfl : k = m := by omega
      have HB : Hid (VKept R w wr ∧ RM wr rb R ad n c L ∧ wr.heap[w.heap.size]? = some (.cells rBadZ 47)) := Lib.hid ⟨(VKept.of_below HW2.out.1).trans HR.out.1 (fun _ _ h => h), HR.out.2.2, (HR.out.1.block _ (lt_of_block HW2.out.2) (fun hx => by have := H.out.2 _ hx; omega)).trans HW2.out.2⟩
      have z0 : wr.cell? ⟨w.heap.size, 0, none⟩ = some (.int .i64 0) := by rw [cell_of_row _ _ 0 _ _ _ HB.out.2.2]; rfl
      have z1 : wr.cell? ⟨w.heap.size, 1, none⟩ = some (.bool false) := by rw [cell_of_row _ _ 1 _ _ _ HB.out.2.2]; rfl
      have z2 : wr.cell? ⟨w.heap.size, 2, none⟩ = some (.int .u64 0) := by rw [cell_of_row _ _ 2 _ _ _ HB.out.2.2]; rfl
      have y0 : wr.frozen? ⟨w.heap.size, 0, none⟩ = false := frozen_of_row _ _ _ _ _ HB.out.2.2
      have y1 : wr.frozen? ⟨w.heap.size, 1, none⟩ = false := frozen_of_row _ _ _ _ _ HB.out.2.2
      have y2 : wr.frozen? ⟨w.heap.size, 2, none⟩ = false := frozen_of_row _ _ _ _ _ HB.out.2.2
      clear hk HR
      go_wp2_with fail
      rw [three_stores HB.out.2.2]
      refine bodyPost_ret_by (results_cell_row Tryz.results22 _ _ w.heap.size 47 rBadZ (0, 0) _ rfl (setRow_heap _ _ _ _ _ _ HB.out.2.2) Tryz.underlying47 rfl rbad_info) (by rfl) ?_
      have hb : Below w.heap.size wr (wr.setRow w.heap.size rBadZ) := below_setRow (Below.refl _ _) (Nat.le_refl _) _
      have hv : VKept R w (wr.setRow w.heap.size rBadZ) := ⟨hb.os.trans HB.out.1.os, hb.tape.trans HB.out.1.tape, hb.output.trans HB.out.1.output, Nat.le_trans HB.out.1.size hb.size, fun k hk hn => (hb.block k hk).trans (HB.out.1.block k hk hn)⟩
      exact ⟨rfl, hv, HB.out.2.1.kept (fun j _ hj => setRow_other _ _ _ _ (by have := H.out.2 j hj; omega))⟩
    | succ f =>
      have hL : L.map (·.1) = rAds := by
        rcases HL.out with h | h
        · omega
        · exact h
      have hA := HA.out
      have hak : 65536 ≤ a + k ∧ a + k < 69632 := by omega
      have hrm := HR.out.2.2
      obtain ⟨b, o, pb, rfl, rfl, hrp, q0, -, qf, qc, r, hLr⟩ := hrm.first hL
      have HF : Hid (∀ wx, Below wr.heap.size wr wx → Calls Tryz.prog 35 #[.pointer (some ⟨rb, 0, none⟩), .int .u64 ((a + k : Nat) : Int)] wx fun e w' => e = .returned (.int .i64 0) ∧ w' = wx) := Lib.hid fun wx hx => rfind_zero rb R _ _ _ L (a + k) wx (hrm.below hx) hL hak.1 hak.2
      obtain ⟨c0, c1, -⟩ := hrm.cells
      obtain ⟨sb, so, rfl, sl, sc, sx⟩ := HS.out.1.at (i := k) (by rw [HS.out.2.1]; omega)
      have hsR := HS.out.2.2 (by omega) sb so rfl
      have s0 : wr.cell? ⟨sb, so + k, none⟩ = some (.int .u8 ((bs.getD k 0 : Nat) : Int)) := by
        have h3 : wr.heap[sb]? = w.heap[sb]? := (HR.out.1.block sb (by have := HW2.out.1.size; omega) hsR).trans (HW2.out.1.block sb sl)
        rw [← sc]
        unfold World.cell?
        simp only [h3]
      have e1 : IntKind.u64.wrap ((a : Int) + IntKind.u64.wrap (k : Int)) = ((a + k : Nat) : Int) := by rw [IntKind.wrap_u64, IntKind.wrap_u64]; omega
      have e1b : IntKind.u64.wrap (k : Int) = (k : Int) := by rw [IntKind.wrap_u64]; omega
      have e1c : IntKind.u64.wrap ((a : Int) + (k : Int)) = ((a + k : Nat) : Int) := by rw [IntKind.wrap_u64]; omega
      obtain ⟨q, hq⟩ : ∃ q, (a + k) % 4096 = q := ⟨_, rfl⟩
      have hq2 : q < 4096 := by omega
      have e2 : ((a + k : Nat) : Int).tmod 4096 = (q : Int) := by rw [Int.tmod_eq_emod_of_nonneg (by omega)]; omega
      have e2b : IntKind.u64.wrap (q : Int) = (q : Int) := by rw [IntKind.wrap_u64]; omega
      have e3 : (0 : Int) ≤ (q : Int) := by omega
      have e4 : (q : Int) < 4096 := by omega
      obtain ⟨x, hx, q2⟩ := qc q hq2
      have qf2 := qf (2 + q)
      have e5 : IntKind.i64.wrap ((k : Int) + 1) = ((k + 1 : Nat) : Int) := by rw [IntKind.wrap_i64]; omega
      have e6 : (k : Int) < (m : Int) := by omega
      have e7 : (0 : Int) ≤ (k : Int) := by omega
      have hk2 : k + 1 + f = m := by omega
      have HP : Hid (∀ wx, Below wr.heap.size wr wx → RM (wx.setCell ⟨pb, 2 + q, none⟩ (.int .u8 ((bs.getD k 0 : Nat) : Int))) rb R (some ⟨b, o, none⟩) 4 c L) := Lib.hid fun wx hb => (hrm.below hb).poke (a0 := 65536) (by rw [hLr]; simp) hq2 sx
      have HRP := Lib.hid hrp
      have hap := hrm.apart (a0 := 65536) (pb := pb) (by rw [hLr]; simp)
      have NE : Hid (rb ≠ pb ∧ b ≠ pb ∧ sb ≠ pb) := Lib.hid ⟨hap.1, hap.2 b o rfl, fun e => hsR (e ▸ hrp)⟩
      clear hap
      generalize bs.getD k 0 = y at *
      obtain ⟨k2, hkk⟩ : ∃ k2, k + 1 = k2 := ⟨_, rfl⟩
      rw [hkk] at e5 hk2
      generalize a + k = ak at *
      clear hL hA hak hrm hq hq2 hx qc hkk hk hLr sc sx hsR sl hrp qf
      have K1 : Hid (wr.drew.cell? ⟨rb, 1, none⟩ = some (.slice (some ⟨b, o, none⟩) 4 c) ∧ wr.drew.cell? ⟨b, o, none⟩ = some (.pointer (some ⟨pb, 0, none⟩)) ∧ wr.drew.cell? ⟨sb, so + k, none⟩ = some (.int .u8 (y : Int))) := Lib.hid ⟨c1, q0, s0⟩
      have K2 : Hid ((wr.setCell ⟨pb, 2 + q, none⟩ (.int .u8 (y : Int))).drew.cell? ⟨rb, 1, none⟩ = some (.slice (some ⟨b, o, none⟩) 4 c) ∧ (wr.setCell ⟨pb, 2 + q, none⟩ (.int .u8 (y : Int))).drew.cell? ⟨b, o, none⟩ = some (.pointer (some ⟨pb, 0, none⟩)) ∧ (wr.setCell ⟨pb, 2 + q, none⟩ (.int .u8 (y : Int))).drew.cell? ⟨sb, so + k, none⟩ = some (.int .u8 (y : Int))) := Lib.hid ⟨(cell_set_ne NE.out.1).trans c1, (cell_set_ne NE.out.2.1).trans q0, (cell_set_ne NE.out.2.2).trans s0⟩
      go_wp2_with fail
      go_region_held3 (fun wx => wx.cell? ⟨rb, 1, none⟩ = some (.slice (some ⟨b, o, none⟩) 4 c) ∧ wx.cell? ⟨b, o, none⟩ = some (.pointer (some ⟨pb, 0, none⟩)) ∧ wx.cell? ⟨sb, so + k, none⟩ = some (.int .u8 (y : Int))  )
        (first | with_reducible assumption | with_reducible exact K1.out | with_reducible exact K2.out)
        (first
          | (go_simp; go_at_call 35; refine (HF.out _ (by first | exact (Below.refl _ _).drew | assumption)).mono ?_; rintro e' w6 ⟨rfl, rfl⟩))
      go_wp2_with fail
      go_roundg f
      case measure => omega
      case rel => exact ⟨k2, hk2, rfl, Lib.hid ⟨HR.out.1.trans (VKept.trans (S := R) (S' := R) (b := wr.setCell ⟨pb, 2 + q, none⟩ (.int .u8 (y : Int))) ⟨rfl, rfl, rfl, by simp, fun j hj hn => Below.heap_setCell _ _ _ _ (fun e => hn (e ▸ HRP.out))⟩ (VKept.of_below (Below.refl _ _).drew) (fun _ _ h => h)) (fun _ _ h => h), by simpa using HR.out.2.1, (HP.out wr (Below.refl _ _)).below (Below.refl _ _).drew⟩⟩
set_option maxRecDepth 100000 in
set_option maxHeartbeats 16000000 in
theorem rpoke_ok (rb : Nat) (R : Nat → Prop) (ad : Option Addr) (n c : Nat) (L : List RP) (a m fc : Nat) (fa : Option Addr) (bs : List Nat) (w : World) (h : RM w rb R ad n c L) (hR : ∀ k, R k → k < w.heap.size) (hL : m = 0 ∨ L.map (·.1) = rAds) (h1 : 65536 ≤ a) (h2 : m = 0 ∨ a + m ≤ 69632) (h3 : a < 1048576)
    (hb : BRow w fa bs) (hbl : bs.length = m) (hlc : m ≤ fc) (hsrc : 0 < m → ∀ b o, fa = some ⟨b, o, none⟩ → ¬ R b) :
    Calls Tryz.prog 15 #[.pointer (some ⟨rb, 0, none⟩), .int .u64 (a : Int), .slice fa m fc] w fun e w' => (∃ v, e = .returned v) ∧ VKept R w w' ∧ RM w' rb R ad n c L := by
  have HP : Hid (∀ wx, Below w.heap.size w wx → Calls Tryz.prog 22 #[.pointer (some ⟨rb, 0, none⟩), .int .u64 (a : Int), .slice fa m fc, .int .i64 0, .int .i64 6] wx fun e w' => (e = .returned (.agg rBadZ)) ∧ VKept R wx w' ∧ RM w' rb R ad n c L) := Lib.hid fun wx hx => rput_ok rb R ad n c L a m fc fa bs wx (h.below hx) (fun k hk => Nat.lt_of_lt_of_le (hR k hk) hx.size) hL h1 h2 h3 (hb.below hx) hbl hlc hsrc
  have HR : Hid (∀ k, R k → k < w.heap.size) := Lib.hid hR
  clear h hR hL h1 h2 h3 hb hbl hsrc
  go_enter Tryz.func15, Tryz.ntmps15
  go_wp2_with fail
  refine (HP.out _ (by go_grown)).mono ?_
  rintro e w1 ⟨rfl, k1, r1⟩
  unfold rBadZ
  have HB : Hid (VKept R w w1 ∧ RM w1 rb R ad n c L ∧ w1.heap[w.heap.size]? = some (.cells rBadZ 47)) := Lib.hid ⟨(VKept.of_below (by go_grown)).trans k1 (fun _ _ h => h), r1, (k1.block _ (by simp) (fun hx => by have := HR.out _ hx; omega)).trans (heap_alloc_new _ _)⟩
  clear k1 r1
  have z0 : w1.cell? ⟨w.heap.size, 0, none⟩ = some (.int .i64 0) := by rw [cell_of_row _ _ 0 _ _ _ HB.out.2.2]; rfl
  have z1 : w1.cell? ⟨w.heap.size, 1, none⟩ = some (.bool false) := by rw [cell_of_row _ _ 1 _ _ _ HB.out.2.2]; rfl
  have z2 : w1.cell? ⟨w.heap.size, 2, none⟩ = some (.int .u64 0) := by rw [cell_of_row _ _ 2 _ _ _ HB.out.2.2]; rfl
  have y0 : w1.frozen? ⟨w.heap.size, 0, none⟩ = false := frozen_of_row _ _ _ _ _ HB.out.2.2
  have y1 : w1.frozen? ⟨w.heap.size, 1, none⟩ = false := frozen_of_row _ _ _ _ _ HB.out.2.2
  have y2 : w1.frozen? ⟨w.heap.size, 2, none⟩ = false := frozen_of_row _ _ _ _ _ HB.out.2.2
  go_wp2_with fail
  rw [three_stores HB.out.2.2]
  refine bodyPost_ret_by (results_cell_row Tryz.results15 _ _ w.heap.size 47 rBadZ (0, 0) _ rfl (setRow_heap _ _ _ _ _ _ HB.out.2.2) Tryz.underlying47 rfl rbad_info) (by rfl) ?_
  have hb : Below w.heap.size w1 (w1.setRow w.heap.size rBadZ) := below_setRow (Below.refl _ _) (Nat.le_refl _) _
  exact ⟨⟨_, rfl⟩, ⟨hb.os.trans HB.out.1.os, hb.tape.trans HB.out.1.tape, hb.output.trans HB.out.1.output, Nat.le_trans HB.out.1.size hb.size, fun k hk hn => (hb.block k hk).trans (HB.out.1.block k hk hn)⟩, HB.out.2.1.kept (fun j _ hj => setRow_other _ _ _ _ (by have := HR.out j hj; omega))⟩
end Go.Proofs.YtmnjkaimpejohaaGreatDoor
