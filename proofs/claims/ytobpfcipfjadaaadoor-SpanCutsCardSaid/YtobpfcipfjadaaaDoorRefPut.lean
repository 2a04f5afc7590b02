/- Layer 1, the document's own answers on bytes: a number written. -/
import Derived.Test.YtobpfcipfjadaaaDoorRefCut
namespace Go.Proofs.YtobpfcipfjadaaaDoor
open Go.RowKit
set_option linter.unusedVariables false
set_option linter.unusedSimpArgs false

theorem Row.news {k : IntKind} {w : World} {b o : Nat} {xs : List Int} (h : Row k w (some ⟨b, o, none⟩) xs) : ∀ j u, (xs.map (Value.int k))[j]? = some u → w.cell? ((⟨b, o, none⟩ : Addr).add j) = some u := by
  intro j u hj
  have hl : j < xs.length := by
    have := (List.getElem?_eq_some_iff.1 hj).1
    simpa using this
  obtain ⟨b', o', e, hc⟩ := h j hl
  simp only [Option.some.injEq, Addr.mk.injEq, and_true] at e
  obtain ⟨rfl, rfl⟩ := e
  rw [WideShapes.add_plain, hc]
  rw [List.getElem?_map, List.getElem?_eq_getElem hl] at hj
  simp only [Option.map_some, Option.some.injEq] at hj
  rw [← hj]
  simp [List.getD, hl]
theorem ints_one (k : IntKind) (xs : List Int) : ∀ u ∈ xs.map (Value.int k), u.oneCell' = true := by
  intro u hu
  obtain ⟨x, -, rfl⟩ := List.mem_map.1 hu
  rfl
theorem Row.there {k : IntKind} {w : World} {a : Option Addr} {xs : List Int} (h : Row k w a xs) (h0 : 0 < xs.length) : ∃ b o, a = some ⟨b, o, none⟩ := by
  obtain ⟨b, o, rfl, -⟩ := h 0 h0
  exact ⟨b, o, rfl⟩
theorem le_getD (n v k : Nat) (h : k < n) : (le n v).getD k 0 = ((v / 256 ^ k % 256 : Nat) : Int) := by
  induction n generalizing v k with
  | zero => omega
  | succ n ih =>
    cases k with
    | zero => simp [le]
    | succ k =>
      have := ih (v / 256) k (by omega)
      rw [Nat.div_div_eq_div_mul, Nat.mul_comm, ← Nat.pow_succ] at this
      simpa [le] using this

set_option maxHeartbeats 2000000 in
theorem refPut_yes (a : Option Addr) (cap : Nat) (xs : List Int) (off n v : Nat) (w : World) (h : Row .u8 w a xs) (hby : Bytes xs) (hl : xs.length ≤ 140737488351232)
    (hw : wide n = true) (h1 : off ≤ xs.length) (h2 : n ≤ xs.length - off) (hv : v < 256 ^ n) (hv64 : v < 18446744073709551616) :
    Calls Tryd.prog 15 #[.slice a xs.length cap, .int .u64 off, .int .i64 n, .int .u64 v] w fun e w' => ∃ r, e = .returned (.tuple #[r, .int .i64 0]) ∧ w'.ownsRow w.heap.size 5 1 r xs.length ((putAt xs off (le n v)).map (Value.int .u8)) ∧ Below w.heap.size w w' := by
  obtain ⟨i0, hi, hz0, hz1, hz2⟩ := info_parts info8
  have HI := Lib.hid hi; have HZ0 := Lib.hid hz0; have HZ1 := Lib.hid hz1; have HZ2 := Lib.hid hz2
  clear hi hz0 hz1 hz2
  obtain ⟨hm, hn1, hn8⟩ := most_wide hw
  have hg := Lib.hid (refGet_yes a cap xs off n w h hby hl hw h1 h2)
  have hbt : decide (v < 256 ^ n) = true := by simp [hv]
  have hbs := fun (w1 : World) => bytes_any n v w1 hn8 hv64
  simp only [hbt] at hbs
  have HBS := Lib.hid hbs
  obtain ⟨b0, o0, rfl⟩ := h.there (by omega)
  have HR := Lib.hid h
  have hbl0 : b0 < w.heap.size := by
    obtain ⟨b', o', e, hc⟩ := h 0 (by omega)
    simp only [Option.some.injEq, Addr.mk.injEq, and_true] at e
    obtain ⟨rfl, rfl⟩ := e
    simpa using World.block_lt_of_cell? w _ hc
  clear hbs hbt h hm hw hv hby
  go_enter Tryd.func15, Tryd.ntmps15
  go_wp2_with (first
    | (go_at_call 13; refine (Hid.out hg).mono ?_; rintro e w1 ⟨rfl, hb1⟩)
    | (go_at_call 28; refine (Hid.out HBS w1).mono ?_; rintro e w2 ⟨rb, rfl, hob, hb2⟩; have HOB := Lib.hid hob; clear hob; have hb12 := hb1.trans (hb2.mono hb1.size))
    | (at_builtin; refine wpList_append_own _ rfl (.tmp 34) (.tmp 35) 22 rfl w2.heap.size 5 i0 (.int .u8 0) 1 1 Tryd.underlying22 HI.out HZ0.out HZ1.out HZ2.out rfl (by decide) (.slice none 0 0) 0 [] rfl (World.ownsRow_nil _ _ _ _) ⟨b0, o0, none⟩ xs.length cap (xs.map (Value.int .u8)) rfl (by simp) (Row.news (HR.out.below hb12)) (ints_one _ _) (by unfold maxLen; omega) (by omega) (Nat.le_refl _) ?_; intro v' w3 hown3 hgr3 _; rw [Nat.zero_add, List.nil_append] at hown3; obtain ⟨g, c3, rfl, hB3, hgs3, hcp3⟩ := own_shape hown3 (by omega); have HO3 := Lib.hid hown3; clear hown3; have HG3 : Hid (w2.grownBy w3 none) := Lib.hid hgr3; clear hgr3))
  obtain ⟨-, ab, cb, rfl, hrb, -, hbb⟩ := own_row HOB.out
  have HRB := Lib.hid hrb; have HBB := Lib.hid hbb; clear hrb hbb HOB
  have hb3 : Below w2.heap.size w2 w3 := (Below.refl _ _).grown HG3.out (Nat.le_refl _) (fun k hk => by cases hk)
  clear HG3
  go_loopw [15] (fun i wr => ∃ k : Nat, k ≤ n ∧ i = .int .i64 k ∧ Hid (wr.ownsRow w2.heap.size 5 1 (.slice (some ⟨g, 0, none⟩) xs.length c3) xs.length ((putAt xs off (le k v)).map (Value.int .u8))) ∧ Below w2.heap.size w2 wr) (fun i _ => n - (intOf i).toNat)
  case atStart => exact ⟨0, Nat.zero_le _, rfl, Lib.hid (by rw [le, putAt_nil]; exact HO3.out), hb3⟩
  case round =>
    obtain ⟨k, hk, rfl, hown, hbr⟩ := hrel
    by_cases hlt : k < n
    · have hfz := hown.out.frozenAt (off + k)
      have hpl : (putAt xs off (le k v)).length = xs.length := putAt_length (by rw [le_length]; omega)
      obtain ⟨u, hcell⟩ : ∃ u, wr.cell? ⟨g, off + k, none⟩ = some u := by
        have h := hown.out.cellAt (off + k) (by omega)
        rw [List.getElem?_map, List.getElem?_eq_getElem (by omega)] at h
        exact ⟨_, h⟩
      have HP := Lib.hid hpl; clear hpl
      obtain ⟨b1, o1, rfl, hc1⟩ := HRB.out k (by rw [le_length]; exact hlt)
      have hl1 : b1 < w2.heap.size := (HBB.out _ rfl).2
      have hcr : wr.cell? ⟨b1, o1 + k, none⟩ = some (.int .u8 ((le n v).getD k 0)) := by rw [hbr.cell (p := ⟨b1, o1 + k, none⟩) hl1]; exact hc1
      clear hc1
      have HX := Lib.hid (le_getD n v k hlt)
      generalize (le n v).getD k 0 = x at *
      rw [le_length] at *
      go_wp2
      go_roundw
      case rel =>
        refine ⟨k + 1, by omega, by go_num, Lib.hid ?_, ?_⟩
        · have h := (hown.out.stored (off + k) (.int .u8 x)).1
          rw [← List.map_set] at h
          have e := putAt_snoc (xs := xs) (ys := le k v) (o := off) ((v / 256 ^ k % 256 : Nat) : Int) (by rw [le_length]; omega)
          rw [le_length] at e
          rw [HX.out, e, ← le_snoc] at h
          rw [HX.out]
          exact h
        · exact hbr.setCell hB3 _
      case measure => simp [intOf]; omega
    · have hk' : k = n := by omega
      have HK := Lib.hid hk'; clear hk'
      go_wp2
      go_ret2
      refine ⟨_, rfl, ?_, hb12.trans (hbr.mono hb12.size)⟩
      have h := hown.out
      rw [HK.out] at h
      obtain ⟨h1, h2⟩ := h
      refine ⟨h1, ?_⟩
      rcases h2 with h2 | ⟨g', cap', cur', hv', hB', r⟩
      · exact .inl h2
      · exact .inr ⟨g', cap', cur', hv', Nat.le_trans hb12.size hB', r⟩

theorem refPut_width (a : Option Addr) (cap len : Nat) (off n v : Int) (w : World) (hw : wide n = false) :
    Calls Tryd.prog 15 #[.slice a len cap, .int .u64 off, .int .i64 n, .int .u64 v] w fun e w' => e = .returned (.tuple #[.slice none 0 0, .int .i64 1]) ∧ w = w' := by
  have hg := Lib.hid (refGet_width a cap len off n w hw)
  clear hw
  go_enter Tryd.func15, Tryd.ntmps15
  go_wp2_with (first
    | (go_at_call 13; refine (Hid.out hg).mono ?_; rintro e w' ⟨rfl, rfl⟩))
  go_ret2
  exact ⟨rfl, rfl⟩

theorem refPut_range (a : Option Addr) (cap len : Nat) (off n : Nat) (v : Int) (w : World) (hl : len ≤ 140737488351232) (ho : off < 18446744073709551616)
    (hw : wide n = true) (h1 : ¬ (off ≤ len ∧ n ≤ len - off)) :
    Calls Tryd.prog 15 #[.slice a len cap, .int .u64 off, .int .i64 n, .int .u64 v] w fun e w' => e = .returned (.tuple #[.slice none 0 0, .int .i64 4]) ∧ w = w' := by
  have hg := Lib.hid (refGet_range a cap len off n w hl ho hw h1)
  clear hw h1
  go_enter Tryd.func15, Tryd.ntmps15
  go_wp2_with (first
    | (go_at_call 13; refine (Hid.out hg).mono ?_; rintro e w' ⟨rfl, rfl⟩))
  go_ret2
  exact ⟨rfl, rfl⟩

set_option maxHeartbeats 1000000 in
theorem refPut_over (a : Option Addr) (cap : Nat) (xs : List Int) (off n v : Nat) (w : World) (h : Row .u8 w a xs) (hby : Bytes xs) (hl : xs.length ≤ 140737488351232)
    (hw : wide n = true) (h1 : off ≤ xs.length) (h2 : n ≤ xs.length - off) (hv : ¬ v < 256 ^ n) (hv64 : v < 18446744073709551616) :
    Calls Tryd.prog 15 #[.slice a xs.length cap, .int .u64 off, .int .i64 n, .int .u64 v] w fun e w' => e = .returned (.tuple #[.slice none 0 0, .int .i64 28]) ∧ Below w.heap.size w w' := by
  obtain ⟨hm, hn1, hn8⟩ := most_wide hw
  have hg := Lib.hid (refGet_yes a cap xs off n w h hby hl hw h1 h2)
  have hbt : decide (v < 256 ^ n) = false := by simp only [hv, decide_false]
  have hbs := fun (w1 : World) => bytes_any n v w1 hn8 hv64
  simp only [hbt] at hbs
  have HBS := Lib.hid hbs
  clear hbs hbt h hm hw hv hby
  go_enter Tryd.func15, Tryd.ntmps15
  go_wp2_with (first
    | (go_at_call 13; refine (Hid.out hg).mono ?_; rintro e w1 ⟨rfl, hb1⟩)
    | (go_at_call 28; refine (Hid.out HBS w1).mono ?_; rintro e w2 ⟨rb, rfl, hob, hb2⟩; have HOB := Lib.hid hob; clear hob; have hb12 := hb1.trans (hb2.mono hb1.size)))
  go_ret2
  exact ⟨rfl, hb12⟩
end Go.Proofs.YtobpfcipfjadaaaDoor
