/- Layer 1, the statement's own walk: texts. -/
import Derived.Test.YtobpfcipfjadaaaDoorRefText
import Derived.Test.YtobpfcipfjadaaaDoorSpanShown
namespace Go.Proofs.YtobpfcipfjadaaaDoor
open Go.RowKit
set_option linter.unusedVariables false
set_option linter.unusedSimpArgs false

theorem spotW_below (w : World) (off n : Int) : Below w.heap.size w (spotW w off n) := (Below.refl _ _).alloc (Nat.le_refl _) _
theorem spotW_size (w : World) (off n : Int) : (spotW w off n).heap.size = w.heap.size + 1 := by simp [spotW]

theorem right_new (off n : Int) (w w' : World) (hn : n = 4 ∨ n = 29) (hg : ErrType w') (hb : Below (w.heap.size + 1) (spotW w off n) w') :
    Calls Tryd.prog 16 #[spotV w, .int .i64 n, .int .u64 off] w' fun e w2 => e = .returned (.bool true) ∧ Below w'.heap.size w' w2 := by
  have h0 : w'.cell? ⟨w.heap.size, 0, none⟩ = some (.int .u64 off) := by
    rw [hb.cell (p := ⟨w.heap.size, 0, none⟩) (Nat.lt_succ_self _)]
    unfold spotW
    rw [World.cell?_alloc_new]
    rfl
  have h1 : w'.cell? ⟨w.heap.size, 1, none⟩ = some (.iface 34 (.int .i64 n)) := by
    rw [hb.cell (p := ⟨w.heap.size, 1, none⟩) (Nat.lt_succ_self _)]
    unfold spotW
    rw [World.cell?_alloc_new]
    rcases hn with rfl | rfl <;> rfl
  exact right_spot w.heap.size off n w' hn hg h0 h1

theorem right_none (off : Int) (w : World) : Calls Tryd.prog 16 #[.nilIface, .int .i64 0, .int .u64 off] w fun e w' => e = .returned (.bool true) ∧ w = w' :=
  right_code 0 0 off w (by omega) (by omega) rfl rfl

theorem right_own (c off : Int) (w : World) (h0 : 0 ≤ c) (h : c ≤ 30) (h4 : (c == 4) = false) (h29 : (c == 29) = false) : Calls Tryd.prog 16 #[errV c, .int .i64 c, .int .u64 off] w fun e w' => e = .returned (.bool true) ∧ w = w' := by
  have := right_code c c off w h0 h h4 h29
  simpa using this

set_option maxRecDepth 100000 in
set_option maxHeartbeats 1000000 in
theorem walk_SpanTexts (a0 : Option Addr) (len0 cap0 : Nat) (z0 : List Int) (a1 : Int) (w : World) (hg : ErrType w) (w0 : IsRow .u8 w a0 len0 cap0 z0) (s0 : cap0 * 1 ≤ 140737488351232) (w1 : (Lit.int .u64 a1).wf = true) :
    Calls Tryd.prog 5 #[.slice a0 len0 cap0, .int .u64 a1] w fun e w' => e = .returned (.bool true) ∧ Below w.heap.size w w' := by
  obtain ⟨xs, rfl, hrow, hwf, hlc, hlm, -⟩ := w0.row
  have hx : Bytes xs := fun x hx => wf_u8_bounds (hwf x hx)
  obtain ⟨p1, q1⟩ := wf_u64_bounds w1
  obtain ⟨off, rfl⟩ := Int.eq_ofNat_of_zero_le p1
  have ho : off < 18446744073709551616 := by rw [M64_eq] at q1; omega
  have hl : xs.length ≤ 140737488351232 := by omega
  have hshown := Lib.hid (shown_true w)
  have HG := Lib.hid hg
  by_cases h1 : off < xs.length
  · by_cases hk : Lib.indexByte (Lib.bytesOf (xs.drop off)) 0 = -1
    · have ht := Lib.hid (fun (w1 : World) (h : Below w.heap.size w w1) (b o : Nat) (e : a0 = some ⟨b, o, none⟩) => text_open a0 cap0 xs off w1 (hrow.below h) hx hl hlc ho b o e h1 hk)
      have hr := Lib.hid (fun (w1 : World) (h : Below w.heap.size w w1) => refText_open a0 cap0 xs off w1 (hrow.below h) hx hl h1 hk)
      obtain ⟨b, o, rfl⟩ := hrow.there (by omega)
      clear w0 w1 p1 q1 hrow hwf hk hx hg
      go_enter Tryd.func5, Tryd.ntmps5
      go_wp2_with (first
        | (go_at_call 6; refine (Hid.out hshown).mono ?_; rintro e w1 ⟨rfl, hb⟩)
        | (go_at_call 17; refine (Hid.out ht _ hb b o rfl).mono ?_; rintro e w2 ⟨rfl, rfl⟩; have hb2 := hb.trans ((spotW_below w1 (off : Int) 29).mono hb.size))
        | (go_at_call 18; refine (Hid.out hr _ hb2).mono ?_; rintro e w' ⟨rfl, rfl⟩)
        | (go_at_call 16; refine (right_new off 29 w1 _ (.inr rfl) (HG.out.below hb2) (Below.refl _ _)).mono ?_; rintro e w3 ⟨rfl, hb3⟩; have hb4 := hb2.trans (hb3.mono hb2.size)))
      go_ret
      exact ⟨rfl, hb4⟩
    · obtain ⟨k, hk⟩ : ∃ k : Nat, Lib.indexByte (Lib.bytesOf (xs.drop off)) 0 = (k : Int) := by
        have := Lib.indexByte_ge (Lib.bytesOf (xs.drop off)) 0
        exact ⟨(Lib.indexByte (Lib.bytesOf (xs.drop off)) 0).toNat, by omega⟩
      have hk2 := (first_zero hx off k hk).1
      have ht := Lib.hid (fun (w1 : World) (h : Below w.heap.size w w1) (b o : Nat) (e : a0 = some ⟨b, o, none⟩) => text_any a0 cap0 xs off w1 (hrow.below h) hx hl hlc ho b o e h1 k hk hk2)
      have hr := Lib.hid (fun (w1 : World) (h : Below w.heap.size w w1) => refText_yes a0 cap0 xs off w1 (hrow.below h) hx hl hlc k hk)
      obtain ⟨b, o, rfl⟩ := hrow.there (by omega)
      clear w0 w1 p1 q1 hrow hwf hk hx hg hk2
      generalize cutOf xs off k = ys at *
      go_enter Tryd.func5, Tryd.ntmps5
      go_wp2_with (first
        | (go_at_call 6; refine (Hid.out hshown).mono ?_; rintro e w1 ⟨rfl, hb⟩)
        | (go_at_call 17; refine (Hid.out ht _ hb b o rfl).mono ?_; rintro e w2 ⟨rfl, hb0⟩; have hb2 := hb.trans (hb0.mono hb.size))
        | (go_at_call 18; refine (Hid.out hr _ hb2).mono ?_; rintro e w' ⟨rfl, rfl⟩)
        | (go_at_call 16; refine (right_none off _).mono ?_; rintro e w3 ⟨rfl, rfl⟩))
      go_ret
      exact ⟨rfl, hb2⟩
  · have ht := Lib.hid (fun (w1 : World) => text_range a0 cap0 xs.length off w1 hl ho h1)
    have hr := Lib.hid (fun (w1 : World) => refText_range a0 cap0 xs.length off w1 hl ho h1)
    clear w0 w1 p1 q1 hrow hwf hx hg
    go_enter Tryd.func5, Tryd.ntmps5
    go_wp2_with (first
      | (go_at_call 6; refine (Hid.out hshown).mono ?_; rintro e w1 ⟨rfl, hb⟩)
      | (go_at_call 17; refine (Hid.out ht _).mono ?_; rintro e w2 ⟨rfl, rfl⟩; have hb2 := hb.trans ((spotW_below w1 (off : Int) 4).mono hb.size))
      | (go_at_call 18; refine (Hid.out hr _).mono ?_; rintro e w' ⟨rfl, rfl⟩)
      | (go_at_call 16; refine (right_new off 4 w1 _ (.inl rfl) (HG.out.below hb2) (Below.refl _ _)).mono ?_; rintro e w3 ⟨rfl, hb3⟩; have hb4 := hb2.trans (hb3.mono hb2.size)))
    go_ret
    exact ⟨rfl, hb4⟩
end Go.Proofs.YtobpfcipfjadaaaDoor
