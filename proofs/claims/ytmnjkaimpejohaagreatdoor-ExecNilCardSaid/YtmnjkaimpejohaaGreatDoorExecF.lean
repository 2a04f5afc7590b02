/- Layer 13: the two memories are made, whatever code they begin with. -/
import Derived.Test.YtmnjkaimpejohaaGreatDoorExecE
import Derived.Deep.RegionHeld3
import Derived.Deep.LoopGhost
namespace Go.Proofs.YtmnjkaimpejohaaGreatDoor
open Go.RowKit
set_option linter.unusedVariables false
set_option linter.unusedSimpArgs false

theorem vat_four : ∃ p, vAt 4 16 = some p ∧ p.perm = 5 := ⟨newPg 5, rfl, rfl⟩
theorem poke_told (mb : Nat) (S : Nat → Prop) (q c : Nat) (V : Nat → Option Pg) (g : Nat) (F : Nat → Option Nat) (a : Nat) (fa : Option Addr) (fl fc : Nat) (bs : List Nat) (w : World) (h : VmAt w mb S q c V g F) (ha : a < 18446744073709551616) (hb : BRow w fa bs) (hbl : bs.length = fl) (hlc : fl ≤ fc) (hl : fl ≤ 140737488355328) (hsrc : 0 < fl → ∀ b o, fa = some ⟨b, o, none⟩ → ¬ S b) (hbar : barredF V 0 a fl = none) :
    Calls Tryz.prog 14 #[.pointer (some ⟨mb, 0, none⟩), .int .u64 (a : Int), .slice fa fl fc] w fun e w' => e = .returned .nilIface ∧ ∃ V', VmAt w' mb S q c V' g F ∧ VKept S w w' ∧ w'.heap.size = w.heap.size ∧ SamePerm V V' ∧ ∀ x, byteAt V' x = if a ≤ x ∧ x < a + fl then bs.getD (x - a) 0 else byteAt V x := by
  have := poke_any0 mb S q c V g F a fa fl fc bs w h ha hb hbl hlc hl hsrc
  rw [hbar] at this
  exact this
theorem two_new' (w : World) (a b : Array Value) (T U : TypeId) : ((w.alloc (.cells a T)).alloc (.cells b U)).heap[w.heap.size + 1]? = some (.cells b U) := by
  have := heap_alloc_new (w.alloc (.cells a T)) (.cells b U)
  rwa [World.size_alloc] at this
theorem brow_nil (w : World) : BRow w none [] := ⟨fun i hi => by simp [toI] at hi, fun b hb => by cases hb⟩
set_option maxRecDepth 100000 in
set_option maxHeartbeats 16000000 in
theorem both_ok (ca : Option Addr) (n cc : Nat) (cs : List Nat) (w : World) (hb : BRow w ca cs) (hl : cs.length = n) (hlc : n ≤ cc) (hn : n ≤ 4096) :
    Calls Tryz.prog 6 #[.slice ca n cc, .slice none 0 0] w fun e w' => ∃ (mb qb gm : Nat) (S : Nat → Prop) (F : Nat → Option Nat) (V : Nat → Option Pg), e = .returned (.tuple #[.pointer (some ⟨mb, 0, none⟩), .pointer (some ⟨qb, 0, none⟩)]) ∧ VmAt w' mb S 8 4 V gm F ∧ SamePerm (vAt 4) V ∧ (∀ x, byteAt V x = if 65536 ≤ x ∧ x < 65536 + n then cs.getD (x - 65536) 0 else byteAt (vAt 4) x) ∧ (∀ j, S j ∨ j = mb → w.heap.size ≤ j ∧ j < w'.heap.size) ∧ Below w.heap.size w w' := by
  have HBR := Lib.hid hb
  have HL : Hid (cs.length = n ∧ n ≤ cc ∧ n ≤ 4096) := Lib.hid ⟨hl, hlc, hn⟩
  have i1 : ¬ (4096 : Int) < (n : Int) := by omega
  have t1 : decide ((4096 : Int) < (n : Int)) = false := by simp; omega
  have HNW := Lib.hid (vnew_any 8 w (by omega))
  have HRN := Lib.hid rnew_any
  clear hb hl hlc hn
  go_enter Tryz.func6, Tryz.ntmps6
  go_wp2_with fail
  refine HNW.out.mono ?_
  rintro e w1 ⟨rfl, b1, z1, v1⟩
  go_wp2_with fail
  refine (HRN.out w1).mono ?_
  rintro e w2 ⟨rfl, b2, z2, r2⟩
  have B2 : Hid (Below w.heap.size w w2 ∧ w2.heap.size = w.heap.size + 3 ∧ w1.heap.size = w.heap.size + 2) := Lib.hid ⟨b1.trans (b2.mono (by omega)), by omega, z1⟩
  have V2 := Lib.hid (v1.below b2)
  have R2 := Lib.hid r2
  clear b1 z1 v1 b2 z2 r2 HNW HRN
  go_wp2_with fail
  have H4 : Hid (BSt w ((w2.alloc (.cells #[.int .u64 65536, .int .u64 131072, .int .u64 135168, .int .u64 196608] 22)).alloc (.cells #[.int .i64 5, .int .i64 6, .int .i64 6, .int .i64 4] 3)) (w.heap.size + 1) w1.heap.size w.heap.size 0 0 w2.heap.size (w2.heap.size + 1)) := Lib.hid (by
    obtain ⟨q1, q2, q3⟩ := B2.out
    have h1 : Below w2.heap.size w2 ((w2.alloc (.cells #[.int .u64 65536, .int .u64 131072, .int .u64 135168, .int .u64 196608] 22)).alloc (.cells #[.int .i64 5, .int .i64 6, .int .i64 6, .int .i64 4] 3)) := by go_grown
    refine ⟨⟨(fun k => k = w.heap.size), (fun k => k = w1.heap.size), (fun _ => none), none, 0, 0, [], V2.out.below h1, R2.out.below h1, rfl, fun j hj => ?_, fun j hj => ?_, ?_⟩, q1.trans (h1.mono q1.size), (heap_alloc_old _ _ (by simp)).trans (heap_alloc_new _ _), two_new' w2 atC pmC _ _⟩
    · have hs : ((w2.alloc (.cells #[.int .u64 65536, .int .u64 131072, .int .u64 135168, .int .u64 196608] 22)).alloc (.cells #[.int .i64 5, .int .i64 6, .int .i64 6, .int .i64 4] 3)).heap.size = w2.heap.size + 2 := by simp
      rw [hs]
      rcases hj with hj | hj | hj
      · have hj2 : j = w.heap.size := hj
        omega
      · have hj2 : j = w1.heap.size := hj
        omega
      · omega
    · simp only at hj ⊢
      omega
    · simp only
      omega)
  clear V2 R2
  have HSZ : Hid (w.heap.size + 1 = w.heap.size + 1 ∧ w1.heap.size = w.heap.size + 2 ∧ w2.heap.size = w.heap.size + 3) := Lib.hid ⟨rfl, B2.out.2.2, B2.out.2.1⟩
  obtain ⟨mb, hmb⟩ : ∃ mb, w.heap.size + 1 = mb := ⟨_, rfl⟩
  obtain ⟨rb, hrb⟩ : ∃ rb, w1.heap.size = rb := ⟨_, rfl⟩
  obtain ⟨bp, hbp⟩ : ∃ bp, w2.heap.size + 1 = bp := ⟨_, rfl⟩
  obtain ⟨ba, hba⟩ : ∃ ba, w2.heap.size = ba := ⟨_, rfl⟩
  have NE : Hid (ba ≠ rb ∧ bp ≠ rb) := Lib.hid (by have := HSZ.out; omega)
  rw [hmb, hrb, hbp, hba] at H4
  generalize ((w2.alloc (.cells #[.int .u64 65536, .int .u64 131072, .int .u64 135168, .int .u64 196608] 22)).alloc (.cells #[.int .i64 5, .int .i64 6, .int .i64 6, .int .i64 4] 3)) = w4 at *
  simp only [hbp]
  simp only [hmb, hrb, hba]
  clear hmb hrb hbp hba HSZ B2
  go_loopg [11, 12] 4 (fun g x11 x12 wr => ∃ (k : Nat), k + g = 4 ∧ x11 = .int .i64 (k : Int) ∧ Hid (BSt w wr mb rb w.heap.size k k ba bp))
  case atStart => exact ⟨0, rfl, rfl, H4⟩
  case round =>
    obtain ⟨k, hk, rfl, HR⟩ := hrel
    clear H4
    cases gk with
    | succ f =>
      have hk4 : k < 4 := by omega
      have HM : Hid (∀ wx, Below wr.heap.size wr wx → Calls Tryz.prog 12 #[.pointer (some ⟨mb, 0, none⟩), .int .u64 (rAd k : Int), .int .i64 1, .int .i64 (rPm k : Int)] wx fun e w' => e = .returned .nilIface ∧ BSt w w' mb rb w.heap.size (k + 1) k ba bp ∧ (w'.cell? ⟨ba, k, none⟩ = some (.int .u64 (rAd k : Int)) ∧ w'.cell? ⟨bp, k, none⟩ = some (.int .i64 (rPm k : Int)))) := Lib.hid fun wx hx => (bst_map w wx mb rb w.heap.size k ba bp (HR.out.below hx) hk4).mono fun e w' hh => ⟨hh.1, hh.2, hh.2.cells hk4⟩
      have HMR : Hid (∀ wx, BSt w wx mb rb w.heap.size (k + 1) k ba bp → Calls Tryz.prog 13 #[.pointer (some ⟨rb, 0, none⟩), .int .u64 (rAd k : Int), .int .i64 1, .int .i64 (rPm k : Int)] wx fun e w' => (∃ v, e = .returned v) ∧ BSt w w' mb rb w.heap.size (k + 1) (k + 1) ba bp ∧ (w'.cell? ⟨ba, k, none⟩ = some (.int .u64 (rAd k : Int)) ∧ w'.cell? ⟨bp, k, none⟩ = some (.int .i64 (rPm k : Int)))) := Lib.hid fun wx hx => (bst_rmap w wx mb rb w.heap.size k ba bp hx hk4 NE.out).mono fun e w' hh => ⟨hh.1, hh.2, hh.2.cells hk4⟩
      have K1 : Hid (wr.drew.cell? ⟨ba, k, none⟩ = some (.int .u64 (rAd k : Int)) ∧ wr.drew.cell? ⟨bp, k, none⟩ = some (.int .i64 (rPm k : Int))) := Lib.hid (HR.out.cells hk4)
      have j1 : (k : Int) < 4 := by omega
      have j2 : (0 : Int) ≤ (k : Int) := by omega
      have j3 : IntKind.i64.wrap ((k : Int) + 1) = ((k + 1 : Nat) : Int) := by rw [IntKind.wrap_i64]; omega
      have hk2 : k + 1 + f = 4 := by omega
      clear hk hk4
      generalize rAd k = ra at *
      generalize rPm k = rp at *
      obtain ⟨k2, hkk⟩ : ∃ k2, k + 1 = k2 := ⟨_, rfl⟩
      rw [hkk] at j3 hk2 HM HMR
      clear hkk
      go_wp2_with fail
      go_region_held3 (fun wx => wx.cell? ⟨ba, k, none⟩ = some (.int .u64 (ra : Int)) ∧ wx.cell? ⟨bp, k, none⟩ = some (.int .i64 (rp : Int)))
        (first | with_reducible assumption | with_reducible exact K1.out)
        (first
          | (go_simp; go_at_call 12; refine (HM.out _ (by first | exact (Below.refl _ _).drew | assumption)).mono ?_; rintro e' w5 ⟨rfl, hb5, hq5⟩))
      have H5 := Lib.hid hb5
      have K5 : Hid (w5.drew.cell? ⟨ba, k, none⟩ = some (.int .u64 (ra : Int)) ∧ w5.drew.cell? ⟨bp, k, none⟩ = some (.int .i64 (rp : Int))) := Lib.hid hq5
      clear hb5 hq5 HM K1
      go_wp2_with fail
      go_region_held3 (fun wx => wx.cell? ⟨ba, k, none⟩ = some (.int .u64 (ra : Int)) ∧ wx.cell? ⟨bp, k, none⟩ = some (.int .i64 (rp : Int)))
        (first | with_reducible assumption | with_reducible exact K5.out)
        (first
          | (go_simp; go_at_call 13; refine (HMR.out _ (H5.out.below (Below.refl _ _).drew)).mono ?_; rintro e' w6 ⟨⟨v6, rfl⟩, hb6, hq6⟩))
      have H6 := Lib.hid hb6
      clear hb6 hq6 HMR H5 K5
      go_wp2_with fail
      go_roundg f
      case measure => omega
      case rel => exact ⟨k2, hk2, rfl, H6⟩
    | zero =>
      have hk4 : k = 4 := by omega
      have HE : Hid (BSt w wr mb rb w.heap.size 4 4 ba bp) := Lib.hid (by have := HR.out; rwa [hk4] at this)
      have j1 : ¬ (k : Int) < 4 := by omega
      clear hk hk4 HR
      obtain ⟨⟨S, R, F, ad, nn, c, L, h1, h2, h3, h4, h5, h6⟩, hbel, -, -⟩ := HE.out
      have HL3 : Hid (L.map (·.1) = rAds) := Lib.hid h3
      have HLn := HL.out
      have HP1 := Lib.hid (poke_told mb S 8 4 (vAt 4) w.heap.size F 65536 ca n cc cs wr h1 (by omega) (HBR.out.below hbel) HLn.1 HLn.2.1 (by omega) (fun hp b o e hS => by
        obtain ⟨b', o', e', hlt, -⟩ := HBR.out.at (i := 0) (by omega)
        rw [e] at e'
        simp only [Option.some.injEq, Addr.mk.injEq, and_true] at e'
        have := (h4 b (.inl hS)).1
        omega) (bar_one (p := newPg 5) rfl rfl (by omega)))
      have V1 := Lib.hid h1
      have R1 := Lib.hid h2
      have FT : Hid ((∀ j, S j ∨ R j ∨ j = mb → w.heap.size ≤ j ∧ j < wr.heap.size) ∧ ∀ j, R j → j ≠ mb ∧ ¬ S j) := Lib.hid ⟨h4, h5⟩
      have BW := Lib.hid hbel
      clear h1 h2 h3 h4 h5 h6 hbel HE HLn
      go_wp2_with fail
      refine HP1.out.mono ?_
      rintro e w5 ⟨rfl, V', v5, k5, z5, p5, y5⟩
      have V5 := Lib.hid v5
      have P5 := Lib.hid (And.intro p5 y5)
      have Z5 := Lib.hid (And.intro k5 z5)
      have R5 := Lib.hid (R1.out.kept (fun j hj hR => k5.block j hj (fun hS => (FT.out.2 j hR).2 hS)))
      have BW5 := Lib.hid (BW.out.trans (k5.below BW.out.size (fun j hj hS => by have := (FT.out.1 j (.inl hS)).1; omega)))
      clear v5 p5 y5 k5 z5 HP1 R1 V1
      have HLn := HL.out
      have HP2 := Lib.hid (rpoke_ok rb R ad nn c L 65536 n cc ca cs w5 R5.out (fun j hj => by have := (FT.out.1 j (.inr (.inl hj))).2; have := Z5.out.2; omega) (.inr HL3.out) (by omega) (by omega) (by omega) (HBR.out.below BW5.out) HLn.1 HLn.2.1 (fun hp b o e hS => by
        obtain ⟨b', o', e', hlt, -⟩ := HBR.out.at (i := 0) (by omega)
        rw [e] at e'
        simp only [Option.some.injEq, Addr.mk.injEq, and_true] at e'
        have := (FT.out.1 b (.inr (.inl hS))).1
        omega))
      clear HLn
      go_wp2_with fail
      refine HP2.out.mono ?_
      rintro e w6 ⟨⟨v6, rfl⟩, k6, r6⟩
      have R6 := Lib.hid r6
      have V6 := Lib.hid (V5.out.kept (w' := w6) (fun j hj hS => k6.block j hj (fun hR => by
        rcases hS with hS | hS
        · exact (FT.out.2 j hR).1 hS
        · exact (FT.out.2 j hR).2 hS)))
      have BW6 := Lib.hid (BW5.out.trans (k6.below BW5.out.size (fun j hj hR => by have := (FT.out.1 j (.inr (.inl hR))).1; omega)))
      have Z6 : Hid (wr.heap.size ≤ w6.heap.size) := Lib.hid (by have := k6.size; have := Z5.out.2; omega)
      clear k6 r6 HP2 R5 V5 BW5
      have HP3 := Lib.hid (poke_told mb S 8 4 V' w.heap.size F 131072 none 0 0 [] w6 V6.out (by omega) (brow_nil _) rfl (by omega) (by omega) (fun hp => by omega) bar_none)
      go_wp2_with fail
      refine HP3.out.mono ?_
      rintro e w7 ⟨rfl, V'', v7, k7, z7, p7, y7⟩
      have V7 := Lib.hid v7
      have P7 : Hid (SamePerm (vAt 4) V'' ∧ ∀ x, byteAt V'' x = if 65536 ≤ x ∧ x < 65536 + n then cs.getD (x - 65536) 0 else byteAt (vAt 4) x) := Lib.hid ⟨P5.out.1.trans p7, fun x => by rw [y7 x, if_neg (by omega)]; exact P5.out.2 x⟩
      have R7 := Lib.hid (R6.out.kept (fun j hj hR => k7.block j hj (fun hS => (FT.out.2 j hR).2 hS)))
      have BW7 := Lib.hid (BW6.out.trans (k7.below BW6.out.size (fun j hj hS => by have := (FT.out.1 j (.inl hS)).1; omega)))
      have Z7 : Hid (wr.heap.size ≤ w7.heap.size) := Lib.hid (by have := Z6.out; omega)
      clear v7 k7 z7 p7 y7 HP3 V6 R6 BW6 P5
      have HP4 := Lib.hid (rpoke_ok rb R ad nn c L 131072 0 0 none [] w7 R7.out (fun j hj => by have := (FT.out.1 j (.inr (.inl hj))).2; have := Z7.out; omega) (.inl rfl) (by omega) (.inl rfl) (by omega) (brow_nil _) rfl (by omega) (fun hp => by omega))
      go_wp2_with fail
      refine HP4.out.mono ?_
      rintro e w8 ⟨⟨v8, rfl⟩, k8, r8⟩
      have V8 := Lib.hid (V7.out.kept (w' := w8) (fun j hj hS => k8.block j hj (fun hR => by
        rcases hS with hS | hS
        · exact (FT.out.2 j hR).1 hS
        · exact (FT.out.2 j hR).2 hS)))
      have BW8 := Lib.hid (BW7.out.trans (k8.below BW7.out.size (fun j hj hR => by have := (FT.out.1 j (.inr (.inl hR))).1; omega)))
      have Z8 : Hid (wr.heap.size ≤ w8.heap.size) := Lib.hid (by have := Z7.out; have := k8.size; omega)
      clear k8 r8 HP4 V7 R7 BW7
      go_wp2_with fail
      go_ret2
      exact ⟨mb, rb, w.heap.size, S, F, V'', rfl, V8.out, P7.out.1, P7.out.2, fun j hj => by
        have h9 := FT.out.1 j (by rcases hj with h | h; exact .inl h; exact .inr (.inr h))
        have := Z8.out
        exact ⟨h9.1, by omega⟩, BW8.out⟩
end Go.Proofs.YtmnjkaimpejohaaGreatDoor
