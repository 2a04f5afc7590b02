/- Layer 18: the document's examples at the head of all statements. -/
import Derived.Test.YtbppajfpjhmcgaaTlsNew
import Derived.Test.YtbppajfpjhmcgaaTlsAdd
import Derived.Test.YtbppajfpjhmcgaaTlsDrop
import Derived.Test.YtbppajfpjhmcgaaTlsThr
import Derived.Test.YtbppajfpjhmcgaaTlsAddr
import Derived.Test.YtbppajfpjhmcgaaTlsAddrN
import Derived.Test.YtbppajfpjhmcgaaTlsSame
namespace Go.Proofs.Ytbppajfpjhmcgaa
open Go.RowKit
set_option linter.unusedVariables false
set_option linter.unusedSimpArgs false

theorem lay1 : layF [⟨0, 4, 4⟩, ⟨0, 10, 16⟩] 0 1 = some ([4, 16], 16, 16) := by decide
theorem lay2 : layF [⟨0, 1, 3⟩] 0 1 = none := by decide
theorem lay3 : layF [⟨0, 8, 0⟩] 0 1 = some ([8], 8, 1) := by decide
/-- modules' cells in a fresh block -/
theorem rows_alloc (w : World) (l : List Md) (C : Array Value) (hC : C = (l.map apiRow).flatten.toArray) : RowS (w.alloc (.cells C 37)) 3 (some ⟨w.heap.size, 0, none⟩) (l.map apiRow) := by
  subst hC
  intro i hi
  refine ⟨w.heap.size, 0, rfl, by simp, fun j hj => ?_⟩
  rw [World.cell?_alloc_new, Nat.zero_add]
  have := flatten_at (sz := 3) (l.map apiRow) (fun r hr => by obtain ⟨m, -, rfl⟩ := List.mem_map.1 hr; rfl) i j hi hj
  rw [← this]
  simp
theorem find0 (xs : List Nat) (h : AllOf (fun k => (fun _ => none : Nat → Option Pg) k ≠ none) 0 xs) : findL 1 xs 1073741824 = 1073741824 := by
  obtain ⟨-, -, h3⟩ := h
  have : xs = [] := List.length_eq_zero_iff.1 (by omega)
  subst this
  rfl
theorem find1 {V : Nat → Option Pg} (hs : SamePerm (mapV (fun _ => none) (1073741824 / 4096) 1 6) V) (xs : List Nat) (h : AllOf (fun k => V k ≠ none) 1 xs) : findL 1 xs 1073741824 = 1073745920 := by
  obtain ⟨h1, h2, h3⟩ := h
  have hm : 262144 ∈ xs := (h2 _).2 (by
    obtain ⟨pg, h4, -⟩ := hs.get (k := 262144) (mapV_at (by omega) (by omega))
    show V 262144 ≠ none
    rw [h4]
    exact fun h => by cases h)
  match xs, hm, h3 with
  | [k], hm, _ =>
    obtain rfl : 262144 = k := by simpa using hm
    rfl
  | _ :: _ :: _, _, h3 => exact absurd h3 (by simp)
theorem take1 {V : Nat → Option Pg} (hs : SamePerm (mapV (fun _ => none) (1073741824 / 4096) 1 6) V) : takeF V 1 (1073745920 / 4096) = none := by
  refine takeF_none (fun k h1 h2 => ?_)
  have : k = 262145 := by omega
  subst this
  have := hs 262145
  rw [mapV_off (by omega)] at this
  cases hv : V 262145 with
  | none => rfl
  | some pg => rw [hv] at this; simp at this

set_option maxRecDepth 100000 in
set_option maxHeartbeats 16000000 in
theorem up_tls (w : World) : Calls Try.prog 5 #[] w fun e w' => e = .returned (.bool true) ∧ Below w.heap.size w w' := by
  have hec := run_eql_code
  go_enter Try.func5, Try.ntmps5
  go_wp2_with fail
  have r1 := rows_alloc w [⟨0, 4, 4⟩, ⟨0, 10, 16⟩] #[.slice none 0 0, .int .u64 4, .int .u64 4, .slice none 0 0, .int .u64 10, .int .u64 16] rfl
  have c1 := layout_any (some ⟨w.heap.size, 0, none⟩) 2 2 [⟨0, 4, 4⟩, ⟨0, 10, 16⟩] _ (MRow.of_rows r1 (by decide)) rfl (by omega)
  rw [lay1] at c1
  refine c1.mono ?_
  rintro e w1 ⟨⟨v, he, ho⟩, hb1⟩
  simp only [layE] at he
  subst he
  obtain ⟨oa, oc, hv, hro, -⟩ := ho.row
  replace hv : v = .slice oa 2 oc := hv
  subst hv
  have HRO := Lib.hid hro
  have B1 : Hid (Below w.heap.size w w1) := Lib.hid (((Below.refl _ _).alloc (Nat.le_refl _) _).trans (hb1.mono (by simp)))
  clear c1 r1 ho hro hb1
  go_wp2_with fail
  have r2 := rows_alloc w1 [⟨0, 1, 3⟩] #[.slice none 0 0, .int .u64 1, .int .u64 3] rfl
  have c2 := layout_any (some ⟨w1.heap.size, 0, none⟩) 1 1 [⟨0, 1, 3⟩] _ (MRow.of_rows r2 (by decide)) rfl (by omega)
  rw [lay2] at c2
  refine c2.mono ?_
  rintro e w2 ⟨⟨v2, he, ho⟩, hb2⟩
  replace he : e = .returned (.tuple #[.slice none 0 0, .int .u64 0, .int .u64 0, .iface 52 (.int .i64 21)]) := he
  subst he
  have B2 : Hid (Below w1.heap.size w1 w2) := Lib.hid (((Below.refl _ _).alloc (Nat.le_refl _) _).trans (hb2.mono (by simp)))
  clear c2 r2 ho hb2
  go_wp2_with fail
  have r3 := rows_alloc w2 [⟨0, 4, 4⟩, ⟨0, 10, 16⟩] #[.slice none 0 0, .int .u64 4, .int .u64 4, .slice none 0 0, .int .u64 10, .int .u64 16] rfl
  refine (new_any w2.heap.size 2 2 [⟨0, 4, 4⟩, ⟨0, 10, 16⟩] [4, 16] 16 16 _ r3 (by decide) rfl (by omega) lay1 rfl).mono ?_
  rintro e w3 ⟨sb, ma, mc, rfl, hsb, hst, hb3⟩
  replace hst : StAt w3 sb 2 16 16 [⟨4, 4, 4, false⟩, ⟨10, 16, 16, false⟩] [] ma mc none 0 := hst
  have ST3 := Lib.hid hst
  have B3 : Hid (Below w2.heap.size w2 w3) := Lib.hid (((Below.refl _ _).alloc (Nat.le_refl _) _).trans (hb3.mono (by simp)))
  have SB : Hid (w2.heap.size ≤ sb) := Lib.hid (by simp at hsb; omega)
  clear r3 hst hb3 hsb
  go_wp2_with fail
  refine (vnew_any 100 w3 (by omega)).mono ?_
  rintro e w4 ⟨rfl, hb4, hsz4, hv4⟩
  have B4 := Lib.hid hb4
  have ST4 := Lib.hid (ST3.out.below hb4)
  have V4 := Lib.hid hv4
  have Z3 : Hid (∀ k, stD sb ma none k → k < w3.heap.size) := Lib.hid (fun k hk => (ST3.out.blk hk).2)
  have Z4 : Hid (w4.heap.size = w3.heap.size + 2) := Lib.hid hsz4
  have LW : Hid (w1.heap.size ≤ sb ∧ w1.heap.size ≤ w3.heap.size) := Lib.hid (by have := B2.out.size; have := B3.out.size; have := SB.out; omega)
  have BW3 : Hid (Below w1.heap.size w1 w3) := Lib.hid (B2.out.trans (B3.out.mono B2.out.size))
  have BW4 : Hid (Below w1.heap.size w1 w4) := Lib.hid (BW3.out.trans (hb4.mono LW.out.2))
  clear hb4 hsz4 hv4
  obtain ⟨gm, hgm⟩ : ∃ gm, w3.heap.size = gm := ⟨_, rfl⟩
  obtain ⟨mb, hmb⟩ : ∃ mb, w3.heap.size + 1 = mb := ⟨_, rfl⟩
  rw [hmb]
  rw [hmb, hgm] at V4
  have G3 : Hid (w3.heap.size = gm ∧ gm + 1 = mb) := Lib.hid ⟨hgm, by omega⟩
  clear hgm hmb
  go_wp2_with fail
  refine (thread_few sb 2 16 16 [⟨4, 4, 4, false⟩, ⟨10, 16, 16, false⟩] [] ma none mc 0 mb (fun k => k = gm) 100 0 (fun _ => none) gm (fun _ => none) 1 1073741824 1073741888 0 w4 ST4.out V4.out (fun k hk h => by have := Z3.out k hk; have := G3.out; rcases h with rfl | rfl <;> omega) (fun k hk => by have := Z4.out; have := G3.out; omega) (by omega) (by omega) (by decide) (by decide) (by decide) rfl (by omega) (by omega) (by decide) (by decide) (fun xs hx => find0 xs hx) (by decide) (by omega) (by decide) rfl (by omega)).mono ?_
  rintro e w5 ⟨rfl, hk5, mg, ta, tc, S5, V5, F5, hst5, hv5, hp5, hmg5, hlm5, hd5, hdm5, hsm5, hs5, hsd5⟩
  replace hst5 : StAt w5 sb 2 16 16 [⟨4, 4, 4, false⟩, ⟨10, 16, 16, false⟩] [(1073741888, mg)] ma mc ta tc := hst5
  have ST5 := Lib.hid hst5
  have V5' := Lib.hid hv5
  have P5 := Lib.hid hp5
  have MG5 := Lib.hid hmg5
  have D5 := Lib.hid (And.intro hd5 (And.intro hdm5 hsm5))
  have L5 : Hid (∀ k, S5 k → w3.heap.size ≤ k ∧ k < w5.heap.size) := Lib.hid (fun k hk => by
    have := hk5.size
    rcases hs5 k hk with rfl | ⟨h1, h2⟩
    · have := G3.out; have := Z4.out; omega
    · have := Z4.out; omega)
  have M5 : Hid (w4.heap.size ≤ mg) := Lib.hid hlm5
  have BW5 : Hid (Below w1.heap.size w1 w5) := Lib.hid (BW4.out.trans (hk5.below BW4.out.size (fun k hk h => by
    rcases h with rfl | h
    · have := G3.out; have := LW.out; omega
    · have := (ST4.out.blk h).1; have := LW.out; omega)))
  clear hk5 hst5 hv5 hp5 hmg5 hlm5 hd5 hdm5 hsm5 hs5 hsd5
  go_wp2_with fail
  refine (pointer_any sb 2 16 16 _ _ ma ta mc tc 0 1073741888 mg w5 ST5.out rfl (by simp)).mono ?_
  rintro e w' ⟨rfl, rfl⟩
  go_wp2_with fail
  refine (addr_start sb 2 16 16 _ _ ma ta mc tc mb 0 0 1073741888 mg 0 ⟨4, 4, 4, false⟩ w5 ST5.out rfl rfl (by omega) (by simp) (by decide) rfl (by decide) (by decide)).mono ?_
  rintro e w6 ⟨rfl, hb6⟩
  have ST6 := Lib.hid (ST5.out.below hb6)
  have V6 := Lib.hid (V5'.out.below hb6)
  have MG6 : Hid (w6.heap[mg]? = some (.map #[] 0)) := Lib.hid ((hb6.block _ (lt_of_block MG5.out)).trans MG5.out)
  have Z6 : Hid (w5.heap.size ≤ w6.heap.size) := Lib.hid hb6.size
  have BW6 : Hid (Below w1.heap.size w1 w6) := Lib.hid (BW5.out.trans (hb6.mono BW5.out.size))
  clear hb6
  go_wp2_with fail
  refine (add_nil sb 2 16 16 _ _ ma ta mc tc 8 0 2 w6 ST6.out rfl (by omega) (by omega) (by omega) _ lay3).mono ?_
  rintro e w7 ⟨rfl, hk7, ma7, mc7, hst7, hs7⟩
  replace hst7 : StAt w7 sb 2 16 16 [⟨4, 4, 4, false⟩, ⟨10, 16, 16, false⟩, ⟨8, 0, 0, false⟩] [(1073741888, mg)] ma7 mc7 ta tc := hst7
  have ST7 := Lib.hid hst7
  have V7 := Lib.hid (V6.out.kept (fun k hk h => hk7.block k hk (fun hst => D5.out.1 k hst h)))
  have MG7 : Hid (w7.heap[mg]? = some (.map #[] 0)) := Lib.hid ((hk7.block _ (lt_of_block MG6.out) D5.out.2.1).trans MG6.out)
  have Z7 : Hid (w6.heap.size ≤ w7.heap.size) := Lib.hid hk7.size
  have D7 : Hid (∀ k, stD sb ma7 ta k → ¬ (k = mb ∨ S5 k)) := Lib.hid (fun k hk h => by
    rcases hs7 k hk with h' | h'
    · exact D5.out.1 k h' h
    · have := Z6.out
      rcases h with rfl | h
      · have := V6.out.lt; omega
      · have := (L5.out k h).2; omega)
  have D7m : Hid (¬ stD sb ma7 ta mg) := Lib.hid (fun hk => by
    rcases hs7 mg hk with h' | h'
    · exact D5.out.2.1 h'
    · have := lt_of_block MG6.out; omega)
  have BW7 : Hid (Below w1.heap.size w1 w7) := Lib.hid (BW6.out.trans (hk7.below BW6.out.size (fun k hk h => by have := (ST6.out.blk h).1; have := LW.out; omega)))
  clear hk7 hst7 hs7
  go_wp2_with fail
  refine (addr_new sb 2 16 16 _ _ ma7 ta mc7 tc mb 0 2 1073741888 mg 2 S5 100 1 V5 gm F5 1 1073745920 ⟨8, 0, 0, false⟩ w7 ST7.out rfl rfl (by omega) (by simp) (by decide) rfl V7.out MG7.out D7.out D7m.out D5.out.2.2 (fun k hk => by have := (L5.out k hk).2; have := Z6.out; have := Z7.out; omega) (by decide) (by decide) (by omega) (by decide) (fun xs hx => find1 P5.out xs hx) (by decide) (by omega) (by decide) (take1 P5.out) (by omega) (by omega)).mono ?_
  rintro e w8 ⟨rfl, hk8, hst8⟩
  have ST8 := Lib.hid hst8
  have BW8 : Hid (Below w1.heap.size w1 w8) := Lib.hid (BW7.out.trans (hk8.below BW7.out.size (fun k hk h => by
    rcases h with h | rfl
    · have := (L5.out k h).1; have := LW.out; omega
    · have := M5.out; have := Z4.out; have := LW.out; omega)))
  clear hk8 hst8
  have HR8 : Hid (Row .u64 w8 oa (toI [4, 16])) := Lib.hid (HRO.out.below BW8.out)
  go_wp2_with fail
  have hrn := Row.new .u64 w8 [(4 : Int), 16] 25
  have hA : Below w8.heap.size w8 (w8.alloc (.cells #[.int .u64 4, .int .u64 16] 25)) := (Below.refl _ _).alloc (Nat.le_refl _) _
  refine (same18_any oa (some ⟨w8.heap.size, 0, none⟩) oc 2 (toI [4, 16]) [4, 16] _ (HR8.out.below hA) hrn (by decide) (by decide)).mono ?_
  rintro e w9 ⟨rfl, hb9⟩
  have hbb : Below w8.heap.size w8 w9 := hA.trans (hb9.mono (by simp))
  have ST9 := Lib.hid (ST8.out.below hbb)
  have BW9 : Hid (Below w1.heap.size w1 w9) := Lib.hid (BW8.out.trans (hbb.mono BW8.out.size))
  clear hrn hA hb9 hbb
  rw [show (toI [4, 16] == [(4 : Int), 16]) = true from rfl]
  obtain ⟨b7, ob, e7, -, -⟩ := ST9.out.mod_at (i := 2) rfl
  have h7 : ma7 = some ⟨b7, 0, none⟩ := by
    rcases own_plain ST9.out.mods with h | ⟨b, h, -⟩
    · rw [h] at e7; cases e7
    · have e8 : b = b7 := by
        rw [h] at e7
        simp only [Option.some.injEq, Addr.mk.injEq] at e7
        exact e7.1
      rw [h, e8]
  subst h7
  clear e7
  go_wp2_with fail
  refine (drop_live (i := 2) ⟨8, 0, 0, false⟩ ST9.out rfl (by omega) rfl (n := 3) rfl (by omega)).mono ?_
  rintro e w10 ⟨rfl, hw10⟩
  have hst10 := ST9.out.drop (i := 2) (m := ⟨8, 0, 0, false⟩) rfl
  rw [← hw10] at hst10
  replace hst10 : StAt w10 sb 2 16 16 [⟨4, 4, 4, false⟩, ⟨10, 16, 16, false⟩, ⟨8, 0, 0, true⟩] [(1073741888, mg)] (some ⟨b7, 0, none⟩) mc7 ta tc := hst10
  have ST10 := Lib.hid hst10
  have BW10 : Hid (Below w1.heap.size w1 w10) := Lib.hid (by
    rw [hw10]
    exact BW9.out.setCell (p := ⟨b7, 2 * 5 + 4, none⟩) (by have := (ST9.out.blk (.inr (.inl ⟨0, rfl⟩))).1; have := LW.out; show _ ≤ b7; omega) _)
  clear hst10 hw10
  go_wp2_with fail
  have d2 : Calls Try.prog 17 #[.pointer (some ⟨sb, 0, none⟩), .int .i64 3] w10 fun e w' => e = .returned (.iface 52 (.int .i64 6)) ∧ w10 = w' := drop_gone (i := 2) ⟨8, 0, 0, true⟩ ST10.out rfl (by omega) rfl (n := 3) rfl (by omega)
  refine d2.mono ?_
  rintro e w' ⟨rfl, rfl⟩
  go_wp2_with fail
  have d3 : Calls Try.prog 17 #[.pointer (some ⟨sb, 0, none⟩), .int .i64 1] w10 fun e w' => e = .returned (.iface 52 (.int .i64 1)) ∧ w10 = w' := drop_arg 1 ST10.out (by omega) (by omega)
  refine d3.mono ?_
  rintro e w' ⟨rfl, rfl⟩
  go_wp2_with fail
  go_ret
  exact ⟨rfl, B1.out.trans (BW10.out.mono B1.out.size)⟩
end Go.Proofs.Ytbppajfpjhmcgaa
