/- tls.Add: a module without an image. -/
import Derived.Test.YtbppajfpjhmcgaaTlsPush
import Derived.Test.YtbppajfpjhmcgaaStepL
import Derived.Test.YtbppajfpjhmcgaaTlsLayout
import Derived.Deep.DeepCutAuto
import Derived.Deep.RegionLaw
namespace Go.Proofs.Ytbppajfpjhmcgaa
open Go.RowKit
set_option linter.unusedVariables false
set_option linter.unusedSimpArgs false

set_option maxRecDepth 100000 in
set_option maxHeartbeats 8000000 in
theorem add_nil (sb st last gr : Nat) (ms : List TM) (ts : List (Nat × Nat)) (ma ta : Option Addr) (mc tc sz al n : Nat) (w : World) (h : StAt w sb st last gr ms ts ma mc ta tc) (hn : ms.length = n) (hn1 : n ≤ 1048576) (hs : sz < 18446744073709551616) (ha : al < 18446744073709551616) (xx : List Nat × Nat × Nat) (hlay : layF [⟨0, sz, al⟩] 0 1 = some xx) :
    Calls Try.prog 16 #[.pointer (some ⟨sb, 0, none⟩), .agg #[.slice none 0 0, .int .u64 (sz : Int), .int .u64 (al : Int)]] w fun e w' => e = .returned (.tuple #[.int .i64 ((n + 1 : Nat) : Int), .nilIface]) ∧ VKept (stD sb ma ta) w w' ∧ ∃ ma' mc', StAt w' sb st last gr (ms ++ [⟨sz, al, 0, false⟩]) ts ma' mc' ta tc ∧ ∀ k, stD sb ma' ta k → stD sb ma ta k ∨ w.heap.size ≤ k := by
  have H := Lib.hid h
  have HN := Lib.hid hn
  have HN1 := Lib.hid hn1
  have HL := Lib.hid (fun (wx : World) (b : Nat) (hr : MRow wx (some ⟨b, 0, none⟩) [⟨0, sz, al⟩]) => by
    have := layout_any (some ⟨b, 0, none⟩) 1 1 [⟨0, sz, al⟩] wx hr rfl (by omega)
    rw [hlay] at this
    exact this)
  have HS := Lib.hid (And.intro hs ha)
  clear h hn hn1 hs ha hlay
  go_enter Try.func16, Try.ntmps16
  go_upto_region 1 with fail
  have hk := heap_alloc_new w (.cells #[.slice none 0 0, .int .u64 (sz : Int), .int .u64 (al : Int)] 37)
  have hA : Below w.heap.size w (w.alloc (.cells #[.slice none 0 0, .int .u64 (sz : Int), .int .u64 (al : Int)] 37)) := (Below.refl _ _).alloc (Nat.le_refl _) _
  generalize w.alloc (.cells #[.slice none 0 0, .int .u64 (sz : Int), .int .u64 (al : Int)] 37) = w1 at hk hA ⊢
  have k0 : w1.cell? ⟨w.heap.size, 0, none⟩ = some (.slice none 0 0) := by rw [cell_of_row _ _ 0 _ _ _ hk]; rfl
  have k1 : w1.cell? ⟨w.heap.size, 1, none⟩ = some (.int .u64 (sz : Int)) := by rw [cell_of_row _ _ 1 _ _ _ hk]; rfl
  have k2 : w1.cell? ⟨w.heap.size, 2, none⟩ = some (.int .u64 (al : Int)) := by rw [cell_of_row _ _ 2 _ _ _ hk]; rfl
  have HX := Lib.hid hk
  have HA := Lib.hid hA
  obtain ⟨vb, hvb⟩ : ∃ vb, w.heap.size = vb := ⟨_, rfl⟩
  rw [hvb] at k0 k1 k2 HX ⊢
  have HVB := Lib.hid hvb
  clear hk hA hvb
  have HR : Hid (∀ C, MRow (w1.alloc (.cells #[.slice none 0 0, .int .u64 (sz : Int), .int .u64 (al : Int)] C)) (some ⟨w1.heap.size, 0, none⟩) [⟨0, sz, al⟩]) := Lib.hid (fun C i hi => by
    have : i = 0 := by simp at hi; omega
    subst this
    refine ⟨w1.heap.size, 0, none, 0, rfl, by simp, ?_, ?_, ?_, Nat.zero_le _, HS.out.1, HS.out.2⟩ <;> (rw [World.cell?_alloc_new]; rfl))
  go_upto_region 2 with (go_at_call 6; refine (HL.out _ _ (HR.out _)).mono ?_; rintro e w5 ⟨⟨v, he, ho⟩, hb⟩; simp only [layE] at he; subst he; have B5 := Lib.hid hb; clear ho hb)
  have BW5 : Below w1.heap.size w1 w5 := (((Below.refl _ _).alloc (Nat.le_refl _) _).trans (B5.out.mono (by simp)))
  have H5 := Lib.hid ((H.out.below HA.out).below BW5)
  have X5 : w5.heap[vb]? = _ := (BW5.block _ (lt_of_block HX.out)).trans HX.out
  have k0 : w5.cell? ⟨vb, 0, none⟩ = some (.slice none 0 0) := by rw [cell_of_row _ _ 0 _ _ _ X5]; rfl
  have k1 : w5.cell? ⟨vb, 1, none⟩ = some (.int .u64 (sz : Int)) := by rw [cell_of_row _ _ 1 _ _ _ X5]; rfl
  have k2 : w5.cell? ⟨vb, 2, none⟩ = some (.int .u64 (al : Int)) := by rw [cell_of_row _ _ 2 _ _ _ X5]; rfl
  have c0 := H5.out.c0
  rw [HN.out] at c0
  have BB : Hid (Below vb w w5) := Lib.hid (by rw [← HVB.out]; exact HA.out.trans (BW5.mono HA.out.size))
  have L5 : Hid (vb < w5.heap.size) := Lib.hid (lt_of_block X5)
  have SB5 : Hid (∀ k, stD sb ma ta k → k < vb) := Lib.hid (fun k hk => by rw [← HVB.out]; exact (H.out.blk hk).2)
  have KS : Hid (∀ w', Below w5.heap.size w5 w' → w'.cell? ⟨sb, 0, none⟩ = some (.slice ma n mc) ∧ w'.cell? ⟨vb, 0, none⟩ = some (.slice none 0 0) ∧ w'.cell? ⟨vb, 1, none⟩ = some (.int .u64 (sz : Int)) ∧ w'.cell? ⟨vb, 2, none⟩ = some (.int .u64 (al : Int))) := Lib.hid (fun w' hb => by
    have g : ∀ b j, b < w5.heap.size → w'.cell? ⟨b, j, none⟩ = w5.cell? ⟨b, j, none⟩ := fun b j hbl => hb.cell (p := ⟨b, j, none⟩) hbl
    exact ⟨(g _ _ (H5.out.blk (.inl rfl)).2).trans c0, (g _ _ L5.out).trans k0, (g _ _ L5.out).trans k1, (g _ _ L5.out).trans k2⟩)
  have K1 : Hid (n + 1 ≤ maxLen) := Lib.hid (by have := HN1.out; unfold maxLen; omega)
  have K2 : Hid ((n + 1) * 56 ≤ 140737488355328) := Lib.hid (by have := HN1.out; omega)
  have OM : Hid (OwnS w5 (sb + 1) 62 5 (.slice ma n mc) (ms.map TM.row)) := Lib.hid (by have := H5.out.mods; rwa [HN.out] at this)
  have HML : Hid ((ms.map TM.row).length = n) := Lib.hid (by rw [List.length_map, HN.out])
  clear BW5 X5 HR HL HX B5
  go_upto_region 4 with fail
  go_region_law
    (first
      | (refine step_lies_row ?_ (.tmp 25) (.tmp 29) modSlice ?_ (sb + 1) (.slice ma n mc) (ms.map TM.row) n [.slice none 0 0, .int .u64 (sz : Int), .int .u64 (al : Int), .int .u64 0, .bool false] ?_ ⟨w6.heap.size, 0, none⟩ 1 ?_ ?_ ?_ ?_ ?_ ?_ ?_ ?_ ?_ (w6.heap.size + 1) ?_ ?_
         rfl; rfl; rfl; rfl; exact news_alloc w6 _ _; exact HML.out; rfl
         (intro u hu; simp only [List.mem_cons, List.not_mem_nil, or_false] at hu; rcases hu with rfl | rfl | rfl | rfl | rfl <;> rfl)
         exact OM.out.below (bo6.alloc bo6.size _)
         exact K1.out; exact K2.out
         (have := (H5.out.blk (.inl rfl)).2; have := bo6.size; simp; omega)
         (simp)
         intro g7 c7 w7 hown7 hgr7 hat7
         have ns : (Value.slice ma n mc).ownBlock ≠ some sb := fun e => Nat.not_succ_le_self _ (World.ownsRow.lt OM.out.1 _ e).1
         have X7 := (hgr7.block sb (by have := (H5.out.blk (.inl rfl)).2; have := bo6.size; simp; omega) (fun e => ns e.symm)).trans (((bo6.alloc bo6.size _).block sb (H5.out.blk (.inl rfl)).2).trans H5.out.box)
         have hc7 : w7.cell? ⟨sb, 0, none⟩ = some (.slice ma n mc) := by rw [cell_of_row _ _ 0 _ _ _ X7, ← HN.out]; rfl
         have hf7 : w7.frozen? ⟨sb, 0, none⟩ = false := frozen_of_row _ _ _ _ _ X7)
      | (go_simp; go_at_call 21; refine (own_nil _ _ _).mono ?_; rintro e' w6 ⟨rfl, hb6⟩; have bo6 : Below w5.heap.size w5 w6 := bstep (Below.refl _ _).drew hb6; obtain ⟨y5, y6, y7, y8⟩ := KS.out _ bo6; have y10 : ∀ ob, (w6.alloc ob).cell? ⟨sb, 0, none⟩ = some (.slice ma n mc) := fun ob => (KS.out _ (bo6.alloc bo6.size ob)).1))
  all_goals
    have HE := Lib.hid (H5.out.push_mod HN.out bo6 ⟨sz, al, 0, false⟩ hown7 hgr7 hat7)
    have c8 := HE.out.1.c0
    generalize w7.setCell ⟨sb, 0, none⟩ (.slice (some ⟨g7, 0, none⟩) (n + 1) c7) = w8 at *
    rw [List.length_append, HN.out, List.length_cons, List.length_nil, Nat.zero_add] at c8
    clear k0 k1 k2 c0 y5 y6 y7 y8 y10 hc7 hf7 ns X7 hown7 hgr7 hat7 hb6 bo6 OM
    go_wp2
    go_ret2
    refine ⟨rfl, ?_, _, _, HE.out.1, fun k hk => ?_⟩
    · exact (VKept.of_below (S := stD sb ma ta) (BB.out.mono (by have := HVB.out; omega))).trans HE.out.2.1 (fun j _ h => h)
    · rcases HE.out.2.2 k hk with h | h
      · exact .inl h
      · exact .inr (Nat.le_trans BB.out.size h)
end Go.Proofs.Ytbppajfpjhmcgaa
