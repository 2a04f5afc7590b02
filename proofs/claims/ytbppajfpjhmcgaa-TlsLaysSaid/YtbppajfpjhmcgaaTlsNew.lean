/- tls.New: a store of modules without images. -/
import Derived.Test.YtbppajfpjhmcgaaTlsSt
import Derived.Test.YtbppajfpjhmcgaaTlsLayout
import Derived.Deep.DeepCutAuto
import Derived.Deep.RegionLaw
namespace Go.Proofs.Ytbppajfpjhmcgaa
open Go.RowKit
set_option linter.unusedVariables false
set_option linter.unusedSimpArgs false

/-- a module's cells, no image -/
def apiRow (m : Md) : List Value := [.slice none 0 0, .int .u64 (m.size : Int), .int .u64 (m.al : Int)]
def tmOf (m : Md) (o : Nat) : TM := ⟨m.size, m.al, o, false⟩
theorem cell_of_block {w w' : World} {b j : Nat} (h : w'.heap[b]? = w.heap[b]?) : w'.cell? ⟨b, j, none⟩ = w.cell? ⟨b, j, none⟩ := by
  simp [World.cell?, h]
theorem MRow.of_rows {w : World} {b : Nat} {l : List Md} (h : RowS w 3 (some ⟨b, 0, none⟩) (l.map apiRow)) (hil : ∀ m ∈ l, m.il = 0 ∧ m.size < 18446744073709551616 ∧ m.al < 18446744073709551616) : MRow w (some ⟨b, 0, none⟩) l := by
  intro i hi
  obtain ⟨b', o, e, hlt, hc⟩ := h i (by simpa using hi)
  simp only [Option.some.injEq, Addr.mk.injEq, and_true] at e
  obtain ⟨rfl, rfl⟩ := e
  obtain ⟨h1, h2, h3⟩ := hil _ (List.getElem_mem hi)
  refine ⟨b, 0, none, 0, rfl, hlt, ?_, ?_, ?_, by omega, h2, h3⟩
  · have := hc 0 (by omega)
    simp only [List.getElem_map, apiRow] at this
    rw [h1]
    simpa using this
  · have := hc 1 (by omega)
    simp only [List.getElem_map, apiRow] at this
    simpa using this
  · have := hc 2 (by omega)
    simp only [List.getElem_map, apiRow] at this
    simpa using this

set_option maxRecDepth 100000 in
set_option maxHeartbeats 8000000 in
theorem new_any (b cap n : Nat) (l : List Md) (offs : List Nat) (last gr : Nat) (w : World) (h : RowS w 3 (some ⟨b, 0, none⟩) (l.map apiRow)) (hil : ∀ m ∈ l, m.il = 0 ∧ m.size < 18446744073709551616 ∧ m.al < 18446744073709551616) (hl : l.length = n) (hn : n ≤ 1048576)
    (hlay : layF l 0 1 = some (offs, last, gr)) (hol : offs.length = n) :
    Calls Try.prog 11 #[.slice (some ⟨b, 0, none⟩) n cap] w fun e w' => ∃ sb ma mc, e = .returned (.tuple #[.pointer (some ⟨sb, 0, none⟩), .nilIface]) ∧ w.heap.size ≤ sb ∧ StAt w' sb n last gr ((l.zip offs).map fun p => tmOf p.1 p.2) [] ma mc none 0 ∧ Below w.heap.size w w' := by
  have HL := Lib.hid (layout_any (some ⟨b, 0, none⟩) cap n l w (MRow.of_rows h hil) hl (by omega))
  rw [hlay] at HL
  have H := Lib.hid h
  have HLL := Lib.hid hl
  have HNN := Lib.hid hn
  have HOL := Lib.hid hol
  obtain ⟨ms, hms⟩ : ∃ ms, ((l.zip offs).map fun p => tmOf p.1 p.2) = ms := ⟨_, rfl⟩
  have HMS : Hid (ms.length = n ∧ ∀ k (hk : k < n), ∃ m : Md, l[k]? = some m ∧ ∃ o, offs[k]? = some o ∧ ms.take (k + 1) = ms.take k ++ [tmOf m o]) := Lib.hid (by
    subst hms
    refine ⟨by simp [hl, hol], fun k hk => ⟨l[k], List.getElem?_eq_getElem (by omega), offs[k], List.getElem?_eq_getElem (by omega), ?_⟩⟩
    rw [List.take_succ_eq_append_getElem (by simp; omega)]
    simp)
  rw [hms]
  clear h hil hl hn hlay hol hms
  go_enter Try.func11, Try.ntmps11
  go_wp2_with fail
  refine HL.out.mono ?_
  rintro e w5 ⟨⟨v, he, ho⟩, hb5⟩
  simp only [layE] at he
  subst he
  obtain ⟨oa, oc, rfl, hro, -⟩ := ho.row
  simp only [toI_length, HOL.out]
  have HRO := Lib.hid hro
  have B5 := Lib.hid hb5
  clear ho hro hb5 HL
  go_upto_region 6 with fail
  have hbox := heap_alloc_new w5 (.cells (stCells none 0 0 n last gr none 0 0).toArray 59)
  have hba : Below w5.heap.size w5 (w5.alloc (.cells (stCells none 0 0 n last gr none 0 0).toArray 59)) := (Below.refl _ _).alloc (Nat.le_refl _) _
  have hbs : w5.heap.size + 1 ≤ (w5.alloc (.cells (stCells none 0 0 n last gr none 0 0).toArray 59)).heap.size := by simp
  have HSB : Hid (w.heap.size ≤ w5.heap.size) := Lib.hid B5.out.size
  change Code.wp _ _ _ _ (w5.alloc (.cells (stCells none 0 0 n last gr none 0 0).toArray 59))
  generalize w5.alloc (.cells (stCells none 0 0 n last gr none 0 0).toArray 59) = w6 at hbox hba hbs ⊢
  obtain ⟨sb, hsb⟩ : ∃ sb, w5.heap.size = sb := ⟨_, rfl⟩
  have HSE := Lib.hid hsb
  rw [hsb] at hbox hba hbs HSB ⊢
  have X6 := Lib.hid hbox
  have B6 := Lib.hid hba
  have S6 := Lib.hid hbs
  clear hbox hba hbs hsb
  go_loopg [29] n (fun f s29 wr => ∃ (k : Nat) (ad : Option Addr) (c : Nat), s29 = .int .i64 (k : Int) ∧ Hid (k + f = n) ∧ Hid (wr.heap[sb]? = some (.cells (stCells ad k c n last gr none 0 0).toArray 59)) ∧ Hid (OwnS wr (sb + 1) 62 5 (.slice ad k c) ((ms.take k).map TM.row)) ∧ Hid (Below sb w5 wr) ∧ Hid (sb + 1 ≤ wr.heap.size))
  case atStart => exact ⟨0, none, 0, rfl, Lib.hid (by omega), X6, Lib.hid (OwnS.nil _ _ _ _), B6, S6⟩
  case round =>
    clear X6 B6 S6
    obtain ⟨k, ad, c, rfl, HK, XB, OW, BW, SW⟩ := hrel
    have hk := HK.out
    cases gk with
    | zero =>
      have hke : k = n := by omega
      subst hke
      clear hk
      go_wp2_with fail
      go_ret2
      refine ⟨sb, ad, c, rfl, HSB.out, ?_, B5.out.trans (BW.out.mono HSB.out)⟩
      have hn := HMS.out.1
      have ho := OW.out
      rw [List.take_of_length_le (by omega)] at ho
      rw [← hn] at ho
      exact ⟨by rw [hn]; exact XB.out, ho, OwnS.nil _ _ _ _⟩
    | succ f =>
      have hkn : (k : Int) < (n : Int) := by omega
      obtain ⟨m, hm, o, hof, htk⟩ := HMS.out.2 k (by omega)
      have hkl : k < l.length := by rw [HLL.out]; omega
      have hbe : Below w.heap.size w wr := B5.out.trans (BW.out.mono HSB.out)
      obtain ⟨b', o', e, hlt, hc⟩ := (H.out.below hbe) k (by simpa using hkl)
      simp only [Option.some.injEq, Addr.mk.injEq, and_true] at e
      obtain ⟨rfl, rfl⟩ := e
      have hlk : l[k] = m := by rw [List.getElem?_eq_getElem hkl] at hm; exact Option.some.inj hm
      rw [List.getElem_map, hlk] at hc
      have q0 := hc 0 (by omega)
      have q1 := hc 1 (by omega)
      have q2 := hc 2 (by omega)
      simp only [apiRow, Nat.zero_add, Nat.add_zero] at q0 q1 q2
      replace q0 : wr.cell? ⟨b, k * 3, none⟩ = some (.slice none 0 0) := q0
      replace q1 : wr.cell? ⟨b, k * 3 + 1, none⟩ = some (.int .u64 (m.size : Int)) := q1
      replace q2 : wr.cell? ⟨b, k * 3 + 2, none⟩ = some (.int .u64 (m.al : Int)) := q2
      obtain ⟨ob, oo, rfl, hoc⟩ := HRO.out k (by rw [toI_length, HOL.out]; omega)
      have hoblt : ob < w5.heap.size := by simpa using World.block_lt_of_cell? w5 _ hoc
      have q3 : wr.cell? ⟨ob, oo + k, none⟩ = some (.int .u64 (o : Int)) := by
        rw [BW.out.cell (p := ⟨ob, oo + k, none⟩) (by rw [← HSE.out]; exact hoblt), hoc, toI_getD]
        simp [List.getD, hof]
      have HQ3 := Lib.hid q3
      have HOBL : Hid (ob < wr.heap.size) := Lib.hid (by have := SW.out; have := HSE.out; omega)
      have HTK := Lib.hid htk
      have HOB : Hid (ob < sb) := Lib.hid (by rw [← HSE.out]; exact hoblt)
      have HML : Hid (((ms.take k).map TM.row).length = k) := Lib.hid (by simp; have := HMS.out.1; omega)
      have HKF : Hid (k + 1 + f = n) := Lib.hid (by omega)
      obtain ⟨sz, hsz⟩ : ∃ sz, m.size = sz := ⟨_, rfl⟩
      obtain ⟨al, hal⟩ : ∃ al, m.al = al := ⟨_, rfl⟩
      have HTM : Hid ((tmOf m o).row = [.slice none 0 0, .int .u64 (sz : Int), .int .u64 (al : Int), .int .u64 (o : Int), .bool false]) := Lib.hid (by rw [← hsz, ← hal]; rfl)
      rw [hsz] at q1
      rw [hal] at q2
      clear hk hm hof htk hkl hbe hlt hc hlk hoc hoblt q3 hsz hal HK
      go_upto_region 8 with fail
      have hk0 : ((wr.alloc (.cells #[.slice none 0 0, .int .u64 (sz : Int), .int .u64 (al : Int)] 37)).cell? ⟨wr.heap.size, 0, none⟩ = some (.slice none 0 0)) := by rw [World.cell?_alloc_new]; rfl
      have hk1 : ((wr.alloc (.cells #[.slice none 0 0, .int .u64 (sz : Int), .int .u64 (al : Int)] 37)).cell? ⟨wr.heap.size, 1, none⟩ = some (.int .u64 (sz : Int))) := by rw [World.cell?_alloc_new]; rfl
      have hk2 : ((wr.alloc (.cells #[.slice none 0 0, .int .u64 (sz : Int), .int .u64 (al : Int)] 37)).cell? ⟨wr.heap.size, 2, none⟩ = some (.int .u64 (al : Int))) := by rw [World.cell?_alloc_new]; rfl
      have hA : Below wr.heap.size wr (wr.alloc (.cells #[.slice none 0 0, .int .u64 (sz : Int), .int .u64 (al : Int)] 37)) := (Below.refl _ _).alloc (Nat.le_refl _) _
      have hAs : wr.heap.size < (wr.alloc (.cells #[.slice none 0 0, .int .u64 (sz : Int), .int .u64 (al : Int)] 37)).heap.size := by simp
      generalize wr.alloc (.cells #[.slice none 0 0, .int .u64 (sz : Int), .int .u64 (al : Int)] 37) = w1 at hk0 hk1 hk2 hA hAs ⊢
      have X1 : Hid (w1.heap[sb]? = _) := Lib.hid ((hA.block _ (by have := SW.out; omega)).trans XB.out)
      have O1 := Lib.hid (OW.out.below hA)
      have BA := Lib.hid (BW.out.trans (hA.mono (by have := SW.out; omega)))
      have S1 : Hid (sb + 1 ≤ w1.heap.size) := Lib.hid (by have := SW.out; omega)
      have q3 : w1.cell? ⟨ob, oo + k, none⟩ = some (.int .u64 (o : Int)) := by rw [hA.cell (p := ⟨ob, oo + k, none⟩) HOBL.out]; exact HQ3.out
      have q4 : w1.cell? ⟨sb, 0, none⟩ = some (.slice ad k c) := by rw [cell_of_row _ _ 0 _ _ _ X1.out]; rfl
      have KS : Hid (∀ w', Below w1.heap.size w1 w' → w'.cell? ⟨sb, 0, none⟩ = some (.slice ad k c) ∧ w'.cell? ⟨wr.heap.size, 0, none⟩ = some (.slice none 0 0) ∧ w'.cell? ⟨wr.heap.size, 1, none⟩ = some (.int .u64 (sz : Int)) ∧ w'.cell? ⟨wr.heap.size, 2, none⟩ = some (.int .u64 (al : Int)) ∧ w'.cell? ⟨ob, oo + k, none⟩ = some (.int .u64 (o : Int))) := Lib.hid (fun w' hb => by
        have g : ∀ b j, b < w1.heap.size → w'.cell? ⟨b, j, none⟩ = w1.cell? ⟨b, j, none⟩ := fun b j hbl => hb.cell (p := ⟨b, j, none⟩) hbl
        exact ⟨(g _ _ S1.out).trans q4, (g _ _ hAs).trans hk0, (g _ _ hAs).trans hk1, (g _ _ hAs).trans hk2, (g _ _ (by have := HOBL.out; omega)).trans q3⟩)
      have HVB : Hid (∀ g, (Value.slice ad k c).ownBlock = some g → g < wr.heap.size) := Lib.hid (fun g e => (World.ownsRow.lt OW.out.1 g e).2)
      have HVL : Hid (wr.heap.size < w1.heap.size) := Lib.hid hAs
      generalize wr.heap.size = vb at *
      clear hk0 hk1 hk2 hA hAs q0 q1 q2 q3 q4 HQ3 HOBL
      have K1 : Hid (k + 1 ≤ maxLen) := Lib.hid (by have := HNN.out; unfold maxLen; omega)
      have K2 : Hid ((k + 1) * 56 ≤ 140737488355328) := Lib.hid (by have := HNN.out; omega)
      obtain ⟨y0, y1, y2, y3, y4⟩ := KS.out _ (Below.refl _ _)
      go_region_law
        (first
          | (refine step_grow_row ?_ (.tmp 38) (.tmp 46) modSlice ?_ (sb + 1) (.slice ad k c) ((ms.take k).map TM.row) k [.slice none 0 0, .int .u64 (sz : Int), .int .u64 (al : Int), .int .u64 (o : Int), .bool false] ?_ ⟨w6.heap.size, 0, none⟩ 1 ?_ ?_ ?_ ?_ ?_ ?_ ?_ ?_ ?_ ?_
             rfl; rfl; rfl; rfl; exact news_alloc w6 _ _; exact HML.out; rfl
             (intro u hu; simp only [List.mem_cons, List.not_mem_nil, or_false] at hu; rcases hu with rfl | rfl | rfl | rfl | rfl <;> rfl)
             exact O1.out.below (bo6.alloc bo6.size _)
             exact K1.out; exact K2.out
             (have := S1.out; have := bo6.size; simp; omega)
             intro ad7 c7 w7 hown7 hgr7
             have X7 := (hgr7.block sb (by have := S1.out; have := bo6.size; simp; omega) (fun e => Nat.not_succ_le_self _ (World.ownsRow.lt O1.out.1 _ e.symm).1)).trans (((bo6.alloc bo6.size _).block sb S1.out).trans X1.out)
             have s7 : w7.cell? ⟨sb, 0, none⟩ = some (.slice ad k c) ∧ w7.cell? ⟨vb, 0, none⟩ = some (.slice none 0 0) ∧ w7.cell? ⟨vb, 1, none⟩ = some (.int .u64 (sz : Int)) ∧ w7.cell? ⟨vb, 2, none⟩ = some (.int .u64 (al : Int)) ∧ w7.cell? ⟨ob, oo + k, none⟩ = some (.int .u64 (o : Int)) := by
               have g : ∀ b j, b < w1.heap.size → (Value.slice ad k c).ownBlock ≠ some b → w7.cell? ⟨b, j, none⟩ = (w6.alloc (.cells #[.slice none 0 0, .int .u64 (sz : Int), .int .u64 (al : Int), .int .u64 (o : Int), .bool false] 62)).cell? ⟨b, j, none⟩ := fun b j hb hne => cell_of_block (hgr7.block b (by have := bo6.size; simp; omega) (fun e => hne e.symm))
               obtain ⟨z0, z1, z2, z3, z4⟩ := KS.out _ (bo6.alloc bo6.size (.cells #[.slice none 0 0, .int .u64 (sz : Int), .int .u64 (al : Int), .int .u64 (o : Int), .bool false] 62))
               have nv : (Value.slice ad k c).ownBlock ≠ some vb := fun e => Nat.lt_irrefl _ (HVB.out _ e)
               have ns : (Value.slice ad k c).ownBlock ≠ some sb := fun e => Nat.not_succ_le_self _ (World.ownsRow.lt O1.out.1 _ e).1
               have no : (Value.slice ad k c).ownBlock ≠ some ob := fun e => by have := (World.ownsRow.lt O1.out.1 _ e).1; have := HOB.out; omega
               exact ⟨(g _ _ S1.out ns).trans z0, (g _ _ HVL.out nv).trans z1, (g _ _ HVL.out nv).trans z2, (g _ _ HVL.out nv).trans z3, (g _ _ (by have := HOB.out; have := S1.out; omega) no).trans z4⟩
             have hc7 : w7.cell? ⟨sb, 0, none⟩ = some (.slice ad k c) := by rw [cell_of_row _ _ 0 _ _ _ X7]; rfl
             have hf7 : w7.frozen? ⟨sb, 0, none⟩ = false := frozen_of_row _ _ _ _ _ X7)
          | (go_simp; go_at_call 21; refine (own_nil _ _ _).mono ?_; rintro e' w6 ⟨rfl, hb6⟩; have bo6 : Below w1.heap.size w1 w6 := bstep (Below.refl _ _).drew hb6; obtain ⟨y5, y6, y7, y8, y9⟩ := KS.out _ bo6; have y10 : ∀ ob, (w6.alloc ob).cell? ⟨sb, 0, none⟩ = some (.slice ad k c) := fun ob => (KS.out _ (bo6.alloc bo6.size ob)).1))
      all_goals
        have X8 : Hid ((w7.setCell ⟨sb, 0, none⟩ (.slice ad7 (k + 1) c7)).heap[sb]? = some (.cells (stCells ad7 (k + 1) c7 n last gr none 0 0).toArray 59)) := Lib.hid (by
          rw [heap_setCell_same w7 sb 0 _ _ _ X7]
          simp only [stCells, List.setIfInBounds_toArray, List.set_cons_zero])
        have O8 : Hid (OwnS (w7.setCell ⟨sb, 0, none⟩ (.slice ad7 (k + 1) c7)) (sb + 1) 62 5 (.slice ad7 (k + 1) c7) ((ms.take (k + 1)).map TM.row)) := Lib.hid (by
          rw [HTK.out, List.map_append, List.map_cons, List.map_nil, HTM.out]
          exact hown7.setO (a := ⟨sb, 0, none⟩) (fun e => Nat.not_succ_le_self _ (World.ownsRow.lt hown7.1 _ e).1) _)
        have B8 : Hid (Below sb w5 (w7.setCell ⟨sb, 0, none⟩ (.slice ad7 (k + 1) c7))) := Lib.hid (by
          have h1 : Below sb w5 (w6.alloc (.cells #[.slice none 0 0, .int .u64 (sz : Int), .int .u64 (al : Int), .int .u64 (o : Int), .bool false] 62)) := BA.out.trans ((bo6.alloc bo6.size _).mono (by have := S1.out; omega))
          have h2 := h1.grown hgr7 (by have := S1.out; have := bo6.size; simp; omega) (fun j hj => by have := (World.ownsRow.lt O1.out.1 j hj).1; omega)
          exact h2.setCell (p := ⟨sb, 0, none⟩) (Nat.le_refl _) _)
        have S8 : Hid (sb + 1 ≤ (w7.setCell ⟨sb, 0, none⟩ (.slice ad7 (k + 1) c7)).heap.size) := Lib.hid (lt_of_block X8.out)
        clear y0 y1 y2 y3 y4 y5 y6 y7 y8 y9 y10 s7 hc7 hf7 X7 hown7 hgr7 hb6 bo6
        have hkb : (k : Int) < 1048576 := by have := HNN.out; have := HKF.out; omega
        go_wp2
        go_roundg f
        case measure => omega
        case rel => exact ⟨k + 1, ad7, c7, by go_num, HKF, X8, O8, B8, S8⟩
end Go.Proofs.Ytbppajfpjhmcgaa
