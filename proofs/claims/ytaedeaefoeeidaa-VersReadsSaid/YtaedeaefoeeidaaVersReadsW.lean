/- Layer 8, the document's own answer: the versions of a file: all of it. -/
import Derived.Test.YtaedeaefoeeidaaRefVersJa
import Derived.Test.YtaedeaefoeeidaaRefVersJb
import Derived.Test.YtaedeaefoeeidaaRefVersJc
import Derived.Test.YtaedeaefoeeidaaRefVersJd
import Derived.Test.YtaedeaefoeeidaaKit1
import Derived.BigQuiet
import Derived.WalkSmall
import Derived.Deep.LoopGhost
import Derived.Test.YtaedeaefoeeidaaRefVersK
import Derived.Test.YtaedeaefoeeidaaDynSlice
import Derived.Test.YtaedeaefoeeidaaVersUp
namespace Go.Proofs.Ytaedeaefoeeidaa
open Go.RowKit Go.Maps
set_option linter.unusedVariables false
set_option linter.unusedSimpArgs false

theorem rread_main (a : Option Addr) (cap : Nat) (bs : List Nat) (ty en : Int) (p : Option Addr) (pc : Nat) (ps : List PT) (d : DT) (m : Nat) (w : World) (hb : BRow w a bs) (hbl : bs.length ≤ 140737488351232) (hbc : bs.length ≤ cap) (hbn : a = none → bs.length = 0 ∧ cap = 0)
    (h : PRow w p ps) (hl : ps.length ≤ 140737488351232) (hd : d.wf) (hm : m ≤ 4096) (hv : ¬ d.versym = 0) :
    Calls Try.prog 6 #[.slice a bs.length cap, headV ty en p ps.length pc, .agg d.cells, .int .i64 (m : Int)] w (RVersAns (versF bs ps d m) w) := by
  by_cases h1 : d.verdef = 0
  · by_cases h2 : d.verneed = 0
    · exact rread_a a cap bs ty en p pc ps d m w hb hbl hbc hbn h hl hd hm hv h1 h2
    · exact rread_b a cap bs ty en p pc ps d m w hb hbl hbc hbn h hl hd hm hv h1 h2
  · by_cases h2 : d.verneed = 0
    · exact rread_c a cap bs ty en p pc ps d m w hb hbl hbc hbn h hl hd hm hv h1 h2
    · exact rread_d a cap bs ty en p pc ps d m w hb hbl hbc hbn h hl hd hm hv h1 h2
end Go.Proofs.Ytaedeaefoeeidaa
/- Layer 8: two lists of texts, and two lists of words, of the same ones. -/
namespace Go.Proofs.Ytaedeaefoeeidaa
open Go.RowKit Go.Maps
set_option linter.unusedVariables false
set_option linter.unusedSimpArgs false

set_option maxRecDepth 100000 in
set_option maxHeartbeats 4000000 in
theorem textsSame (a b : Option Addr) (c d m : Nat) (T : List ByteArray) (w : World) (hl : T.length = m) (hml : m ≤ 9223372036854775807) (ha : TRow w a T) (hb : TRow w b T) :
    Calls Try.prog 21 #[.slice a m c, .slice b m d] w fun e w' => e = .returned (.bool true) ∧ Below w.heap.size w w' := by
  have HA := Lib.hid ha; clear ha
  have HB := Lib.hid hb; clear hb
  have HL := Lib.hid hl; clear hl
  go_enter Try.func21, Try.ntmps21
  go_wp2
  go_loopg [5] m (fun g i wr => ∃ k : Nat, k + g = m ∧ i = .int .i64 k ∧ Hid (Below w.heap.size w wr))
  case atStart => exact ⟨0, by omega, rfl, Lib.hid (Below.refl _ _)⟩
  case round =>
    obtain ⟨k, hk, rfl, hdr⟩ := hrel
    cases gk with
    | zero =>
      have hk' : k = m := by omega
      clear hk
      subst hk'
      go_wp2
      go_ret
      exact ⟨rfl, hdr.out⟩
    | succ g =>
      have hlt : k < m := by omega
      obtain ⟨b1, o1, rfl, hl1, p0⟩ := HA.out k (by rw [HL.out]; exact hlt)
      obtain ⟨b2, o2, rfl, hl2, q0⟩ := HB.out k (by rw [HL.out]; exact hlt)
      generalize T.getD k .empty = t at p0 q0
      have hd1 : wr.cell? ⟨b1, o1 + k, none⟩ = some (.string t) := by rw [hdr.out.cell (p := ⟨b1, o1 + k, none⟩) hl1]; exact p0
      have hd2 : wr.cell? ⟨b2, o2 + k, none⟩ = some (.string t) := by rw [hdr.out.cell (p := ⟨b2, o2 + k, none⟩) hl2]; exact q0
      clear p0 q0
      go_wp2
      go_quiet (fail)
      go_wp2
      go_roundg g
      case measure => omega
      case rel => exact ⟨k + 1, by omega, by go_num, Lib.hid (below_drewN hdr.out _)⟩

set_option maxRecDepth 100000 in
set_option maxHeartbeats 4000000 in
theorem wordsSame (a b : Option Addr) (c d m : Nat) (xs : List Int) (w : World) (hl : xs.length = m) (hml : m ≤ 9223372036854775807) (ha : Row .i64 w a xs) (hb : Row .i64 w b xs) :
    Calls Try.prog 20 #[.slice a m c, .slice b m d] w fun e w' => e = .returned (.bool true) ∧ Below w.heap.size w w' := by
  have HA := Lib.hid ha; clear ha
  have HB := Lib.hid hb; clear hb
  have HL := Lib.hid hl; clear hl
  go_enter Try.func20, Try.ntmps20
  go_wp2
  go_loopg [5] m (fun g i wr => ∃ k : Nat, k + g = m ∧ i = .int .i64 k ∧ Hid (Below w.heap.size w wr))
  case atStart => exact ⟨0, by omega, rfl, Lib.hid (Below.refl _ _)⟩
  case round =>
    obtain ⟨k, hk, rfl, hdr⟩ := hrel
    cases gk with
    | zero =>
      have hk' : k = m := by omega
      clear hk
      subst hk'
      go_wp2
      go_ret
      exact ⟨rfl, hdr.out⟩
    | succ g =>
      have hlt : k < m := by omega
      obtain ⟨b1, o1, rfl, p0⟩ := HA.out k (by rw [HL.out]; exact hlt)
      obtain ⟨b2, o2, rfl, q0⟩ := HB.out k (by rw [HL.out]; exact hlt)
      have hl1 : b1 < w.heap.size := by simpa using World.block_lt_of_cell? w _ p0
      have hl2 : b2 < w.heap.size := by simpa using World.block_lt_of_cell? w _ q0
      generalize xs.getD k 0 = t at p0 q0
      have hd1 : wr.cell? ⟨b1, o1 + k, none⟩ = some (.int .i64 t) := by rw [hdr.out.cell (p := ⟨b1, o1 + k, none⟩) hl1]; exact p0
      have hd2 : wr.cell? ⟨b2, o2 + k, none⟩ = some (.int .i64 t) := by rw [hdr.out.cell (p := ⟨b2, o2 + k, none⟩) hl2]; exact q0
      clear p0 q0
      go_wp2
      go_quiet (fail)
      go_wp2
      go_roundg g
      case measure => omega
      case rel => exact ⟨k + 1, by omega, by go_num, Lib.hid (below_drewN hdr.out _)⟩
end Go.Proofs.Ytaedeaefoeeidaa
/- Layer 8: two answers that tell the same versions. -/
namespace Go.Proofs.Ytaedeaefoeeidaa
open Go.RowKit Go.Maps
set_option linter.unusedVariables false
set_option linter.unusedSimpArgs false

section
variable {X : VersD} {w : World} {oa da na : Option Addr} {drows nrows : List (List Value)}
theorem VRd.defCells (h : VRd X w oa da na drows nrows) {i : Nat} (hi : i < X.defs.length) : ∃ b o pa pc, da = some ⟨b, o, none⟩ ∧ b < w.heap.size ∧ w.cell? ⟨b, o + i * 4, none⟩ = some (.int .i64 ((X.defs[i].idx : Nat) : Int)) ∧ w.cell? ⟨b, o + i * 4 + 1, none⟩ = some (.bool X.defs[i].base) ∧
    w.cell? ⟨b, o + i * 4 + 2, none⟩ = some (.string X.defs[i].name) ∧ w.cell? ⟨b, o + i * 4 + 3, none⟩ = some (.slice pa X.defs[i].parents.length pc) ∧ TRow w pa X.defs[i].parents := by
  have hl := h.defs.1
  obtain ⟨b, o, e, hlt, hc⟩ := h.ds i (by omega)
  obtain ⟨pa, pc, eq, ht⟩ := h.defs.2 i hi (by omega)
  rw [eq] at hc
  exact ⟨b, o, pa, pc, e, hlt, hc 0 (by omega), hc 1 (by omega), hc 2 (by omega), hc 3 (by omega), ht⟩
theorem VRd.needCells (h : VRd X w oa da na drows nrows) {i : Nat} (hi : i < X.needs.length) : ∃ b o pa pc, na = some ⟨b, o, none⟩ ∧ b < w.heap.size ∧ w.cell? ⟨b, o + i * 2, none⟩ = some (.string X.needs[i].file) ∧
    w.cell? ⟨b, o + i * 2 + 1, none⟩ = some (.slice pa X.needs[i].aux.length pc) ∧ RowS w 3 pa (auxRows X.needs[i].aux) := by
  have hl := h.needs.1
  obtain ⟨b, o, e, hlt, hc⟩ := h.ns i (by omega)
  obtain ⟨pa, pc, eq, ht⟩ := h.needs.2 i hi (by omega)
  rw [eq] at hc
  exact ⟨b, o, pa, pc, e, hlt, hc 0 (by omega), hc 1 (by omega), ht⟩
theorem auxCellsAt {l : List AuxD} {pa : Option Addr} (h : RowS w 3 pa (auxRows l)) {k : Nat} (hk : k < l.length) : ∃ b o, pa = some ⟨b, o, none⟩ ∧ b < w.heap.size ∧ w.cell? ⟨b, o + k * 3, none⟩ = some (.int .i64 ((l[k].idx : Nat) : Int)) ∧ w.cell? ⟨b, o + k * 3 + 1, none⟩ = some (.bool l[k].weak) ∧ w.cell? ⟨b, o + k * 3 + 2, none⟩ = some (.string l[k].name) := by
  obtain ⟨b, o, e, hlt, hc⟩ := h k (by rw [auxRows_length]; exact hk)
  have e1 : (auxRows l)[k]'(by rw [auxRows_length]; exact hk) = auxCells l[k] := by simp [auxRows]
  rw [e1] at hc
  exact ⟨b, o, e, hlt, hc 0 (by omega), hc 1 (by omega), hc 2 (by omega)⟩
end

set_option maxRecDepth 100000 in
set_option maxHeartbeats 16000000 in
theorem versSame (X : VersD) (w : World) (oa da na oa2 da2 na2 : Option Addr) (drows nrows drows2 nrows2 : List (List Value)) (oc dc nc oc2 dc2 nc2 : Nat) (h1 : VRd X w oa da na drows nrows) (h2 : VRd X w oa2 da2 na2 drows2 nrows2)
    (hol : X.of.length ≤ 9223372036854775807) (hdl : X.defs.length ≤ 9223372036854775807) (hnl : X.needs.length ≤ 9223372036854775807) (hpl : ∀ d ∈ X.defs, d.parents.length ≤ 9223372036854775807) (hal : ∀ d ∈ X.needs, d.aux.length ≤ 9223372036854775807) :
    Calls Try.prog 7 #[.agg #[.bool X.has, .slice oa X.of.length oc, .slice da X.defs.length dc, .slice na X.needs.length nc], .agg #[.bool X.has, .slice oa2 X.of.length oc2, .slice da2 X.defs.length dc2, .slice na2 X.needs.length nc2]] w fun e w' => e = .returned (.bool true) ∧ Below w.heap.size w w' := by
  have H1 := Lib.hid h1
  have H2 := Lib.hid h2
  have HW := Lib.hid (fun (w1 : World) (hb : Below w.heap.size w w1) => wordsSame oa oa2 oc oc2 X.of.length (toI X.of) w1 (by rw [toI_length]) hol (h1.of.below hb) (h2.of.below hb))
  have HPL := Lib.hid hpl
  have HAL := Lib.hid hal
  have HB2 : Hid (Below w.heap.size w ((w.alloc (.cells #[.bool X.has, .slice oa X.of.length oc, .slice da X.defs.length dc, .slice na X.needs.length nc] 35)).alloc (.cells #[.bool X.has, .slice oa2 X.of.length oc2, .slice da2 X.defs.length dc2, .slice na2 X.needs.length nc2] 35))) := Lib.hid (((Below.refl _ _).alloc (Nat.le_refl _) _).alloc (by simp) _)
  have HX : Hid (∀ w1, Below ((w.alloc (.cells #[.bool X.has, .slice oa X.of.length oc, .slice da X.defs.length dc, .slice na X.needs.length nc] 35)).alloc (.cells #[.bool X.has, .slice oa2 X.of.length oc2, .slice da2 X.defs.length dc2, .slice na2 X.needs.length nc2] 35)).heap.size ((w.alloc (.cells #[.bool X.has, .slice oa X.of.length oc, .slice da X.defs.length dc, .slice na X.needs.length nc] 35)).alloc (.cells #[.bool X.has, .slice oa2 X.of.length oc2, .slice da2 X.defs.length dc2, .slice na2 X.needs.length nc2] 35)) w1 →
      w1.cell? ⟨w.heap.size, 2, none⟩ = some (.slice da X.defs.length dc) ∧ w1.cell? ⟨w.heap.size + 1, 2, none⟩ = some (.slice da2 X.defs.length dc2) ∧ w1.cell? ⟨w.heap.size, 3, none⟩ = some (.slice na X.needs.length nc) ∧ w1.cell? ⟨w.heap.size + 1, 3, none⟩ = some (.slice na2 X.needs.length nc2)) := Lib.hid (by
    intro w1 hw1
    have e1 : w1.heap[w.heap.size]? = some (.cells #[.bool X.has, .slice oa X.of.length oc, .slice da X.defs.length dc, .slice na X.needs.length nc] 35) := by
      rw [hw1.block _ (by simp <;> omega)]
      exact (heap_alloc_old _ _ (by simp)).trans (heap_alloc_new _ _)
    have e2 : w1.heap[w.heap.size + 1]? = some (.cells #[.bool X.has, .slice oa2 X.of.length oc2, .slice da2 X.defs.length dc2, .slice na2 X.needs.length nc2] 35) := by
      rw [hw1.block _ (by simp)]
      have := heap_alloc_new (w.alloc (.cells #[.bool X.has, .slice oa X.of.length oc, .slice da X.defs.length dc, .slice na X.needs.length nc] 35)) (.cells #[.bool X.has, .slice oa2 X.of.length oc2, .slice da2 X.defs.length dc2, .slice na2 X.needs.length nc2] 35)
      simpa using this
    exact ⟨by rw [cell_of_row _ _ 2 _ _ _ e1]; rfl, by rw [cell_of_row _ _ 2 _ _ _ e2]; rfl, by rw [cell_of_row _ _ 3 _ _ _ e1]; rfl, by rw [cell_of_row _ _ 3 _ _ _ e2]; rfl⟩)
  clear h1 h2 hpl hal hol
  obtain ⟨dn, hdn⟩ : ∃ dn, X.defs.length = dn := ⟨_, rfl⟩
  obtain ⟨nn, hnn⟩ : ∃ nn, X.needs.length = nn := ⟨_, rfl⟩
  obtain ⟨on, hon⟩ : ∃ on, X.of.length = on := ⟨_, rfl⟩
  rw [hdn, hnn, hon] at HX HB2 ⊢
  rw [hon] at HW
  rw [hdn] at hdl
  rw [hnn] at hnl
  have HDN := Lib.hid hdn
  have HNN := Lib.hid hnn
  clear hdn hnn hon
  generalize X.has = has at *
  go_enter Try.func7, Try.ntmps7
  go_wp2_with fail
  refine (HW.out _ HB2.out).mono ?_
  rintro e w3 ⟨rfl, hb3⟩
  have D0 := Lib.hid hb3
  clear hb3 HW
  obtain ⟨f0, f1, f2, f3⟩ := HX.out _ D0.out
  go_wp2_with fail
  go_loopg [6] dn (fun g i wr => ∃ k : Nat, k + g = dn ∧ i = .int .i64 k ∧ Hid (Below ((w.alloc (.cells #[.bool has, .slice oa on oc, .slice da dn dc, .slice na nn nc] 35)).alloc (.cells #[.bool has, .slice oa2 on oc2, .slice da2 dn dc2, .slice na2 nn nc2] 35)).heap.size ((w.alloc (.cells #[.bool has, .slice oa on oc, .slice da dn dc, .slice na nn nc] 35)).alloc (.cells #[.bool has, .slice oa2 on oc2, .slice da2 dn dc2, .slice na2 nn nc2] 35)) wr))
  case atStart => exact ⟨0, by omega, rfl, D0⟩
  case round =>
    clear f0 f1 f2 f3 D0
    obtain ⟨k, hk, rfl, hdr⟩ := hrel
    obtain ⟨f0, f1, f2, f3⟩ := HX.out _ hdr.out
    cases gk with
    | zero =>
      have hk' : k = dn := by omega
      clear hk
      subst hk'
      go_wp2_with fail
      go_loopg [10] nn (fun g i wr => ∃ j : Nat, j + g = nn ∧ i = .int .i64 j ∧ Hid (Below ((w.alloc (.cells #[.bool has, .slice oa on oc, .slice da k dc, .slice na nn nc] 35)).alloc (.cells #[.bool has, .slice oa2 on oc2, .slice da2 k dc2, .slice na2 nn nc2] 35)).heap.size ((w.alloc (.cells #[.bool has, .slice oa on oc, .slice da k dc, .slice na nn nc] 35)).alloc (.cells #[.bool has, .slice oa2 on oc2, .slice da2 k dc2, .slice na2 nn nc2] 35)) wr))
      case atStart => exact ⟨0, by omega, rfl, hdr⟩
      case round =>
        clear f0 f1 f2 f3 hdr
        obtain ⟨j, hj, rfl, hdr⟩ := hrel
        obtain ⟨f0, f1, f2, f3⟩ := HX.out _ hdr.out
        cases gk with
        | zero =>
          have hj' : j = nn := by omega
          clear hj
          subst hj'
          go_wp2_with fail
          go_ret
          exact ⟨rfl, bstep HB2.out hdr.out⟩
        | succ g =>
          have hlt : j < nn := by omega
          have hjl : j < X.needs.length := by rw [HNN.out]; exact hlt
          have BW := Lib.hid (bstep HB2.out hdr.out)
          obtain ⟨b1, o1, pa1, pc1, rfl, hl1, p0, p1, hR1⟩ := H1.out.needCells hjl
          obtain ⟨b2, o2, pa2, pc2, rfl, hl2, q0, q1, hR2⟩ := H2.out.needCells hjl
          have hal : X.needs[j].aux.length ≤ 9223372036854775807 := HAL.out _ (List.getElem_mem hjl)
          have hd1 : ∀ j, wr.cell? ⟨b1, j, none⟩ = w.cell? ⟨b1, j, none⟩ := fun j => BW.out.cell (p := ⟨b1, j, none⟩) hl1
          have hd2 : ∀ j, wr.cell? ⟨b2, j, none⟩ = w.cell? ⟨b2, j, none⟩ := fun j => BW.out.cell (p := ⟨b2, j, none⟩) hl2
          rw [← hd1] at p0 p1
          rw [← hd2] at q0 q1
          clear hd1 hd2
          have HR1 := Lib.hid hR1; have HR2 := Lib.hid hR2; clear hR1 hR2
          generalize X.needs[j].file = fl at p0 q0
          generalize X.needs[j].aux = al at *
          clear hjl
          obtain ⟨an, han⟩ : ∃ an, al.length = an := ⟨_, rfl⟩
          rw [han] at hal p1 q1
          have HAN := Lib.hid han
          clear han
          have DR : Hid (Below ((w.alloc (.cells #[.bool has, .slice oa on oc, .slice da k dc, .slice (some ⟨b1, o1, none⟩) nn nc] 35)).alloc (.cells #[.bool has, .slice oa2 on oc2, .slice da2 k dc2, .slice (some ⟨b2, o2, none⟩) nn nc2] 35)).heap.size ((w.alloc (.cells #[.bool has, .slice oa on oc, .slice da k dc, .slice (some ⟨b1, o1, none⟩) nn nc] 35)).alloc (.cells #[.bool has, .slice oa2 on oc2, .slice da2 k dc2, .slice (some ⟨b2, o2, none⟩) nn nc2] 35)) ((wr.alloc (.cells #[.string fl, .slice pa1 an pc1] 80)).alloc (.cells #[.string fl, .slice pa2 an pc2] 80))) := Lib.hid ((hdr.out.alloc hdr.out.size _).alloc (Nat.le_trans hdr.out.size (by simp)) _)
          have HN1 : Hid (∀ w1, Below ((wr.alloc (.cells #[.string fl, .slice pa1 an pc1] 80)).alloc (.cells #[.string fl, .slice pa2 an pc2] 80)).heap.size ((wr.alloc (.cells #[.string fl, .slice pa1 an pc1] 80)).alloc (.cells #[.string fl, .slice pa2 an pc2] 80)) w1 → w1.cell? ⟨wr.heap.size, 1, none⟩ = some (.slice pa1 an pc1) ∧ w1.cell? ⟨wr.heap.size + 1, 1, none⟩ = some (.slice pa2 an pc2)) := Lib.hid (by
            intro w1 hw1
            have e1 : w1.heap[wr.heap.size]? = some (.cells #[.string fl, .slice pa1 an pc1] 80) := by
              rw [hw1.block _ (by simp <;> omega)]
              exact (heap_alloc_old _ _ (by simp)).trans (heap_alloc_new _ _)
            have e2 : w1.heap[wr.heap.size + 1]? = some (.cells #[.string fl, .slice pa2 an pc2] 80) := by
              rw [hw1.block _ (by simp)]
              have := heap_alloc_new (wr.alloc (.cells #[.string fl, .slice pa1 an pc1] 80)) (.cells #[.string fl, .slice pa2 an pc2] 80)
              simpa using this
            exact ⟨by rw [cell_of_row _ _ 1 _ _ _ e1]; rfl, by rw [cell_of_row _ _ 1 _ _ _ e2]; rfl⟩)
          have HBW : Hid (∀ w1, Below ((wr.alloc (.cells #[.string fl, .slice pa1 an pc1] 80)).alloc (.cells #[.string fl, .slice pa2 an pc2] 80)).heap.size ((wr.alloc (.cells #[.string fl, .slice pa1 an pc1] 80)).alloc (.cells #[.string fl, .slice pa2 an pc2] 80)) w1 → Below w.heap.size w w1) := Lib.hid (fun w1 h => bstep (bstep HB2.out DR.out) h)
          have DA : Hid (Below ((w.alloc (.cells #[.bool has, .slice oa on oc, .slice da k dc, .slice (some ⟨b1, o1, none⟩) nn nc] 35)).alloc (.cells #[.bool has, .slice oa2 on oc2, .slice da2 k dc2, .slice (some ⟨b2, o2, none⟩) nn nc2] 35)).heap.size ((w.alloc (.cells #[.bool has, .slice oa on oc, .slice da k dc, .slice (some ⟨b1, o1, none⟩) nn nc] 35)).alloc (.cells #[.bool has, .slice oa2 on oc2, .slice da2 k dc2, .slice (some ⟨b2, o2, none⟩) nn nc2] 35)) (wr.alloc (.cells #[.string fl, .slice pa1 an pc1] 80))) := Lib.hid (hdr.out.alloc hdr.out.size _)
          obtain ⟨-, -, -, m3⟩ := HX.out _ DA.out
          have hal2 : ∀ j, (wr.alloc (.cells #[.string fl, .slice pa1 an pc1] 80)).cell? ⟨b2, j, none⟩ = wr.cell? ⟨b2, j, none⟩ := fun j => ((Below.refl _ wr).alloc (Nat.le_refl _) _).cell (p := ⟨b2, j, none⟩) (Nat.lt_of_lt_of_le hl2 BW.out.size)
          rw [← hal2] at q0 q1
          clear hal2 DA
          clear BW
          go_wp2_with fail
          generalize hw5 : ((wr.alloc (.cells #[.string fl, .slice pa1 an pc1] 80)).alloc (.cells #[.string fl, .slice pa2 an pc2] 80)) = w5 at DR HN1 HBW ⊢
          clear hw5 f0 f1 f2 f3 p0 p1 q0 q1 m3
          go_loopg [13] an (fun g i wv => ∃ i0 : Nat, i0 + g = an ∧ i = .int .i64 i0 ∧ Hid (Below w5.heap.size w5 wv))
          case atStart => exact ⟨0, by omega, rfl, Lib.hid (Below.refl _ _)⟩
          case round =>
            obtain ⟨i0, hi, rfl, hdv⟩ := hrel
            obtain ⟨g1, g2⟩ := HN1.out _ hdv.out
            cases gk with
            | zero =>
              have hi' : i0 = an := by omega
              clear hi
              subst hi'
              go_wp2_with fail
              go_roundg g
              case measure => omega
              case rel => exact ⟨j + 1, by omega, by go_num, Lib.hid (bstep DR.out hdv.out)⟩
            | succ gg =>
              have hia : i0 < an := by omega
              have hil : i0 < al.length := by rw [HAN.out]; exact hia
              have BW := Lib.hid (HBW.out _ hdv.out)
              obtain ⟨b3, o3, rfl, hl3, r0, r1, r2⟩ := auxCellsAt HR1.out hil
              obtain ⟨b4, o4, rfl, hl4, s0, s1, s2⟩ := auxCellsAt HR2.out hil
              have hd1 : ∀ j, wr.cell? ⟨b3, j, none⟩ = w.cell? ⟨b3, j, none⟩ := fun j => BW.out.cell (p := ⟨b3, j, none⟩) hl3
              have hd2 : ∀ j, wr.cell? ⟨b4, j, none⟩ = w.cell? ⟨b4, j, none⟩ := fun j => BW.out.cell (p := ⟨b4, j, none⟩) hl4
              rw [← hd1] at r0 r1 r2
              rw [← hd2] at s0 s1 s2
              clear hd1 hd2
              generalize al[i0].idx = ax at r0 s0
              generalize al[i0].weak = aw at r1 s1
              generalize al[i0].name = an' at r2 s2
              clear hil
              go_wp2_with fail
              go_quiet (fail)
              go_wp2_with fail
              go_roundg gg
              case measure => omega
              case rel => exact ⟨i0 + 1, by omega, by go_num, Lib.hid (below_drewN hdv.out _)⟩
    | succ g =>
      have hlt : k < dn := by omega
      have hkl : k < X.defs.length := by rw [HDN.out]; exact hlt
      have BW := Lib.hid (bstep HB2.out hdr.out)
      obtain ⟨b1, o1, pa1, pc1, rfl, hl1, p0, p1, p2, p3, hR1⟩ := H1.out.defCells hkl
      obtain ⟨b2, o2, pa2, pc2, rfl, hl2, q0, q1, q2, q3, hR2⟩ := H2.out.defCells hkl
      have hal : X.defs[k].parents.length ≤ 9223372036854775807 := HPL.out _ (List.getElem_mem hkl)
      have hd1 : ∀ j, wr.cell? ⟨b1, j, none⟩ = w.cell? ⟨b1, j, none⟩ := fun j => BW.out.cell (p := ⟨b1, j, none⟩) hl1
      have hd2 : ∀ j, wr.cell? ⟨b2, j, none⟩ = w.cell? ⟨b2, j, none⟩ := fun j => BW.out.cell (p := ⟨b2, j, none⟩) hl2
      rw [← hd1] at p0 p1 p2 p3
      rw [← hd2] at q0 q1 q2 q3
      clear hd1 hd2
      generalize X.defs[k].parents = T at *
      generalize X.defs[k].idx = ix at p0 q0
      generalize X.defs[k].base = bs at p1 q1
      generalize X.defs[k].name = nm at p2 q2
      obtain ⟨tn, htn⟩ : ∃ tn, T.length = tn := ⟨_, rfl⟩
      rw [htn] at hal p3 q3
      have HT := Lib.hid (fun (w1 : World) (hb : Below w.heap.size w w1) => textsSame pa1 pa2 pc1 pc2 tn T w1 htn hal (hR1.below hb) (hR2.below hb))
      clear hR1 hR2 htn hkl
      have DR : Hid (Below ((w.alloc (.cells #[.bool has, .slice oa on oc, .slice (some ⟨b1, o1, none⟩) dn dc, .slice na nn nc] 35)).alloc (.cells #[.bool has, .slice oa2 on oc2, .slice (some ⟨b2, o2, none⟩) dn dc2, .slice na2 nn nc2] 35)).heap.size ((w.alloc (.cells #[.bool has, .slice oa on oc, .slice (some ⟨b1, o1, none⟩) dn dc, .slice na nn nc] 35)).alloc (.cells #[.bool has, .slice oa2 on oc2, .slice (some ⟨b2, o2, none⟩) dn dc2, .slice na2 nn nc2] 35)) ((wr.alloc (.cells #[.int .i64 ix, .bool bs, .string nm, .slice pa1 tn pc1] 76)).alloc (.cells #[.int .i64 ix, .bool bs, .string nm, .slice pa2 tn pc2] 76))) := Lib.hid ((hdr.out.alloc hdr.out.size _).alloc (Nat.le_trans hdr.out.size (by simp)) _)
      have HN1 : Hid (∀ w1, Below ((wr.alloc (.cells #[.int .i64 ix, .bool bs, .string nm, .slice pa1 tn pc1] 76)).alloc (.cells #[.int .i64 ix, .bool bs, .string nm, .slice pa2 tn pc2] 76)).heap.size ((wr.alloc (.cells #[.int .i64 ix, .bool bs, .string nm, .slice pa1 tn pc1] 76)).alloc (.cells #[.int .i64 ix, .bool bs, .string nm, .slice pa2 tn pc2] 76)) w1 → (w1.cell? ⟨wr.heap.size, 0, none⟩ = some (.int .i64 ix) ∧ w1.cell? ⟨wr.heap.size, 1, none⟩ = some (.bool bs) ∧ w1.cell? ⟨wr.heap.size, 2, none⟩ = some (.string nm)) ∧ w1.cell? ⟨wr.heap.size + 1, 0, none⟩ = some (.int .i64 ix) ∧ w1.cell? ⟨wr.heap.size + 1, 1, none⟩ = some (.bool bs) ∧ w1.cell? ⟨wr.heap.size + 1, 2, none⟩ = some (.string nm)) := Lib.hid (by
        intro w1 hw1
        have e1 : w1.heap[wr.heap.size]? = some (.cells #[.int .i64 ix, .bool bs, .string nm, .slice pa1 tn pc1] 76) := by
          rw [hw1.block _ (by simp <;> omega)]
          exact (heap_alloc_old _ _ (by simp)).trans (heap_alloc_new _ _)
        have e2 : w1.heap[wr.heap.size + 1]? = some (.cells #[.int .i64 ix, .bool bs, .string nm, .slice pa2 tn pc2] 76) := by
          rw [hw1.block _ (by simp)]
          have := heap_alloc_new (wr.alloc (.cells #[.int .i64 ix, .bool bs, .string nm, .slice pa1 tn pc1] 76)) (.cells #[.int .i64 ix, .bool bs, .string nm, .slice pa2 tn pc2] 76)
          simpa using this
        exact ⟨⟨by rw [cell_of_row _ _ 0 _ _ _ e1]; rfl, by rw [cell_of_row _ _ 1 _ _ _ e1]; rfl, by rw [cell_of_row _ _ 2 _ _ _ e1]; rfl⟩, by rw [cell_of_row _ _ 0 _ _ _ e2]; rfl, by rw [cell_of_row _ _ 1 _ _ _ e2]; rfl, by rw [cell_of_row _ _ 2 _ _ _ e2]; rfl⟩)
      have DA : Hid (Below ((w.alloc (.cells #[.bool has, .slice oa on oc, .slice (some ⟨b1, o1, none⟩) dn dc, .slice na nn nc] 35)).alloc (.cells #[.bool has, .slice oa2 on oc2, .slice (some ⟨b2, o2, none⟩) dn dc2, .slice na2 nn nc2] 35)).heap.size ((w.alloc (.cells #[.bool has, .slice oa on oc, .slice (some ⟨b1, o1, none⟩) dn dc, .slice na nn nc] 35)).alloc (.cells #[.bool has, .slice oa2 on oc2, .slice (some ⟨b2, o2, none⟩) dn dc2, .slice na2 nn nc2] 35)) (wr.alloc (.cells #[.int .i64 ix, .bool bs, .string nm, .slice pa1 tn pc1] 76))) := Lib.hid (hdr.out.alloc hdr.out.size _)
      obtain ⟨-, m3, -, -⟩ := HX.out _ DA.out
      have hal2 : ∀ j, (wr.alloc (.cells #[.int .i64 ix, .bool bs, .string nm, .slice pa1 tn pc1] 76)).cell? ⟨b2, j, none⟩ = wr.cell? ⟨b2, j, none⟩ := fun j => ((Below.refl _ wr).alloc (Nat.le_refl _) _).cell (p := ⟨b2, j, none⟩) (Nat.lt_of_lt_of_le hl2 BW.out.size)
      rw [← hal2] at q0 q1 q2 q3
      clear hal2 DA
      clear BW
      go_wp2_with fail
      refine (HT.out _ (bstep HB2.out DR.out)).mono ?_
      rintro e w5 ⟨rfl, hb5⟩
      have D5 := Lib.hid (bstep DR.out hb5)
      obtain ⟨⟨g0, g1, g2⟩, m0, m1, m2⟩ := HN1.out _ hb5
      clear hb5 HT HN1 DR m3 f0 f1 f2 f3 p0 p1 p2 p3 q0 q1 q2 q3
      go_wp2_with fail
      go_roundg g
      case measure => omega
      case rel => exact ⟨k + 1, by omega, by go_num, D5⟩
end Go.Proofs.Ytaedeaefoeeidaa
/- A slice of bytes, as it comes in. -/
namespace Go.Proofs.Ytaedeaefoeeidaa
open Go.RowKit Go.Maps
set_option linter.unusedVariables false
set_option linter.unusedSimpArgs false

theorem bytes_row {W : World} {a : Option Addr} {len cap : Nat} {z : List Int} (w0 : IsRow .u8 W a len cap z) : ∃ bs : List Nat, bs.length = len ∧ BRow W a bs ∧ len ≤ cap ∧ (a = none → len = 0 ∧ cap = 0) := by
  obtain ⟨xs, h1, h2, h3, h4, -, h6⟩ := w0.row
  refine ⟨xs.map Int.toNat, by simp [h1], ⟨?_, ?_⟩, h4, h6⟩
  · have : toI (xs.map Int.toNat) = xs := by
      unfold toI
      rw [List.map_map]
      conv => rhs; rw [← List.map_id xs]
      apply List.map_congr_left
      intro x hx
      have := wf_u8_bounds (h3 x hx)
      simp
      omega
    rw [this]
    exact h2
  · intro b hb
    obtain ⟨x, hx, rfl⟩ := List.mem_map.1 hb
    have := wf_u8_bounds (h3 x hx)
    omega
end Go.Proofs.Ytaedeaefoeeidaa
/- Layer 8: VersReads: the walk. -/
namespace Go.Proofs.Ytaedeaefoeeidaa
open Go.RowKit Go.Maps
set_option linter.unusedVariables false
set_option linter.unusedSimpArgs false

theorem rread_any (a : Option Addr) (cap : Nat) (bs : List Nat) (ty en : Int) (p : Option Addr) (pc : Nat) (ps : List PT) (d : DT) (n : Int) (w : World) (hb : BRow w a bs) (hbl : bs.length ≤ 140737488351232) (hbc : bs.length ≤ cap) (hbn : a = none → bs.length = 0 ∧ cap = 0)
    (h : PRow w p ps) (hl : ps.length ≤ 140737488351232) (hd : d.wf) (hn1 : -9223372036854775808 ≤ n) (hn2 : n < 9223372036854775808) :
    Calls Try.prog 6 #[.slice a bs.length cap, headV ty en p ps.length pc, .agg d.cells, .int .i64 n] w (RVersAns (versF bs ps d n) w) := by
  by_cases hs : n < 0 ∨ 4096 < n ∨ d.versym = 0
  · exact rread_small a cap bs ty en p pc ps d n w hd hn1 hn2 hs
  · obtain ⟨m, rfl⟩ : ∃ m : Nat, n = (m : Int) := ⟨n.toNat, by omega⟩
    exact rread_main a cap bs ty en p pc ps d m w hb hbl hbc hbn h hl hd (by omega) (by omega)

theorem versF_code (bs : List Nat) (ps : List PT) (d : DT) (n : Int) : (versF bs ps d n).2 < 30 := by
  have h1 := strF_code bs ps d.strtab d.strsz
  have h2 : (sliceF bs ps d.versym (2 * n.toNat)).2 = 0 ∨ (sliceF bs ps d.versym (2 * n.toNat)).2 = 4 := by
    unfold sliceF
    split
    · left; rfl
    · right; rfl
  have h3 := defsF_err (bs := bs) (ps := ps) (ss := (strF bs ps d.strtab d.strsz).1) (told := []) (x := d.verdef) (y := d.verdefnum)
  have h4 := needsF_err (bs := bs) (ps := ps) (ss := (strF bs ps d.strtab d.strsz).1) (told := (defsF bs ps (strF bs ps d.strtab d.strsz).1 [] d.verdef d.verdefnum).1.1) (x := d.verneed) (y := d.verneednum)
  have h5 : ∀ (told words : List Nat), (ofF told words).2 < 30 := fun told words => by
    unfold ofF
    split
    · show 0 < 30; decide
    · show 3 < 30; decide
  unfold versF
  split
  · show 1 < 30; decide
  split
  · show 2 < 30; decide
  split
  · show 0 < 30; decide
  split
  · show (strF bs ps d.strtab d.strsz).2 < 30
    rcases h1 with h | h | h | h <;> rw [h] <;> decide
  split
  · show (sliceF bs ps d.versym (2 * n.toNat)).2 < 30
    omega
  split
  · exact h3
  split
  · exact h4
  split
  · exact h5 _ _
  · show 0 < 30; decide

theorem own_short {w : World} {B sz n c m : Nat} {e : TypeId} {a : Option Addr} {xs : List Value} (h : w.ownsRow B e sz (.slice a n c) m xs) : n ≤ 9223372036854775807 := by
  rcases h.2 with ⟨hv, -⟩ | ⟨g, cap, cur, hv, -, -, h1, h2, -⟩
  · simp only [Value.slice.injEq] at hv
    omega
  · simp only [Value.slice.injEq] at hv
    unfold maxLen at h2
    omega

set_option maxRecDepth 100000 in
set_option maxHeartbeats 16000000 in
theorem vreads_any (a : Option Addr) (cap : Nat) (bs : List Nat) (ty en : Int) (p : Option Addr) (pc : Nat) (ps : List PT) (d : DT) (n : Int) (w : World) (hb : BRow w a bs) (hbl : bs.length ≤ 140737488351232) (hbc : bs.length ≤ cap) (hbn : a = none → bs.length = 0 ∧ cap = 0)
    (h : PRow w p ps) (hl : ps.length ≤ 140737488351232) (hd : d.wf) (hn1 : -9223372036854775808 ≤ n) (hn2 : n < 9223372036854775808) :
    Calls Try.prog 3 #[.slice a bs.length cap, headV ty en p ps.length pc, .agg d.cells, .int .i64 n] w fun e w' => e = .returned (.bool true) ∧ Below w.heap.size w w' := by
  have HRD := Lib.hid (fun (w1 : World) (hb1 : Below w.heap.size w w1) => vread_any a cap bs ty en p pc ps d n w1 (hb.below hb1) hbl hbc hbn (h.below hb1) hl hd hn1 hn2)
  have HRR := Lib.hid (fun (w1 : World) (hb1 : Below w.heap.size w w1) => rread_any a cap bs ty en p pc ps d n w1 (hb.below hb1) hbl hbc hbn (h.below hb1) hl hd hn1 hn2)
  have hcode := versF_code bs ps d n
  have HUP := Lib.hid (fun w1 => vup_true w1)
  clear h hb hbl hbc hbn hl hd
  generalize versF bs ps d n = X at *
  obtain ⟨X, c⟩ := X
  simp only at hcode
  have HC := Lib.hid (fun w1 => code_any (c : Int) w1 (by omega) (by omega))
  obtain ⟨ev, hev⟩ : ∃ ev, errV (c : Int) = ev := ⟨_, rfl⟩
  rw [hev] at HC
  have HEV := Lib.hid hev
  clear hev hcode
  have HI : Hid ((Try.prog.info? 29).map (·.size) = some d.cells.size) := Lib.hid (show _ = some 37 by kernel_rfl)
  generalize d.cells = D at *
  have B1 : Hid (Below w.heap.size w ((w.alloc (.cells #[.int .i64 ty, .int .u64 en, .slice p ps.length pc] 26)).alloc (.cells D 29))) := Lib.hid (((Below.refl _ _).alloc (Nat.le_refl _) _).alloc (by simp) _)
  have FH : Hid (∀ w1, Below ((w.alloc (.cells #[.int .i64 ty, .int .u64 en, .slice p ps.length pc] 26)).alloc (.cells D 29)).heap.size ((w.alloc (.cells #[.int .i64 ty, .int .u64 en, .slice p ps.length pc] 26)).alloc (.cells D 29)) w1 →
      w1.cell? ⟨w.heap.size, 0, none⟩ = some (.int .i64 ty) ∧ w1.cell? ⟨w.heap.size, 1, none⟩ = some (.int .u64 en) ∧ w1.cell? ⟨w.heap.size, 2, none⟩ = some (.slice p ps.length pc) ∧
      w1.heap[w.heap.size + 1]? = some (.cells D 29)) := Lib.hid (by
    intro w1 hw1
    have e1 : ∀ j, w1.cell? ⟨w.heap.size, j, none⟩ = (w.alloc (.cells #[.int .i64 ty, .int .u64 en, .slice p ps.length pc] 26)).cell? ⟨w.heap.size, j, none⟩ := fun j => by
      rw [hw1.cell (p := ⟨w.heap.size, j, none⟩) (by simp; omega)]
      exact (Below.cell (((Below.refl _ _).alloc (Nat.le_refl _) _)) (p := ⟨w.heap.size, j, none⟩) (by simp))
    refine ⟨?_, ?_, ?_, ?_⟩
    · rw [e1, World.cell?_alloc_new]; rfl
    · rw [e1, World.cell?_alloc_new]; rfl
    · rw [e1, World.cell?_alloc_new]; rfl
    · rw [hw1.block _ (by simp)]
      have := heap_alloc_new (w.alloc (.cells #[.int .i64 ty, .int .u64 en, .slice p ps.length pc] 26)) (.cells D 29)
      simpa using this)
  unfold headV at *
  go_enter Try.func3, Try.ntmps3
  go_wp2_with fail
  refine (HUP.out _).mono ?_
  rintro e w1 ⟨rfl, hb1⟩
  obtain ⟨f0, f1, f2, f3⟩ := FH.out _ hb1
  have B2 := Lib.hid (bstep B1.out hb1)
  have F3 := Lib.hid f3; clear f3
  have S1 := Lib.hid hb1
  clear hb1 B1 HUP
  go_wp2_with (refine wpList_load_row rfl 29 _ rfl (w.heap.size + 1) rfl 29 D (0, 0) _ F3.out Try.underlying29 rfl HI.out ?_)
  refine (HRD.out _ B2.out).mono ?_
  rintro e w2 ⟨oa, oc, da, dc, drows, na, nc, nrows, he, ho1, ho2, ho3, ho4, ho5, hb2⟩
  replace he : e = .returned (.tuple #[.agg #[.bool X.has, .slice oa X.of.length oc, .slice da X.defs.length dc, .slice na X.needs.length nc], errV (c : Int)]) := he
  rw [HEV.out] at he
  subst he
  have hv := (bstep S1.out hb2).alloc (bstep S1.out hb2).size (.cells #[.bool X.has, .slice oa X.of.length oc, .slice da X.defs.length dc, .slice na X.needs.length nc] 35)
  obtain ⟨f0', f1', f2', f3⟩ := FH.out _ hv
  clear f0 f1 f2 F3
  have F3 := Lib.hid f3; clear f3
  have B3 := Lib.hid ((bstep B2.out hb2).alloc (bstep B2.out hb2).size (.cells #[.bool X.has, .slice oa X.of.length oc, .slice da X.defs.length dc, .slice na X.needs.length nc] 35))
  have HV : Hid ((w2.alloc (.cells #[.bool X.has, .slice oa X.of.length oc, .slice da X.defs.length dc, .slice na X.needs.length nc] 35)).heap[w2.heap.size]? = some (.cells #[.bool X.has, .slice oa X.of.length oc, .slice da X.defs.length dc, .slice na X.needs.length nc] 35)) := Lib.hid (heap_alloc_new _ _)
  have L1 := Lib.hid (own_short ho1)
  have L2 := Lib.hid (own_short ho2.1)
  have L3 := Lib.hid (own_short ho4.1)
  have L4 : Hid (∀ d ∈ X.defs, d.parents.length ≤ 9223372036854775807) := Lib.hid (fun d hd => by
    obtain ⟨i, hi, rfl⟩ := List.getElem_of_mem hd
    obtain ⟨pa, pc, -, ho⟩ := ho3.at i hi (by rw [ho3.len]; exact hi)
    exact own_short ho.1)
  have L5 : Hid (∀ d ∈ X.needs, d.aux.length ≤ 9223372036854775807) := Lib.hid (fun d hd => by
    obtain ⟨i, hi, rfl⟩ := List.getElem_of_mem hd
    obtain ⟨pa, pc, -, ho⟩ := ho5.at i hi (by rw [ho5.len]; exact hi)
    exact own_short ho.1)
  have R1 : Hid (VRd X (w2.alloc (.cells #[.bool X.has, .slice oa X.of.length oc, .slice da X.defs.length dc, .slice na X.needs.length nc] 35)) oa da na drows nrows) := Lib.hid (VRd.below ⟨ho1.at.2.1, ho2.at.2.1, ho3.rd, ho4.at.2.1, ho5.rd⟩ ((Below.refl _ _).alloc (Nat.le_refl _) _))
  clear ho1 ho2 ho3 ho4 ho5 hb2 HRD B2 S1 hv
  go_wp2_with (refine wpList_load_row rfl 29 _ rfl (w.heap.size + 1) rfl 29 D (0, 0) _ F3.out Try.underlying29 rfl HI.out ?_)
  refine (HRR.out _ B3.out).mono ?_
  rintro e w3 ⟨oa2, oc2, da2, dc2, drows2, na2, nc2, nrows2, rfl, hr2, hb3⟩
  have hbx := (Below.refl w3.heap.size w3).alloc (Nat.le_refl _) (.cells #[.bool X.has, .slice oa2 X.of.length oc2, .slice da2 X.defs.length dc2, .slice na2 X.needs.length nc2] 35)
  have B4 := Lib.hid (bstep (bstep B3.out hb3) hbx)
  have R2 := Lib.hid ((R1.out.below hb3).below hbx)
  have Q2 := Lib.hid (hr2.below hbx)
  have hv2 := (hbx.block _ (lt_of_block ((hb3.block _ (lt_of_block HV.out)).trans HV.out))).trans ((hb3.block _ (lt_of_block HV.out)).trans HV.out)
  have k0 : (w3.alloc (.cells #[.bool X.has, .slice oa2 X.of.length oc2, .slice da2 X.defs.length dc2, .slice na2 X.needs.length nc2] 35)).cell? ⟨w2.heap.size, 0, none⟩ = some (.bool X.has) := by rw [cell_of_row _ _ 0 _ _ _ hv2]; rfl
  have k1 : (w3.alloc (.cells #[.bool X.has, .slice oa2 X.of.length oc2, .slice da2 X.defs.length dc2, .slice na2 X.needs.length nc2] 35)).cell? ⟨w2.heap.size, 1, none⟩ = some (.slice oa X.of.length oc) := by rw [cell_of_row _ _ 1 _ _ _ hv2]; rfl
  have k2 : (w3.alloc (.cells #[.bool X.has, .slice oa2 X.of.length oc2, .slice da2 X.defs.length dc2, .slice na2 X.needs.length nc2] 35)).cell? ⟨w2.heap.size, 2, none⟩ = some (.slice da X.defs.length dc) := by rw [cell_of_row _ _ 2 _ _ _ hv2]; rfl
  have k3 : (w3.alloc (.cells #[.bool X.has, .slice oa2 X.of.length oc2, .slice da2 X.defs.length dc2, .slice na2 X.needs.length nc2] 35)).cell? ⟨w2.heap.size, 3, none⟩ = some (.slice na X.needs.length nc) := by rw [cell_of_row _ _ 3 _ _ _ hv2]; rfl
  clear hr2 hb3 HRR B3 R1 f0' f1' f2' F3 FH HI hv2 HV hbx
  go_wp2_with fail
  refine (versSame X _ _ _ _ _ _ _ _ _ _ _ _ _ _ _ _ _ R2.out Q2.out L1.out L2.out L3.out L4.out L5.out).mono ?_
  rintro e w4 ⟨rfl, hb4⟩
  have B5 := Lib.hid (bstep B4.out hb4)
  clear hb4 k0 k1 k2 k3
  go_wp2_with fail
  refine (HC.out _).mono ?_
  rintro e w5 ⟨rfl, rfl⟩
  go_wp2
  go_ret
  exact ⟨rfl, B5.out⟩

theorem walk_VersReads (a : Option Addr) (len cap : Nat) (z : List Int) (ty en : Int) (p : Option Addr) (pc : Nat) (ps : List PT) (d : DT) (n : Int) (W : World) (w0 : IsRow .u8 W a len cap z) (s0 : cap * 1 ≤ 140737488351232) (hp : PRow W p ps) (hpl : ps.length ≤ 140737488351232) (hd : d.wf) (w3 : (Lit.int .i64 n).wf = true) :
    Calls Try.prog 3 #[.slice a len cap, headV ty en p ps.length pc, .agg d.cells, .int .i64 n] W fun e w' => e = .returned (.bool true) ∧ Below W.heap.size W w' := by
  obtain ⟨bs, rfl, hb, hc, hn⟩ := bytes_row w0
  have := bounds_i64 w3
  exact vreads_any a cap bs ty en p pc ps d n W hb (by omega) hc hn hp hpl hd (by omega) (by omega)
end Go.Proofs.Ytaedeaefoeeidaa
