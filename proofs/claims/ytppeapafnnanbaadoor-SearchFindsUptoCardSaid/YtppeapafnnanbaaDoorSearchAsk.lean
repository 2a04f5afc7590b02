/- Layer 14: who asks, as it comes in, and its bulk (the program's directories alone). -/
import Derived.Test.YtppeapafnnanbaaDoorRows
import Derived.Test.YtppeapafnnanbaaDoorSearchTree
import Derived.Test.YtppeapafnnanbaaDoorOpenF
import Derived.Deep.Slices
namespace Go.Proofs.YtppeapafnnanbaaDoor
open Go.RowKit Go.WideShapes Go.Deep Go.ChangeShapes
set_option linter.unusedVariables false
set_option linter.unusedSimpArgs false

theorem bulk_mem {H : Type} {d : DataW H} : ∀ {l : List (DataW H)}, d ∈ l → Rows.uptoBulk d ≤ Rows.uptoBulkAll l
  | x :: l, h => by
    simp only [Rows.uptoBulkAll]
    rcases List.mem_cons.1 h with rfl | h
    · omega
    · have := bulk_mem h
      omega
theorem bulk_pos {H : Type} (d : DataW H) : 1 ≤ Rows.uptoBulk d := by
  unfold Rows.uptoBulk
  split <;> omega
theorem bulk_each {H : Type} (D : Nat → DataW H) (K : Nat) : ∀ (l : List Nat), (∀ i ∈ l, K ≤ Rows.uptoBulk (D i)) → l.length * K ≤ Rows.uptoBulkAll (l.map D)
  | [], _ => by simp
  | i :: l, h => by
    have h1 := bulk_each D K l (fun j hj => h j (by simp [hj]))
    have h2 := h i (by simp)
    simp only [List.map_cons, Rows.uptoBulkAll, List.length_cons, Nat.add_mul, Nat.one_mul]
    omega

section
variable {H : Type} {enc : TypeId × Value → H} {w : World} {base : Nat} {held : Bool}

set_option maxRecDepth 100000 in
theorem text_bulk {spare : Nat → Bool} {n : Nat} {c : Value} {y : DataW H × List MemPlace} (h : DataW.trod enc Tryd.prog w base spare held n 9 [c] = some y) : ∃ x : ByteArray, c = .string x ∧ x.size + 1 ≤ Rows.uptoBulk y.1 := by
  obtain ⟨x, hc, hy, -⟩ := DataW.trod_string Tryd.underlying9 h
  refine ⟨x, by simpa using hc, ?_⟩
  have hy1 : y.1 = .lit (.string x.data.toList) := by rw [hy]
  rw [hy1]
  simp [Rows.uptoBulk]
set_option maxRecDepth 100000 in
theorem origin_of_trod {spare : Nat → Bool} {n : Nat} {cs : List Value} {y : DataW H × List MemPlace} (h : DataW.trod enc Tryd.prog w base spare held n 48 cs = some y) : ∃ o : OT, cs = o.cells ∧ o.path.size + o.rpath.size + o.runpath.size + 6 ≤ Rows.uptoBulk y.1 := by
  obtain ⟨xs, m, -, hxe, hlen, hxl, hf⟩ := DataW.trod_struct Tryd.underlying48 h
  have hc : Tryd.prog.cellsOf 48 = 5 := by kernel_rfl
  rw [hc] at hlen
  match cs, hlen with
  | [c0, c1, c2, c3, c4], _ =>
    have ks : Tryd.prog.cellsOf 9 = 1 := by kernel_rfl
    have kb : Tryd.prog.cellsOf 4 = 1 := by kernel_rfl
    have g0 : DataW.trod enc Tryd.prog w base spare held m 9 (([c0, c1, c2, c3, c4].drop 0).take (Tryd.prog.cellsOf 9)) = xs[0]? := hf 0 _ rfl
    have g1 : DataW.trod enc Tryd.prog w base spare held m 9 (([c0, c1, c2, c3, c4].drop 1).take (Tryd.prog.cellsOf 9)) = xs[1]? := hf 1 _ rfl
    have g2 : DataW.trod enc Tryd.prog w base spare held m 9 (([c0, c1, c2, c3, c4].drop 2).take (Tryd.prog.cellsOf 9)) = xs[2]? := hf 2 _ rfl
    have g3 : DataW.trod enc Tryd.prog w base spare held m 4 (([c0, c1, c2, c3, c4].drop 3).take (Tryd.prog.cellsOf 4)) = xs[3]? := hf 3 _ rfl
    have g4 : DataW.trod enc Tryd.prog w base spare held m 4 (([c0, c1, c2, c3, c4].drop 4).take (Tryd.prog.cellsOf 4)) = xs[4]? := hf 4 _ rfl
    have hx : xs.length = 5 := by rw [hxl]; rfl
    simp only [ks, kb, List.drop_succ_cons, List.drop_zero, List.take_succ_cons, List.take_zero] at g0 g1 g2 g3 g4
    match xs, hx with
    | [x0, x1, x2, x3, x4], _ =>
      simp only [List.getElem?_cons_zero, List.getElem?_cons_succ] at g0 g1 g2 g3 g4
      obtain ⟨s0, rfl, b0⟩ := text_bulk g0
      obtain ⟨s1, rfl, b1⟩ := text_bulk g1
      obtain ⟨s2, rfl, b2⟩ := text_bulk g2
      obtain ⟨q3, rfl⟩ := field_bool Tryd.underlying4 g3
      obtain ⟨q4, rfl⟩ := field_bool Tryd.underlying4 g4
      refine ⟨⟨s0, s1, s2, q3, q4⟩, rfl, ?_⟩
      have b3 := bulk_pos x3.1
      have b4 := bulk_pos x4.1
      rw [hxe]
      simp only [Rows.uptoBulk, Rows.uptoBulkAll, List.map_cons, List.map_nil]
      omega
set_option maxRecDepth 100000 in
theorem open_chain {fuel : Nat} {c : Value} {x : DataW H × List MemPlace} (h : DataW.trod enc Tryd.prog w base (fun _ => true) held fuel 23 [c] = some x) (hb : Rows.uptoBulk x.1 ≤ 1048576) :
    ∃ (a : Option Addr) (cap : Nat) (C : List OT), c = .slice a C.length cap ∧ CRow w a C ∧ C.length ≤ 200000 ∧ C.length ≤ cap ∧ (a = none → cap = 0) ∧ ∀ o ∈ C, Sizes o := by
  rcases open_slice Tryd.underlying23 h with ⟨hc, -⟩ | ⟨ad, len, cap, m, n, D, Pl, hc, -, hl, hm, hmm, hx, hy⟩
  · simp only [List.cons.injEq, and_true] at hc
    subst hc
    exact ⟨none, 0, [], rfl, (fun i hi => by simp at hi), by simp, by simp, fun _ => rfl, (fun o ho => by cases ho)⟩
  · simp only [List.cons.injEq, and_true] at hc
    simp only [if_true] at hmm
    subst hc hmm hx
    have hcl : Tryd.prog.cellsOf 48 = 5 := by kernel_rfl
    have hbd : Rows.uptoBulkAll ((List.range len).map D) ≤ 1048576 := by
      simp only [Rows.uptoBulk] at hb
      omega
    have each : ∀ i, i < len → ∃ o : OT, (∀ j, j < 5 → w.cell? ((ad.add (i * 5)).add j) = o.cells[j]?) ∧ o.path.size + o.rpath.size + o.runpath.size + 6 ≤ Rows.uptoBulk (D i) := by
      intro i hi
      obtain ⟨cs, h2, h3⟩ := hy i (by omega)
      rw [hcl] at h2
      obtain ⟨-, -, h4⟩ := World.cells?_some h2
      obtain ⟨o, rfl, ho⟩ := origin_of_trod h3
      exact ⟨o, h4, ho⟩
    have hlen : len * 6 ≤ 1048576 := by
      have h1 := bulk_each D 6 (List.range len) (fun i hi => by
        obtain ⟨o, -, ho⟩ := each i (List.mem_range.1 hi)
        omega)
      rw [List.length_range] at h1
      omega
    haveI : Inhabited OT := ⟨⟨.empty, .empty, .empty, false, false⟩⟩
    obtain ⟨q, hq⟩ := choose_lt each
    refine ⟨some ad, m, (List.range len).map q, by simp, ?_, ?_, by simpa using hl, (fun h => by cases h), ?_⟩
    · intro i hi
      have hi' : i < len := by simpa using hi
      obtain ⟨b, off, spot⟩ := ad
      have hs : spot = none := by
        have := (hq 0 (by omega)).1 0 (by omega)
        simp only [Nat.zero_mul, OT.cells, List.getElem?_cons_zero] at this
        simpa [Addr.add] using World.cell?_spot this
      subst hs
      have hcell : ∀ j, j < 5 → w.cell? ⟨b, off + i * 5 + j, none⟩ = (q i).cells[j]? := fun j hj => by
        have := (hq i hi').1 j hj
        rw [WideShapes.add_plain, WideShapes.add_plain] at this
        exact this
      refine ⟨b, off, rfl, ?_, fun j hj => ?_⟩
      · have := hcell 0 (by omega)
        simp only [OT.cells, List.getElem?_cons_zero] at this
        simpa using World.block_lt_of_cell? w _ this
      · rw [hcell j hj]
        simp
    · rw [List.length_map, List.length_range]; omega
    · intro o ho
      obtain ⟨i, hi, rfl⟩ := List.mem_map.1 ho
      have h1 := (hq i (List.mem_range.1 hi)).2
      have h2 : Rows.uptoBulk (D i) ≤ Rows.uptoBulkAll ((List.range len).map D) := bulk_mem (List.mem_map.2 ⟨i, hi, rfl⟩)
      exact ⟨by omega, by omega, by omega⟩
set_option maxRecDepth 100000 in
theorem open_ask {r : Reach} {b0 : Nat} {v : Value} {d : DataW H} {p : List MemPlace} (hv : Value.okWide Tryd.prog w r b0 25 v) (h : DataW.Trod enc Tryd.prog w base (fun _ => true) held 25 v d p) (hb : Rows.uptoBulk d ≤ 1048576) :
    ∃ (name env : ByteArray) (ca : Option Addr) (cc : Nat) (C : List OT) (secure : Bool), v = .agg #[.string name, .slice ca C.length cc, .string env, .bool secure] ∧ CRow w ca C ∧ C.length ≤ 200000 ∧ C.length ≤ cc ∧ (ca = none → cc = 0) ∧ (∀ o ∈ C, Sizes o) ∧ env.size ≤ 1048576 ∧ name.size ≤ 1048576 := by
  obtain ⟨cs, rfl, hsz⟩ := okWide_struct Tryd.underlying25 hv
  obtain ⟨fuel, hf0⟩ := h
  obtain ⟨xs, m, -, hxe, -, hxl, hf⟩ := DataW.trod_struct Tryd.underlying25 hf0
  have hc : Tryd.prog.cellsOf 25 = 4 := by kernel_rfl
  have hcl : cs.toList.length = 4 := by rw [Array.length_toList, hsz, hc]
  obtain ⟨l, hl⟩ : ∃ l, cs.toList = l := ⟨_, rfl⟩
  have hcs : cs = l.toArray := by rw [← hl]
  subst hcs
  have ecs : (Value.agg l.toArray).cells.toList = l := rfl
  rw [hl] at hcl
  rw [ecs] at hf
  match l, hcl with
  | [c0, c1, c2, c3], _ =>
    have ks : Tryd.prog.cellsOf 9 = 1 := by kernel_rfl
    have kb : Tryd.prog.cellsOf 4 = 1 := by kernel_rfl
    have kl : Tryd.prog.cellsOf 23 = 1 := by kernel_rfl
    have g0 : DataW.trod enc Tryd.prog w base (fun _ => true) held m 9 (([c0, c1, c2, c3].drop 0).take (Tryd.prog.cellsOf 9)) = xs[0]? := hf 0 _ rfl
    have g1 : DataW.trod enc Tryd.prog w base (fun _ => true) held m 23 (([c0, c1, c2, c3].drop 1).take (Tryd.prog.cellsOf 23)) = xs[1]? := hf 1 _ rfl
    have g2 : DataW.trod enc Tryd.prog w base (fun _ => true) held m 9 (([c0, c1, c2, c3].drop 2).take (Tryd.prog.cellsOf 9)) = xs[2]? := hf 2 _ rfl
    have g3 : DataW.trod enc Tryd.prog w base (fun _ => true) held m 4 (([c0, c1, c2, c3].drop 3).take (Tryd.prog.cellsOf 4)) = xs[3]? := hf 3 _ rfl
    have hx : xs.length = 4 := by rw [hxl]; rfl
    simp only [ks, kb, kl, List.drop_succ_cons, List.drop_zero, List.take_succ_cons, List.take_zero] at g0 g1 g2 g3
    match xs, hx with
    | [x0, x1, x2, x3], _ =>
      simp only [List.getElem?_cons_zero, List.getElem?_cons_succ] at g0 g1 g2 g3
      have hd : d = .agg [x0.1, x1.1, x2.1, x3.1] := by simpa using congrArg Prod.fst hxe
      rw [hd] at hb
      simp only [Rows.uptoBulk, Rows.uptoBulkAll] at hb
      obtain ⟨s0, rfl, b0⟩ := text_bulk g0
      obtain ⟨ca, cc, C, rfl, h1, h2, h3, h4, h5⟩ := open_chain g1 (by omega)
      obtain ⟨s2, rfl, b2⟩ := text_bulk g2
      obtain ⟨q3, rfl⟩ := field_bool Tryd.underlying4 g3
      exact ⟨s0, s2, ca, cc, C, q3, rfl, h1, h2, h3, h4, h5, by omega, by omega⟩
end
end Go.Proofs.YtppeapafnnanbaaDoor
