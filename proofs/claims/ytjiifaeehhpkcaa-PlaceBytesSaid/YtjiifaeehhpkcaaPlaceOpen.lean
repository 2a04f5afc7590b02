/- Layer 15: an object, as it comes in. -/
import Derived.Test.YtjiifaeehhpkcaaPlaceKit
import Derived.Test.YtjiifaeehhpkcaaAgg
import Derived.Test.YtjiifaeehhpkcaaOpenW
import Derived.Deep.Slices
import Derived.SizedLaws
namespace Go.Proofs.Ytjiifaeehhpkcaa
open Go.RowKit Go.WideShapes Go.Deep
set_option linter.unusedVariables false
set_option linter.unusedSimpArgs false

section
variable {H : Type} {enc : TypeId × Value → H} {P : Program} {w : World} {base : Nat} {spare : Nat → Bool} {held : Bool}

/-- a struct's field, wherever its cells stand, and what it weighs -/
theorem field_w {n : Nat} {t : TypeId} {fs : Array Field} {cs : List Value} {y : DataW H × List MemPlace} (ht : P.underlying t = some (.struct fs)) (h : DataW.trod enc P w base spare held n t cs = some y) (hw : ∀ k ∈ y.1.weights P t, k ≤ reachBytes) {j : Nat} {f : Field} (hj : fs[j]? = some f) :
    ∃ m x, DataW.trod enc P w base spare held m f.type ((cs.drop f.offset).take (P.cellsOf f.type)) = some x ∧ ∀ k ∈ x.1.weights P f.type, k ≤ reachBytes := by
  obtain ⟨xs, m, -, hx, -, hlen, hg⟩ := DataW.trod_struct ht h
  have hjl : j < fs.size := (Array.getElem?_eq_some_iff.1 hj).1
  have h1 := hg j f hj
  have hxj : j < xs.length := by omega
  rw [List.getElem?_eq_getElem hxj] at h1
  refine ⟨m, _, h1, fun k hk => hw k ?_⟩
  have e1 : y.1 = .agg (xs.map (·.1)) := by rw [hx]
  rw [e1]
  simp only [DataW.weights, ht]
  refine DataW.weights_mem_each (j := j) (t := f.type) (d := xs[j].1) ?_ ?_ k hk
  · rw [List.getElem?_map, Array.getElem?_toList, hj]; rfl
  · rw [List.getElem?_map, List.getElem?_eq_getElem hxj]; rfl
theorem struct_len {n : Nat} {t : TypeId} {fs : Array Field} {cs : List Value} {y : DataW H × List MemPlace} (ht : P.underlying t = some (.struct fs)) (h : DataW.trod enc P w base spare held n t cs = some y) : cs.length = P.cellsOf t := by
  obtain ⟨xs, m, -, -, hl, -, -⟩ := DataW.trod_struct ht h
  exact hl
def basicB (P : Program) (t : TypeId) : Bool := match P.underlying t with
  | some (.int _) => true
  | some .bool => true
  | some .string => true
  | some (.slice _) => true
  | _ => false
theorem basic_one {n : Nat} {t : TypeId} {c : Value} {y : DataW H × List MemPlace} (hb : basicB P t = true) (h : DataW.trod enc P w base (fun _ => true) held n t [c] = some y) : c.oneCell' = true := by
  unfold basicB at hb
  split at hb
  · rename_i k hu
    obtain ⟨x, rfl, -⟩ := field_int hu h
    rfl
  · rename_i hu
    obtain ⟨x, rfl⟩ := field_bool hu h
    rfl
  · rename_i hu
    obtain ⟨x, rfl, -⟩ := field_string hu h
    rfl
  · rename_i e hu
    rcases open_slice hu h with ⟨h1, -⟩ | ⟨ad, l, cp, m, n, D, Pl, h1, -⟩
    · have : c = .slice none 0 0 := by simpa using h1
      subst this
      rfl
    · obtain rfl : c = _ := by simpa using h1
      rfl
  · cases hb
theorem cut_one {cs : List Value} {j : Nat} (h : j < cs.length) : (cs.drop j).take 1 = [cs[j]] := by
  rw [List.drop_eq_getElem_cons h]
  rfl
theorem struct_one {n N : Nat} {t : TypeId} {fs : Array Field} {cs : List Value} {y : DataW H × List MemPlace} (ht : P.underlying t = some (.struct fs)) (hone : oneCellFields P fs = true) (hC : P.cellsOf t = N) (hN : fs.size = N) (hb : fs.all (fun f => basicB P f.type) = true)
    (h : DataW.trod enc P w base (fun _ => true) held n t cs = some y) : ∀ c ∈ cs, c.oneCell' = true := by
  intro c hc
  obtain ⟨j, hj, rfl⟩ := List.getElem_of_mem hc
  obtain ⟨xs, m, -, hx, hl, hlen, hg⟩ := DataW.trod_struct ht h
  have hjf : j < fs.size := by omega
  have hf : fs[j]? = some fs[j] := Array.getElem?_eq_getElem hjf
  obtain ⟨ho, hk⟩ := hone_of hone j _ hf
  have h1 := hg j _ hf
  rw [ho, hk, cut_one hj, List.getElem?_eq_getElem (by omega)] at h1
  refine basic_one ?_ h1
  exact (Array.all_eq_true.1 hb) j hjf
theorem mem_cut {cs : List Value} {j o k : Nat} (h1 : o ≤ j) (h2 : j < o + k) (h : j < cs.length) : cs[j] ∈ (cs.drop o).take k := by
  rw [List.mem_iff_getElem]
  refine ⟨j - o, by rw [List.length_take, List.length_drop]; omega, ?_⟩
  rw [List.getElem_take, List.getElem_drop]
  congr 1
  omega

theorem adN {ad : Addr} {w : World} {v : Value} (h : w.cell? (ad.add 0) = some v) : ∃ b o, ad = ⟨b, o, none⟩ := by
  obtain ⟨b, off, spot⟩ := ad
  have hs : spot = none := by simpa [Addr.add] using World.cell?_spot h
  subst hs
  exact ⟨b, off, rfl⟩
end

section
variable {H : Type} {enc : TypeId × Value → H} {w : World} {base : Nat} {spare : Nat → Bool} {held : Bool}

theorem wf_u32_nat {n : Int} (h : (Lit.int .u32 n).wf = true) : ∃ m : Nat, n = (m : Int) ∧ m < 4294967296 := by
  have := bounds_u32 h
  exact ⟨n.toNat, by omega, by omega⟩
theorem wf_u64_nat {n : Int} (h : (Lit.int .u64 n).wf = true) : ∃ m : Nat, n = (m : Int) ∧ m < 18446744073709551616 := by
  have := bounds_u64 h
  exact ⟨n.toNat, by omega, by omega⟩

set_option maxRecDepth 100000 in
theorem prog_of_trod {n : Nat} {cs : List Value} {y : DataW H × List MemPlace} (h : DataW.trod enc Try.prog w base spare held n 60 cs = some y) : ∃ r : PT, cs = r.cells ∧ r.wf := by
  obtain ⟨xs, m, -, -, hlen, hxl, hf⟩ := DataW.trod_struct Try.underlying60 h
  have hc : Try.prog.cellsOf 60 = 7 := by kernel_rfl
  rw [hc] at hlen
  match cs, hlen with
  | [c0, c1, c2, c3, c4, c5, c6], _ =>
    have k64 : Try.prog.cellsOf 22 = 1 := by kernel_rfl
    have k32 : Try.prog.cellsOf 58 = 1 := by kernel_rfl
    have g0 : DataW.trod enc Try.prog w base spare held m 58 (([c0, c1, c2, c3, c4, c5, c6].drop 0).take (Try.prog.cellsOf 58)) = xs[0]? := hf 0 _ rfl
    have g1 : DataW.trod enc Try.prog w base spare held m 58 (([c0, c1, c2, c3, c4, c5, c6].drop 1).take (Try.prog.cellsOf 58)) = xs[1]? := hf 1 _ rfl
    have g2 : DataW.trod enc Try.prog w base spare held m 22 (([c0, c1, c2, c3, c4, c5, c6].drop 2).take (Try.prog.cellsOf 22)) = xs[2]? := hf 2 _ rfl
    have g3 : DataW.trod enc Try.prog w base spare held m 22 (([c0, c1, c2, c3, c4, c5, c6].drop 3).take (Try.prog.cellsOf 22)) = xs[3]? := hf 3 _ rfl
    have g4 : DataW.trod enc Try.prog w base spare held m 22 (([c0, c1, c2, c3, c4, c5, c6].drop 4).take (Try.prog.cellsOf 22)) = xs[4]? := hf 4 _ rfl
    have g5 : DataW.trod enc Try.prog w base spare held m 22 (([c0, c1, c2, c3, c4, c5, c6].drop 5).take (Try.prog.cellsOf 22)) = xs[5]? := hf 5 _ rfl
    have g6 : DataW.trod enc Try.prog w base spare held m 22 (([c0, c1, c2, c3, c4, c5, c6].drop 6).take (Try.prog.cellsOf 22)) = xs[6]? := hf 6 _ rfl
    have hx : xs.length = 7 := by rw [hxl]; rfl
    simp only [k64, k32, List.drop_succ_cons, List.drop_zero, List.take_succ_cons, List.take_zero] at g0 g1 g2 g3 g4 g5 g6
    rw [List.getElem?_eq_getElem (by omega)] at g0 g1 g2 g3 g4 g5 g6
    obtain ⟨x0, rfl, w0⟩ := field_int Try.underlying58 g0
    obtain ⟨m0, rfl, b0⟩ := wf_u32_nat w0
    obtain ⟨x1, rfl, w1⟩ := field_int Try.underlying58 g1
    obtain ⟨m1, rfl, b1⟩ := wf_u32_nat w1
    obtain ⟨x2, rfl, w2⟩ := field_int Try.underlying22 g2
    obtain ⟨m2, rfl, b2⟩ := wf_u64_nat w2
    obtain ⟨x3, rfl, w3⟩ := field_int Try.underlying22 g3
    obtain ⟨m3, rfl, b3⟩ := wf_u64_nat w3
    obtain ⟨x4, rfl, w4⟩ := field_int Try.underlying22 g4
    obtain ⟨m4, rfl, b4⟩ := wf_u64_nat w4
    obtain ⟨x5, rfl, w5⟩ := field_int Try.underlying22 g5
    obtain ⟨m5, rfl, b5⟩ := wf_u64_nat w5
    obtain ⟨x6, rfl, w6⟩ := field_int Try.underlying22 g6
    obtain ⟨m6, rfl, b6⟩ := wf_u64_nat w6
    exact ⟨⟨m0, m1, m2, m3, m4, m5, m6⟩, rfl, b0, b1, b2, b3, b4, b5, b6⟩

set_option maxRecDepth 100000 in
theorem open_progs {fuel : Nat} {c : Value} {x : DataW H × List MemPlace} (h : DataW.trod enc Try.prog w base (fun _ => true) held fuel 23 [c] = some x) (hw : ∀ n ∈ x.1.weights Try.prog 23, n ≤ reachBytes) :
    ∃ (a : Option Addr) (cap : Nat) (ps : List PT), c = .slice a ps.length cap ∧ PRow w a ps ∧ ps.length * 48 ≤ 140737488351232 := by
  rcases open_slice_w Try.underlying23 h hw with rfl | ⟨ad, len, cap, n, rfl, hl, hm, hb, hx⟩
  · exact ⟨none, 0, [], rfl, (fun i hi => by simp at hi), by simp⟩
  · have hc : Try.prog.cellsOf 60 = 7 := by kernel_rfl
    have hby : Try.prog.bytesOf 60 = 48 := by kernel_rfl
    rw [hby] at hb
    have each : ∀ i, i < len → ∃ r : PT, r.wf ∧ ∀ j, j < 7 → w.cell? ((ad.add (i * 7)).add j) = r.cells[j]? := by
      intro i hi
      obtain ⟨cs, y, h2, h3, -⟩ := hx i (by omega)
      rw [hc] at h2
      obtain ⟨-, -, h4⟩ := World.cells?_some h2
      obtain ⟨r, rfl, hr⟩ := prog_of_trod h3
      exact ⟨r, hr, h4⟩
    haveI : Inhabited PT := ⟨PT.zero⟩
    obtain ⟨q, hq⟩ := choose_lt each
    refine ⟨some ad, cap, (List.range len).map q, by simp, ?_, by simp [reachBytes] at hb ⊢; omega⟩
    intro i hi
    have hi' : i < len := by simpa using hi
    obtain ⟨b, off, spot⟩ := ad
    have hs : spot = none := by
      have := (hq 0 (by omega)).2 0 (by omega)
      simp only [Nat.zero_mul, PT.cells, List.getElem?_cons_zero] at this
      simpa [Addr.add] using World.cell?_spot this
    subst hs
    have hcell : ∀ j, j < 7 → w.cell? ⟨b, off + i * 7 + j, none⟩ = (q i).cells[j]? := fun j hj => by
      have := (hq i hi').2 j hj
      rw [WideShapes.add_plain, WideShapes.add_plain] at this
      exact this
    refine ⟨by simpa using (hq i hi').1, b, off, rfl, ?_, fun j hj => ?_⟩
    · have := hcell 0 (by omega)
      simp only [PT.cells, List.getElem?_cons_zero] at this
      simpa using World.block_lt_of_cell? w _ this
    · rw [hcell j hj]
      simp
end

section
variable {H : Type} {enc : TypeId × Value → H} {w : World} {base : Nat} {held : Bool}

theorem open_gbytes {fuel : Nat} {c : Value} {x : DataW H × List MemPlace} (h : DataW.trod enc Try.prog w base (fun _ => true) held fuel 37 [c] = some x) (hw : ∀ n ∈ x.1.weights Try.prog 37, n ≤ reachBytes) :
    ∃ (a : Option Addr) (cap : Nat) (l : List Nat), c = .slice a l.length cap ∧ BRow w a l ∧ l.length ≤ cap ∧ (a = none → l.length = 0 ∧ cap = 0) ∧ l.length ≤ 140737488351232 := by
  rcases open_slice_w Try.underlying37 h hw with rfl | ⟨ad, len, cap, n, rfl, hl, hm, hb, hx⟩
  · exact ⟨none, 0, [], rfl, ⟨(fun i hi => by simp [toI] at hi), (fun b hb => by cases hb)⟩, by simp, fun _ => ⟨rfl, rfl⟩, by simp⟩
  · have hc : Try.prog.cellsOf 5 = 1 := by kernel_rfl
    have hby : Try.prog.bytesOf 5 = 1 := by kernel_rfl
    rw [hby] at hb
    have each : ∀ i, i < len → ∃ t : Nat, w.cell? (ad.add i) = some (.int .u8 (t : Int)) ∧ t < 256 := by
      intro i hi
      obtain ⟨cs, y, h2, h3, h4⟩ := hx i (by omega)
      rw [hc, Nat.mul_one] at h2
      obtain ⟨-, hlen, h5⟩ := World.cells?_some h2
      match cs, hlen with
      | [v], _ =>
        obtain ⟨t, rfl, ht⟩ := field_int Try.underlying5 h3
        have hb8 := wf_u8_bounds ht
        have := h5 0 (by omega)
        refine ⟨t.toNat, ?_, by omega⟩
        rw [show ((t.toNat : Nat) : Int) = t by omega]
        simpa [Addr.add] using this
    obtain ⟨q, hq⟩ := choose_lt each
    refine ⟨some ad, cap, (List.range len).map q, by simp, ⟨?_, ?_⟩, by simp; omega, (fun h => by cases h), by simp [reachBytes] at hb ⊢; omega⟩
    · intro i hi
      have hi' : i < len := by simpa [toI] using hi
      obtain ⟨b, off, spot⟩ := ad
      have hs : spot = none := by simpa [Addr.add] using World.cell?_spot (hq 0 (by omega)).1
      subst hs
      have h1 := (hq i hi').1
      rw [WideShapes.add_plain] at h1
      refine ⟨b, off, rfl, ?_⟩
      rw [h1, toI_getD]
      simp [List.getD, hi']
    · intro t ht
      obtain ⟨i, hi, rfl⟩ := List.mem_map.1 ht
      exact (hq i (List.mem_range.1 hi)).2

theorem obj_of_trod {n : Nat} {cs : List Value} {y : DataW H × List MemPlace} (h3 : DataW.trod enc Try.prog w base (fun _ => true) held n 39 cs = some y) (h4 : ∀ k ∈ y.1.weights Try.prog 39, k ≤ reachBytes) : ∃ x : POb, PCells w cs.toArray x := by
  have hlen : cs.length = 54 := by rw [struct_len Try.underlying39 h3]; kernel_rfl
  obtain ⟨m0, x0, t0, u0⟩ : ∃ m x, DataW.trod enc Try.prog w base (fun _ => true) held m 25 ((cs.drop 0).take (Try.prog.cellsOf 25)) = some x ∧ ∀ k ∈ x.1.weights Try.prog 25, k ≤ reachBytes := field_w Try.underlying39 h3 h4 (j := 0) rfl
  obtain ⟨m1, x1, t1, u1⟩ : ∃ m x, DataW.trod enc Try.prog w base (fun _ => true) held m 4 ((cs.drop 3).take (Try.prog.cellsOf 4)) = some x ∧ ∀ k ∈ x.1.weights Try.prog 4, k ≤ reachBytes := field_w Try.underlying39 h3 h4 (j := 1) rfl
  obtain ⟨m2, x2, t2, u2⟩ : ∃ m x, DataW.trod enc Try.prog w base (fun _ => true) held m 28 ((cs.drop 4).take (Try.prog.cellsOf 28)) = some x ∧ ∀ k ∈ x.1.weights Try.prog 28, k ≤ reachBytes := field_w Try.underlying39 h3 h4 (j := 2) rfl
  obtain ⟨m3, x3, t3, u3⟩ : ∃ m x, DataW.trod enc Try.prog w base (fun _ => true) held m 9 ((cs.drop 41).take (Try.prog.cellsOf 9)) = some x ∧ ∀ k ∈ x.1.weights Try.prog 9, k ≤ reachBytes := field_w Try.underlying39 h3 h4 (j := 3) rfl
  obtain ⟨m4, x4, t4, u4⟩ : ∃ m x, DataW.trod enc Try.prog w base (fun _ => true) held m 9 ((cs.drop 42).take (Try.prog.cellsOf 9)) = some x ∧ ∀ k ∈ x.1.weights Try.prog 9, k ≤ reachBytes := field_w Try.underlying39 h3 h4 (j := 4) rfl
  obtain ⟨m5, x5, t5, u5⟩ : ∃ m x, DataW.trod enc Try.prog w base (fun _ => true) held m 9 ((cs.drop 43).take (Try.prog.cellsOf 9)) = some x ∧ ∀ k ∈ x.1.weights Try.prog 9, k ≤ reachBytes := field_w Try.underlying39 h3 h4 (j := 5) rfl
  obtain ⟨m6, x6, t6, u6⟩ : ∃ m x, DataW.trod enc Try.prog w base (fun _ => true) held m 29 ((cs.drop 44).take (Try.prog.cellsOf 29)) = some x ∧ ∀ k ∈ x.1.weights Try.prog 29, k ≤ reachBytes := field_w Try.underlying39 h3 h4 (j := 6) rfl
  obtain ⟨m7, x7, t7, u7⟩ : ∃ m x, DataW.trod enc Try.prog w base (fun _ => true) held m 30 ((cs.drop 45).take (Try.prog.cellsOf 30)) = some x ∧ ∀ k ∈ x.1.weights Try.prog 30, k ≤ reachBytes := field_w Try.underlying39 h3 h4 (j := 7) rfl
  obtain ⟨m8, x8, t8, u8⟩ : ∃ m x, DataW.trod enc Try.prog w base (fun _ => true) held m 35 ((cs.drop 46).take (Try.prog.cellsOf 35)) = some x ∧ ∀ k ∈ x.1.weights Try.prog 35, k ≤ reachBytes := field_w Try.underlying39 h3 h4 (j := 8) rfl
  obtain ⟨m9, x9, t9, u9⟩ : ∃ m x, DataW.trod enc Try.prog w base (fun _ => true) held m 36 ((cs.drop 50).take (Try.prog.cellsOf 36)) = some x ∧ ∀ k ∈ x.1.weights Try.prog 36, k ≤ reachBytes := field_w Try.underlying39 h3 h4 (j := 9) rfl
  obtain ⟨m10, x10, t10, u10⟩ : ∃ m x, DataW.trod enc Try.prog w base (fun _ => true) held m 36 ((cs.drop 51).take (Try.prog.cellsOf 36)) = some x ∧ ∀ k ∈ x.1.weights Try.prog 36, k ≤ reachBytes := field_w Try.underlying39 h3 h4 (j := 10) rfl
  obtain ⟨m11, x11, t11, u11⟩ : ∃ m x, DataW.trod enc Try.prog w base (fun _ => true) held m 26 ((cs.drop 52).take (Try.prog.cellsOf 26)) = some x ∧ ∀ k ∈ x.1.weights Try.prog 26, k ≤ reachBytes := field_w Try.underlying39 h3 h4 (j := 11) rfl
  obtain ⟨m12, x12, t12, u12⟩ : ∃ m x, DataW.trod enc Try.prog w base (fun _ => true) held m 37 ((cs.drop 53).take (Try.prog.cellsOf 37)) = some x ∧ ∀ k ∈ x.1.weights Try.prog 37, k ≤ reachBytes := field_w Try.underlying39 h3 h4 (j := 12) rfl
  have kb : Try.prog.cellsOf 4 = 1 := by kernel_rfl
  have ks : Try.prog.cellsOf 9 = 1 := by kernel_rfl
  have kss : Try.prog.cellsOf 29 = 1 := by kernel_rfl
  have ksy : Try.prog.cellsOf 30 = 1 := by kernel_rfl
  have kr : Try.prog.cellsOf 36 = 1 := by kernel_rfl
  have ku : Try.prog.cellsOf 26 = 1 := by kernel_rfl
  have kb8 : Try.prog.cellsOf 37 = 1 := by kernel_rfl
  have kh : Try.prog.cellsOf 25 = 3 := by kernel_rfl
  have kd : Try.prog.cellsOf 28 = 37 := by kernel_rfl
  have kv : Try.prog.cellsOf 35 = 4 := by kernel_rfl
  rw [kb, cut_one (show 3 < cs.length by omega)] at t1
  rw [ks, cut_one (show 41 < cs.length by omega)] at t3
  rw [ks, cut_one (show 42 < cs.length by omega)] at t4
  rw [ks, cut_one (show 43 < cs.length by omega)] at t5
  rw [kss, cut_one (show 44 < cs.length by omega)] at t6
  rw [ksy, cut_one (show 45 < cs.length by omega)] at t7
  rw [kr, cut_one (show 50 < cs.length by omega)] at t9
  rw [kr, cut_one (show 51 < cs.length by omega)] at t10
  rw [ku, cut_one (show 52 < cs.length by omega)] at t11
  rw [kb8, cut_one (show 53 < cs.length by omega)] at t12
  have o0 := struct_one Try.underlying25 (by kernel_rfl) kh rfl (by kernel_rfl) t0
  have o2 := struct_one Try.underlying28 (by kernel_rfl) kd rfl (by kernel_rfl) t2
  have o8 := struct_one Try.underlying35 (by kernel_rfl) kv rfl (by kernel_rfl) t8
  rw [kh] at o0
  rw [kd] at o2
  rw [kv] at o8
  have hone : ∀ c ∈ cs, c.oneCell' = true := by
    intro c hc
    obtain ⟨j, hj, rfl⟩ := List.getElem_of_mem hc
    rcases (show j < 3 ∨ j = 3 ∨ (4 ≤ j ∧ j < 41) ∨ j = 41 ∨ j = 42 ∨ j = 43 ∨ j = 44 ∨ j = 45 ∨ (46 ≤ j ∧ j < 50) ∨ j = 50 ∨ j = 51 ∨ j = 52 ∨ j = 53 by omega) with h | rfl | h | rfl | rfl | rfl | rfl | rfl | h | rfl | rfl | rfl | rfl
    · exact o0 _ (mem_cut (by omega) (by omega) hj)
    · exact basic_one (show basicB Try.prog 4 = true by kernel_rfl) t1
    · exact o2 _ (mem_cut (by omega) (by omega) hj)
    · exact basic_one (show basicB Try.prog 9 = true by kernel_rfl) t3
    · exact basic_one (show basicB Try.prog 9 = true by kernel_rfl) t4
    · exact basic_one (show basicB Try.prog 9 = true by kernel_rfl) t5
    · exact basic_one (show basicB Try.prog 29 = true by kernel_rfl) t6
    · exact basic_one (show basicB Try.prog 30 = true by kernel_rfl) t7
    · exact o8 _ (mem_cut (by omega) (by omega) hj)
    · exact basic_one (show basicB Try.prog 36 = true by kernel_rfl) t9
    · exact basic_one (show basicB Try.prog 36 = true by kernel_rfl) t10
    · exact basic_one (show basicB Try.prog 26 = true by kernel_rfl) t11
    · exact basic_one (show basicB Try.prog 37 = true by kernel_rfl) t12
  have hh : Try.prog.cellsOf 23 = 1 := by kernel_rfl
  have hi1 : Try.prog.cellsOf 3 = 1 := by kernel_rfl
  obtain ⟨ma, xa, ta, ua⟩ : ∃ m x, DataW.trod enc Try.prog w base (fun _ => true) held m 23 ((((cs.drop 0).take (Try.prog.cellsOf 25)).drop 2).take (Try.prog.cellsOf 23)) = some x ∧ ∀ k ∈ x.1.weights Try.prog 23, k ≤ reachBytes := field_w Try.underlying25 t0 u0 (j := 2) rfl
  obtain ⟨mi, xi, ti, ui⟩ : ∃ m x, DataW.trod enc Try.prog w base (fun _ => true) held m 3 ((((cs.drop 0).take (Try.prog.cellsOf 25)).drop 0).take (Try.prog.cellsOf 3)) = some x ∧ ∀ k ∈ x.1.weights Try.prog 3, k ≤ reachBytes := field_w Try.underlying25 t0 u0 (j := 0) rfl
  have hcut : ∀ o (ho : o < cs.length), o < 3 → ((((cs.drop 0).take 3).drop o).take 1) = [cs[o]] := by
    intro o ho h3o
    rw [cut_one (by rw [List.length_take, List.length_drop]; omega)]
    simp
  rw [kh, hh, hcut 2 (by omega) (by omega)] at ta
  rw [kh, hi1, hcut 0 (by omega) (by omega)] at ti
  obtain ⟨pa, pc, ps, hp, hpr, hpl⟩ := open_progs ta ua
  obtain ⟨ty, hty, -⟩ := field_int Try.underlying3 ti
  obtain ⟨ba, bc, bs, hb, hbr, hbc, -, hbl⟩ := open_gbytes t12 u12
  exact ⟨⟨ty, ps, bs⟩, { size := by simp [hlen], one := all_oneCell_toArray hone, c0 := by rw [List.getElem?_toArray, List.getElem?_eq_getElem (by omega), hty], head := ⟨pa, pc, by rw [List.getElem?_toArray, List.getElem?_eq_getElem (by omega), hp], hpr⟩, bytes := ⟨ba, bc, by rw [List.getElem?_toArray, List.getElem?_eq_getElem (by omega), hb], hbr, hbc⟩, pl := hpl, bl := hbl }⟩
set_option maxRecDepth 100000 in
theorem open_pobj {r : Reach} {b0 : Nat} {v : Value} {d : DataW H} {p : List MemPlace} (hv : Value.okWide Try.prog w r b0 39 v) (h : DataW.Trod enc Try.prog w base (fun _ => true) held 39 v d p) (hw : ∀ n ∈ d.weights Try.prog 39, n ≤ reachBytes) :
    ∃ (C : Array Value) (x : POb), v = .agg C ∧ PCells w C x := by
  obtain ⟨cs, rfl, hsz⟩ := okWide_struct Try.underlying39 hv
  obtain ⟨fuel, hf⟩ := h
  have hf' : DataW.trod enc Try.prog w base (fun _ => true) held fuel 39 cs.toList = some (d, p) := hf
  obtain ⟨x, hx⟩ := obj_of_trod hf' hw
  rw [Array.toArray_toList] at hx
  exact ⟨cs, x, rfl, hx⟩
end
end Go.Proofs.Ytjiifaeehhpkcaa
