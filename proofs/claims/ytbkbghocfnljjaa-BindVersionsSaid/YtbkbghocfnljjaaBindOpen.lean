/- Layer 17: objects, as they come in. -/
import Derived.Test.YtbkbghocfnljjaaBindF
import Derived.Test.YtbkbghocfnljjaaAgg
import Derived.Test.YtbkbghocfnljjaaOpenW
import Derived.Deep.Slices
import Derived.SizedLaws
namespace Go.Proofs.Ytbkbghocfnljjaa
open Go.RowKit Go.WideShapes Go.Deep
set_option linter.unusedVariables false
set_option linter.unusedSimpArgs false

section
variable {H : Type} {enc : TypeId × Value → H} {P : Program} {w : World} {base : Nat} {spare : Nat → Bool} {held : Bool}

/-- a struct's field, wherever its cells stand, and what it weighs -/
theorem field_w {n : Nat} {t : TypeId} {fs : Array Field} {cs : List Value} {y : DataW H × List MemPlace} (ht : P.underlying t = some (.struct fs)) (h : DataW.trod enc P w base spare held n t cs = some y) (hw : ∀ k ∈ y.1.weights P t, k ≤ reachBytes) {j : Nat} {f : Field} (hj : fs[j]? = some f) :
    ∃ m x, DataW.trod enc P w base spare held m f.type ((cs.drop f.offset).take (P.cellsOf f.type)) = some x ∧ ∀ k ∈ x.1.weights P f.type, k ≤ reachBytes := by
  obtain ⟨xs, m, -, hx, -, hlen, hg⟩ := DataW.trod_struct ht h
  have hjl : j < fs.size := (Array.getElem?_eq_some_iff.1 hj).1
  have h1 := hg j f hj
  have hxj : j < xs.length := by omega
  rw [List.getElem?_eq_getElem hxj] at h1
  refine ⟨m, _, h1, fun k hk => hw k ?_⟩
  have e1 : y.1 = .agg (xs.map (·.1)) := by rw [hx]
  rw [e1]
  simp only [DataW.weights, ht]
  refine DataW.weights_mem_each (j := j) (t := f.type) (d := xs[j].1) ?_ ?_ k hk
  · rw [List.getElem?_map, Array.getElem?_toList, hj]; rfl
  · rw [List.getElem?_map, List.getElem?_eq_getElem hxj]; rfl
theorem struct_len {n : Nat} {t : TypeId} {fs : Array Field} {cs : List Value} {y : DataW H × List MemPlace} (ht : P.underlying t = some (.struct fs)) (h : DataW.trod enc P w base spare held n t cs = some y) : cs.length = P.cellsOf t := by
  obtain ⟨xs, m, -, -, hl, -, -⟩ := DataW.trod_struct ht h
  exact hl
def basicB (P : Program) (t : TypeId) : Bool := match P.underlying t with
  | some (.int _) => true
  | some .bool => true
  | some .string => true
  | some (.slice _) => true
  | _ => false
theorem basic_one {n : Nat} {t : TypeId} {c : Value} {y : DataW H × List MemPlace} (hb : basicB P t = true) (h : DataW.trod enc P w base (fun _ => true) held n t [c] = some y) : c.oneCell' = true := by
  unfold basicB at hb
  split at hb
  · rename_i k hu
    obtain ⟨x, rfl, -⟩ := field_int hu h
    rfl
  · rename_i hu
    obtain ⟨x, rfl⟩ := field_bool hu h
    rfl
  · rename_i hu
    obtain ⟨x, rfl, -⟩ := field_string hu h
    rfl
  · rename_i e hu
    rcases open_slice hu h with ⟨h1, -⟩ | ⟨ad, l, cp, m, n, D, Pl, h1, -⟩
    · have : c = .slice none 0 0 := by simpa using h1
      subst this
      rfl
    · obtain rfl : c = _ := by simpa using h1
      rfl
  · cases hb
theorem cut_one {cs : List Value} {j : Nat} (h : j < cs.length) : (cs.drop j).take 1 = [cs[j]] := by
  rw [List.drop_eq_getElem_cons h]
  rfl
theorem struct_one {n N : Nat} {t : TypeId} {fs : Array Field} {cs : List Value} {y : DataW H × List MemPlace} (ht : P.underlying t = some (.struct fs)) (hone : oneCellFields P fs = true) (hC : P.cellsOf t = N) (hN : fs.size = N) (hb : fs.all (fun f => basicB P f.type) = true)
    (h : DataW.trod enc P w base (fun _ => true) held n t cs = some y) : ∀ c ∈ cs, c.oneCell' = true := by
  intro c hc
  obtain ⟨j, hj, rfl⟩ := List.getElem_of_mem hc
  obtain ⟨xs, m, -, hx, hl, hlen, hg⟩ := DataW.trod_struct ht h
  have hjf : j < fs.size := by omega
  have hf : fs[j]? = some fs[j] := Array.getElem?_eq_getElem hjf
  obtain ⟨ho, hk⟩ := hone_of hone j _ hf
  have h1 := hg j _ hf
  rw [ho, hk, cut_one hj, List.getElem?_eq_getElem (by omega)] at h1
  refine basic_one ?_ h1
  exact (Array.all_eq_true.1 hb) j hjf
theorem mem_cut {cs : List Value} {j o k : Nat} (h1 : o ≤ j) (h2 : j < o + k) (h : j < cs.length) : cs[j] ∈ (cs.drop o).take k := by
  rw [List.mem_iff_getElem]
  refine ⟨j - o, by rw [List.length_take, List.length_drop]; omega, ?_⟩
  rw [List.getElem_take, List.getElem_drop]
  congr 1
  omega

theorem adN {ad : Addr} {w : World} {v : Value} (h : w.cell? (ad.add 0) = some v) : ∃ b o, ad = ⟨b, o, none⟩ := by
  obtain ⟨b, off, spot⟩ := ad
  have hs : spot = none := by simpa [Addr.add] using World.cell?_spot h
  subst hs
  exact ⟨b, off, rfl⟩
end

section
variable {H : Type} {enc : TypeId × Value → H} {w : World} {base : Nat} {held : Bool}

theorem open_defs {fuel : Nat} {c : Value} {x : DataW H × List MemPlace} (h : DataW.trod enc Try.prog w base (fun _ => true) held fuel 41 [c] = some x) (hw : ∀ n ∈ x.1.weights Try.prog 41, n ≤ reachBytes) :
    ∃ (a : Option Addr) (cap : Nat) (T : List ByteArray), c = .slice a T.length cap ∧ VDRow w a T ∧ T.length ≤ 140737488355328 := by
  rcases open_slice_w Try.underlying41 h hw with rfl | ⟨ad, len, cap, n, rfl, hl, hm, hb, hx⟩
  · exact ⟨none, 0, [], rfl, (fun i hi => by simp at hi), by simp⟩
  · have hc : Try.prog.cellsOf 40 = 4 := by kernel_rfl
    have hby : Try.prog.bytesOf 40 = 56 := by kernel_rfl
    rw [hby] at hb
    have each : ∀ i, i < len → ∃ r : ByteArray, ∃ ix bs pa pl pc, w.cell? (ad.add (i * 4)) = some (.int .i64 ix) ∧ w.cell? ((ad.add (i * 4)).add 1) = some (.bool bs) ∧ w.cell? ((ad.add (i * 4)).add 2) = some (.string r) ∧ w.cell? ((ad.add (i * 4)).add 3) = some (.slice pa pl pc) := by
      intro i hi
      obtain ⟨cs, y, h2, h3, h4⟩ := hx i (by omega)
      rw [hc] at h2
      obtain ⟨-, hlen, h5⟩ := World.cells?_some h2
      match cs, hlen with
      | [c0, c1, c2, c3], _ =>
        obtain ⟨m0, x0, t0, u0⟩ : ∃ m x, DataW.trod enc Try.prog w base (fun _ => true) held m 3 (([c0, c1, c2, c3].drop 0).take (Try.prog.cellsOf 3)) = some x ∧ ∀ k ∈ x.1.weights Try.prog 3, k ≤ reachBytes := field_w Try.underlying40 h3 (h4 hi) (j := 0) rfl
        obtain ⟨m1, x1, t1, u1⟩ : ∃ m x, DataW.trod enc Try.prog w base (fun _ => true) held m 4 (([c0, c1, c2, c3].drop 1).take (Try.prog.cellsOf 4)) = some x ∧ ∀ k ∈ x.1.weights Try.prog 4, k ≤ reachBytes := field_w Try.underlying40 h3 (h4 hi) (j := 1) rfl
        obtain ⟨m2, x2, t2, u2⟩ : ∃ m x, DataW.trod enc Try.prog w base (fun _ => true) held m 9 (([c0, c1, c2, c3].drop 2).take (Try.prog.cellsOf 9)) = some x ∧ ∀ k ∈ x.1.weights Try.prog 9, k ≤ reachBytes := field_w Try.underlying40 h3 (h4 hi) (j := 2) rfl
        obtain ⟨m3, x3, t3, u3⟩ : ∃ m x, DataW.trod enc Try.prog w base (fun _ => true) held m 23 (([c0, c1, c2, c3].drop 3).take (Try.prog.cellsOf 23)) = some x ∧ ∀ k ∈ x.1.weights Try.prog 23, k ≤ reachBytes := field_w Try.underlying40 h3 (h4 hi) (j := 3) rfl
        have k1 : Try.prog.cellsOf 3 = 1 := by kernel_rfl
        have k2 : Try.prog.cellsOf 4 = 1 := by kernel_rfl
        have k3 : Try.prog.cellsOf 9 = 1 := by kernel_rfl
        have k4 : Try.prog.cellsOf 23 = 1 := by kernel_rfl
        simp only [k1, k2, k3, k4, List.drop_succ_cons, List.drop_zero, List.take_succ_cons, List.take_zero] at t0 t1 t2 t3
        obtain ⟨ix, rfl, -⟩ := field_int Try.underlying3 t0
        obtain ⟨bs, rfl⟩ := field_bool Try.underlying4 t1
        obtain ⟨nm, rfl, -⟩ := field_string Try.underlying9 t2
        obtain ⟨pa, pl, pc, rfl⟩ : ∃ a n c, c3 = .slice a n c := by
          rcases open_slice Try.underlying23 t3 with ⟨h1, -⟩ | ⟨ad, l, cp, m, n, D, Pl, h1, -⟩
          · exact ⟨_, _, _, by simpa using h1⟩
          · exact ⟨_, _, _, by simpa using h1⟩
        have e0 := h5 0 (by omega)
        have e1 := h5 1 (by omega)
        have e2 := h5 2 (by omega)
        have e3 := h5 3 (by omega)
        exact ⟨nm, ix, bs, pa, pl, pc, by simpa [Addr.add] using e0, e1, e2, e3⟩
    obtain ⟨q, hq⟩ := choose_lt each
    refine ⟨some ad, cap, (List.range len).map q, by simp, ?_, by simp [reachBytes] at hb ⊢; omega⟩
    intro i hi
    have hi' : i < len := by simpa using hi
    obtain ⟨b, off, rfl⟩ : ∃ b o, ad = ⟨b, o, none⟩ := by
      obtain ⟨ix, bs, pa, pl, pc, h0, -⟩ := hq 0 (by omega)
      exact adN (by simpa [Addr.add] using h0)
    obtain ⟨ix, bs, pa, pl, pc, e0, e1, e2, e3⟩ := hq i hi'
    rw [WideShapes.add_plain] at e0
    rw [WideShapes.add_plain, WideShapes.add_plain] at e1 e2 e3
    exact ⟨b, off, ix, bs, pa, pl, pc, rfl, by simpa using World.block_lt_of_cell? w _ e0, e0, e1, by rw [e2]; simp [List.getD, hi'], e3⟩

theorem open_auxs {fuel : Nat} {c : Value} {x : DataW H × List MemPlace} (h : DataW.trod enc Try.prog w base (fun _ => true) held fuel 60 [c] = some x) (hw : ∀ n ∈ x.1.weights Try.prog 60, n ≤ reachBytes) :
    ∃ (a : Option Addr) (cap : Nat) (l : List BAux), c = .slice a l.length cap ∧ AXRow w a l ∧ l.length ≤ 140737488355328 := by
  rcases open_slice_w Try.underlying60 h hw with rfl | ⟨ad, len, cap, n, rfl, hl, hm, hb, hx⟩
  · exact ⟨none, 0, [], rfl, (fun i hi => by simp at hi), by simp⟩
  · have hc : Try.prog.cellsOf 64 = 3 := by kernel_rfl
    have hby : Try.prog.bytesOf 64 = 32 := by kernel_rfl
    rw [hby] at hb
    have each : ∀ i, i < len → ∃ r : BAux, w.cell? (ad.add (i * 3)) = some (.int .i64 r.idx) ∧ w.cell? ((ad.add (i * 3)).add 1) = some (.bool r.weak) ∧ w.cell? ((ad.add (i * 3)).add 2) = some (.string r.name) := by
      intro i hi
      obtain ⟨cs, y, h2, h3, h4⟩ := hx i (by omega)
      rw [hc] at h2
      obtain ⟨-, hlen, h5⟩ := World.cells?_some h2
      match cs, hlen with
      | [c0, c1, c2], _ =>
        obtain ⟨m0, x0, t0, u0⟩ : ∃ m x, DataW.trod enc Try.prog w base (fun _ => true) held m 3 (([c0, c1, c2].drop 0).take (Try.prog.cellsOf 3)) = some x ∧ ∀ k ∈ x.1.weights Try.prog 3, k ≤ reachBytes := field_w Try.underlying64 h3 (h4 hi) (j := 0) rfl
        obtain ⟨m1, x1, t1, u1⟩ : ∃ m x, DataW.trod enc Try.prog w base (fun _ => true) held m 4 (([c0, c1, c2].drop 1).take (Try.prog.cellsOf 4)) = some x ∧ ∀ k ∈ x.1.weights Try.prog 4, k ≤ reachBytes := field_w Try.underlying64 h3 (h4 hi) (j := 1) rfl
        obtain ⟨m2, x2, t2, u2⟩ : ∃ m x, DataW.trod enc Try.prog w base (fun _ => true) held m 9 (([c0, c1, c2].drop 2).take (Try.prog.cellsOf 9)) = some x ∧ ∀ k ∈ x.1.weights Try.prog 9, k ≤ reachBytes := field_w Try.underlying64 h3 (h4 hi) (j := 2) rfl
        have k1 : Try.prog.cellsOf 3 = 1 := by kernel_rfl
        have k2 : Try.prog.cellsOf 4 = 1 := by kernel_rfl
        have k3 : Try.prog.cellsOf 9 = 1 := by kernel_rfl
        simp only [k1, k2, k3, List.drop_succ_cons, List.drop_zero, List.take_succ_cons, List.take_zero] at t0 t1 t2
        obtain ⟨ix, rfl, -⟩ := field_int Try.underlying3 t0
        obtain ⟨bs, rfl⟩ := field_bool Try.underlying4 t1
        obtain ⟨nm, rfl, -⟩ := field_string Try.underlying9 t2
        have e0 := h5 0 (by omega)
        have e1 := h5 1 (by omega)
        have e2 := h5 2 (by omega)
        exact ⟨⟨ix, bs, nm⟩, by simpa [Addr.add] using e0, e1, e2⟩
    haveI : Inhabited BAux := ⟨⟨0, false, .empty⟩⟩
    obtain ⟨q, hq⟩ := choose_lt each
    refine ⟨some ad, cap, (List.range len).map q, by simp, ?_, by simp [reachBytes] at hb ⊢; omega⟩
    intro i hi
    have hi' : i < len := by simpa using hi
    obtain ⟨b, off, rfl⟩ : ∃ b o, ad = ⟨b, o, none⟩ := by
      obtain ⟨h0, -⟩ := hq 0 (by omega)
      exact adN (by simpa [Addr.add] using h0)
    obtain ⟨e0, e1, e2⟩ := hq i hi'
    rw [WideShapes.add_plain] at e0
    rw [WideShapes.add_plain, WideShapes.add_plain] at e1 e2
    exact ⟨b, off, rfl, by simpa using World.block_lt_of_cell? w _ e0, by rw [e0]; simp, by rw [e1]; simp, by rw [e2]; simp⟩

theorem open_needs {fuel : Nat} {c : Value} {x : DataW H × List MemPlace} (h : DataW.trod enc Try.prog w base (fun _ => true) held fuel 52 [c] = some x) (hw : ∀ n ∈ x.1.weights Try.prog 52, n ≤ reachBytes) :
    ∃ (a : Option Addr) (cap : Nat) (l : List BNeed), c = .slice a l.length cap ∧ NDRow w a l ∧ l.length ≤ 140737488355328 := by
  rcases open_slice_w Try.underlying52 h hw with rfl | ⟨ad, len, cap, n, rfl, hl, hm, hb, hx⟩
  · exact ⟨none, 0, [], rfl, (fun i hi => by simp at hi), by simp⟩
  · have hc : Try.prog.cellsOf 62 = 2 := by kernel_rfl
    have hby : Try.prog.bytesOf 62 = 40 := by kernel_rfl
    rw [hby] at hb
    have each : ∀ i, i < len → ∃ r : BNeed, ∃ xa xc, w.cell? (ad.add (i * 2)) = some (.string r.file) ∧ w.cell? ((ad.add (i * 2)).add 1) = some (.slice xa r.aux.length xc) ∧ AXRow w xa r.aux ∧ r.aux.length ≤ 140737488355328 := by
      intro i hi
      obtain ⟨cs, y, h2, h3, h4⟩ := hx i (by omega)
      rw [hc] at h2
      obtain ⟨-, hlen, h5⟩ := World.cells?_some h2
      match cs, hlen with
      | [c0, c1], _ =>
        obtain ⟨m0, x0, t0, u0⟩ : ∃ m x, DataW.trod enc Try.prog w base (fun _ => true) held m 9 (([c0, c1].drop 0).take (Try.prog.cellsOf 9)) = some x ∧ ∀ k ∈ x.1.weights Try.prog 9, k ≤ reachBytes := field_w Try.underlying62 h3 (h4 hi) (j := 0) rfl
        obtain ⟨m1, x1, t1, u1⟩ : ∃ m x, DataW.trod enc Try.prog w base (fun _ => true) held m 60 (([c0, c1].drop 1).take (Try.prog.cellsOf 60)) = some x ∧ ∀ k ∈ x.1.weights Try.prog 60, k ≤ reachBytes := field_w Try.underlying62 h3 (h4 hi) (j := 1) rfl
        have k3 : Try.prog.cellsOf 9 = 1 := by kernel_rfl
        have k4 : Try.prog.cellsOf 60 = 1 := by kernel_rfl
        simp only [k3, k4, List.drop_succ_cons, List.drop_zero, List.take_succ_cons, List.take_zero] at t0 t1
        obtain ⟨nm, rfl, -⟩ := field_string Try.underlying9 t0
        obtain ⟨xa, xc, l, rfl, hax, hal⟩ := open_auxs t1 u1
        have e0 := h5 0 (by omega)
        have e1 := h5 1 (by omega)
        exact ⟨⟨nm, l⟩, xa, xc, by simpa [Addr.add] using e0, e1, hax, hal⟩
    haveI : Inhabited BNeed := ⟨⟨.empty, []⟩⟩
    obtain ⟨q, hq⟩ := choose_lt each
    refine ⟨some ad, cap, (List.range len).map q, by simp, ?_, by simp [reachBytes] at hb ⊢; omega⟩
    intro i hi
    have hi' : i < len := by simpa using hi
    obtain ⟨b, off, rfl⟩ : ∃ b o, ad = ⟨b, o, none⟩ := by
      obtain ⟨xa, xc, h0, -⟩ := hq 0 (by omega)
      exact adN (by simpa [Addr.add] using h0)
    obtain ⟨xa, xc, e0, e1, hax, hal⟩ := hq i hi'
    rw [WideShapes.add_plain] at e0
    rw [WideShapes.add_plain, WideShapes.add_plain] at e1
    have eq : ((List.range len).map q)[i] = q i := by simp
    rw [eq]
    exact ⟨b, off, xa, xc, rfl, by simpa using World.block_lt_of_cell? w _ e0, e0, e1, hax, hal⟩

set_option maxRecDepth 100000 in
theorem obj_of_trod {n : Nat} {cs : List Value} {y : DataW H × List MemPlace} (h3 : DataW.trod enc Try.prog w base (fun _ => true) held n 58 cs = some y) (h4 : ∀ k ∈ y.1.weights Try.prog 58, k ≤ reachBytes) : ∃ x : BObj, OCells w cs.toArray x := by
  have hlen : cs.length = 54 := by rw [struct_len Try.underlying58 h3]; kernel_rfl
  obtain ⟨m0, x0, t0, u0⟩ : ∃ m x, DataW.trod enc Try.prog w base (fun _ => true) held m 47 ((cs.drop 0).take (Try.prog.cellsOf 47)) = some x ∧ ∀ k ∈ x.1.weights Try.prog 47, k ≤ reachBytes := field_w Try.underlying58 h3 h4 (j := 0) rfl
  obtain ⟨m1, x1, t1, u1⟩ : ∃ m x, DataW.trod enc Try.prog w base (fun _ => true) held m 4 ((cs.drop 3).take (Try.prog.cellsOf 4)) = some x ∧ ∀ k ∈ x.1.weights Try.prog 4, k ≤ reachBytes := field_w Try.underlying58 h3 h4 (j := 1) rfl
  obtain ⟨m2, x2, t2, u2⟩ : ∃ m x, DataW.trod enc Try.prog w base (fun _ => true) held m 50 ((cs.drop 4).take (Try.prog.cellsOf 50)) = some x ∧ ∀ k ∈ x.1.weights Try.prog 50, k ≤ reachBytes := field_w Try.underlying58 h3 h4 (j := 2) rfl
  obtain ⟨m3, x3, t3, u3⟩ : ∃ m x, DataW.trod enc Try.prog w base (fun _ => true) held m 9 ((cs.drop 41).take (Try.prog.cellsOf 9)) = some x ∧ ∀ k ∈ x.1.weights Try.prog 9, k ≤ reachBytes := field_w Try.underlying58 h3 h4 (j := 3) rfl
  obtain ⟨m4, x4, t4, u4⟩ : ∃ m x, DataW.trod enc Try.prog w base (fun _ => true) held m 9 ((cs.drop 42).take (Try.prog.cellsOf 9)) = some x ∧ ∀ k ∈ x.1.weights Try.prog 9, k ≤ reachBytes := field_w Try.underlying58 h3 h4 (j := 4) rfl
  obtain ⟨m5, x5, t5, u5⟩ : ∃ m x, DataW.trod enc Try.prog w base (fun _ => true) held m 9 ((cs.drop 43).take (Try.prog.cellsOf 9)) = some x ∧ ∀ k ∈ x.1.weights Try.prog 9, k ≤ reachBytes := field_w Try.underlying58 h3 h4 (j := 5) rfl
  obtain ⟨m6, x6, t6, u6⟩ : ∃ m x, DataW.trod enc Try.prog w base (fun _ => true) held m 23 ((cs.drop 44).take (Try.prog.cellsOf 23)) = some x ∧ ∀ k ∈ x.1.weights Try.prog 23, k ≤ reachBytes := field_w Try.underlying58 h3 h4 (j := 6) rfl
  obtain ⟨m7, x7, t7, u7⟩ : ∃ m x, DataW.trod enc Try.prog w base (fun _ => true) held m 51 ((cs.drop 45).take (Try.prog.cellsOf 51)) = some x ∧ ∀ k ∈ x.1.weights Try.prog 51, k ≤ reachBytes := field_w Try.underlying58 h3 h4 (j := 7) rfl
  obtain ⟨m8, x8, t8, u8⟩ : ∃ m x, DataW.trod enc Try.prog w base (fun _ => true) held m 54 ((cs.drop 46).take (Try.prog.cellsOf 54)) = some x ∧ ∀ k ∈ x.1.weights Try.prog 54, k ≤ reachBytes := field_w Try.underlying58 h3 h4 (j := 8) rfl
  obtain ⟨m9, x9, t9, u9⟩ : ∃ m x, DataW.trod enc Try.prog w base (fun _ => true) held m 55 ((cs.drop 50).take (Try.prog.cellsOf 55)) = some x ∧ ∀ k ∈ x.1.weights Try.prog 55, k ≤ reachBytes := field_w Try.underlying58 h3 h4 (j := 9) rfl
  obtain ⟨m10, x10, t10, u10⟩ : ∃ m x, DataW.trod enc Try.prog w base (fun _ => true) held m 55 ((cs.drop 51).take (Try.prog.cellsOf 55)) = some x ∧ ∀ k ∈ x.1.weights Try.prog 55, k ≤ reachBytes := field_w Try.underlying58 h3 h4 (j := 10) rfl
  obtain ⟨m11, x11, t11, u11⟩ : ∃ m x, DataW.trod enc Try.prog w base (fun _ => true) held m 48 ((cs.drop 52).take (Try.prog.cellsOf 48)) = some x ∧ ∀ k ∈ x.1.weights Try.prog 48, k ≤ reachBytes := field_w Try.underlying58 h3 h4 (j := 11) rfl
  obtain ⟨m12, x12, t12, u12⟩ : ∃ m x, DataW.trod enc Try.prog w base (fun _ => true) held m 56 ((cs.drop 53).take (Try.prog.cellsOf 56)) = some x ∧ ∀ k ∈ x.1.weights Try.prog 56, k ≤ reachBytes := field_w Try.underlying58 h3 h4 (j := 12) rfl
  have kb : Try.prog.cellsOf 4 = 1 := by kernel_rfl
  have ks : Try.prog.cellsOf 9 = 1 := by kernel_rfl
  have kss : Try.prog.cellsOf 23 = 1 := by kernel_rfl
  have ksy : Try.prog.cellsOf 51 = 1 := by kernel_rfl
  have kr : Try.prog.cellsOf 55 = 1 := by kernel_rfl
  have ku : Try.prog.cellsOf 48 = 1 := by kernel_rfl
  have kb8 : Try.prog.cellsOf 56 = 1 := by kernel_rfl
  have kh : Try.prog.cellsOf 47 = 3 := by kernel_rfl
  have kd : Try.prog.cellsOf 50 = 37 := by kernel_rfl
  have kv : Try.prog.cellsOf 54 = 4 := by kernel_rfl
  rw [kb, cut_one (show 3 < cs.length by omega)] at t1
  rw [ks, cut_one (show 41 < cs.length by omega)] at t3
  rw [ks, cut_one (show 42 < cs.length by omega)] at t4
  rw [ks, cut_one (show 43 < cs.length by omega)] at t5
  rw [kss, cut_one (show 44 < cs.length by omega)] at t6
  rw [ksy, cut_one (show 45 < cs.length by omega)] at t7
  rw [kr, cut_one (show 50 < cs.length by omega)] at t9
  rw [kr, cut_one (show 51 < cs.length by omega)] at t10
  rw [ku, cut_one (show 52 < cs.length by omega)] at t11
  rw [kb8, cut_one (show 53 < cs.length by omega)] at t12
  have o0 := struct_one Try.underlying47 (by kernel_rfl) kh rfl (by kernel_rfl) t0
  have o2 := struct_one Try.underlying50 (by kernel_rfl) kd rfl (by kernel_rfl) t2
  have o8 := struct_one Try.underlying54 (by kernel_rfl) kv rfl (by kernel_rfl) t8
  rw [kh] at o0
  rw [kd] at o2
  rw [kv] at o8
  have hone : ∀ c ∈ cs, c.oneCell' = true := by
    intro c hc
    obtain ⟨j, hj, rfl⟩ := List.getElem_of_mem hc
    rcases (show j < 3 ∨ j = 3 ∨ (4 ≤ j ∧ j < 41) ∨ j = 41 ∨ j = 42 ∨ j = 43 ∨ j = 44 ∨ j = 45 ∨ (46 ≤ j ∧ j < 50) ∨ j = 50 ∨ j = 51 ∨ j = 52 ∨ j = 53 by omega) with h | rfl | h | rfl | rfl | rfl | rfl | rfl | h | rfl | rfl | rfl | rfl
    · exact o0 _ (mem_cut (by omega) (by omega) hj)
    · exact basic_one (show basicB Try.prog 4 = true by kernel_rfl) t1
    · exact o2 _ (mem_cut (by omega) (by omega) hj)
    · exact basic_one (show basicB Try.prog 9 = true by kernel_rfl) t3
    · exact basic_one (show basicB Try.prog 9 = true by kernel_rfl) t4
    · exact basic_one (show basicB Try.prog 9 = true by kernel_rfl) t5
    · exact basic_one (show basicB Try.prog 23 = true by kernel_rfl) t6
    · exact basic_one (show basicB Try.prog 51 = true by kernel_rfl) t7
    · exact o8 _ (mem_cut (by omega) (by omega) hj)
    · exact basic_one (show basicB Try.prog 55 = true by kernel_rfl) t9
    · exact basic_one (show basicB Try.prog 55 = true by kernel_rfl) t10
    · exact basic_one (show basicB Try.prog 48 = true by kernel_rfl) t11
    · exact basic_one (show basicB Try.prog 56 = true by kernel_rfl) t12
  obtain ⟨sn, hsn, -⟩ := field_string Try.underlying9 t3
  obtain ⟨ma, xa, ta, ua⟩ : ∃ m x, DataW.trod enc Try.prog w base (fun _ => true) held m 41 ((((cs.drop 46).take (Try.prog.cellsOf 54)).drop 2).take (Try.prog.cellsOf 41)) = some x ∧ ∀ k ∈ x.1.weights Try.prog 41, k ≤ reachBytes := field_w Try.underlying54 t8 u8 (j := 2) rfl
  obtain ⟨mb, xb, tb, ub⟩ : ∃ m x, DataW.trod enc Try.prog w base (fun _ => true) held m 52 ((((cs.drop 46).take (Try.prog.cellsOf 54)).drop 3).take (Try.prog.cellsOf 52)) = some x ∧ ∀ k ∈ x.1.weights Try.prog 52, k ≤ reachBytes := field_w Try.underlying54 t8 u8 (j := 3) rfl
  have kvd : Try.prog.cellsOf 41 = 1 := by kernel_rfl
  have kvn : Try.prog.cellsOf 52 = 1 := by kernel_rfl
  have hcut : ∀ o (ho : 46 + o < cs.length), o < 4 → ((((cs.drop 46).take 4).drop o).take 1) = [cs[46 + o]] := by
    intro o ho h4o
    rw [cut_one (by rw [List.length_take, List.length_drop]; omega)]
    simp
  rw [kv, kvd, hcut 2 (by omega) (by omega)] at ta
  rw [kv, kvn, hcut 3 (by omega) (by omega)] at tb
  obtain ⟨da, dc, T, hd, hdr, hdl⟩ := open_defs ta ua
  obtain ⟨na, nc, l, hn, hnr, hnl⟩ := open_needs tb ub
  refine ⟨⟨sn, T, l⟩, by simp [hlen], ?_, ?_, ⟨da, dc, ?_, hdr⟩, ⟨na, nc, ?_, hnr⟩, hdl, hnl⟩
  · exact all_oneCell_toArray hone
  · rw [List.getElem?_toArray, List.getElem?_eq_getElem (by omega), hsn]
  · rw [List.getElem?_toArray, List.getElem?_eq_getElem (by omega)]
    exact congrArg some hd
  · rw [List.getElem?_toArray, List.getElem?_eq_getElem (by omega)]
    exact congrArg some hn

theorem open_objs {fuel : Nat} {c : Value} {x : DataW H × List MemPlace} (h : DataW.trod enc Try.prog w base (fun _ => true) held fuel 22 [c] = some x) (hw : ∀ n ∈ x.1.weights Try.prog 22, n ≤ reachBytes) :
    ∃ (a : Option Addr) (cap : Nat) (l : List BObj), c = .slice a l.length cap ∧ ORow w a l ∧ l.length ≤ 1099511627776 := by
  rcases open_slice_w Try.underlying22 h hw with rfl | ⟨ad, len, cap, n, rfl, hl, hm, hb, hx⟩
  · exact ⟨none, 0, [], rfl, (fun i hi => by simp at hi), by simp⟩
  · have hc : Try.prog.cellsOf 58 = 54 := by kernel_rfl
    have hby : 128 ≤ Try.prog.bytesOf 58 := by
      have : (decide (128 ≤ Try.prog.bytesOf 58)) = true := by kernel_rfl
      exact of_decide_eq_true this
    have hb2 : cap * 128 ≤ reachBytes := Nat.le_trans (Nat.mul_le_mul_left cap hby) hb
    have each : ∀ i, i < len → ∃ r : BObj, ∃ cs : List Value, cs.length = 54 ∧ OCells w cs.toArray r ∧ ∀ j, j < 54 → w.cell? ((ad.add (i * 54)).add j) = cs[j]? := by
      intro i hi
      obtain ⟨cs, y, h2, h3, h4⟩ := hx i (by omega)
      rw [hc] at h2
      obtain ⟨-, hlen, h5⟩ := World.cells?_some h2
      obtain ⟨r, hr⟩ := obj_of_trod h3 (h4 hi)
      exact ⟨r, cs, hlen, hr, h5⟩
    haveI : Inhabited BObj := ⟨⟨.empty, [], []⟩⟩
    obtain ⟨q, hq⟩ := choose_lt each
    refine ⟨some ad, cap, (List.range len).map q, by simp, ?_, by simp [reachBytes] at hb2 ⊢; omega⟩
    intro i hi
    have hi' : i < len := by simpa using hi
    obtain ⟨b, off, rfl⟩ : ∃ b o, ad = ⟨b, o, none⟩ := by
      obtain ⟨cs, hl0, hr0, h0⟩ := hq 0 (by omega)
      have h1 := h0 0 (by omega)
      rw [List.getElem?_eq_getElem (by omega)] at h1
      exact adN (by simpa [Addr.add] using h1)
    obtain ⟨cs, hl0, hr0, h0⟩ := hq i hi'
    have h1 : ∀ j, j < 54 → w.cell? ⟨b, off + i * 54 + j, none⟩ = cs[j]? := fun j hj => by
      have := h0 j hj
      rw [WideShapes.add_plain, WideShapes.add_plain] at this
      exact this
    have eq : ((List.range len).map q)[i] = q i := by simp
    rw [eq]
    have h2 := h1 0 (by omega)
    rw [List.getElem?_eq_getElem (by omega)] at h2
    refine ⟨b, off, cs.toArray, rfl, by simpa using World.block_lt_of_cell? w _ h2, ?_, hr0⟩
    intro j v hj
    have hjl : j < 54 := by
      have := (List.getElem?_eq_some_iff.1 hj).1
      simp only [Array.length_toList, List.size_toArray, List.toList_toArray] at this
      omega
    rw [h1 j hjl]
    simpa using hj
end
end Go.Proofs.Ytbkbghocfnljjaa
