/- shacklelaw00.Is of a Spot: it is one, at its place, with its Code. -/
import Derived.Test.YtnaejlfjlennhaaGreatDoorAsSpot
import Derived.Test.YtnaejlfjlennhaaGreatDoorRows
import Derived.Test.YtnaejlfjlennhaaGreatDoorHeadReadA
import Derived.LaidLaws
import Derived.LaidHandle
import Derived.LaidSub
import Derived.OpenShut
import Derived.Stop.Joined
namespace Go.Proofs.YtnaejlfjlennhaaGreatDoor
open Go.RowKit
set_option linter.unusedVariables false
set_option linter.unusedSimpArgs false

/-- what the program's own variable of package errors holds -/
def ErrType (w : World) : Prop := w.cell? ⟨1, 0, none⟩ = some (.iface 163 (.agg #[.pointer (some ⟨3, 42, none⟩)]))
theorem ErrType.lt {w : World} (h : ErrType w) : 1 < w.heap.size := by simpa using World.block_lt_of_cell? w _ h
theorem ErrType.below {w w' : World} (h : ErrType w) (hb : Below w.heap.size w w') : ErrType w' := by
  unfold ErrType
  rw [hb.cell (p := ⟨1, 0, none⟩) h.lt]
  exact h

set_option maxHeartbeats 2000000 in
theorem is_spot (b : Nat) (at_ n : Int) (w : World) (hg : ErrType w) (h0 : w.cell? ⟨b, 0, none⟩ = some (.int .u64 at_)) (h1 : w.cell? ⟨b, 1, none⟩ = some (.iface 56 (.int .i64 n))) :
    Calls Tryz.prog 7 #[.iface 68 (.pointer (some ⟨b, 0, none⟩)), .int .u64 at_, .int .i64 n] w fun e w' => e = .returned (.bool true) ∧ Below w.heap.size w w' := by
  have hbl : b < w.heap.size := by simpa using World.block_lt_of_cell? w _ h0
  have hlt := hg.lt
  have hgA : (w.alloc (.cells #[.pointer none] 68)).cell? ⟨1, 0, none⟩ = some (.iface 163 (.agg #[.pointer (some ⟨3, 42, none⟩)])) := by
    rw [World.cell?_alloc_lt _ _ ⟨1, 0, none⟩ hlt]; exact hg
  have htA : (w.alloc (.cells #[.pointer none] 68)).cell? ⟨w.heap.size, 0, none⟩ = some (.pointer none) := by simp
  have hfA : (w.alloc (.cells #[.pointer none] 68)).frozen? ⟨w.heap.size, 0, none⟩ = false := by simp
  have has := Lib.hid (SpotAs.as_hit ⟨b, 0, none⟩ ⟨w.heap.size, 0, none⟩ (.pointer none) _ hgA htA hfA)
  have hne := SpotAs.neq_same ⟨b, 0, none⟩
  have hcode := run_eql_code n n
  have hbel : Below w.heap.size w (SpotAs.asW (w.alloc (.cells #[.pointer none] 68)) ⟨b, 0, none⟩ ⟨w.heap.size, 0, none⟩) := by
    unfold SpotAs.asW
    go_grown
  have hc0 : (SpotAs.asW (w.alloc (.cells #[.pointer none] 68)) ⟨b, 0, none⟩ ⟨w.heap.size, 0, none⟩).cell? ⟨w.heap.size, 0, none⟩ = some (.pointer (some ⟨b, 0, none⟩)) := by
    unfold SpotAs.asW
    apply World.cell?_setCell_same (u := .pointer none)
    rw [World.cell?_alloc_lt _ _ ⟨w.heap.size, 0, none⟩ (by simp; omega), World.cell?_alloc_lt _ _ ⟨w.heap.size, 0, none⟩ (by simp; omega), World.cell?_alloc_lt _ _ ⟨w.heap.size, 0, none⟩ (by simp; omega), World.cell?_alloc_lt _ _ ⟨w.heap.size, 0, none⟩ (by simp)]
    exact htA
  have hc1 := hbel.cell (p := ⟨b, 0, none⟩) hbl
  have hc2 := hbel.cell (p := ⟨b, 1, none⟩) hbl
  rw [h0] at hc1
  rw [h1] at hc2
  generalize hW : SpotAs.asW (w.alloc (.cells #[.pointer none] 68)) ⟨b, 0, none⟩ ⟨w.heap.size, 0, none⟩ = W at *
  clear hW
  have his := Lib.hid (SpotAs.is_code b 0 n W hc2)
  clear hgA htA hfA h0 h1 hg hlt
  go_enter Tryz.func7, Tryz.ntmps7
  go_wp2_with (first
    | (go_at_call 14; refine (Hid.out has).mono ?_; rintro e w' ⟨rfl, rfl⟩)
    | (go_at_call 15; refine (Hid.out his).mono ?_; rintro e w' ⟨rfl, rfl⟩))
  go_ret
  exact ⟨rfl, hbel⟩
end Go.Proofs.YtnaejlfjlennhaaGreatDoor
/- What the rows' list gives a walk of layer 4: the cell of errors.errorType, the table of fixed numbers; a world that meets the list. -/
namespace Go.Proofs.YtnaejlfjlennhaaGreatDoor
open Go.RowKit
set_option linter.unusedVariables false
set_option linter.unusedSimpArgs false
set_option maxRecDepth 100000

theorem LaidH.et : Tryz.prog.globalNamed "errors.errorType" = some 1 := by kernel_rfl
theorem LaidH.ft : Tryz.prog.globalNamed "shackle/head.fixed" = some 0 := by kernel_rfl
theorem LaidH.rt : (Tryz.prog.cutTypes.find? (·.1 == "internal/reflectlite.rtype")).map (·.2) = some 163 := by kernel_rfl
theorem LaidH.oneRow : ((List.range Tryz.prog.types.size).filter fun t => Tryz.prog.rowNamed t [101, 114, 114, 111, 114]) = [42] := by kernel_rfl

theorem errType_of_laid {W : World} {l : List (String × DataW Unit)} (hl : l.filter (fun x => x.2.handleName?.isSome) = [("errors.errorType", Rows.laid_errors_errorType)]) (h : laidMetH Tryz.prog l W) : ErrType W := by
  have h' : handlesMet Tryz.prog [("errors.errorType", Rows.laid_errors_errorType)] W := by
    have := (laidMetH_iff.1 h).2
    rw [hl] at this
    exact this
  obtain ⟨name, u, ty, e1, e2, e3, e4, e5⟩ := h' _ (List.mem_singleton.2 rfl)
  have en : name = [101, 114, 114, 111, 114] := (Option.some.inj e1).symm
  subst en
  obtain rfl := Option.some.inj (LaidH.rt.symm.trans e2)
  have hm : ty ∈ (List.range Tryz.prog.types.size).filter fun t => Tryz.prog.rowNamed t [101, 114, 114, 111, 114] := List.mem_filter.2 ⟨List.mem_range.2 e3, e4⟩
  rw [LaidH.oneRow] at hm
  obtain rfl := List.mem_singleton.1 hm
  have hh : typeHandle Tryz.prog 42 = .pointer (some ⟨3, 42, none⟩) := by kernel_rfl
  rw [hh] at e5
  unfold ErrType
  simpa using World.var?_cell LaidH.et e5 0
def fixRow (q : Nat × Nat × Nat × Nat) : List Value := [.int .i64 (q.1 : Int), .int .i64 (q.2.1 : Int), .int .u64 (q.2.2.1 : Int), .int .u64 (q.2.2.2 : Int)]
def fixDat (q : Nat × Nat × Nat × Nat) : DataW Unit := .agg [.lit (.int .i64 (q.1 : Int)), .lit (.int .i64 (q.2.1 : Int)), .lit (.int .u64 (q.2.2.1 : Int)), .lit (.int .u64 (q.2.2.2 : Int))]
theorem fix_rows : fixC = (fixedF.map fixRow).flatten := by kernel_rfl
theorem fix_dat : (Rows.laid_shackle_head_fixed : DataW Unit) = .agg (fixedF.map fixDat) := by kernel_rfl
theorem fix_of_trod {w : World} {base n : Nat} {spare : Nat → Bool} {held : Bool} {cs : List Value} {q : Nat × Nat × Nat × Nat} {p : List MemPlace} {enc : TypeId × Value → Unit} (h : DataW.trod enc Tryz.prog w base spare held n 64 cs = some (fixDat q, p)) : cs = fixRow q := by
  obtain ⟨xs, m, -, hx, hlen, hxl, hf⟩ := DataW.trod_struct Tryz.underlying64 h
  have hc : Tryz.prog.cellsOf 64 = 4 := by kernel_rfl
  rw [hc] at hlen
  match cs, hlen with
  | [c0, c1, c2, c3], _ =>
    have k64 : Tryz.prog.cellsOf 24 = 1 := by kernel_rfl
    have ki : Tryz.prog.cellsOf 3 = 1 := by kernel_rfl
    have g0 : DataW.trod enc Tryz.prog w base spare held m 3 (([c0, c1, c2, c3].drop 0).take (Tryz.prog.cellsOf 3)) = xs[0]? := hf 0 _ rfl
    have g1 : DataW.trod enc Tryz.prog w base spare held m 3 (([c0, c1, c2, c3].drop 1).take (Tryz.prog.cellsOf 3)) = xs[1]? := hf 1 _ rfl
    have g2 : DataW.trod enc Tryz.prog w base spare held m 24 (([c0, c1, c2, c3].drop 2).take (Tryz.prog.cellsOf 24)) = xs[2]? := hf 2 _ rfl
    have g3 : DataW.trod enc Tryz.prog w base spare held m 24 (([c0, c1, c2, c3].drop 3).take (Tryz.prog.cellsOf 24)) = xs[3]? := hf 3 _ rfl
    have hxl4 : xs.length = 4 := hxl.trans rfl
    simp only [k64, ki, List.drop_succ_cons, List.drop_zero, List.take_succ_cons, List.take_zero] at g0 g1 g2 g3
    match xs, hxl4 with
    | [y0, y1, y2, y3], _ =>
      simp only [List.getElem?_cons_zero, List.getElem?_cons_succ] at g0 g1 g2 g3
      obtain ⟨z0, e0, rfl, -⟩ := DataW.trod_int Tryz.underlying3 g0
      obtain ⟨z1, e1, rfl, -⟩ := DataW.trod_int Tryz.underlying3 g1
      obtain ⟨z2, e2, rfl, -⟩ := DataW.trod_int Tryz.underlying24 g2
      obtain ⟨z3, e3, rfl, -⟩ := DataW.trod_int Tryz.underlying24 g3
      have hd := congrArg Prod.fst hx
      simp only [fixDat, List.map_cons, List.map_nil, DataW.agg.injEq, List.cons.injEq, DataW.lit.injEq, Lit.int.injEq, true_and, and_true] at hd
      obtain ⟨d0, d1, d2, d3⟩ := hd
      simp only [List.cons.injEq, and_true] at e0 e1 e2 e3
      rw [e0, e1, e2, e3, ← d0, ← d1, ← d2, ← d3]
      rfl
theorem rows_flat : ∀ (rows : List (List Value)) (l : List Value), (∀ r ∈ rows, r.length = 4) → l.length = 4 * rows.length → (∀ r, (h : r < rows.length) → (l.drop (r * 4)).take 4 = rows[r]) → l = rows.flatten
  | [], l, _, hl, _ => List.length_eq_zero_iff.1 (by simpa using hl)
  | r :: rows, l, h4, hl, h => by
    have h0 := h 0 (by simp)
    rw [Nat.zero_mul, List.drop_zero] at h0
    have h0 : l.take 4 = r := h0
    have ih := rows_flat rows (l.drop 4) (fun r hr => h4 r (List.mem_cons_of_mem _ hr)) (by rw [List.length_drop, hl, List.length_cons]; omega) (fun k hk => by
      have := h (k + 1) (by simpa using hk)
      rw [List.drop_drop, show 4 + k * 4 = (k + 1) * 4 by omega]
      exact this)
    rw [List.flatten_cons, ← ih, ← h0, List.take_append_drop]
theorem fixAt_of_laid {W : World} {l : List (String × DataW Unit)} (hl : l.filter (fun x => x.2.handleName?.isNone) = [("shackle/head.fixed", Rows.laid_shackle_head_fixed)]) (h : laidMetH Tryz.prog l W) : FixAt W := by
  have h' := (laidMetH_iff.1 h).1
  rw [hl] at h'
  obtain ⟨ps, ⟨g, t, cs, fuel, p, q, hg, ht, hv, hd, _, _⟩, _, _⟩ := h'
  obtain rfl := Option.some.inj (LaidH.ft.symm.trans hg)
  obtain rfl := Option.some.inj ((show (Tryz.prog.globals[0]?).map (·.type) = some 65 by kernel_rfl).symm.trans ht)
  obtain ⟨xs, m, _, ex, hcl, hxl, hel⟩ := DataW.trod_array Tryz.underlying65 hd
  have hc4 : Tryz.prog.cellsOf 64 = 4 := by kernel_rfl
  have hc52 : Tryz.prog.cellsOf 65 = 52 := by kernel_rfl
  rw [hc52] at hcl
  have hdat : xs.map (·.1) = fixedF.map fixDat := by
    have := congrArg Prod.fst ex
    rw [fix_dat] at this
    exact (DataW.agg.inj this).symm
  have hfl : cs.toList = fixC := by
    rw [fix_rows]
    refine rows_flat _ _ (fun r hr => ?_) (by rw [hcl, List.length_map]; rfl) (fun r hr => ?_)
    · obtain ⟨q, -, rfl⟩ := List.mem_map.1 hr
      rfl
    · have hr13 : r < fixedF.length := by simpa using hr
      have hrx : r < xs.length := by rw [hxl]; exact hr13
      have hE := hel r hr13
      rw [hc4, List.getElem?_eq_getElem hrx] at hE
      have hd1 : (xs[r]).1 = fixDat (fixedF[r]) := by
        have := congrArg (·[r]?) hdat
        simpa [hrx, hr13] using this
      have hE2 : DataW.trod (fun _ => ()) Tryz.prog W 0 (fun _ => true) false m 64 ((cs.toList.drop (r * 4)).take 4) = some (fixDat fixedF[r], (xs[r]).2) := by
        rw [← hd1]
        exact hE
      rw [fix_of_trod hE2, List.getElem_map]
  intro j v hj
  have := World.var?_cell LaidH.ft hv (0 + j)
  rw [this]
  rw [← hfl] at hj
  simpa using hj
def litCell : DataW Unit → Value
  | .lit (.int k n) => .int k n
  | _ => undef
def aggOf : DataW Unit → List (DataW Unit)
  | .agg l => l
  | _ => []
/-- The settled world, the handle and the table laid. -/
noncomputable def laidWorld (os : Os) : World :=
  let w0 := World.holding Tryz.prog os ⟨#[], #[], []⟩
  { w0 with heap := (w0.heap.modify 1 fun
      | .cells _ t frozen => .cells #[.iface 163 (.agg #[.pointer (some ⟨3, 42, none⟩)])] t frozen
      | o => o).modify 0 fun
      | .cells _ t frozen => .cells fixC.toArray t frozen
      | o => o }
end Go.Proofs.YtnaejlfjlennhaaGreatDoor
/- Layer 4: a number is laid into bytes, the lowest first. -/
namespace Go.Proofs.YtnaejlfjlennhaaGreatDoor
open Go.RowKit
set_option linter.unusedVariables false
set_option linter.unusedSimpArgs false

/-- bytes in a block -/
def u8c (xs : List Nat) : Array Value := (xs.map fun x : Nat => Value.int .u8 (x : Int)).toArray
theorem u8c_set (xs : List Nat) (i x : Nat) : (u8c xs).setIfInBounds i (.int .u8 (x : Int)) = u8c (xs.set i x) := by
  unfold u8c
  rw [List.setIfInBounds_toArray, List.map_set]
/-- so many bytes of a number, the lowest first, over what lies at a place -/
def putF (xs : List Nat) (p : Nat) : Nat → Nat → List Nat
  | 0, _ => xs
  | n + 1, v => (putF xs p n v).set (p + n) (v / 256 ^ n % 256)
theorem putF_len (xs : List Nat) (p : Nat) : ∀ n v, (putF xs p n v).length = xs.length
  | 0, v => rfl
  | n + 1, v => by rw [putF, List.length_set, putF_len xs p n v]
/-- one block alone has changed -/
structure Only (g : Nat) (w w' : World) : Prop where
  blw : ∀ n, n ≤ g → Below n w w'
  oth : ∀ j, j ≠ g → w'.heap[j]? = w.heap[j]?
  size : w'.heap.size = w.heap.size
theorem Only.refl (g : Nat) (w : World) : Only g w w := ⟨fun n _ => Below.refl _ _, fun j _ => rfl, rfl⟩
theorem Only.trans {g : Nat} {w w' w'' : World} (h : Only g w w') (h' : Only g w' w'') : Only g w w'' := ⟨fun n hn => (h.blw n hn).trans (h'.blw n hn), fun j hj => (h'.oth j hj).trans (h.oth j hj), h'.size.trans h.size⟩
theorem Only.set (g : Nat) (w : World) (i : Nat) (v : Value) : Only g w (w.setCell ⟨g, i, none⟩ v) := ⟨fun n hn => (Below.refl n w).setCell (p := ⟨g, i, none⟩) hn v, fun j hj => heap_setCell_other w _ j v hj, by simp [World.setCell]⟩

theorem shr_nat (v k : Nat) : (v : Int) / 2 ^ (8 * k) % 256 = ((v / 256 ^ k % 256 : Nat) : Int) := by
  rw [show (256 : Nat) ^ k = 2 ^ (8 * k) by rw [show (256 : Nat) = 2 ^ 8 by decide, ← Nat.pow_mul]]
  rw [Int.natCast_emod, Int.natCast_ediv, Int.natCast_pow]
  rfl
set_option maxRecDepth 100000 in
set_option maxHeartbeats 8000000 in
theorem lay_any (g off m cap at_ n v : Nat) (xs : List Nat) (w : World) (hb : w.heap[g]? = some (.cells (u8c xs) 5)) (h1 : at_ + n ≤ m) (h2 : off + m ≤ xs.length) (hm : m ≤ 1048576) (hc : m ≤ cap) (h8 : n ≤ 8) (hv : v < 18446744073709551616) :
    Calls Tryz.prog 12 #[.slice (some ⟨g, off, none⟩) m cap, .int .i64 (at_ : Int), .int .i64 (n : Int), .int .u64 (v : Int)] w fun e w' => e = .returned (.tuple #[]) ∧ w'.heap[g]? = some (.cells (u8c (putF xs (off + at_) n v)) 5) ∧ Only g w w' := by
  have HB := Lib.hid hb
  have HM : Hid (at_ + n ≤ m ∧ off + m ≤ xs.length) := Lib.hid ⟨h1, h2⟩
  have hat : at_ ≤ 1048576 := by omega
  have hn8 : (n : Int) ≤ 8 := by omega
  clear hb h1 h2 hc
  go_enter Tryz.func12, Tryz.ntmps12
  go_wp2_with fail
  go_loopg [10] n (fun g2 iv wr => ∃ k : Nat, k + g2 = n ∧ iv = .int .i64 (k : Int) ∧ Hid (wr.heap[g]? = some (.cells (u8c (putF xs (off + at_) k v)) 5)) ∧ Hid (Only g w wr))
  case atStart => exact ⟨0, by omega, rfl, HB, Lib.hid (Only.refl _ _)⟩
  case round =>
    obtain ⟨k, hk, rfl, HR, HO⟩ := hrel
    cases gk with
    | zero =>
      have hkn : k = n := by omega
      subst hkn
      clear hk
      go_wp2_with fail
      go_returns
      exact ⟨rfl, HR.out, HO.out⟩
    | succ g2 =>
      have hlt : k < n := by omega
      have HK := Lib.hid hk
      have i1 : (k : Int) < (n : Int) := by omega
      have w1 : IntKind.i64.wrap ((at_ : Int) + (k : Int)) = (at_ : Int) + (k : Int) := by rw [IntKind.wrap_i64]; omega
      have w2 : IntKind.i64.wrap ((8 : Int) * (k : Int)) = 8 * (k : Int) := by rw [IntKind.wrap_i64]; omega
      have j0 : (0 : Int) ≤ (at_ : Int) + (k : Int) := by omega
      have j1 : (at_ : Int) + (k : Int) < (m : Int) := by have := HM.out; omega
      have hlen := putF_len xs (off + at_) k v
      have q0 : wr.cell? ⟨g, off + (at_ + k), none⟩ = some (.int .u8 (((putF xs (off + at_) k v)[off + (at_ + k)]'(by have := HM.out; omega) : Nat) : Int)) := by
        rw [cell_of_row _ _ _ _ _ _ HR.out]
        unfold u8c
        have hl2 : off + (at_ + k) < (putF xs (off + at_) k v).length := by have := HM.out; omega
        simp [hl2]
      have f0 : wr.frozen? ⟨g, off + (at_ + k), none⟩ = false := frozen_of_row _ _ _ _ _ HR.out
      clear hk
      go_wp2_with fail
      have S : Hid ((wr.setCell ⟨g, off + (at_ + k), none⟩ (.int .u8 ((v : Int) / 2 ^ (8 * k) % 256))).heap[g]? = some (.cells (u8c (putF xs (off + at_) (k + 1) v)) 5) ∧ Only g w (wr.setCell ⟨g, off + (at_ + k), none⟩ (.int .u8 ((v : Int) / 2 ^ (8 * k) % 256)))) := Lib.hid (by
        refine ⟨?_, HO.out.trans (Only.set _ _ _ _)⟩
        rw [heap_setCell_same _ _ _ _ _ _ HR.out, shr_nat, u8c_set, putF, show off + at_ + k = off + (at_ + k) by omega])
      go_roundg g2
      case measure => have := HK.out; omega
      case rel => exact ⟨k + 1, by have := HK.out; omega, by go_num, Lib.hid S.out.1, Lib.hid S.out.2⟩
end Go.Proofs.YtnaejlfjlennhaaGreatDoor
/- Layer 4: a program header is laid into bytes. -/
namespace Go.Proofs.YtnaejlfjlennhaaGreatDoor
open Go.RowKit
set_option linter.unusedVariables false
set_option linter.unusedSimpArgs false

def valsF (q : PT) : List Nat := [q.off, q.vaddr, q.vaddr, q.filesz, q.memsz, q.align]
def put8 (xs : List Nat) (p : Nat) : List Nat → List Nat
  | [] => xs
  | v :: vs => put8 (putF xs p 8 v) (p + 8) vs
/-- a program header over what lies at a place -/
def putP (xs : List Nat) (p : Nat) (q : PT) : List Nat := put8 (putF (putF xs p 4 q.ty) (p + 4) 4 q.flags) (p + 8) (valsF q)
theorem put8_len : ∀ (vs xs : List Nat) (p : Nat), (put8 xs p vs).length = xs.length
  | [], xs, p => rfl
  | v :: vs, xs, p => by rw [put8, put8_len vs, putF_len]
theorem putP_len (xs : List Nat) (p : Nat) (q : PT) : (putP xs p q).length = xs.length := by rw [putP, put8_len, putF_len, putF_len]
set_option maxRecDepth 100000
theorem vidx0 (a0 a1 a2 a3 a4 a5 : Int) (w : World) : (Instr.index 99 (.agg #[.int .u64 a0, .int .u64 a1, .int .u64 a2, .int .u64 a3, .int .u64 a4, .int .u64 a5]) (.int .i64 0)).run Tryz.prog w = .ok (.int .u64 a0) w := by
  simp [Instr.index, run_underlying Tryz.underlying99, asIntOf, part, Tryz.sizeOf24, Tryz.isAgg24, go_sem]
theorem vidx1 (a0 a1 a2 a3 a4 a5 : Int) (w : World) : (Instr.index 99 (.agg #[.int .u64 a0, .int .u64 a1, .int .u64 a2, .int .u64 a3, .int .u64 a4, .int .u64 a5]) (.int .i64 1)).run Tryz.prog w = .ok (.int .u64 a1) w := by
  simp [Instr.index, run_underlying Tryz.underlying99, asIntOf, part, Tryz.sizeOf24, Tryz.isAgg24, go_sem]
theorem vidx2 (a0 a1 a2 a3 a4 a5 : Int) (w : World) : (Instr.index 99 (.agg #[.int .u64 a0, .int .u64 a1, .int .u64 a2, .int .u64 a3, .int .u64 a4, .int .u64 a5]) (.int .i64 2)).run Tryz.prog w = .ok (.int .u64 a2) w := by
  simp [Instr.index, run_underlying Tryz.underlying99, asIntOf, part, Tryz.sizeOf24, Tryz.isAgg24, go_sem]
theorem vidx3 (a0 a1 a2 a3 a4 a5 : Int) (w : World) : (Instr.index 99 (.agg #[.int .u64 a0, .int .u64 a1, .int .u64 a2, .int .u64 a3, .int .u64 a4, .int .u64 a5]) (.int .i64 3)).run Tryz.prog w = .ok (.int .u64 a3) w := by
  simp [Instr.index, run_underlying Tryz.underlying99, asIntOf, part, Tryz.sizeOf24, Tryz.isAgg24, go_sem]
theorem vidx4 (a0 a1 a2 a3 a4 a5 : Int) (w : World) : (Instr.index 99 (.agg #[.int .u64 a0, .int .u64 a1, .int .u64 a2, .int .u64 a3, .int .u64 a4, .int .u64 a5]) (.int .i64 4)).run Tryz.prog w = .ok (.int .u64 a4) w := by
  simp [Instr.index, run_underlying Tryz.underlying99, asIntOf, part, Tryz.sizeOf24, Tryz.isAgg24, go_sem]
theorem vidx5 (a0 a1 a2 a3 a4 a5 : Int) (w : World) : (Instr.index 99 (.agg #[.int .u64 a0, .int .u64 a1, .int .u64 a2, .int .u64 a3, .int .u64 a4, .int .u64 a5]) (.int .i64 5)).run Tryz.prog w = .ok (.int .u64 a5) w := by
  simp [Instr.index, run_underlying Tryz.underlying99, asIntOf, part, Tryz.sizeOf24, Tryz.isAgg24, go_sem]
def valsV (q : PT) : Value := .agg #[.int .u64 (q.off : Int), .int .u64 (q.vaddr : Int), .int .u64 (q.vaddr : Int), .int .u64 (q.filesz : Int), .int .u64 (q.memsz : Int), .int .u64 (q.align : Int)]
theorem vidx (q : PT) (hq : q.wf) (k : Nat) (hk : k < 6) : ∃ v vs, (valsF q).drop k = v :: vs ∧ (valsF q).drop (k + 1) = vs ∧ v < 18446744073709551616 ∧ ∀ w, (Instr.index 99 (valsV q) (.int .i64 (k : Int))).run Tryz.prog w = .ok (.int .u64 (v : Int)) w := by
  obtain ⟨-, -, h2, h3, h4, h5, h6⟩ := hq
  rcases (show k = 0 ∨ k = 1 ∨ k = 2 ∨ k = 3 ∨ k = 4 ∨ k = 5 by omega) with rfl | rfl | rfl | rfl | rfl | rfl
  · exact ⟨_, _, rfl, rfl, h2, vidx0 _ _ _ _ _ _⟩
  · exact ⟨_, _, rfl, rfl, h3, vidx1 _ _ _ _ _ _⟩
  · exact ⟨_, _, rfl, rfl, h3, vidx2 _ _ _ _ _ _⟩
  · exact ⟨_, _, rfl, rfl, h4, vidx3 _ _ _ _ _ _⟩
  · exact ⟨_, _, rfl, rfl, h5, vidx4 _ _ _ _ _ _⟩
  · exact ⟨_, _, rfl, rfl, h6, vidx5 _ _ _ _ _ _⟩
/-- a block has changed alone, among those that stood -/
structure OnlyS (g : Nat) (w w' : World) : Prop where
  blw : ∀ n, n ≤ g → Below n w w'
  oth : ∀ j, j ≠ g → j < w.heap.size → w'.heap[j]? = w.heap[j]?
theorem Only.s {g : Nat} {w w' : World} (h : Only g w w') : OnlyS g w w' := ⟨h.blw, fun j hj _ => h.oth j hj⟩
theorem OnlyS.trans {g : Nat} {w w' w'' : World} (h : OnlyS g w w') (h' : OnlyS g w' w'') : OnlyS g w w'' := ⟨fun n hn => (h.blw n hn).trans (h'.blw n hn), fun j hj hl => (h'.oth j hj (Nat.lt_of_lt_of_le hl (h.blw 0 (Nat.zero_le _)).size)).trans (h.oth j hj hl)⟩
theorem OnlyS.alloc (g : Nat) (w : World) (o : Obj) (hg : g < w.heap.size) : OnlyS g w (w.alloc o) := ⟨fun n hn => (Below.refl n w).alloc (by omega) o, fun j hj hl => heap_alloc_old _ _ hl⟩
set_option maxHeartbeats 16000000 in
theorem layProg_any (g off m cap : Nat) (q : PT) (hq : q.wf) (xs : List Nat) (w : World) (hb : w.heap[g]? = some (.cells (u8c xs) 5)) (h1 : 56 ≤ m) (h2 : off + m ≤ xs.length) (hm : m ≤ 1048576) (hc : m ≤ cap) :
    Calls Tryz.prog 13 #[.slice (some ⟨g, off, none⟩) m cap, q.hv] w fun e w' => e = .returned (.tuple #[]) ∧ w'.heap[g]? = some (.cells (u8c (putP xs off q)) 5) ∧ OnlyS g w w' := by
  have HI : Hid (∀ k : Nat, k < 6 → ∃ v vs, (valsF q).drop k = v :: vs ∧ (valsF q).drop (k + 1) = vs ∧ v < 18446744073709551616 ∧ ∀ w, (Instr.index 99 (valsV q) (.int .i64 (k : Int))).run Tryz.prog w = .ok (.int .u64 (v : Int)) w) := Lib.hid (fun k hk => vidx q hq k hk)
  have HLY : Hid (∀ (at_ n v : Nat) (ys : List Nat) wx, wx.heap[g]? = some (.cells (u8c ys) 5) → at_ + n ≤ 56 → ys.length = xs.length → n ≤ 8 → v < 18446744073709551616 → Calls Tryz.prog 12 #[.slice (some ⟨g, off, none⟩) m cap, .int .i64 (at_ : Int), .int .i64 (n : Int), .int .u64 (v : Int)] wx fun e w' => e = .returned (.tuple #[]) ∧ w'.heap[g]? = some (.cells (u8c (putF ys (off + at_) n v)) 5) ∧ Only g wx w') := Lib.hid (fun at_ n v ys wx h h3 h4 h5 h6 => lay_any g off m cap at_ n v ys wx h (by omega) (by omega) hm hc h5 h6)
  obtain ⟨FV, hFV⟩ : ∃ FV, valsV q = FV := ⟨_, rfl⟩
  rw [hFV] at HI
  have HPP : Hid (putP xs off q = put8 (putF (putF xs (off + 0) 4 q.ty) (off + 4) 4 q.flags) (off + 8) (valsF q)) := Lib.hid rfl
  generalize putP xs off q = R at *
  generalize hVS : valsF q = VS at *
  obtain ⟨a0, a1, a2, a3, a4, a5, a6⟩ := q
  obtain ⟨g0, g1, -⟩ := hq
  unfold valsV at hFV
  unfold PT.hv PT.cells
  simp only [] at *
  have r0 : IntKind.u64.wrap (a0 : Int) = (a0 : Int) := by rw [IntKind.wrap_u64]; omega
  have r1 : IntKind.u64.wrap (a1 : Int) = (a1 : Int) := by rw [IntKind.wrap_u64]; omega
  obtain ⟨w1, hw1⟩ : ∃ w1, w.alloc (.cells #[.int .u32 (a0 : Int), .int .u32 (a1 : Int), .int .u64 (a2 : Int), .int .u64 (a3 : Int), .int .u64 (a4 : Int), .int .u64 (a5 : Int), .int .u64 (a6 : Int)] 54) = w1 := ⟨_, rfl⟩
  obtain ⟨pb, hpb⟩ : ∃ pb, w.heap.size = pb := ⟨_, rfl⟩
  have O1 : Hid (OnlyS g w w1) := Lib.hid (by rw [← hw1]; exact OnlyS.alloc _ _ _ (lt_of_block hb))
  have P1 : Hid (w1.heap[pb]? = some (.cells #[.int .u32 (a0 : Int), .int .u32 (a1 : Int), .int .u64 (a2 : Int), .int .u64 (a3 : Int), .int .u64 (a4 : Int), .int .u64 (a5 : Int), .int .u64 (a6 : Int)] 54)) := Lib.hid (by rw [← hw1, ← hpb]; exact heap_alloc_new _ _)
  have HNE : Hid (pb ≠ g) := Lib.hid (by have := lt_of_block hb; omega)
  have B1 : Hid (w1.heap[g]? = some (.cells (u8c xs) 5)) := Lib.hid (by rw [← hw1, heap_alloc_old _ _ (lt_of_block hb)]; exact hb)
  have HL1 := Lib.hid (HLY.out 0 4 a0 xs w1 B1.out (by omega) rfl (by omega) (by omega))
  obtain ⟨c0, c1, c2, c3, c4, c5, c6⟩ := out_cells P1.out
  have HG1 : Hid (a1 < 18446744073709551616) := Lib.hid (by omega)
  clear hb h1 h2 hm hc g0 g1
  go_enter Tryz.func13, Tryz.ntmps13
  go_wp2_with fail
  refine HL1.out.mono ?_
  rintro e w2 ⟨rfl, b2, o2⟩
  have B2 := Lib.hid b2
  have O2 := Lib.hid (O1.out.trans o2.s)
  have P2 := Lib.hid ((o2.oth _ HNE.out).trans P1.out)
  have HL2 := Lib.hid (HLY.out 4 4 a1 _ w2 B2.out (by omega) (by rw [putF_len]) (by omega) HG1.out)
  clear b2 o2 c0 c1 c2 c3 c4 c5 c6 hw1 hpb
  obtain ⟨c0, c1, c2, c3, c4, c5, c6⟩ := out_cells P2.out
  go_wp2_with fail
  refine HL2.out.mono ?_
  rintro e w3 ⟨rfl, b3, o3⟩
  have B3 := Lib.hid b3
  have O3 := Lib.hid (O2.out.trans o3.s)
  have P3 := Lib.hid ((o3.oth _ HNE.out).trans P2.out)
  clear b3 o3 c0 c1 c2 c3 c4 c5 c6
  obtain ⟨c0, c1, c2, c3, c4, c5, c6⟩ := out_cells P3.out
  go_wp2_with fail
  clear hFV c0 c1 c2 c3 c4 c5 c6
  go_loopg [29] 6 (fun g2 iv wr => ∃ (k : Nat) (ys : List Nat), k + g2 = 6 ∧ iv = .int .i64 (k : Int) ∧ Hid (wr.heap[g]? = some (.cells (u8c ys) 5)) ∧ Hid (ys.length = xs.length ∧ put8 ys (off + (8 + 8 * k)) (VS.drop k) = R) ∧ Hid (OnlyS g w wr))
  case atStart => exact ⟨0, _, by omega, rfl, B3, Lib.hid ⟨by rw [putF_len, putF_len], HPP.out.symm⟩, O3⟩
  case round =>
    obtain ⟨k, ys, hk, rfl, HB, HY, HO⟩ := hrel
    cases gk with
    | zero =>
      obtain rfl : k = 6 := by omega
      have HE : Hid (ys = R) := Lib.hid (by
        have := HY.out.2
        rw [← hVS] at this
        exact this)
      clear hk
      go_wp2_with fail
      go_returns
      exact ⟨rfl, by rw [← HE.out]; exact HB.out, HO.out⟩
    | succ g2 =>
      have hk6 : k < 6 := by omega
      obtain ⟨v, vs, hd, hd2, hv, hidx⟩ := HI.out k hk6
      have HK := Lib.hid hk
      have HD : Hid (put8 (putF ys (off + (8 + 8 * k)) 8 v) (off + (8 + 8 * (k + 1))) (VS.drop (k + 1)) = R) := Lib.hid (by
        have := HY.out.2
        rw [hd, put8] at this
        rw [hd2, show off + (8 + 8 * (k + 1)) = off + (8 + 8 * k) + 8 by omega]
        exact this)
      have HL : Hid (Calls Tryz.prog 12 #[.slice (some ⟨g, off, none⟩) m cap, .int .i64 (8 + 8 * (k : Int)), .int .i64 8, .int .u64 (v : Int)] wr fun e w' => e = .returned (.tuple #[]) ∧ w'.heap[g]? = some (.cells (u8c (putF ys (off + (8 + 8 * k)) 8 v)) 5) ∧ Only g wr w') := Lib.hid (by
        have := HLY.out (8 + 8 * k) 8 v ys wr HB.out (by omega) HY.out.1 (by omega) hv
        rw [show ((8 + 8 * k : Nat) : Int) = 8 + 8 * (k : Int) by omega] at this
        exact this)
      have i0 : (0 : Int) ≤ (k : Int) := by omega
      have i1 : (k : Int) < 6 := by omega
      have tk : decide ((k : Int) < 6) = true := decide_eq_true (by omega)
      have w1 : IntKind.i64.wrap (8 * (k : Int)) = 8 * (k : Int) := by rw [IntKind.wrap_i64]; omega
      have w2 : IntKind.i64.wrap (8 + 8 * (k : Int)) = 8 + 8 * (k : Int) := by rw [IntKind.wrap_i64]; omega
      clear hd hd2 hv hk
      go_wp2_with fail
      clear hidx
      refine HL.out.mono ?_
      rintro e w5 ⟨rfl, b5, o5⟩
      have B5 := Lib.hid b5
      have O5 := Lib.hid (HO.out.trans o5.s)
      clear b5 o5
      go_wp2_with fail
      go_roundg g2
      case measure => have := HK.out; omega
      case rel => exact ⟨k + 1, _, by have := HK.out; omega, by go_num, B5, Lib.hid ⟨by rw [putF_len]; exact HY.out.1, HD.out⟩, O5⟩
end Go.Proofs.YtnaejlfjlennhaaGreatDoor
