/- Layer 4: the program headers are read, one behind the other: the walk. -/
import Derived.Test.YtnaejlfjlennhaaGreatDoorObjRowApp
import Derived.Test.YtnaejlfjlennhaaGreatDoorTk
import Derived.Test.YtnaejlfjlennhaaGreatDoorHeadByR
import Derived.Deep.MidRow
namespace Go.Proofs.YtnaejlfjlennhaaGreatDoor
open Go.RowKit
set_option linter.unusedVariables false
set_option linter.unusedSimpArgs false

theorem own_ne {w : World} {B sz n : Nat} {e T : TypeId} {v : Value} {xs : List Value} {b : Nat} {cs : Array Value} (h : w.ownsRow B e sz v n xs) (hb : w.heap[b]? = some (.cells cs T)) (hne : e ≠ T) : v.ownBlock ≠ some b := by
  intro hv
  rcases h.2 with ⟨rfl, -⟩ | ⟨g, cap, cur, rfl, -, hg, -⟩
  · cases hv
  · have : g = b := by simpa [Value.ownBlock] using hv
    subst this
    rw [hb] at hg
    simp only [Option.some.injEq, Obj.cells.injEq] at hg
    exact hne hg.2.1.symm
theorem pRow : RowSlice Tryz.prog 25 54 (.agg zProg) 7 48 := ⟨Tryz.underlying25, by kernel_rfl, rfl, by decide⟩
/-- a block of function values beside the reader -/
def Tk (tk : Nat × Array Value) (rb : Nat) (w : World) : Prop := tk.1 ≠ rb ∧ w.heap[tk.1]? = some (.cells tk.2 82)
theorem Tk.below {tk : Nat × Array Value} {rb : Nat} {w w' : World} (h : Tk tk rb w) (hb : Below w.heap.size w w') : Tk tk rb w' := ⟨h.1, (hb.block _ (lt_of_block h.2)).trans h.2⟩
theorem Tk.set {tk : Nat × Array Value} {rb : Nat} {w : World} (h : Tk tk rb w) (j : Nat) (v : Value) : Tk tk rb (w.setCell ⟨rb, j, none⟩ v) := ⟨h.1, (heap_setCell_other w ⟨rb, j, none⟩ tk.1 v h.1).trans h.2⟩
/-- where the reading stands -/
structure PgSt (w0 : World) (tk : Nat × Array Value) (r : HRd) (bs : List Nat) (ps : List PT) (wr : World) : Prop where
  at_ : r.at wr
  own : OwnS wr w0.heap.size 54 7 (.slice r.pa r.pn r.pc) (ps.map PT.cells)
  len : ps.length = r.pn
  wf : ∀ p ∈ ps, p.wf
  blw : Below w0.heap.size w0 wr
  ge : w0.heap.size ≤ r.rb
  bytes : BSl w0 r.a r.m r.cap bs
  kept : Tk tk r.rb wr
theorem PgSt.row {w0 : World} {tk : Nat × Array Value} {r : HRd} {bs : List Nat} {ps : List PT} {wr : World} (h : PgSt w0 tk r bs ps wr) : PRow wr r.pa ps := by
  obtain ⟨h1, h2, h3, -⟩ := OwnS.at h.own
  intro i hi
  refine ⟨h.wf _ (List.getElem_mem hi), ?_⟩
  obtain ⟨b, o, e, hlt, hc⟩ := h2 i (by simpa using hi)
  exact ⟨b, o, e, hlt, fun j hj => by simpa using hc j hj⟩
theorem PRow.below2 {w w' : World} {a : Option Addr} {ps : List PT} (h : PRow w a ps) (hb : Below w.heap.size w w') : PRow w' a ps := fun i hi => by
  obtain ⟨q, b, o, e, hl, hcs⟩ := h i hi
  exact ⟨q, b, o, e, Nat.lt_of_lt_of_le hl hb.size, fun j hj => (hb.cell (p := ⟨b, o + i * 7 + j, none⟩) hl).trans (hcs j hj)⟩
/-- what comes of the program headers -/
def PgPost (w0 : World) (tk : Nat × Array Value) (r : HRd) (bs : List Nat) (e : Ending) (w' : World) : Except (Nat × Nat) (List PT) → Prop
  | .error x => (∃ v, e = .returned v ∧ ErrAt w' v (some x)) ∧ Below w0.heap.size w0 w'
  | .ok ps => e = .returned .nilIface ∧ ∃ pa pc, PgSt w0 tk { r with pa := pa, pn := ps.length, pc := pc } bs ps w'
theorem PgSt.next {w0 : World} {tk : Nat × Array Value} {r : HRd} {bs : List Nat} {ps : List PT} {wr wz w8 : World} {p : PT} {ad8 : Option Addr} {c8 : Nat} (h : PgSt w0 tk r bs ps wr) (hp : p.wf) (hb : Below wr.heap.size wr wz)
    (ho8 : OwnS w8 w0.heap.size 54 7 (.slice ad8 (r.pn + 1) c8) (ps.map PT.cells ++ [p.cells])) (hg8 : wz.grownBy w8 (Value.slice r.pa r.pn r.pc).ownBlock) :
    PgSt w0 tk { r with pa := ad8, pn := r.pn + 1, pc := c8 } bs (ps ++ [p]) (w8.setCell ⟨r.rb, 5, none⟩ (.slice ad8 (r.pn + 1) c8)) ∧ w8.cell? ⟨r.rb, 5, none⟩ = some (.slice r.pa r.pn r.pc) ∧ w8.frozen? ⟨r.rb, 5, none⟩ = false := by
  have hz := h.at_.below hb
  have hoz := h.own.below hb
  have hne := own_ne hoz.1 hz (by decide)
  have h8 : w8.heap[r.rb]? = some (.cells r.cells 80) := (hg8.block _ (lt_of_block hz) (fun e => hne e.symm)).trans hz
  have hne8 := own_ne ho8.1 h8 (by decide)
  refine ⟨⟨?_, ⟨?_, ?_⟩, ?_, ?_, ?_, h.ge, h.bytes, ?_⟩, by rw [cell_of_row _ _ 5 _ _ _ h8]; rfl, frozen_of_row _ _ _ _ _ h8⟩
  · show (w8.setCell ⟨r.rb, 5, none⟩ _).heap[r.rb]? = _
    rw [heap_setCell_same _ r.rb 5 _ _ _ h8]
    rfl
  · rw [List.map_append]
    exact ownsRow_setCell_other ho8.1 hne8 _
  · intro q hq
    obtain ⟨x, -, rfl⟩ := List.mem_map.1 hq
    rfl
  · rw [List.length_append, h.len]; rfl
  · intro q hq
    rcases List.mem_append.1 hq with hq | hq
    · exact h.wf q hq
    · rw [List.mem_singleton] at hq; rw [hq]; exact hp
  · have hbz : Below w0.heap.size w0 wz := h.blw.trans (hb.mono h.blw.size)
    exact (hbz.grown hg8 hbz.size (fun j hj => (World.ownsRow.lt hoz.1 j hj).1)).setCell (p := ⟨r.rb, 5, none⟩) h.ge _
  · have kz := h.kept.below hb
    have kne := own_ne hoz.1 kz.2 (by decide)
    have k8 : Tk tk r.rb w8 := ⟨kz.1, (hg8.block _ (lt_of_block kz.2) (fun e => kne e.symm)).trans kz.2⟩
    exact k8.set 5 _
theorem drop_bsl {w : World} {b o m cap : Nat} {bs : List Nat} (h : BSl w (some ⟨b, o, none⟩) m cap bs) (k : Nat) (hk : k < m) : BSl w (some ⟨b, o + k, none⟩) (m - k) (cap - k) (bs.drop k) := by
  refine ⟨⟨?_, fun x hx => h.row.2 x (List.mem_of_mem_drop hx)⟩, by rw [List.length_drop, h.len], by have := h.most; omega, (fun e => by cases e), by have := h.cap; omega⟩
  have := h.row.1.drop k
  unfold toI at this ⊢
  rw [List.map_drop]
  exact this

set_option maxRecDepth 100000 in
set_option maxHeartbeats 16000000 in
theorem programs_any (w0 : World) (tk : Nat × Array Value) (r : HRd) (bs : List Nat) (w : World) (h : PgSt w0 tk r bs [] w) (hin : inB r.m r.begin_ (r.count * 56) = true) (hc16 : r.count ≤ 16) :
    Calls Tryz.prog 20 #[.pointer (some ⟨r.rb, 0, none⟩)] w fun e w' => PgPost w0 tk r bs e w' (progsF bs r.begin_ r.count 0 []) := by
  have hinn : r.begin_ + r.count * 56 ≤ r.m := by
    unfold inB at hin
    simp only [decide_eq_true_eq] at hin
    omega
  have HM : Hid (bs.length = r.m ∧ r.m ≤ 1048576 ∧ r.m ≤ r.cap) := Lib.hid ⟨h.bytes.len, h.bytes.most, h.bytes.cap⟩
  have hm1 : r.m ≤ 1048576 := h.bytes.most
  have HH : Hid (PgSt w0 tk { r with pa := r.pa, pn := ([] : List PT).length, pc := r.pc } bs [] w) := Lib.hid (by
    have := h.len
    rw [List.length_nil] at this
    rw [List.length_nil, this]
    exact h)
  obtain ⟨R, hR⟩ : ∃ R, progsF bs r.begin_ r.count 0 [] = R := ⟨_, rfl⟩
  have HR := Lib.hid hR
  rw [hR]
  have HPO : Hid (∀ w' ps pa pc, R = .ok ps → PgSt w0 tk { r with pa := pa, pn := ps.length, pc := pc } bs ps w' → PgPost w0 tk r bs (.returned .nilIface) w' R) := Lib.hid (fun w' ps pa pc e hs => by
    rw [e]
    exact ⟨rfl, pa, pc, hs⟩)
  have HPE : Hid (∀ w' v x, R = .error x → ErrAt w' v (some x) → Below w0.heap.size w0 w' → PgPost w0 tk r bs (.returned v) w' R) := Lib.hid (fun w' v x e hv hb => by
    rw [e]
    exact ⟨⟨v, rfl, hv⟩, hb⟩)
  have m3 : w.cell? ⟨r.rb, 3, none⟩ = some (.int .u64 (r.count : Int)) := by rw [h.at_.get]; rfl
  generalize PgPost w0 tk r bs = P0 at *
  have HIN : Hid (r.begin_ + r.count * 56 ≤ r.m) := Lib.hid hinn
  obtain ⟨C, hC⟩ : ∃ C, r.count = C := ⟨_, rfl⟩
  rw [hC] at m3
  have HC := Lib.hid hC
  have HC16 : Hid (C ≤ 16) := Lib.hid (by omega)
  clear h hin hinn hc16 hR hC
  go_enter Tryz.func20, Tryz.ntmps20
  go_wp2_with fail
  clear m3
  go_loopg [12] C (fun g iv wr => ∃ (k : Nat) (ps : List PT) (pa : Option Addr) (pc : Nat), k + g = C ∧ iv = .int .u64 (k : Int) ∧ Hid (PgSt w0 tk { r with pa := pa, pn := ps.length, pc := pc } bs ps wr) ∧ Hid (progsF bs r.begin_ g k ps = R) ∧ Hid (ps.length = k))
  case atStart => exact ⟨0, [], r.pa, r.pc, by omega, rfl, HH, Lib.hid (by rw [← HC.out]; exact HR.out), Lib.hid rfl⟩
  case round =>
    clear HH HR
    obtain ⟨k, ps, pa, pc, hk, rfl, HS, HG, HPL⟩ := hrel
    cases gk with
    | zero =>
      have hkn : k = C := by omega
      subst hkn
      clear hk
      have HRR : Hid (R = .ok ps) := Lib.hid HG.out.symm
      go_wp2_with fail
      exact HPO.out _ ps pa pc HRR.out HS.out
    | succ g2 =>
      obtain ⟨AT, hAT⟩ : ∃ AT, r.begin_ + 56 * k = AT := ⟨_, rfl⟩
      have hAT2 : AT + 56 ≤ r.m := by have := HIN.out; have := HC.out; omega
      have hsA := HS.out.bytes
      obtain ⟨bb, oo, hra, -⟩ := hsA.row.at (i := 0) (by have := HM.out; omega)
      have hra' : r.a = some ⟨bb, oo, none⟩ := hra
      obtain ⟨p, hp⟩ : ∃ p, progF (bs.drop AT) = p := ⟨_, rfl⟩
      have hpw : p.wf := by rw [← hp]; exact progF_wf (fun x hx => hsA.row.2 x (List.mem_of_mem_drop hx))
      have HPR : Hid (Calls Tryz.prog 42 #[.slice (some ⟨bb, oo + AT, none⟩) (r.m - AT) (r.cap - AT)] wr fun e w' => e = .returned p.hv ∧ Below wr.heap.size wr w') := Lib.hid (by
        rw [← hp]
        refine prog_any _ _ _ _ wr (drop_bsl (h := ?_) AT (by omega))
        have : BSl wr r.a r.m r.cap bs := hsA.below HS.out.blw
        rw [hra'] at this
        exact this)
      have HGG : Hid (∀ x, oneF r.m ps p AT = some x → R = .error x) := Lib.hid (fun x hx => by
        have h := HG.out
        rw [progsF, hAT, hp, HM.out.1, hx] at h
        exact h.symm)
      have HGN : Hid (oneF r.m ps p AT = none → progsF bs r.begin_ g2 (k + 1) (ps ++ [p]) = R) := Lib.hid (fun hx => by
        have h := HG.out
        rw [progsF, hAT, hp, HM.out.1, hx] at h
        exact h)
      have HPW := Lib.hid hpw
      obtain ⟨r1, hr1⟩ : ∃ r1 : HRd, r1 = { r with pa := pa, pn := ps.length, pc := pc } := ⟨_, rfl⟩
      have HS1 : Hid (PgSt w0 tk r1 bs ps wr) := Lib.hid (by rw [hr1]; exact HS.out)
      have HR1 := Lib.hid hr1
      have e_rb : r1.rb = r.rb := by rw [hr1]
      have e_m : r1.m = r.m := by rw [hr1]
      have l2 : wr.cell? ⟨r.rb, 2, none⟩ = some (.int .u64 (r.begin_ : Int)) := by rw [HS.out.at_.get]; rfl
      have l4 : wr.cell? ⟨r.rb, 4, none⟩ = some (.slice (some ⟨bb, oo, none⟩) r.m r.cap) := by rw [HS.out.at_.get]; show some (Value.slice r.a r.m r.cap) = _; rw [show r.a = some ⟨bb, oo, none⟩ from hra]
      have HKK : Hid (k + (g2 + 1) = C) := Lib.hid hk
      have hk16 : k < 16 := by have := HC16.out; omega
      have g1 : IntKind.u64.wrap ((k : Int) * 56) = (k : Int) * 56 := by rw [IntKind.wrap_u64]; omega
      have g2 : IntKind.u64.wrap ((r.begin_ : Int) + (k : Int) * 56) = (AT : Int) := by rw [IntKind.wrap_u64]; omega
      have g3 : (0 : Int) ≤ (AT : Int) := by omega
      have g4 : (AT : Int) ≤ (r.m : Int) := by omega
      have g5 : ¬ r.cap = AT := by have := HM.out; omega
      have g6 : (AT : Int) ≤ (r.cap : Int) := by have := HM.out; omega
      have HAT : Hid (AT + 64 < 18446744073709551616 ∧ AT < 18446744073709551616) := Lib.hid (by have := HM.out; omega)
      obtain ⟨M', hM'⟩ : ∃ M', r.m - AT = M' := ⟨_, rfl⟩
      obtain ⟨C', hC'⟩ : ∃ C', r.cap - AT = C' := ⟨_, rfl⟩
      rw [hM', hC'] at HPR
      have tk : decide (k < C) = true := decide_eq_true (by omega)
      have tk2 : k < C := by omega
      clear hk hAT2 hsA hp hpw hr1 hra hra' hAT
      obtain ⟨a0, a1, a2, a3, a4, a5, a6⟩ := p
      have hpv : PT.hv ⟨a0, a1, a2, a3, a4, a5, a6⟩ = .agg #[.int .u32 (a0 : Int), .int .u32 (a1 : Int), .int .u64 (a2 : Int), .int .u64 (a3 : Int), .int .u64 (a4 : Int), .int .u64 (a5 : Int), .int .u64 (a6 : Int)] := rfl
      rw [hpv] at HPR
      go_wp2_with fail
      refine HPR.out.mono ?_
      rintro e w2 ⟨rfl, hb2⟩
      obtain ⟨xb, hxb⟩ : ∃ xb, w2.heap.size = xb := ⟨_, rfl⟩
      obtain ⟨w3, hw3⟩ : ∃ w3, w2.alloc (.cells #[.int .u32 (a0 : Int), .int .u32 (a1 : Int), .int .u64 (a2 : Int), .int .u64 (a3 : Int), .int .u64 (a4 : Int), .int .u64 (a5 : Int), .int .u64 (a6 : Int)] 54) = w3 := ⟨_, rfl⟩
      have B3 : Hid (Below wr.heap.size wr w3) := Lib.hid (by rw [← hw3]; exact ballo hb2 _)
      have X3 : Hid (w3.heap[xb]? = some (.cells #[.int .u32 (a0 : Int), .int .u32 (a1 : Int), .int .u64 (a2 : Int), .int .u64 (a3 : Int), .int .u64 (a4 : Int), .int .u64 (a5 : Int), .int .u64 (a6 : Int)] 54)) := Lib.hid (by rw [← hw3, ← hxb]; exact heap_alloc_new _ _)
      have hxw : Hid (wr.heap.size ≤ xb) := Lib.hid (by rw [← hxb]; exact hb2.size)
      clear hb2 HPR l2 l4
      go_wp2_with fail
      clear hxb hw3 g1 g2 g3 g4 g5 g6 tk tk2 hM' hC'
      have HAL : Hid (∀ wx, Below w3.heap.size w3 wx → Calls Tryz.prog 43 #[.pointer (some ⟨r.rb, 0, none⟩), .agg #[.int .u32 (a0 : Int), .int .u32 (a1 : Int), .int .u64 (a2 : Int), .int .u64 (a3 : Int), .int .u64 (a4 : Int), .int .u64 (a5 : Int), .int .u64 (a6 : Int)], .int .u64 (AT : Int)] wx (MakePost (unF (aloneF ps ⟨a0, a1, a2, a3, a4, a5, a6⟩) AT 5) wx)) := Lib.hid (fun wx hx => by
        have hb := bstep B3.out hx
        have := alone_make r1 ps ⟨a0, a1, a2, a3, a4, a5, a6⟩ AT wx (HS1.out.at_.below hb) (HS1.out.row.below2 hb) HS1.out.len (by rw [← HS1.out.len]; have := HPL.out; omega) HAT.out.2
        rw [e_rb] at this
        exact this)
      have HIN2 : Hid (∀ wx, Below w3.heap.size w3 wx → Calls Tryz.prog 44 #[.pointer (some ⟨r.rb, 0, none⟩), .agg #[.int .u32 (a0 : Int), .int .u32 (a1 : Int), .int .u64 (a2 : Int), .int .u64 (a3 : Int), .int .u64 (a4 : Int), .int .u64 (a5 : Int), .int .u64 (a6 : Int)], .int .u64 (AT : Int)] wx (MakePost (insideF r.m ⟨a0, a1, a2, a3, a4, a5, a6⟩ AT) wx)) := Lib.hid (fun wx hx => by
        have hb := bstep B3.out hx
        have := inside_make r1 ⟨a0, a1, a2, a3, a4, a5, a6⟩ AT wx (HS1.out.at_.below hb) (by rw [e_m]; omega) HPW.out HAT.out.1
        rw [e_rb, e_m] at this
        exact this)
      have HSI : Hid (∀ wx, Below w3.heap.size w3 wx → Calls Tryz.prog 45 #[.pointer (some ⟨r.rb, 0, none⟩), .agg #[.int .u32 (a0 : Int), .int .u32 (a1 : Int), .int .u64 (a2 : Int), .int .u64 (a3 : Int), .int .u64 (a4 : Int), .int .u64 (a5 : Int), .int .u64 (a6 : Int)], .int .u64 (AT : Int)] wx (MakePost (sizedF ⟨a0, a1, a2, a3, a4, a5, a6⟩ AT) wx)) := Lib.hid (fun wx hx => sized_make _ ⟨a0, a1, a2, a3, a4, a5, a6⟩ AT wx HPW.out HAT.out.1)
      have HLO : Hid (∀ wx, Below w3.heap.size w3 wx → Calls Tryz.prog 46 #[.pointer (some ⟨r.rb, 0, none⟩), .agg #[.int .u32 (a0 : Int), .int .u32 (a1 : Int), .int .u64 (a2 : Int), .int .u64 (a3 : Int), .int .u64 (a4 : Int), .int .u64 (a5 : Int), .int .u64 (a6 : Int)], .int .u64 (AT : Int)] wx (MakePost (loadF ps ⟨a0, a1, a2, a3, a4, a5, a6⟩ AT) wx)) := Lib.hid (fun wx hx => by
        have hb := bstep B3.out hx
        have := load_make r1 ps ⟨a0, a1, a2, a3, a4, a5, a6⟩ AT wx (HS1.out.at_.below hb) (HS1.out.row.below2 hb) HS1.out.len (by rw [← HS1.out.len]; have := HPL.out; omega) HS1.out.wf HPW.out HAT.out.1
        rw [e_rb] at this
        exact this)
      have KS : Hid (∀ wx, Below w3.heap.size w3 wx → wx.cell? ⟨xb, 0, none⟩ = some (.int .u32 (a0 : Int)) ∧ wx.cell? ⟨xb, 1, none⟩ = some (.int .u32 (a1 : Int)) ∧ wx.cell? ⟨xb, 2, none⟩ = some (.int .u64 (a2 : Int)) ∧ wx.cell? ⟨xb, 3, none⟩ = some (.int .u64 (a3 : Int)) ∧ wx.cell? ⟨xb, 4, none⟩ = some (.int .u64 (a4 : Int)) ∧ wx.cell? ⟨xb, 5, none⟩ = some (.int .u64 (a5 : Int)) ∧ wx.cell? ⟨xb, 6, none⟩ = some (.int .u64 (a6 : Int))) := Lib.hid (fun wx hx => out_cells ((hx.block _ (lt_of_block X3.out)).trans X3.out))
      refine wp_region_held_drew (S := fun wx => Below w3.heap.size w3 wx) (by kernel_rfl) ((Below.refl _ _).drew) (fun hHeld => ?_)
      first
        | (refine tkw 0 ?_ rfl ?_ ?_
           rotate_left
           · intro wx hSw
             obtain ⟨s0, s1, s2, s3, s4, s5, s6⟩ := KS.out wx hSw
             (first | (go_simp; rfl) | go_simp | rfl))
        | refine tku 0 rfl ?_
      first
        | (refine tkw 1 ?_ rfl ?_ ?_
           rotate_left
           · intro wx hSw
             obtain ⟨s0, s1, s2, s3, s4, s5, s6⟩ := KS.out wx hSw
             (first | (go_simp; rfl) | go_simp | rfl))
        | refine tku 1 rfl ?_
      first
        | (refine tkw 2 ?_ rfl ?_ ?_
           rotate_left
           · intro wx hSw
             obtain ⟨s0, s1, s2, s3, s4, s5, s6⟩ := KS.out wx hSw
             (first | (go_simp; rfl) | go_simp | rfl))
        | refine tku 2 rfl ?_
      first
        | (refine tkw 4 ?_ rfl ?_ ?_
           rotate_left
           · intro wx hSw
             obtain ⟨s0, s1, s2, s3, s4, s5, s6⟩ := KS.out wx hSw
             (first | (go_simp; rfl) | go_simp | rfl))
        | refine tku 4 rfl ?_
      first
        | (refine tkw 5 ?_ rfl ?_ ?_
           rotate_left
           · intro wx hSw
             obtain ⟨s0, s1, s2, s3, s4, s5, s6⟩ := KS.out wx hSw
             (first | (go_simp; rfl) | go_simp | rfl))
        | refine tku 5 rfl ?_
      first
        | (refine tkw 6 ?_ rfl ?_ ?_
           rotate_left
           · intro wx hSw
             obtain ⟨s0, s1, s2, s3, s4, s5, s6⟩ := KS.out wx hSw
             (first | (go_simp; rfl) | go_simp | rfl))
        | refine tku 6 rfl ?_
      first
        | (refine tkw 8 ?_ rfl ?_ ?_
           rotate_left
           · intro wx hSw
             obtain ⟨s0, s1, s2, s3, s4, s5, s6⟩ := KS.out wx hSw
             (first | (go_simp; rfl) | go_simp | rfl))
        | refine tku 8 rfl ?_
      first
        | (refine tkw 9 ?_ rfl ?_ ?_
           rotate_left
           · intro wx hSw
             obtain ⟨s0, s1, s2, s3, s4, s5, s6⟩ := KS.out wx hSw
             (first | (go_simp; rfl) | go_simp | rfl))
        | refine tku 9 rfl ?_
      first
        | (refine tkw 10 ?_ rfl ?_ ?_
           rotate_left
           · intro wx hSw
             obtain ⟨s0, s1, s2, s3, s4, s5, s6⟩ := KS.out wx hSw
             (first | (go_simp; rfl) | go_simp | rfl))
        | refine tku 10 rfl ?_
      first
        | (refine tkw 12 ?_ rfl ?_ ?_
           rotate_left
           · intro wx hSw
             obtain ⟨s0, s1, s2, s3, s4, s5, s6⟩ := KS.out wx hSw
             (first | (go_simp; rfl) | go_simp | rfl))
        | refine tku 12 rfl ?_
      first
        | (refine tkw 13 ?_ rfl ?_ ?_
           rotate_left
           · intro wx hSw
             obtain ⟨s0, s1, s2, s3, s4, s5, s6⟩ := KS.out wx hSw
             (first | (go_simp; rfl) | go_simp | rfl))
        | refine tku 13 rfl ?_
      first
        | (refine tkw 14 ?_ rfl ?_ ?_
           rotate_left
           · intro wx hSw
             obtain ⟨s0, s1, s2, s3, s4, s5, s6⟩ := KS.out wx hSw
             (first | (go_simp; rfl) | go_simp | rfl))
        | refine tku 14 rfl ?_
      refine wpAnyH_ready (rs := [3]) (by kernel_rfl) (by simp) ?_
      refine AllReadyH.cons rfl (fun K hK => ?_) AllReadyH.nil
      go_simp
      refine (HAL.out _ (by (repeat (first | exact Below.refl _ _ | refine bdrew ?_ | refine ballo ?_ _ | refine bsteps ?_ (by assumption))))).mono ?_
      rintro e w5 ⟨⟨F5, p5, d5, rfl, t5⟩, b5⟩
      have T5 := Lib.hid t5
      have H5 := Stp.mk b5
      clear t5
      try go_simp
      refine hK.out _ _ (bstep (by assumption) b5) (fun hHeld => ?_)
      clear hK K b5
      try simp only [List.getElem_toArray, List.getElem_cons_zero, List.getElem_cons_succ, Act.put, List.setIfInBounds_toArray, List.set_cons_zero, List.set_cons_succ, Array.toArray_toList]
      refine wpAnyH_ready (rs := [7]) (by kernel_rfl) (by simp) ?_
      refine AllReadyH.cons rfl (fun K hK => ?_) AllReadyH.nil
      go_simp
      refine (HIN2.out _ (by (repeat (first | exact Below.refl _ _ | refine bdrew ?_ | refine ballo ?_ _ | refine bsteps ?_ (by assumption))))).mono ?_
      rintro e w5 ⟨⟨F5, p5, d5, rfl, t5⟩, b5⟩
      have T5 := Lib.hid t5
      have H5 := Stp.mk b5
      clear t5
      try go_simp
      refine hK.out _ _ (bstep (by assumption) b5) (fun hHeld => ?_)
      clear hK K b5
      try simp only [List.getElem_toArray, List.getElem_cons_zero, List.getElem_cons_succ, Act.put, List.setIfInBounds_toArray, List.set_cons_zero, List.set_cons_succ, Array.toArray_toList]
      refine wpAnyH_ready (rs := [11]) (by kernel_rfl) (by simp) ?_
      refine AllReadyH.cons rfl (fun K hK => ?_) AllReadyH.nil
      go_simp
      refine (HSI.out _ (by (repeat (first | exact Below.refl _ _ | refine bdrew ?_ | refine ballo ?_ _ | refine bsteps ?_ (by assumption))))).mono ?_
      rintro e w5 ⟨⟨F5, p5, d5, rfl, t5⟩, b5⟩
      have T5 := Lib.hid t5
      have H5 := Stp.mk b5
      clear t5
      try go_simp
      refine hK.out _ _ (bstep (by assumption) b5) (fun hHeld => ?_)
      clear hK K b5
      try simp only [List.getElem_toArray, List.getElem_cons_zero, List.getElem_cons_succ, Act.put, List.setIfInBounds_toArray, List.set_cons_zero, List.set_cons_succ, Array.toArray_toList]
      refine wpAnyH_ready (rs := [15]) (by kernel_rfl) (by simp) ?_
      refine AllReadyH.cons rfl (fun K hK => ?_) AllReadyH.nil
      go_simp
      refine (HLO.out _ (by (repeat (first | exact Below.refl _ _ | refine bdrew ?_ | refine ballo ?_ _ | refine bsteps ?_ (by assumption))))).mono ?_
      rintro e w5 ⟨⟨F5, p5, d5, rfl, t5⟩, b5⟩
      have T5 := Lib.hid t5
      have H5 := Stp.mk b5
      clear t5
      try go_simp
      refine hK.out _ _ (bstep (by assumption) b5) (fun hHeld => ?_)
      clear hK K b5
      try simp only [List.getElem_toArray, List.getElem_cons_zero, List.getElem_cons_succ, Act.put, List.setIfInBounds_toArray, List.set_cons_zero, List.set_cons_succ, Array.toArray_toList]
      refine wpAnyH_ready (rs := [16]) (by kernel_rfl) (by simp) ?_
      refine AllReadyH.cons rfl (fun K hK => ?_) AllReadyH.nil
      go_simp
      refine hK.out _ _ (ballo (by assumption) _) (fun hHeld => ?_)
      clear hK K
      try simp only [List.getElem_toArray, List.getElem_cons_zero, List.getElem_cons_succ, Act.put, List.setIfInBounds_toArray, List.set_cons_zero, List.set_cons_succ, Array.toArray_toList]
      refine wpAnyH_ready (rs := [17]) (by kernel_rfl) (by simp) ?_
      refine AllReadyH.cons rfl (fun K hK => ?_) AllReadyH.nil
      go_simp
      refine (first4_any _ _ _ _ _ _ _ _ _ (TestV.below (Hid.out (by assumption)) (by (repeat (first | exact Below.refl _ _ | refine bdrew ?_ | refine ballo ?_ _ | refine bsteps ?_ (by assumption))))) (TestV.below (Hid.out (by assumption)) (by (repeat (first | exact Below.refl _ _ | refine bdrew ?_ | refine ballo ?_ _ | refine bsteps ?_ (by assumption))))) (TestV.below (Hid.out (by assumption)) (by (repeat (first | exact Below.refl _ _ | refine bdrew ?_ | refine ballo ?_ _ | refine bsteps ?_ (by assumption))))) (TestV.below (Hid.out (by assumption)) (by (repeat (first | exact Below.refl _ _ | refine bdrew ?_ | refine ballo ?_ _ | refine bsteps ?_ (by assumption)))))).mono ?_
      rintro e w7 ⟨⟨v7, rfl, t7⟩, b7⟩
      have T7 := Lib.hid t7
      clear t7
      try go_simp
      refine hK.out _ _ (bstep (by assumption) b7) (fun hHeld => ?_)
      clear hK K b7
      try simp only [List.getElem_toArray, List.getElem_cons_zero, List.getElem_cons_succ, Act.put, List.setIfInBounds_toArray, List.set_cons_zero, List.set_cons_succ, Array.toArray_toList]
      first
        | (refine tkw 18 ?_ rfl ?_ ?_
           rotate_left
           · intro wx hSw
             obtain ⟨s0, s1, s2, s3, s4, s5, s6⟩ := KS.out wx hSw
             (first | (go_simp; rfl) | go_simp | rfl))
        | refine tku 18 rfl ?_
      refine wpAnyH_done (by kernel_rfl) ?_ _
      have H7 := Lib.hid hHeld
      clear hHeld HAL HIN2 HSI HLO KS
      have T8 : Hid (ErrAt w7 v7 (oneF r.m ps ⟨a0, a1, a2, a3, a4, a5, a6⟩ AT)) := Lib.hid T7.out
      have B7 : Hid (Below wr.heap.size wr w7) := Lib.hid (bstep B3.out H7.out)
      cases ho : oneF r.m ps ⟨a0, a1, a2, a3, a4, a5, a6⟩ AT with
      | some x =>
        have HE1 := Lib.hid (HGG.out x ho)
        have h8 := T8.out
        rw [ho] at h8
        have HV := Lib.hid h8
        obtain ⟨sb, rfl, -⟩ := h8
        have BW : Hid (Below w0.heap.size w0 w7) := Lib.hid (HS1.out.blw.trans (B7.out.mono HS1.out.blw.size))
        clear ho
        go_wp2_with fail
        exact HPE.out _ _ x HE1.out HV.out BW.out
      | none =>
        have HN1 := Lib.hid (HGN.out ho)
        have h8 := T8.out
        rw [ho] at h8
        obtain rfl : v7 = .nilIface := h8
        clear ho
        have HSX := HS.out
        rw [HPL.out] at HSX
        have HSK := Lib.hid HSX
        have HRW7 := Lib.hid (HSX.at_.below B7.out)
        have e0 : w7.cell? ⟨r.rb, 5, none⟩ = some (.slice pa k pc) := by rw [HRW7.out.get]; rfl
        obtain ⟨x0, x1, x2, x3, x4, x5, x6⟩ := out_cells ((H7.out.block _ (lt_of_block X3.out)).trans X3.out)
        have HB1 : Hid (Below w7.heap.size w7 (w7.alloc (.cells #[.int .u32 (a0 : Int), .int .u32 (a1 : Int), .int .u64 (a2 : Int), .int .u64 (a3 : Int), .int .u64 (a4 : Int), .int .u64 (a5 : Int), .int .u64 (a6 : Int)] 54)).drew) := Lib.hid (ballo (Below.refl _ _) _).drew
        have HNW : Hid (∀ j u, [Value.int .u32 (a0 : Int), .int .u32 (a1 : Int), .int .u64 (a2 : Int), .int .u64 (a3 : Int), .int .u64 (a4 : Int), .int .u64 (a5 : Int), .int .u64 (a6 : Int)][j]? = some u → ((w7.alloc (.cells #[.int .u32 (a0 : Int), .int .u32 (a1 : Int), .int .u64 (a2 : Int), .int .u64 (a3 : Int), .int .u64 (a4 : Int), .int .u64 (a5 : Int), .int .u64 (a6 : Int)] 54)).drew).cell? ((⟨w7.heap.size, 0, none⟩ : Addr).add j) = some u) := Lib.hid (fun j u h => news_alloc w7 _ _ j u h)
        have HOA : Hid (OwnS (w7.alloc (.cells #[.int .u32 (a0 : Int), .int .u32 (a1 : Int), .int .u64 (a2 : Int), .int .u64 (a3 : Int), .int .u64 (a4 : Int), .int .u64 (a5 : Int), .int .u64 (a6 : Int)] 54)).drew w0.heap.size 54 7 (.slice pa k pc) (ps.map PT.cells)) := Lib.hid ((HSX.own.below B7.out).below HB1.out)
        have e0a : (w7.alloc (.cells #[.int .u32 (a0 : Int), .int .u32 (a1 : Int), .int .u64 (a2 : Int), .int .u64 (a3 : Int), .int .u64 (a4 : Int), .int .u64 (a5 : Int), .int .u64 (a6 : Int)] 54)).drew.cell? ⟨r.rb, 5, none⟩ = some (.slice pa k pc) := by rw [(HRW7.out.below HB1.out).get]; rfl
        have e0b : (w7.alloc (.cells #[.int .u32 (a0 : Int), .int .u32 (a1 : Int), .int .u64 (a2 : Int), .int .u64 (a3 : Int), .int .u64 (a4 : Int), .int .u64 (a5 : Int), .int .u64 (a6 : Int)] 54)).cell? ⟨r.rb, 5, none⟩ = some (.slice pa k pc) := e0a
        have HLEN : Hid ((ps.map PT.cells).length = k) := Lib.hid (by rw [List.length_map]; exact HPL.out)
        have HKM : Hid (k + 1 ≤ maxLen ∧ (k + 1) * 48 ≤ 140737488355328) := Lib.hid (by unfold maxLen; omega)
        have HSZ : Hid (w0.heap.size ≤ (w7.alloc (.cells #[.int .u32 (a0 : Int), .int .u32 (a1 : Int), .int .u64 (a2 : Int), .int .u64 (a3 : Int), .int .u64 (a4 : Int), .int .u64 (a5 : Int), .int .u64 (a6 : Int)] 54)).drew.heap.size) := Lib.hid (Nat.le_trans (Nat.le_trans HSX.blw.size B7.out.size) HB1.out.size)
        have HFIN : Hid (∀ ad8 c8 w8, OwnS w8 w0.heap.size 54 7 (.slice ad8 (k + 1) c8) (ps.map PT.cells ++ [[.int .u32 (a0 : Int), .int .u32 (a1 : Int), .int .u64 (a2 : Int), .int .u64 (a3 : Int), .int .u64 (a4 : Int), .int .u64 (a5 : Int), .int .u64 (a6 : Int)]]) → (w7.alloc (.cells #[.int .u32 (a0 : Int), .int .u32 (a1 : Int), .int .u64 (a2 : Int), .int .u64 (a3 : Int), .int .u64 (a4 : Int), .int .u64 (a5 : Int), .int .u64 (a6 : Int)] 54)).drew.grownBy w8 (Value.slice pa k pc).ownBlock → PgSt w0 tk { r with pa := ad8, pn := (ps ++ [(⟨a0, a1, a2, a3, a4, a5, a6⟩ : PT)]).length, pc := c8 } bs (ps ++ [⟨a0, a1, a2, a3, a4, a5, a6⟩]) (w8.setCell ⟨r.rb, 5, none⟩ (.slice ad8 (k + 1) c8)) ∧ w8.cell? ⟨r.rb, 5, none⟩ = some (.slice pa k pc) ∧ w8.frozen? ⟨r.rb, 5, none⟩ = false) := Lib.hid (fun ad8 c8 w8 ho8 hg8 => by
          have hl : (ps ++ [(⟨a0, a1, a2, a3, a4, a5, a6⟩ : PT)]).length = k + 1 := by rw [List.length_append, HPL.out]; rfl
          rw [hl]
          exact PgSt.next HSK.out HPW.out (bstep B7.out HB1.out) ho8 hg8)
        clear HSX
        go_wp2_with fail
        go_region_law (refine step_grow_row rfl (.tmp 55) (.tmp 57) pRow rfl w0.heap.size (.slice pa k pc) (ps.map PT.cells) k [.int .u32 (a0 : Int), .int .u32 (a1 : Int), .int .u64 (a2 : Int), .int .u64 (a3 : Int), .int .u64 (a4 : Int), .int .u64 (a5 : Int), .int .u64 (a6 : Int)] rfl ⟨w7.heap.size, 0, none⟩ 1 rfl HNW.out HLEN.out rfl (by intro u hu; simp only [List.mem_cons, List.not_mem_nil, or_false] at hu; rcases hu with rfl | rfl | rfl | rfl | rfl | rfl | rfl <;> rfl) HOA.out HKM.out.1 HKM.out.2 HSZ.out ?_; intro ad8 c8 w8 ho8 hg8; have HX8 := HFIN.out _ _ _ ho8 hg8; have HN8 := Lib.hid HX8.1; have e8 := HX8.2.1; have f8 := HX8.2.2; clear ho8 hg8 HX8)
        all_goals (
          go_wp2_with fail
          go_roundg g2
          case measure => have := HKK.out; omega
          case rel => exact ⟨k + 1, _, ad8, c8, by have := HKK.out; omega, (by first | rfl | (rw [IntKind.wrap_u64]; congr 1; omega) | (congr 1; rw [IntKind.wrap_u64]; omega)), HN8, HN1, Lib.hid (by rw [List.length_append, HPL.out]; rfl)⟩)
end Go.Proofs.YtnaejlfjlennhaaGreatDoor
/- Layer 10: a world that is another but for one block (XNear). -/
namespace Go.Proofs.YtnaejlfjlennhaaGreatDoor
end Go.Proofs.YtnaejlfjlennhaaGreatDoor
