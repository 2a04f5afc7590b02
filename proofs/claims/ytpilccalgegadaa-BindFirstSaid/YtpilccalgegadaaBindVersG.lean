/- Layer 17: the name of an index, of whatever object. -/
import Derived.Test.YtpilccalgegadaaBindF
import Derived.Deep.LoopGhost
import Derived.BigQuiet
import Derived.WalkMore
import Derived.Deep.DeepCutAuto
import Derived.Handy
namespace Go.Proofs.Ytpilccalgegadaa
open Go.RowKit
set_option linter.unusedVariables false
set_option linter.unusedSimpArgs false

theorem two_stores {w : World} {b : Nat} {T : TypeId} {u0 u1 : Value} (E : w.heap[b]? = some (.cells #[u0, u1] T)) (v0 v1 : Value) :
    ((w.setCell ⟨b, 0, none⟩ v0).setCell ⟨b, 1, none⟩ v1) = w.setRow b #[v0, v1] := by
  have step : ∀ (cs : Array Value) (i : Nat) (v : Value), (w.setRow b cs).setCell ⟨b, i, none⟩ v = w.setRow b (cs.setIfInBounds i v) := fun cs i v => by
    rw [setCell_eq_setRow _ _ _ _ _ _ _ (setRow_heap w b _ cs T (0, 0) E), setRow_setRow]
  rw [setCell_eq_setRow w b 0 _ _ _ _ E, step]
  simp only [List.setIfInBounds_toArray, List.set_cons_zero, List.set_cons_succ]
structure GDef where
  idx : Int
  base : Bool
  name : ByteArray
def defG (x : Int) : List GDef → Option ByteArray
  | [] => none
  | d :: l => if d.idx = x ∧ ¬ (x = 1 ∧ d.base = true) then some d.name else defG x l
def auxG (x : Int) : List BAux → Option ByteArray
  | [] => none
  | v :: l => if v.idx = x then some v.name else auxG x l
def needG (x : Int) : List BNeed → Option (ByteArray × ByteArray)
  | [] => none
  | n :: l => ((auxG x n.aux).map fun v => (v, n.file)).or (needG x l)
/-- the name of an index, and the file that it is needed of -/
def versG (x : Int) (defs : List GDef) (needs : List BNeed) : Option (ByteArray × ByteArray) := ((defG x defs).map fun v => (v, ⟨#[]⟩)).or (needG x needs)
theorem defG_cons (x : Int) (d : GDef) (l : List GDef) : defG x (d :: l) = if d.idx = x ∧ ¬ (x = 1 ∧ d.base = true) then some d.name else defG x l := rfl
theorem auxG_cons (x : Int) (v : BAux) (l : List BAux) : auxG x (v :: l) = if v.idx = x then some v.name else auxG x l := rfl
theorem needG_cons (x : Int) (n : BNeed) (l : List BNeed) : needG x (n :: l) = ((auxG x n.aux).map fun v => (v, n.file)).or (needG x l) := rfl
def versV : Option (ByteArray × ByteArray) → Value
  | none => .tuple #[.agg #[.string ⟨#[]⟩, .string ⟨#[]⟩], .bool false]
  | some (v, f) => .tuple #[.agg #[.string v, .string f], .bool true]
/-- what an object defines, in memory -/
def GDRow (w : World) (a : Option Addr) (l : List GDef) : Prop := ∀ i (h : i < l.length), ∃ b o pa pl pc, a = some ⟨b, o, none⟩ ∧ b < w.heap.size ∧ w.cell? ⟨b, o + i * 4, none⟩ = some (.int .i64 l[i].idx) ∧ w.cell? ⟨b, o + i * 4 + 1, none⟩ = some (.bool l[i].base) ∧ w.cell? ⟨b, o + i * 4 + 2, none⟩ = some (.string l[i].name) ∧ w.cell? ⟨b, o + i * 4 + 3, none⟩ = some (.slice pa pl pc)
theorem GDRow.below {w w' : World} {a : Option Addr} {l : List GDef} (h : GDRow w a l) (hb : Below w.heap.size w w') : GDRow w' a l := by
  intro i hi
  obtain ⟨b, o, pa, pl, pc, e, hlt, h0, h1, h2, h3⟩ := h i hi
  exact ⟨b, o, pa, pl, pc, e, Nat.lt_of_lt_of_le hlt hb.size, by rw [hb.cell (p := ⟨b, _, none⟩) hlt]; exact h0, by rw [hb.cell (p := ⟨b, _, none⟩) hlt]; exact h1, by rw [hb.cell (p := ⟨b, _, none⟩) hlt]; exact h2, by rw [hb.cell (p := ⟨b, _, none⟩) hlt]; exact h3⟩

set_option maxRecDepth 100000 in
set_option maxHeartbeats 16000000 in
theorem version_any (C : Array Value) (h54 : C.size = 54) (x : Int) (da : Option Addr) (dl dc : Nat) (defs : List GDef) (na : Option Addr) (nl nc : Nat) (needs : List BNeed) (w : World) (h48 : C[48]? = some (.slice da dl dc)) (h49 : C[49]? = some (.slice na nl nc)) (hdl : defs.length = dl) (hnl : needs.length = nl) (hd : GDRow w da defs) (hn : NDRow w na needs) (hdb : dl ≤ 140737488355328) (hnb : nl ≤ 140737488355328) :
    Calls Try.prog 21 #[.agg C, .int .i64 x] w fun e w' => e = .returned (versV (versG x defs needs)) ∧ Below w.heap.size w w' := by
  have B1 : Hid (Below w.heap.size w ((w.alloc (.cells C 55)).alloc (.cells #[.string ⟨#[]⟩, .string ⟨#[]⟩] 85))) := Lib.hid (((Below.refl _ _).alloc (Nat.le_refl _) _).alloc (by simp) _)
  have HC : Hid (∀ wx, Below ((w.alloc (.cells C 55)).alloc (.cells #[.string ⟨#[]⟩, .string ⟨#[]⟩] 85)).heap.size ((w.alloc (.cells C 55)).alloc (.cells #[.string ⟨#[]⟩, .string ⟨#[]⟩] 85)) wx → wx.cell? ⟨w.heap.size, 48, none⟩ = some (.slice da dl dc) ∧ wx.cell? ⟨w.heap.size, 49, none⟩ = some (.slice na nl nc) ∧ wx.heap[w.heap.size + 1]? = some (.cells #[.string ⟨#[]⟩, .string ⟨#[]⟩] 85)) := Lib.hid (fun wx hb => by
    have e0 : ((w.alloc (.cells C 55)).alloc (.cells #[.string ⟨#[]⟩, .string ⟨#[]⟩] 85)).heap[w.heap.size]? = some (.cells C 55) := (heap_alloc_old _ _ (by simp)).trans (heap_alloc_new _ _)
    have e1 : ((w.alloc (.cells C 55)).alloc (.cells #[.string ⟨#[]⟩, .string ⟨#[]⟩] 85)).heap[w.heap.size + 1]? = some (.cells #[.string ⟨#[]⟩, .string ⟨#[]⟩] 85) := by
      have := heap_alloc_new (w.alloc (.cells C 55)) (.cells #[.string ⟨#[]⟩, .string ⟨#[]⟩] 85)
      simpa using this
    have k0 := (hb.block _ (lt_of_block e0)).trans e0
    exact ⟨by rw [cell_of_row _ _ 48 _ _ _ k0]; exact h48, by rw [cell_of_row _ _ 49 _ _ _ k0]; exact h49, (hb.block _ (lt_of_block e1)).trans e1⟩)
  have HD := Lib.hid hd
  have HN := Lib.hid hn
  have HDL := Lib.hid hdl
  have HNL := Lib.hid hnl
  obtain ⟨R, hR⟩ : ∃ R, versG x defs needs = R := ⟨_, rfl⟩
  have HR0 : Hid (((defG x (defs.drop 0)).map fun v => (v, (⟨#[]⟩ : ByteArray))).or (needG x needs) = R) := Lib.hid hR
  rw [hR]
  clear h48 h49 hdl hnl hd hn hR
  obtain ⟨q0, q1, -⟩ := HC.out _ (Below.refl _ _)
  go_enter Try.func21, Try.ntmps21
  go_wp2_with fail
  clear q0 q1
  generalize ((w.alloc (.cells C 55)).alloc (.cells #[.string ⟨#[]⟩, .string ⟨#[]⟩] 85)) = w1 at *
  obtain ⟨vb, hvb⟩ : ∃ vb, w.heap.size + 1 = vb := ⟨_, rfl⟩
  have HVB : Hid (w.heap.size ≤ vb) := Lib.hid (by omega)
  rw [hvb] at HC ⊢
  clear hvb
  go_loopg [16] dl (fun g i wr => ∃ k : Nat, k + g = dl ∧ i = .int .i64 (k : Int) ∧ Hid (((defG x (defs.drop k)).map fun v => (v, (⟨#[]⟩ : ByteArray))).or (needG x needs) = R) ∧ Hid (Below w1.heap.size w1 wr))
  case atStart => exact ⟨0, by omega, rfl, HR0, Lib.hid (Below.refl _ _)⟩
  case round =>
    clear HR0
    obtain ⟨k, hk, rfl, HR, HB⟩ := hrel
    have BW := Lib.hid (bstep B1.out HB.out)
    cases gk with
    | zero =>
      have hke : k = dl := by omega
      have HR2 : Hid (needG x (needs.drop 0) = R) := Lib.hid (by rw [← HR.out, show defs.drop k = [] from List.drop_of_length_le (by rw [HDL.out, hke]; exact Nat.le_refl _)]; rfl)
      obtain ⟨-, q1, -⟩ := HC.out _ HB.out
      clear hk
      subst hke
      go_wp2_with fail
      clear q1
      go_loopg [41] nl (fun g i wx => ∃ j : Nat, j + g = nl ∧ i = .int .i64 (j : Int) ∧ Hid (needG x (needs.drop j) = R) ∧ Hid (Below w1.heap.size w1 wx))
      case atStart => exact ⟨0, by omega, rfl, HR2, HB⟩
      case round =>
        clear HR HB BW HR2
        obtain ⟨j, hj, rfl, HR, HB⟩ := hrel
        cases gk with
        | zero =>
          have hje : j = nl := by omega
          have HF : Hid (R = none) := Lib.hid (by rw [← HR.out, List.drop_of_length_le (by rw [HNL.out, hje]; exact Nat.le_refl _)]; rfl)
          obtain ⟨-, -, q2⟩ := HC.out _ HB.out
          have BF := Lib.hid (bstep B1.out HB.out)
          clear hj
          subst hje
          have v0 : wr.cell? ⟨vb, 0, none⟩ = some (.string ⟨#[]⟩) := by rw [cell_of_row _ _ 0 _ _ _ q2]; rfl
          have v1 : wr.cell? ⟨vb, 1, none⟩ = some (.string ⟨#[]⟩) := by rw [cell_of_row _ _ 1 _ _ _ q2]; rfl
          have f0 := frozen_of_row wr vb 0 _ _ q2
          have f1 := frozen_of_row wr vb 1 _ _ q2
          have FS := Lib.hid (two_stores q2 (.string ⟨#[]⟩) (.string ⟨#[]⟩))
          have hr := fun (cs : Array Value) (j : Nat) => cell_setRow_same wr vb j _ cs _ _ q2
          have r0 := hr #[.string ⟨#[]⟩, .string ⟨#[]⟩] 0
          have r1 := hr #[.string ⟨#[]⟩, .string ⟨#[]⟩] 1
          simp only [List.getElem?_toArray, List.getElem?_cons_zero, List.getElem?_cons_succ] at r0 r1
          have RR0 := Lib.hid r0
          have RR1 := Lib.hid r1
          have BZ : Hid (Below w.heap.size w (wr.setRow vb #[.string ⟨#[]⟩, .string ⟨#[]⟩])) := Lib.hid (below_setRow BF.out HVB.out _)
          clear r0 r1 hr q2
          go_wp2_with fail
          rw [FS.out]
          refine bodyPost_ret (by simp [results, Try.results21, go_sem, RR0.out, RR1.out]; try rfl) rfl ?_
          exact ⟨by rw [HF.out]; rfl, BZ.out⟩
        | succ g2 =>
          have hjn : j < nl := by omega
          have hjl : j < needs.length := by rw [HNL.out]; exact hjn
          have BW := Lib.hid (bstep B1.out HB.out)
          obtain ⟨b2, o2, xa, xc, rfl, hlt2, c0, c1, hax, hal⟩ := (HN.out.below BW.out) j hjl
          have HAX0 := Lib.hid hax
          have HD2 : Hid (needs.drop j = needs[j] :: needs.drop (j + 1)) := Lib.hid (drop_cons hjl)
          generalize needs[j] = nd at *
          rw [HD2.out, needG_cons] at HR
          obtain ⟨RS, hRS⟩ : ∃ RS, needG x (needs.drop (j + 1)) = RS := ⟨_, rfl⟩
          have HRS := Lib.hid hRS
          rw [hRS] at HR
          obtain ⟨fl, hfl⟩ : ∃ fl, nd.file = fl := ⟨_, rfl⟩
          obtain ⟨ax, hax2⟩ : ∃ ax, nd.aux = ax := ⟨_, rfl⟩
          rw [hfl] at c0 HR
          rw [hax2] at c1 hal HAX0 HR
          obtain ⟨la, hla⟩ : ∃ la, ax.length = la := ⟨_, rfl⟩
          have HLA := Lib.hid hla
          rw [hla] at c1 hal
          have BX : Hid (Below w1.heap.size w1 (wr.alloc (.cells #[.string fl, .slice xa la xc] 103))) := Lib.hid (HB.out.alloc HB.out.size _)
          have HBX : Hid (∀ wx, Below (wr.alloc (.cells #[.string fl, .slice xa la xc] 103)).heap.size (wr.alloc (.cells #[.string fl, .slice xa la xc] 103)) wx → wx.cell? ⟨wr.heap.size, 0, none⟩ = some (.string fl)) := Lib.hid (fun wx h => by
            have e1 := (h.block _ (by simp)).trans (heap_alloc_new wr (.cells #[.string fl, .slice xa la xc] 103))
            rw [cell_of_row _ _ 0 _ _ _ e1]; rfl)
          have HAX := Lib.hid (HAX0.out.below ((Below.refl wr.heap.size wr).alloc (Nat.le_refl _) (.cells #[.string fl, .slice xa la xc] 103)))
          clear hRS hfl hax2 hla hjl hlt2 hax HAX0 HD2
          go_wp2_with fail
          generalize hw5 : (wr.alloc (.cells #[.string fl, .slice xa la xc] 103)) = w5 at *
          clear hw5
          generalize wr.heap.size = nb at *
          go_loopg [48] la (fun g i wx => ∃ q : Nat, q + g = la ∧ i = .int .i64 (q : Int) ∧ Hid (((auxG x (ax.drop q)).map fun v => (v, fl)).or RS = R) ∧ Hid (Below w5.heap.size w5 wx))
          case atStart => exact ⟨0, by omega, rfl, HR, Lib.hid (Below.refl _ _)⟩
          case round =>
            clear HR HB BW c0 c1
            obtain ⟨q, hq, rfl, HR, HB⟩ := hrel
            cases gk with
            | zero =>
              have hqe : q = la := by omega
              have HR2 : Hid (RS = R) := Lib.hid (by rw [← HR.out, List.drop_of_length_le (by rw [HLA.out, hqe]; exact Nat.le_refl _)]; rfl)
              have HB2 := Lib.hid (bstep BX.out HB.out)
              clear hq
              subst hqe
              go_wp2_with fail
              go_roundg g2
              case measure => omega
              case rel => exact ⟨j + 1, by omega, by go_num, Lib.hid (by rw [HRS.out]; exact HR2.out), HB2⟩
            | succ g3 =>
              have hqn : q < la := by omega
              have hql : q < ax.length := by rw [HLA.out]; exact hqn
              obtain ⟨b3, o3, rfl, hlt3, d0, d1, d2⟩ := (HAX.out.below HB.out) q hql
              have HD3 : Hid (ax.drop q = ax[q] :: ax.drop (q + 1)) := Lib.hid (drop_cons hql)
              generalize ax[q] = v at *
              rw [HD3.out, auxG_cons] at HR
              generalize v.idx = vi at *
              generalize v.weak = vw at *
              generalize v.name = vn at *
              have HB3 := Lib.hid (HB.out.alloc HB.out.size (.cells #[.int .i64 vi, .bool vw, .string vn] 105))
              clear hlt3 hql HD3
              by_cases hv : vi = x
              · have HF : Hid (R = some (vn, fl)) := Lib.hid (by rw [← HR.out, if_pos hv]; rfl)
                obtain ⟨-, -, q2⟩ := HC.out _ (bstep BX.out HB3.out)
                have g0 := HBX.out _ HB3.out
                have BF := Lib.hid (bstep B1.out (bstep BX.out HB3.out))
                have n2 : (wr.alloc (.cells #[.int .i64 vi, .bool vw, .string vn] 105)).cell? ⟨wr.heap.size, 2, none⟩ = some (.string vn) := by rw [cell_of_row _ _ 2 _ _ _ (heap_alloc_new _ _)]; rfl
                have hvb : (vi == x) = true := by simpa using hv
                clear HR hv
                go_upto_region 14 with fail
                clear d0 d1 d2 hvb
                generalize (wr.alloc (.cells #[.int .i64 vi, .bool vw, .string vn] 105)) = w6 at *
                generalize wr.heap.size = ab at *
                have v0 : w6.cell? ⟨vb, 0, none⟩ = some (.string ⟨#[]⟩) := by rw [cell_of_row _ _ 0 _ _ _ q2]; rfl
                have v1 : w6.cell? ⟨vb, 1, none⟩ = some (.string ⟨#[]⟩) := by rw [cell_of_row _ _ 1 _ _ _ q2]; rfl
                have f0 := frozen_of_row w6 vb 0 _ _ q2
                have f1 := frozen_of_row w6 vb 1 _ _ q2
                have FS := Lib.hid (two_stores q2 (.string vn) (.string fl))
                have hr := fun (cs : Array Value) (j : Nat) => cell_setRow_same w6 vb j _ cs _ _ q2
                have r0 := hr #[.string vn, .string fl] 0
                have r1 := hr #[.string vn, .string fl] 1
                simp only [List.getElem?_toArray, List.getElem?_cons_zero, List.getElem?_cons_succ] at r0 r1
                have RR0 := Lib.hid r0
                have RR1 := Lib.hid r1
                have BZ : Hid (Below w.heap.size w (w6.setRow vb #[.string vn, .string fl])) := Lib.hid (below_setRow BF.out HVB.out _)
                clear r0 r1 hr q2
                go_wp2_with fail
                rw [FS.out]
                refine bodyPost_ret (by simp [results, Try.results21, go_sem, RR0.out, RR1.out]; try rfl) rfl ?_
                exact ⟨by rw [HF.out]; rfl, BZ.out⟩
              · have HR2 : Hid (((auxG x (ax.drop (q + 1))).map fun v => (v, fl)).or RS = R) := Lib.hid (by
                  have := HR.out
                  rw [if_neg hv] at this
                  exact this)
                have hvb : (vi == x) = false := beq_eq_false_iff_ne.2 hv
                clear HR hv
                go_wp2_with fail
                go_roundg g3
                case measure => omega
                case rel => exact ⟨q + 1, by omega, by go_num, HR2, HB3⟩
    | succ g =>
      have hkn : k < dl := by omega
      have hkl : k < defs.length := by rw [HDL.out]; exact hkn
      obtain ⟨b2, o2, pa, pl, pc, rfl, hlt2, d0, d1, d2, d3⟩ := (HD.out.below BW.out) k hkl
      have HD2 : Hid (defs.drop k = defs[k] :: defs.drop (k + 1)) := Lib.hid (drop_cons hkl)
      generalize defs[k] = d at *
      rw [HD2.out, defG_cons] at HR
      generalize d.idx = di at *
      generalize d.base = db at *
      generalize d.name = dn at *
      have HB3 := Lib.hid (HB.out.alloc HB.out.size (.cells #[.int .i64 di, .bool db, .string dn, .slice pa pl pc] 37))
      clear hlt2 hkl HD2
      by_cases hv : di = x ∧ ¬ (x = 1 ∧ db = true)
      · have HF : Hid (R = some (dn, ⟨#[]⟩)) := Lib.hid (by rw [← HR.out, if_pos hv]; rfl)
        obtain ⟨-, -, q2⟩ := HC.out _ HB3.out
        have BF := Lib.hid (bstep B1.out HB3.out)
        have n2 : (wr.alloc (.cells #[.int .i64 di, .bool db, .string dn, .slice pa pl pc] 37)).cell? ⟨wr.heap.size, 2, none⟩ = some (.string dn) := by rw [cell_of_row _ _ 2 _ _ _ (heap_alloc_new _ _)]; rfl
        have hcase : (di == x) = true ∧ ((x == 1) = false ∨ ((x == 1) = true ∧ db = false)) := by
          refine ⟨by simpa using hv.1, ?_⟩
          rcases Decidable.em (x = 1) with h | h
          · exact .inr ⟨by simpa using h, by
              have := hv.2
              cases db with
              | true => exact absurd ⟨h, rfl⟩ this
              | false => rfl⟩
          · exact .inl (by simpa using h)
        obtain ⟨h1, h2⟩ := hcase
        clear HR hv
        rcases h2 with h2 | ⟨h2, rfl⟩
        all_goals
          go_upto_region 5 with fail
          clear d0 d1 d2 d3 h1 h2
          generalize (wr.alloc _) = w6 at *
          generalize wr.heap.size = ab at *
          have v0 : w6.cell? ⟨vb, 0, none⟩ = some (.string ⟨#[]⟩) := by rw [cell_of_row _ _ 0 _ _ _ q2]; rfl
          have v1 : w6.cell? ⟨vb, 1, none⟩ = some (.string ⟨#[]⟩) := by rw [cell_of_row _ _ 1 _ _ _ q2]; rfl
          have f0 := frozen_of_row w6 vb 0 _ _ q2
          have f1 := frozen_of_row w6 vb 1 _ _ q2
          have FS := Lib.hid (two_stores q2 (.string dn) (.string ⟨#[]⟩))
          have hr := fun (cs : Array Value) (j : Nat) => cell_setRow_same w6 vb j _ cs _ _ q2
          have r0 := hr #[.string dn, .string ⟨#[]⟩] 0
          have r1 := hr #[.string dn, .string ⟨#[]⟩] 1
          simp only [List.getElem?_toArray, List.getElem?_cons_zero, List.getElem?_cons_succ] at r0 r1
          have RR0 := Lib.hid r0
          have RR1 := Lib.hid r1
          have BZ : Hid (Below w.heap.size w (w6.setRow vb #[.string dn, .string ⟨#[]⟩])) := Lib.hid (below_setRow BF.out HVB.out _)
          clear r0 r1 hr q2
          go_wp2_with fail
          rw [FS.out]
          refine bodyPost_ret (by simp [results, Try.results21, go_sem, RR0.out, RR1.out]; try rfl) rfl ?_
          exact ⟨by rw [HF.out]; rfl, BZ.out⟩
      · have HR2 : Hid (((defG x (defs.drop (k + 1))).map fun v => (v, (⟨#[]⟩ : ByteArray))).or (needG x needs) = R) := Lib.hid (by
          have := HR.out
          rw [if_neg hv] at this
          exact this)
        have hcase : (di == x) = false ∨ ((di == x) = true ∧ (x == 1) = true ∧ db = true) := by
          rcases Decidable.em (di = x) with h | h
          · rcases Decidable.em (x = 1 ∧ db = true) with h3 | h3
            · exact .inr ⟨by simpa using h, by simpa using h3.1, h3.2⟩
            · exact absurd ⟨h, h3⟩ hv
          · exact .inl (by simpa using h)
        clear HR hv
        rcases hcase with h1 | ⟨h1, h2, rfl⟩
        all_goals
          go_wp2_with fail
          go_roundg g
          case measure => omega
          case rel => exact ⟨k + 1, by omega, by go_num, HR2, HB3⟩
end Go.Proofs.Ytpilccalgegadaa
