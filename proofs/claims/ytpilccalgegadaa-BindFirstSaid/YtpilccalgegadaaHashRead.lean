/- Layer 7: numbers of 4 bytes in a file. -/
import Derived.Test.YtpilccalgegadaaHashMath
import Derived.Test.YtpilccalgegadaaOwnS
import Derived.Laws.OwnMore
import Derived.OwnWalk
namespace Go.Proofs.Ytpilccalgegadaa
open Go.RowKit
set_option linter.unusedVariables false
set_option linter.unusedSimpArgs false

theorem slice32 : IntSlice Try.prog 71 66 .u32 4 := ⟨Try.underlying71, by kernel_rfl⟩

/-- make([]T, n), T a kind of numbers -/
theorem wpList_make_nums {P : Program} {w : World} {ops : Array Oper} {rest : List Oper} {o : Oper} {a : Act} {Q : Exit → Act → World → Prop} (hgd : o.guard = none) (l c : Operand) {t e : TypeId} {k : IntKind} {bytes : Nat}
    (F : IntSlice P t e k bytes) (ho : o.op = Op.makeSlice t l c) (B : Nat) (w0 : World) (n : Nat) (kl kc : IntKind) (L C : Int)
    (hl : a.eval l = .int kl L) (hc : a.eval c = .int kc C) (hL : L = (n : Int)) (hC : C = (n : Int)) (hn : n * bytes ≤ 140737488355328) (hm : n ≤ maxLen) (bel : Below B w0 w) (hb : B ≤ w.heap.size)
    (h : ∀ g w', OwnI w' B e k (.slice (some ⟨g, 0, none⟩) n n) (List.replicate n 0) → w.heap.size ≤ g → Below B w0 w' → Below w.heap.size w w' → wpList P ops Q rest (a.put o.dst (.slice (some ⟨g, 0, none⟩) n n)) w') : wpList P ops Q (o :: rest) a w := by
  obtain ⟨ht, hinfo⟩ := F
  obtain ⟨i, hi, hz0, hz1, hz2⟩ := info_parts hinfo
  refine wpList_make_full w hgd l c t ho B e i (.int k 0) 1 ht hi hz0 hz1 kl kc L C n hl hc hL hC (by rw [hz2]; rw [Nat.mul_comm]; omega) hm hb ?_
  intro w' hown hgr
  refine h w.heap.size w' ?_ (Nat.le_refl _) (bel.grown hgr hb (fun j hj => by cases hj)) ((Below.refl _ _).grown hgr (Nat.le_refl _) (fun j hj => by cases hj))
  unfold OwnI
  rw [List.length_replicate, List.map_replicate]
  have e1 : (madeCells (Value.int k 0).cells (n * 1)).toList = List.replicate n (.int k 0) := by
    rw [Nat.mul_one]
    exact toList_madeCells_one (.int k 0) n
  rw [e1] at hown
  exact hown

/-- a row of which the first are written -/
def laidTo (f : Nat → Nat) (n k : Nat) : List Int := (List.range n).map fun (i : Nat) => if i < k then (f i : Int) else 0
theorem laidTo_length (f : Nat → Nat) (n k : Nat) : (laidTo f n k).length = n := by simp [laidTo]
theorem laidTo_zero (f : Nat → Nat) (n : Nat) : laidTo f n 0 = List.replicate n 0 := by
  apply List.ext_getElem?
  intro j
  by_cases hj : j < n
  · simp [laidTo, hj]
  · rw [List.getElem?_eq_none (by rw [laidTo_length]; omega), List.getElem?_eq_none (by simp; omega)]
theorem laidTo_all (f : Nat → Nat) (n : Nat) : laidTo f n n = toI ((List.range n).map f) := by
  unfold laidTo toI
  rw [List.map_map]
  apply List.map_congr_left
  intro i hi
  rw [if_pos (List.mem_range.1 hi)]
  rfl
theorem laidTo_set {f : Nat → Nat} {n k : Nat} (h : k < n) : (laidTo f n k).set k (f k : Int) = laidTo f n (k + 1) := by
  apply List.ext_getElem?
  intro j
  rw [List.getElem?_set]
  by_cases hj : j < n
  · by_cases hjk : k = j
    · subst hjk
      rw [if_pos rfl, if_pos (by rw [laidTo_length]; exact hj)]
      simp [laidTo, hj]
    · rw [if_neg hjk]
      simp only [laidTo, List.getElem?_map, List.getElem?_range hj, Option.map_some]
      by_cases h1 : j < k
      · rw [if_pos h1, if_pos (by omega)]
      · rw [if_neg h1, if_neg (by omega)]
  · have hkj : k ≠ j := by omega
    rw [if_neg hkj, List.getElem?_eq_none (by rw [laidTo_length]; omega), List.getElem?_eq_none (by rw [laidTo_length]; omega)]
theorem laidTo_get {f : Nat → Nat} {n k : Nat} (h : k < n) : (laidTo f n k)[k]? = some 0 := by simp [laidTo, h]

theorem OwnI.put2 {w : World} {B g n cap : Nat} {e : TypeId} {k : IntKind} {xs : List Int} (h : OwnI w B e k (.slice (some ⟨g, 0, none⟩) n cap) xs) (hn : xs.length = n) (j : Nat) (y : Int) : OwnI (w.setCell ⟨g, j, none⟩ (.int k y)) B e k (.slice (some ⟨g, 0, none⟩) n cap) (xs.set j y) := by
  subst hn
  have := (World.ownsRow.stored h j (.int k y)).1
  unfold OwnI
  rw [List.length_set, List.map_set]
  exact this
theorem OwnI.len {w : World} {B n cap : Nat} {e : TypeId} {k : IntKind} {ad : Option Addr} {xs : List Int} (h : OwnI w B e k (.slice ad n cap) xs) : n = xs.length := by
  obtain ⟨a, c, hv, -⟩ := h.row
  simp only [Value.slice.injEq] at hv
  exact hv.2.1
theorem OwnI.get2 {w : World} {B g n cap : Nat} {e : TypeId} {k : IntKind} {xs : List Int} (h : OwnI w B e k (.slice (some ⟨g, 0, none⟩) n cap) xs) (j : Nat) (y : Int) (hj : xs[j]? = some y) : w.cell? ⟨g, j, none⟩ = some (.int k y) := by
  have he := h.len
  subst he
  have := World.ownsRow.cells h (g := g) rfl j (.int k y) (by simp [hj])
  rw [WideShapes.add_plain] at this
  simpa using this
theorem OwnI.free2 {w : World} {B g m cap : Nat} {e : TypeId} {k : IntKind} {xs : List Int} (h : OwnI w B e k (.slice (some ⟨g, 0, none⟩) m cap) xs) (j : Nat) : w.frozen? ⟨g, j, none⟩ = false := by
  have hn := h.len
  subst hn
  exact World.ownsRow.frozenAt h j
theorem OwnI.ge2 {w : World} {B g n cap : Nat} {e : TypeId} {k : IntKind} {xs : List Int} (h : OwnI w B e k (.slice (some ⟨g, 0, none⟩) n cap) xs) : B ≤ g ∧ g < w.heap.size := World.ownsRow.lt h g rfl

/-- numbers that are answered -/
def NumsAns (T : TypeId) (k : IntKind) (R : List Nat) (w : World) (e : Ending) (w' : World) : Prop :=
  ∃ ad c, e = .returned (.slice ad R.length c) ∧ OwnI w' w.heap.size T k (.slice ad R.length c) (toI R) ∧ Below w.heap.size w w'

set_option maxRecDepth 100000 in
set_option maxHeartbeats 2000000 in
theorem split_any (a : Option Addr) (cap : Nat) (bs : List Nat) (w : World) (h : BRow w a bs) (hl : bs.length ≤ 1048576) (hc : bs.length ≤ cap) :
    Calls Try.prog 27 #[.slice a bs.length cap] w (NumsAns 66 .u32 (splitF bs) w) := by
  have H := Lib.hid h
  have HQ : Hid (∀ k, quadAt bs k < 4294967296) := Lib.hid (fun k => quadAt_lt h.2 k)
  have HN := Lib.hid (fun (w1 : World) (b o c : Nat) (q : List Nat) (hq : BRow w1 (some ⟨b, o, none⟩) q) (h4 : q.length = 4) => by
    have := number_any (some ⟨b, o, none⟩) c q w1 hq (by omega)
    rwa [h4] at this)
  obtain ⟨m, hm⟩ : ∃ m, bs.length / 4 = m := ⟨_, rfl⟩
  have HL : Hid ((splitF bs).length = m) := Lib.hid (by rw [splitF_length, hm])
  have HR : Hid (laidTo (quadAt bs) m m = toI (splitF bs)) := Lib.hid (by rw [laidTo_all, splitF, hm])
  have hm2 : m ≤ 1048576 := by omega
  have HM := Lib.hid hm
  have hqm : ((bs.length : Int)).tdiv 4 = (m : Int) := by
    rw [Int.tdiv_eq_ediv_of_nonneg (by omega)]; omega
  clear h hm
  go_enter Try.func27, Try.ntmps27
  go_wp2_with (at_make; go_loud (refine wpList_make_nums rfl (.tmp 7) (.tmp 7) slice32 rfl w.heap.size w m .i64 .i64 (m : Int) (m : Int) rfl rfl rfl rfl (by omega) (by unfold maxLen; omega) (Below.refl _ _) (Nat.le_refl _) ?_); intro g w4 ho4 hg4 hb4 hb4'; have O4 := Lib.hid ho4; have B4 := Lib.hid hb4; clear ho4 hg4 hb4 hb4')
  go_loopg [11] m (fun gg i wr => ∃ k : Nat, k + gg = m ∧ i = .int .i64 (k : Int) ∧ Hid (OwnI wr w.heap.size 66 .u32 (.slice (some ⟨g, 0, none⟩) m m) (laidTo (quadAt bs) m k)) ∧ Hid (Below w.heap.size w wr))
  case atStart => exact ⟨0, by omega, rfl, by rw [laidTo_zero]; exact O4, B4⟩
  case round =>
    obtain ⟨k, hk, rfl, OW, BW⟩ := hrel
    cases gk with
    | zero =>
      have hke : k = m := by omega
      subst hke
      go_wp2
      go_ret
      have ho := OW.out
      rw [HR.out] at ho
      refine ⟨some ⟨g, 0, none⟩, k, by rw [HL.out]; rfl, by rw [HL.out]; exact ho, BW.out⟩
    | succ gg =>
      have hlk : k < m := by omega
      obtain ⟨b, o, rfl, -, -, -⟩ := H.out.at (i := 4 * k) (by have := HM.out; omega)
      have hk4 : 4 * k + 4 ≤ bs.length := by have := HM.out; omega
      have hne : ¬ cap = 4 * k := by omega
      have hc0 := OW.out.get2 k 0 (laidTo_get hlk)
      have hf0 := OW.out.free2 k
      have hcut := (H.out.below BW.out).cut (4 * k) 4
      simp only [Option.map_some, WideShapes.add_plain] at hcut
      have h4 : ((bs.drop (4 * k)).take 4).length = 4 := by simp; omega
      have HNK := Lib.hid (HN.out wr b (o + 4 * k) (cap - 4 * k) ((bs.drop (4 * k)).take 4) hcut h4)
      have hq1 := HQ.out k
      have HQK : Hid (numOf ((bs.drop (4 * k)).take 4) = quadAt bs k) := Lib.hid rfl
      have HSET := Lib.hid (laidTo_set (f := quadAt bs) hlk)
      rw [HQK.out] at HNK
      have HPUT := Lib.hid (OW.out.put2 (laidTo_length _ _ _) k (quadAt bs k : Int))
      rw [HSET.out] at HPUT
      generalize quadAt bs k = q at *
      clear hcut h4 HSET HQK
      go_wp2_with (first | (go_at_call 26; refine (Hid.out HNK).mono ?_; rintro e w' ⟨rfl, rfl⟩))
      go_roundg gg
      case measure => omega
      case rel => exact ⟨k + 1, by omega, by go_num, HPUT, Lib.hid (BW.out.setCell OW.out.ge2.1 _)⟩
end Go.Proofs.Ytpilccalgegadaa
