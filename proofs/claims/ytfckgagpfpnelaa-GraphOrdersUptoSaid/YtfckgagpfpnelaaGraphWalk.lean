/- Layer 16, the document's own answer: objects in the order in which they are begun. -/
import Derived.Test.YtfckgagpfpnelaaGraphProg
namespace Go.Proofs.Ytfckgagpfpnelaa
open Go.RowKit
set_option linter.unusedVariables false
set_option linter.unusedSimpArgs false

theorem marks_congr {n : Nat} {l l' : List Nat} (h : ∀ x, x ∈ l ↔ x ∈ l') : marks n l = marks n l' := by
  unfold marks
  apply List.map_congr_left
  intro i _
  congr 1
  simp [h i]
theorem OwnB.congr {w : World} {B g n : Nat} {e : TypeId} {l l' : List Nat} (h : OwnB w B e g n l) (hl : ∀ x, x ∈ l ↔ x ∈ l') : OwnB w B e g n l' := by
  unfold OwnB at h ⊢
  rwa [← marks_congr hl]

/-- a block of three cells -/
def InTri (w : World) (b : Nat) (u v z : Value) (T : TypeId) : Prop := w.heap[b]? = some (.cells #[u, v, z] T)
section
variable {w w' : World} {b B : Nat} {u v z : Value} {T e : TypeId}
theorem InTri.lt (h : InTri w b u v z T) : b < w.heap.size := lt_of_block h
theorem InTri.c0 (h : InTri w b u v z T) : w.cell? ⟨b, 0, none⟩ = some u := by rw [cell_of_row w b 0 _ _ _ h]; rfl
theorem InTri.c1 (h : InTri w b u v z T) : w.cell? ⟨b, 1, none⟩ = some v := by rw [cell_of_row w b 1 _ _ _ h]; rfl
theorem InTri.c2 (h : InTri w b u v z T) : w.cell? ⟨b, 2, none⟩ = some z := by rw [cell_of_row w b 2 _ _ _ h]; rfl
theorem InTri.free (h : InTri w b u v z T) (j : Nat) : w.frozen? ⟨b, j, none⟩ = false := frozen_of_row w b j _ _ h
theorem InTri.alloc (h : InTri w b u v z T) (o : Obj) : InTri (w.alloc o) b u v z T := (heap_alloc_old w o h.lt).trans h
theorem InTri.setOther (h : InTri w b u v z T) {a : Addr} (ha : a.block ≠ b) (x : Value) : InTri (w.setCell a x) b u v z T := (heap_setCell_other w a b x (Ne.symm ha)).trans h
theorem InTri.set2 (h : InTri w b u v z T) (x : Value) : InTri (w.setCell ⟨b, 2, none⟩ x) b u v x T := by
  unfold InTri
  rw [heap_setCell_same w b 2 _ _ x h]
  rfl
theorem InTri.grown (h : InTri w b u v z T) {row : Option Nat} (hg : w.grownBy w' row) (hne : row ≠ some b) : InTri w' b u v z T := (hg.block b h.lt (fun e => hne e.symm)).trans h
theorem InTri.apart (h : InTri w b u v z T) {sz n : Nat} {x : Value} {xs : List Value} (ho : w.ownsRow B e sz x n xs) (hne : e ≠ T) : x.ownBlock ≠ some b := by
  intro e1
  obtain ⟨-, h2⟩ := ho
  rcases h2 with ⟨rfl, -⟩ | ⟨g, cap, cur, rfl, -, hg, -⟩
  · cases e1
  · have : g = b := by simpa [Value.ownBlock] using e1
    subst this
    unfold InTri at h
    rw [h] at hg
    simp only [Option.some.injEq, Obj.cells.injEq] at hg
    exact hne hg.2.1.symm
end

/-- the walker in memory -/
structure Wk (w0 : World) (n wb lb : Nat) (da : Option Addr) (dc : Nat) (s : St) (w : World) : Prop where
  box : ∃ al cl, InTri w wb (.slice da n dc) (.slice (some ⟨lb, 0, none⟩) n n) (.slice al s.out.length cl) 40 ∧ OwnI w w0.heap.size 3 .i64 (.slice al s.out.length cl) (toI s.out)
  marks : OwnB w w0.heap.size 4 lb n s.had
  good : Good n s.had
  outLe : s.out.length ≤ n
  blk : w0.heap.size ≤ wb
  below : Below w0.heap.size w0 w

theorem Wk.mark {w0 w : World} {n wb lb : Nat} {da : Option Addr} {dc : Nat} {s : St} (h : Wk w0 n wb lb da dc s w) {x : Nat} (hx : x < n) (hn : x ∉ s.had) : Wk w0 n wb lb da dc { s with had := x :: s.had } (w.setCell ⟨lb, x, none⟩ (.bool true)) := by
  obtain ⟨al, cl, hb, ho⟩ := h.box
  have hne : wb ≠ lb := fun e1 => hb.apart h.marks (by decide) (by rw [e1]; rfl)
  refine ⟨⟨al, cl, hb.setOther (Ne.symm hne) _, ho.setO (by
    rcases own_apart h.marks ho (by decide) with h1 | h1
    · rw [h1]; simp
    · exact h1) _⟩, (h.marks.set hx).congr (fun y => by simp [or_comm]), ⟨List.nodup_cons.2 ⟨hn, h.good.1⟩, fun y hy => ?_⟩, h.outLe, h.blk, h.below.setCell h.marks.blockGe.1 _⟩
  rcases List.mem_cons.1 hy with rfl | hy
  · exact hx
  · exact h.good.2 y hy
theorem Wk.tell {w0 w w' : World} {n wb lb : Nat} {da : Option Addr} {dc : Nat} {s : St} {al : Option Addr} {cl : Nat} (h : Wk w0 n wb lb da dc s w) {x : Nat} (hl : s.out.length + 1 ≤ n)
    (hb : InTri w wb (.slice da n dc) (.slice (some ⟨lb, 0, none⟩) n n) (.slice al s.out.length cl) 40) (hown : OwnI w w0.heap.size 3 .i64 (.slice al s.out.length cl) (toI s.out))
    (hg : (w.alloc (.cells #[.int .i64 (x : Int)] 3)).grownBy w' (Value.slice al s.out.length cl).ownBlock) {ad : Option Addr} {c : Nat} (ho : OwnI w' w0.heap.size 3 .i64 (.slice ad (s.out.length + 1) c) (toI s.out ++ [(x : Int)])) :
    Wk w0 n wb lb da dc { s with out := s.out ++ [x] } (w'.setCell ⟨wb, 2, none⟩ (.slice ad (s.out.length + 1) c)) := by
  have a1 := hb.apart hown (show 3 ≠ 40 by decide)
  have o1 : OwnI (w.alloc (.cells #[.int .i64 (x : Int)] 3)) w0.heap.size 3 .i64 (.slice al s.out.length cl) (toI s.out) := hown.allocO _
  have hb1 := (hb.alloc (.cells #[.int .i64 (x : Int)] 3)).grown hg a1
  have m1 := (h.marks.alloc (.cells #[.int .i64 (x : Int)] 3)).grown hg o1 (by decide)
  have a2 := hb1.apart ho (show 3 ≠ 40 by decide)
  have hne : wb ≠ lb := fun e1 => hb1.apart m1 (by decide) (by rw [e1]; rfl)
  have hT : toI s.out ++ [(x : Int)] = toI (s.out ++ [x]) := by simp [toI]
  rw [hT] at ho
  have hbl : Below w0.heap.size w0 (w.alloc (.cells #[.int .i64 (x : Int)] 3)) := h.below.alloc h.below.size _
  have hb2 := hbl.grown hg hbl.size (fun j hj => (World.ownsRow.lt o1 j hj).1)
  refine ⟨⟨ad, c, ?_, ?_⟩, m1.setOther hne _, h.good, by simpa using hl, h.blk, hb2.setCell h.blk _⟩
  · simpa using hb1.set2 (.slice ad (s.out.length + 1) c)
  · simpa using ho.setO (a := ⟨wb, 2, none⟩) a2 (.slice ad (s.out.length + 1) c)
theorem Wk.same {w0 w : World} {n wb lb : Nat} {da : Option Addr} {dc : Nat} {s s' : St} (h : Wk w0 n wb lb da dc s w) (h1 : s'.had = s.had) (h2 : s'.out = s.out) : Wk w0 n wb lb da dc s' w := by
  obtain ⟨b, m, g, o, k, bl⟩ := h
  exact ⟨by rw [h2]; exact b, by rw [h1]; exact m, by rw [h1]; exact g, by rw [h2]; exact o, k, bl⟩

theorem dfs_room {deps : List (List Int)} {s : St} {x : Nat} (hs : Told deps s) (hx : x < deps.length) (hn : x ∉ s.had) :
    (((deps.getD x []).foldl (dfs deps) { s with had := x :: s.had }).out).length + 1 ≤ deps.length := by
  have h1 := dfs_told _ s (x : Int) hs (Nat.le_refl _)
  rw [dfs_eq hs.good, if_pos (isObj_iff.2 ⟨by omega, by omega⟩), if_pos (by simpa using hn)] at h1
  have : Good deps.length ((((deps.getD x []).foldl (dfs deps) { s with had := x :: s.had }).out) ++ [x]) := ⟨by simpa using h1.nodup, fun y hy => h1.good.2 y (h1.sub y (by simpa using hy))⟩
  have := nodup_le this
  simpa using this

set_option maxRecDepth 100000 in
set_option maxHeartbeats 4000000 in
theorem walk_any (w0 : World) (da : Option Addr) (dc : Nat) (deps : List (List Int)) (n wb lb : Nat) (hnn : deps.length = n) (hn : n ≤ 1048576) (hd : DRow w0 da deps) : ∀ (m : Nat) (s : St) (w : World) (x : Int), n - s.had.length ≤ m → Told deps s → Wk w0 n wb lb da dc s w → -9223372036854775808 ≤ x → x < 9223372036854775808 →
    Calls Try.prog 25 #[.pointer (some ⟨wb, 0, none⟩), .int .i64 x] w fun e w' => e = .returned (.tuple #[]) ∧ Wk w0 n wb lb da dc (dfs deps s x) w' := by
  intro m
  induction m using Nat.strongRecOn with
  | _ m ih =>
    intro s w x hm hT hw hx1 hx2
    have IH := Lib.hid (fun (t : St) (w' : World) (y : Int) (h1 : n - t.had.length < m) (hT : Told deps t) (hw : Wk w0 n wb lb da dc t w') (h2 : -9223372036854775808 ≤ y) (h3 : y < 9223372036854775808) => ih _ h1 t w' y (Nat.le_refl _) hT hw h2 h3)
    clear ih
    have HD := Lib.hid hd
    have HN := Lib.hid hnn
    have HW := Lib.hid hw
    have HT := Lib.hid hT
    obtain ⟨al, cl, hbox, hown⟩ := hw.box
    have c0 := hbox.c0
    have c1 := hbox.c1
    have hmarks := Lib.hid hw.marks
    have hgood := hw.good
    rw [← hnn] at hgood
    have HGD := Lib.hid hgood
    clear hd hw hT hown hgood
    cases ho : isObj n x with
    | false =>
      have HE : Hid (dfs deps s x = s) := Lib.hid (dfs_no (by rw [HN.out]; exact ho))
      have hcase : x < 0 ∨ (0 ≤ x ∧ (n : Int) ≤ x) := by
        unfold isObj at ho
        by_cases h : 0 ≤ x
        · right
          refine ⟨h, ?_⟩
          simp [h] at ho
          omega
        · left; omega
      clear ho hbox hnn
      rcases hcase with h | ⟨h, h'⟩
      · go_enter Try.func25, Try.ntmps25
        go_wp2
        go_returns
        rw [HE.out]
        exact ⟨rfl, HW.out⟩
      · have h2 : ¬ x < 0 := by omega
        go_enter Try.func25, Try.ntmps25
        go_wp2
        go_returns
        rw [HE.out]
        exact ⟨rfl, HW.out⟩
    | true =>
      obtain ⟨h0, hxn⟩ := isObj_iff.1 ho
      obtain ⟨y, rfl⟩ := Int.eq_ofNat_of_zero_le h0
      rw [Int.toNat_natCast] at hxn
      have hmk := hmarks.out.cell hxn
      by_cases hy : y ∈ s.had
      · have HE : Hid (Wk w0 n wb lb da dc (dfs deps s (y : Int)) w) := Lib.hid (by
          by_cases hyo : y ∈ s.out
          · rw [dfs_had_out HGD.out (by rw [HN.out]; exact hxn) hy hyo]
            exact HW.out
          · rw [dfs_again HGD.out (by rw [HN.out]; exact hxn) hy hyo]
            exact HW.out.same rfl rfl)
        have hdy : decide (y ∈ s.had) = true := by rw [decide_eq_true_eq]; exact hy
        rw [hdy] at hmk
        clear hdy hy ho hbox hnn
        go_enter Try.func25, Try.ntmps25
        go_wp2
        go_returns
        exact ⟨rfl, HE.out⟩
      · have hdy : decide (y ∈ s.had) = false := by rw [decide_eq_false_iff_not]; exact hy
        rw [hdy] at hmk
        have hmf := hmarks.out.free y
        have hlt := nodup_le (HW.out.mark hxn hy).good
        simp only [List.length_cons] at hlt
        have HM := Lib.hid (HW.out.mark hxn hy)
        have HE : Hid (dfs deps s (y : Int) = { ((deps.getD y []).foldl (dfs deps) { s with had := y :: s.had }) with out := ((deps.getD y []).foldl (dfs deps) { s with had := y :: s.had }).out ++ [y] }) := Lib.hid (by
          rw [dfs_eq HGD.out, if_pos (isObj_iff.2 ⟨by omega, by rw [HN.out]; omega⟩), if_pos (by simpa using hy)]
          simp)
        have HRM := Lib.hid (dfs_room HT.out (by rw [HN.out]; exact hxn) hy)
        have HT0 : Hid (Told deps { s with had := y :: s.had }) := Lib.hid ⟨by rw [HN.out]; exact HM.out.good, HT.out.nodup, (fun z hz => by simp [HT.out.sub z hz]), (fun z hz q hq => by simp [HT.out.edges z hz q hq]), HT.out.topo⟩
        have HS0 : Hid (s.had.length + 1 ≤ ({ s with had := y :: s.had } : St).had.length) := Lib.hid (by simp)
        have hne : wb ≠ lb := fun e1 => hbox.apart hmarks.out (by decide) (by rw [e1]; rfl)
        have hne' := Ne.symm hne
        clear hdy hy ho hnn hx1 hx2
        rw [HE.out]
        generalize ({ s with had := y :: s.had } : St) = s1 at *
        obtain ⟨b2, o2, ai, ci, rfl, hlt3, hcdd, hri, hxi, hli⟩ := HD.out y (by rw [HN.out]; exact hxn)
        have HRI := Lib.hid hri
        have HXI := Lib.hid hxi
        have HCD := Lib.hid hcdd
        clear hri hxi hcdd
        generalize deps.getD y [] = xs at *
        go_enter Try.func25, Try.ntmps25
        go_wp2
        go_loopg [4] xs.length (fun g i wr => ∃ k : Nat, k + g = xs.length ∧ i = .int .i64 (k : Int) ∧ Hid (Wk w0 n wb lb (some ⟨b2, o2, none⟩) dc ((xs.take k).foldl (dfs deps) s1) wr) ∧ Hid (Told deps ((xs.take k).foldl (dfs deps) s1)) ∧ Hid (s1.had.length ≤ ((xs.take k).foldl (dfs deps) s1).had.length))
        case atStart => exact ⟨0, by omega, rfl, HM, HT0, Lib.hid (Nat.le_refl _)⟩
        case round =>
          obtain ⟨k, hk, rfl, WK, TK, LK⟩ := hrel
          have hsuc : Hid (k < xs.length → (xs.take (k + 1)).foldl (dfs deps) s1 = dfs deps ((xs.take k).foldl (dfs deps) s1) (xs.getD k 0)) := Lib.hid (fun h => by
            rw [List.take_succ_eq_append_getElem h, List.foldl_append, getD_at h]; rfl)
          have HALL : Hid (k = xs.length → (xs.take k).foldl (dfs deps) s1 = xs.foldl (dfs deps) s1) := Lib.hid (fun h => by rw [h, List.take_length])
          obtain ⟨T, hTT⟩ : ∃ T, (xs.take k).foldl (dfs deps) s1 = T := ⟨_, rfl⟩
          rw [hTT] at WK TK LK hsuc HALL
          clear hTT
          obtain ⟨al', cl', hbox', hown'⟩ := WK.out.box
          have d0 := hbox'.c0
          have hcd := (WK.out.below.cell (p := ⟨b2, o2 + y, none⟩) hlt3).trans HCD.out
          cases gk with
          | zero =>
            have hke : k = xs.length := by omega
            have HTA := Lib.hid (HALL.out hke)
            subst hke
            rw [← HTA.out] at HRM
            have d2 := hbox'.c2
            have df := hbox'.free 2
            have HBX := Lib.hid hbox'
            have HOW := Lib.hid hown'
            have HA3 := Lib.hid (hbox'.apart hown' (show 3 ≠ 40 by decide))
            have hol := WK.out.outLe
            clear hbox' hown'
            go_wp2_with (at_builtin; go_loud (refine wpList_grow rfl (.tmp 59) (.tmp 61) slice64 rfl w0.heap.size (.slice al' T.out.length cl') (toI T.out) T.out.length (y : Int) rfl (by rfl) (toI_length _) HOW.out (by unfold maxLen; omega) (by omega) WK.out.below.size ?_); intro ad5 c5 w6 hown5 hgr5; have O5 := Lib.hid hown5; have G5 := Lib.hid hgr5; have hb6 := ((HBX.out.alloc (.cells #[.int .i64 (y : Int)] 3)).grown hgr5 HA3.out); have hc6 := hb6.c2; have hf6 := hb6.free 2; clear hown5 hgr5 hb6)
            go_returns
            rw [← HTA.out]
            exact ⟨rfl, WK.out.tell (by rw [← HN.out]; exact HRM.out) HBX.out HOW.out G5.out O5.out⟩
          | succ g =>
            have hlk : k < xs.length := by omega
            obtain ⟨b3, o3, rfl, hc3⟩ := (HRI.out.below WK.out.below) k hlk
            have hxb := HXI.out.at hlk
            have HSU := Lib.hid (hsuc.out hlk)
            generalize xs.getD k 0 = z at *
            have hms : n - T.had.length < m := by have := LK.out; have := HS0.out; omega
            clear hbox' hown'
            go_wp2_with fail
            refine (IH.out T wr z hms TK.out WK.out hxb.1 hxb.2).mono ?_
            rintro e w6 ⟨rfl, hw6⟩
            have W6 := Lib.hid hw6
            clear hw6
            go_wp2
            go_roundg g
            case measure => omega
            case rel =>
              refine ⟨k + 1, by omega, by go_num, Lib.hid ?_, Lib.hid ?_, Lib.hid ?_⟩
              · rw [HSU.out]; exact W6.out
              · rw [HSU.out]; exact dfs_told _ T z TK.out (Nat.le_refl _)
              · rw [HSU.out]; exact Nat.le_trans LK.out (dfs_grown TK.out.good).len
end Go.Proofs.Ytfckgagpfpnelaa
