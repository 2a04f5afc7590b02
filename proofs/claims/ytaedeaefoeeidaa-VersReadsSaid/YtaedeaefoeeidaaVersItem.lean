/- Layer 8: the reader of versions in memory: what it reads from, and the map of what was told. -/
import Derived.Test.YtaedeaefoeeidaaVersF
import Derived.Deep.RegionHeld3
import Derived.Deep.QuietTactic
import Derived.BigQuiet
import Derived.Test.YtaedeaefoeeidaaAdd64
namespace Go.Proofs.Ytaedeaefoeeidaa
open Go.RowKit Go.Maps
set_option linter.unusedVariables false
set_option linter.unusedSimpArgs false

theorem lawInt : Keyed Try.prog 3 := int_keyed Try.underlying3
theorem zeroUnit (w : World) : (zeroValue 95).run Try.prog w = .ok (.agg #[]) w := by kernel_rfl
def keyL (x : Nat) : Lit := .int .i64 (x : Int)
def setN (told : List Nat) : DataW Unit := setOf (.agg []) (told.map keyL)
theorem keyL_key (x : Nat) : WideAt.IsKeyLit (keyL x) := trivial
theorem keyL_of {x : Nat} (h : x < 9223372036854775808) : keyOf Try.prog 3 (.int .i64 (x : Int)) = some (keyL x) := keyOf_int_mk Try.underlying3 (WalkArith.wf_i64 (by omega))
theorem setN_snoc (told : List Nat) (x : Nat) : setN (told ++ [x]) = (setN told).put (keyL x) (.agg []) := by
  unfold setN
  rw [List.map_append, List.map_cons, List.map_nil, setOf_snoc]
theorem has_setN (told : List Nat) (x : Nat) : Maps.has (setN told) (keyL x) = decide (x ∈ told) := by
  unfold setN
  rw [has_setOf _ _ _ (fun y hy => by
    obtain ⟨z, -, rfl⟩ := List.mem_map.1 hy
    exact keyL_key z)]
  rw [Bool.eq_iff_iff, List.any_eq_true, decide_eq_true_eq]
  constructor
  · rintro ⟨y, hy, hs⟩
    obtain ⟨z, hz, rfl⟩ := List.mem_map.1 hy
    have : z = x := by
      simp [keyL, Lit.sameKey] at hs
      omega
    subst this
    exact hz
  · intro h
    exact ⟨keyL x, List.mem_map.2 ⟨x, h, rfl⟩, by simp [keyL, Lit.sameKey]⟩

/-- the map of what was told -/
def MapN (w : World) (B : Nat) (told : List Nat) : Prop := w.ownsMap Try.prog 3 (unitElem (H := Unit)) B told.length (setN told) ∧ ToldOk told

/-- where the reader is, and what it reads from -/
structure RD where
  R : Nat
  B : Nat
  a : Option Addr
  cap : Nat
  bs : List Nat
  ty : Int
  en : Int
  p : Option Addr
  pc : Nat
  ps : List PT
  sa : Option Addr
  sc : Nat
  ss : List Nat
def RD.cells (r : RD) : Array Value := #[.slice r.a r.bs.length r.cap, .int .i64 r.ty, .int .u64 r.en, .slice r.p r.ps.length r.pc, .slice r.sa r.ss.length r.sc, .map (some r.B)]
structure RD.fit (r : RD) : Prop where
  hbl : r.bs.length ≤ 140737488351232
  hbc : r.bs.length ≤ r.cap
  hbn : r.a = none → r.bs.length = 0 ∧ r.cap = 0
  hl : r.ps.length ≤ 140737488351232
  ssl : r.ss.length ≤ 1048576
  ssc : r.ss.length ≤ r.sc
structure RD.ok (r : RD) (w : World) : Prop where
  box : w.heap[r.R]? = some (.cells r.cells 54)
  hb : BRow w r.a r.bs
  h : PRow w r.p r.ps
  hs : BRow w r.sa r.ss
  fit : r.fit
  isMap : ∃ es c, w.heap[r.B]? = some (.map es c)

theorem cell_no_map {w : World} {b : Nat} {es : Array MapEntry} {c : Nat} (h : w.heap[b]? = some (.map es c)) (o : Nat) {v : Value} : w.cell? ⟨b, o, none⟩ = some v → False := by
  intro h2
  simp [World.cell?, h] at h2

/-- all but the map stays -/
def Kp (B : Nat) (w w' : World) : Prop := w.grownBy w' (some B)
theorem Kp.refl (B : Nat) (w : World) : Kp B w w := World.grownBy.refl _ _
theorem Kp.below {B : Nat} {w w' : World} (h : Below w.heap.size w w') : Kp B w w' := ⟨h.os, h.tape, h.output, h.size, fun i hi _ => h.block i hi⟩
theorem Kp.trans {B : Nat} {a b c : World} (h : Kp B a b) (k : Kp B b c) : Kp B a c := World.grownBy.trans h k
theorem Kp.alloc {B : Nat} {a w : World} (h : Kp B a w) (o : Obj) : Kp B a (w.alloc o) := h.trans (Kp.below ((Below.refl _ _).alloc (Nat.le_refl _) _))
theorem Kp.drew {B : Nat} {a w : World} (h : Kp B a w) : Kp B a w.drew := ⟨h.os, h.tape, h.output, h.size, h.block⟩
theorem Kp.set {B : Nat} {a w : World} (h : Kp B a w) {q : Addr} (hq : a.heap.size ≤ q.block) (u : Value) : Kp B a (w.setCell q u) :=
  ⟨h.os, h.tape, h.output, by have := h.size; simpa [World.setCell] using this, fun i hi hne => (Below.heap_setCell _ _ _ _ (by omega)).trans (h.block i hi hne)⟩
theorem Kp.grown {B : Nat} {a w w' : World} (h : Kp B a w) {row : Option Nat} (hg : w.grownBy w' row) (hr : ∀ k, row = some k → a.heap.size ≤ k) : Kp B a w' :=
  ⟨hg.os.trans h.os, hg.tape.trans h.tape, hg.output.trans h.output, Nat.le_trans h.size hg.size, fun i hi hne => (hg.block i (Nat.lt_of_lt_of_le hi h.size) (fun e => by have := hr i e.symm; omega)).trans (h.block i hi hne)⟩

theorem RD.ok.kept {r : RD} {w w' : World} (h : r.ok w) (k : Kp r.B w w') (hm : ∃ es c, w'.heap[r.B]? = some (.map es c)) : r.ok w' := by
  obtain ⟨es, c, hB⟩ := h.isMap
  have far : ∀ b o v, w.cell? ⟨b, o, none⟩ = some v → w'.cell? ⟨b, o, none⟩ = some v := fun b o v hv =>
    k.cell hv (fun e => by
      simp only [Option.some.injEq] at e
      subst e
      exact cell_no_map hB o hv)
  have brow : ∀ (a : Option Addr) (xs : List Nat), BRow w a xs → BRow w' a xs := fun a xs hr => ⟨fun i hi => by
    obtain ⟨b, o, e, hc⟩ := hr.1 i hi
    exact ⟨b, o, e, far b _ _ hc⟩, hr.2⟩
  have hne : some r.R ≠ some r.B := fun e => by
    simp only [Option.some.injEq] at e
    have h1 := h.box
    rw [e, hB] at h1
    cases h1
  refine ⟨(k.block r.R (lt_of_block h.box) hne).trans h.box, brow _ _ h.hb, ?_, brow _ _ h.hs, h.fit, hm⟩
  intro i hi
  obtain ⟨hw, b, o, e, hlt, hc⟩ := h.h i hi
  refine ⟨hw, b, o, e, Nat.lt_of_lt_of_le hlt k.size, fun j hj => ?_⟩
  rw [← hc j hj]
  have hcs : r.ps[i].cells[j]? ≠ none := by
    rcases (show j = 0 ∨ j = 1 ∨ j = 2 ∨ j = 3 ∨ j = 4 ∨ j = 5 ∨ j = 6 by omega) with rfl | rfl | rfl | rfl | rfl | rfl | rfl <;> simp [PT.cells]
  obtain ⟨v, hv⟩ := Option.ne_none_iff_exists'.1 hcs
  have hcv := hc j hj
  rw [hv] at hcv
  rw [far _ _ _ hcv, hcv]
theorem MapN.isMap {w : World} {B : Nat} {told : List Nat} (h : MapN w B told) : ∃ es c, w.heap[B]? = some (.map es c) := by
  obtain ⟨es, c, hb, -⟩ := h.1
  exact ⟨es, c, hb⟩
theorem MapN.lt {w : World} {B : Nat} {told : List Nat} (h : MapN w B told) : B < w.heap.size := by
  obtain ⟨es, c, hb⟩ := h.isMap
  exact lt_of_block hb
theorem MapN.kept {w w' : World} {B : Nat} {told : List Nat} {row : Option Nat} (h : MapN w B told) (hg : w.grownBy w' row) (hne : some B ≠ row) : MapN w' B told := ⟨World.ownsMap.kept h.1 hg hne, h.2⟩
theorem MapN.below {w w' : World} {B : Nat} {told : List Nat} (h : MapN w B told) (hb : Below w.heap.size w w') : MapN w' B told := h.kept (row := none) ⟨hb.os, hb.tape, hb.output, hb.size, fun i hi _ => hb.block i hi⟩ (by simp)
theorem MapN.set {w : World} {B : Nat} {told : List Nat} (h : MapN w B told) {q : Addr} (hq : B ≠ q.block) (u : Value) : MapN (w.setCell q u) B told := ⟨World.ownsMap.setCell h.1 hq u, h.2⟩
theorem RD.ok.below {r : RD} {w w' : World} (h : r.ok w) (hb : Below w.heap.size w w') : r.ok w' := by
  obtain ⟨es, c, hB⟩ := h.isMap
  exact h.kept (Kp.below hb) ⟨es, c, by rw [hb.block _ (lt_of_block hB)]; exact hB⟩

section
variable {r : RD} {w : World}
theorem RD.ok.c0 (h : r.ok w) : w.cell? ⟨r.R, 0, none⟩ = some (.slice r.a r.bs.length r.cap) := by rw [cell_of_row w r.R 0 _ _ _ h.box]; rfl
theorem RD.ok.c1 (h : r.ok w) : w.cell? ⟨r.R, 1, none⟩ = some (.int .i64 r.ty) := by rw [cell_of_row w r.R 1 _ _ _ h.box]; rfl
theorem RD.ok.c2 (h : r.ok w) : w.cell? ⟨r.R, 2, none⟩ = some (.int .u64 r.en) := by rw [cell_of_row w r.R 2 _ _ _ h.box]; rfl
theorem RD.ok.c3 (h : r.ok w) : w.cell? ⟨r.R, 3, none⟩ = some (.slice r.p r.ps.length r.pc) := by rw [cell_of_row w r.R 3 _ _ _ h.box]; rfl
theorem RD.ok.c4 (h : r.ok w) : w.cell? ⟨r.R, 4, none⟩ = some (.slice r.sa r.ss.length r.sc) := by rw [cell_of_row w r.R 4 _ _ _ h.box]; rfl
theorem RD.ok.c5 (h : r.ok w) : w.cell? ⟨r.R, 5, none⟩ = some (.map (some r.B)) := by rw [cell_of_row w r.R 5 _ _ _ h.box]; rfl
end
def rdV (r : RD) : Value := .pointer (some ⟨r.R, 0, none⟩)
end Go.Proofs.Ytaedeaefoeeidaa
/- Layer 8: a thing of a table, a text of it, the note of an index: the program's answers. -/
namespace Go.Proofs.Ytaedeaefoeeidaa
open Go.RowKit Go.Maps
set_option linter.unusedVariables false
set_option linter.unusedSimpArgs false

theorem errV_five : errV ((5 : Nat) : Int) = .iface 48 (.int .i64 5) := rfl
theorem errV_three : errV ((3 : Nat) : Int) = .iface 48 (.int .i64 3) := rfl

set_option maxRecDepth 100000 in
set_option maxHeartbeats 4000000 in
theorem tell_any (r : RD) (w : World) (told : List Nat) (x : Nat) (h : r.ok w) (hm : MapN w r.B told) (h1 : 1 ≤ x) (h2 : x < 32768) :
    Calls Try.prog 41 #[rdV r, .int .i64 (x : Int)] w fun e w' => e = .returned (errV ((if x ∈ told then 5 else 0 : Nat) : Int)) ∧ Kp r.B w w' ∧ MapN w' r.B (if x ∈ told then told else told ++ [x]) := by
  have c5 := h.c5
  have hkey := keyL_of (x := x) (by omega)
  have hlen := hm.2.len
  have HM := Lib.hid hm
  have HK : Hid (∀ w1, Below w.heap.size w w1 → MapN w1 r.B told) := Lib.hid (fun w1 hb => hm.below hb)
  have HH := Lib.hid (has_setN told x)
  have HC5 : Hid (∀ w1, Below w.heap.size w w1 → w1.cell? ⟨r.R, 5, none⟩ = some (.map (some r.B))) := Lib.hid (fun w1 hb => (h.below hb).c5)
  have B1 : Hid (Below w.heap.size w (w.alloc (.cells #[] 95))) := Lib.hid ((Below.refl _ _).alloc (Nat.le_refl _) _)
  unfold rdV
  generalize r.R = R at *
  generalize r.B = B at *
  have hown := HM.out.1
  have HOWN := Lib.hid hown
  clear h hm hown
  by_cases hx : x ∈ told
  · have hd : decide (x ∈ told) = true := decide_eq_true hx
    rw [if_pos hx, if_pos hx, errV_five]
    rw [hd] at HH
    clear hx hd
    go_enter Try.func41, Try.ntmps41
    go_wp2_with (at_lookup; refine wpList_lookup_own_unit _ rfl _ _ 52 rfl 3 95 lawInt Try.underlying52 (zeroUnit _) B told.length (setN told) rfl HOWN.out _ _ rfl hkey ?_; rw [HH.out])
    go_ret
    exact ⟨rfl, Kp.below B1.out, HK.out _ B1.out⟩
  · have hd : decide (x ∈ told) = false := decide_eq_false hx
    have HX : Hid (ToldOk (told ++ [x])) := Lib.hid (HM.out.2.snoc hx h1 h2)
    rw [if_neg hx, if_neg hx]
    rw [hd] at HH
    clear hx hd
    have hown1 := (HK.out _ B1.out).1
    have HOWN1 := Lib.hid hown1
    have c5b := HC5.out _ B1.out
    clear hown1
    go_enter Try.func41, Try.ntmps41
    go_wp2_with (first | (at_lookup; refine wpList_lookup_own_unit _ rfl _ _ 52 rfl 3 95 lawInt Try.underlying52 (zeroUnit _) B told.length (setN told) rfl HOWN.out _ _ rfl hkey ?_; rw [HH.out]) | (at_mapUpdate; refine wpList_mapUpdate_own _ rfl _ _ _ 52 rfl 3 95 lawInt Try.underlying52 _ B told.length _ rfl HOWN1.out (by unfold maxLen; omega) _ _ _ rfl rfl hkey _ [] (unitElem_mk (H := Unit)) ?_; intro w2 hown2 hgr2; have O2 := Lib.hid hown2; have G2 := Lib.hid hgr2; clear hown2 hgr2))
    go_ret
    refine ⟨rfl, (Kp.below B1.out).trans G2.out, ?_, HX.out⟩
    have o2 := O2.out
    rw [← setN_snoc] at o2
    simpa using o2

set_option maxRecDepth 100000 in
set_option maxHeartbeats 4000000 in
theorem vtext_any (r : RD) (w : World) (h : r.ok w) (a : Option Addr) (cap : Nat) (b : List Nat) (hb : BRow w a b) (hl : b.length ≤ 4) :
    Calls Try.prog 43 #[rdV r, .slice a b.length cap] w fun e w' => e = .returned (.tuple #[.string (textF r.ss (numOf b)).1, errV ((textF r.ss (numOf b)).2 : Int)]) ∧ ∃ m, w' = w.drewN m := by
  have hlt : numOf b < 18446744073709551616 := by
    have h1 := numOf_lt b hb.2
    have h2 : (256 : Nat) ^ b.length ≤ 256 ^ 4 := Nat.pow_le_pow_right (by decide) hl
    omega
  have HN := Lib.hid (fun (w1 : World) (hb1 : Below w.heap.size w w1) => number_any a cap b w1 (hb.below hb1) (by omega))
  have HT := Lib.hid (fun (w1 : World) (hb1 : Below w.heap.size w w1) => symText_any r.sa r.sc r.ss (numOf b) w1 (h.hs.below hb1) (by have := h.fit.ssl; omega) h.fit.ssc hlt)
  have c4 := h.c4
  clear hb hlt h
  generalize textF r.ss (numOf b) = F at *
  generalize numOf b = n at *
  generalize b.length = bl at *
  generalize r.ss.length = sl at *
  unfold rdV
  generalize r.R = R at *
  go_enter Try.func43, Try.ntmps43
  go_wp2_with fail
  go_quiet (first | (go_at_call 31; exact Calls.quiet_of_same ((HN.out _ (below_drewN (Below.refl _ _) _)).mono (by rintro e w' ⟨rfl, rfl⟩; exact ⟨rfl, rfl⟩))) | (go_at_call 48; exact Calls.quiet_of_same ((HT.out _ (below_drewN (Below.refl _ _) _)).mono (by rintro e w' ⟨rfl, rfl⟩; exact ⟨rfl, rfl⟩))))
  go_wp2
  go_ret2
  exact ⟨rfl, _, rfl⟩
end Go.Proofs.Ytaedeaefoeeidaa
/- Layer 8: a thing of a table: the program's answer. -/
namespace Go.Proofs.Ytaedeaefoeeidaa
open Go.RowKit Go.Maps
set_option linter.unusedVariables false
set_option linter.unusedSimpArgs false

/-- bytes of a table, and where they stand -/
def ItemAns (F : List Nat × Nat × Nat) (w : World) (e : Ending) (w' : World) : Prop :=
  ∃ ad c, e = .returned (.tuple #[.slice ad F.1.length c, .int .u64 (F.2.1 : Int), errV (F.2.2 : Int)]) ∧ OwnI w' w.heap.size 5 .u8 (.slice ad F.1.length c) (toI F.1) ∧ Below w.heap.size w w'

set_option maxRecDepth 100000 in
set_option maxHeartbeats 4000000 in
theorem item_any (r : RD) (w : World) (h : r.ok w) (fr step size : Nat) (h1 : fr < 18446744073709551616) (h2 : step < 18446744073709551616) (h3 : size < 18446744073709551616) :
    Calls Try.prog 40 #[rdV r, .int .u64 (fr : Int), .int .u64 (step : Int), .int .u64 (size : Int)] w (ItemAns (itemF r.bs r.ps fr step size) w) := by
  by_cases hb : 18446744073709551616 ≤ fr + step
  · rw [itemF_beyond hb]
    have HA := add64_over (fr : Int) (step : Int) (by omega) (by omega) (by rw [M64_eq]; omega) (by rw [M64_eq]; omega) (by rw [M64_eq]; omega)
    clear hb
    generalize (fr : Int) + (step : Int) - M64 = q at *
    unfold rdV
    go_enter Try.func40, Try.ntmps40
    go_wp2_with fail
    go_ret3
    exact ⟨none, 0, rfl, OwnI.nil _ _ _ _, Below.refl _ _⟩
  · rw [itemF_in (by omega)]
    have HA := add64_fits (fr : Int) (step : Int) (by omega) (by omega) (by rw [M64_eq]; omega)
    have e1 : (fr : Int) + (step : Int) = ((fr + step : Nat) : Int) := by omega
    rw [e1] at HA
    have h4 : fr + step < 18446744073709551616 := by omega
    clear hb e1
    generalize fr + step = q at *
    have HS := Lib.hid (fun (w1 : World) (hb1 : Below w.heap.size w w1) => slice_any r.a r.cap r.bs r.ty r.en r.p r.pc r.ps q size w1 (h.hb.below hb1) h.fit.hbl h.fit.hbc h.fit.hbn (h.h.below hb1) h.fit.hl h4 h3)
    have HK : Hid (∀ w1, Below w.heap.size w w1 → w1.cell? ⟨r.R, 0, none⟩ = some (.slice r.a r.bs.length r.cap) ∧ w1.cell? ⟨r.R, 1, none⟩ = some (.int .i64 r.ty) ∧ w1.cell? ⟨r.R, 2, none⟩ = some (.int .u64 r.en) ∧ w1.cell? ⟨r.R, 3, none⟩ = some (.slice r.p r.ps.length r.pc)) := Lib.hid (fun w1 h1 => ⟨(h.below h1).c0, (h.below h1).c1, (h.below h1).c2, (h.below h1).c3⟩)
    have HD := Lib.hid ((Below.refl w.heap.size w).drew)
    clear h h1 h2 h3 h4
    generalize sliceF r.bs r.ps q size = F at *
    unfold rdV
    unfold headV at HS
    generalize r.R = R at *
    generalize r.bs.length = bl at *
    generalize r.ps.length = pl at *
    generalize r.a = ra at *
    generalize r.cap = rcap at *
    generalize r.ty = rty at *
    generalize r.en = ren at *
    generalize r.p = rp at *
    generalize r.pc = rpc at *
    go_enter Try.func40, Try.ntmps40
    go_wp2_with fail
    go_region_held3 (fun w' => Below w.heap.size w w' ∧ w'.cell? ⟨R, 0, none⟩ = some (.slice ra bl rcap) ∧ w'.cell? ⟨R, 1, none⟩ = some (.int .i64 rty) ∧ w'.cell? ⟨R, 2, none⟩ = some (.int .u64 ren) ∧ w'.cell? ⟨R, 3, none⟩ = some (.slice rp pl rpc))
      (first | assumption | exact ⟨HD.out, HK.out _ HD.out⟩ | exact ⟨Below.drew (Below.refl _ _), HK.out _ (Below.drew (Below.refl _ _))⟩ | exact ⟨B2.out, HK.out _ B2.out⟩)
      (first
        | (go_simp; go_at_call 10; refine (HS.out _ (by assumption)).mono ?_; rintro e w3 ⟨ad, c, rfl, ho, hb2⟩; have HO := Lib.hid ho; have B2 := Lib.hid (bstep (by assumption) hb2); clear ho hb2))
    all_goals
      go_wp2
      go_ret3
      exact ⟨ad, c, rfl, HO.out, B2.out⟩
end Go.Proofs.Ytaedeaefoeeidaa
