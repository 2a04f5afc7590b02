/- Layer 8: the versions of a file: the program's answer, where there are any. -/
import Derived.Test.YtnaejlfjlennhaaGreatDoorVersRead
namespace Go.Proofs.YtnaejlfjlennhaaGreatDoor
open Go.RowKit Go.Maps
set_option linter.unusedVariables false
set_option linter.unusedSimpArgs false

/-- what is owned stays owned, but for the answer's own type -/
def KO (w w' : World) : Prop := ∀ B e sz v n xs, e ≠ 37 → w.ownsRow B e sz v n xs → w'.ownsRow B e sz v n xs
theorem KO.refl (w : World) : KO w w := fun B e sz v n xs _ h => h
theorem KO.trans {a b c : World} (h : KO a b) (k : KO b c) : KO a c := fun B e sz v n xs he ho => k B e sz v n xs he (h B e sz v n xs he ho)
theorem KO.kp {B : Nat} {w w' : World} (k : Kp B w w') (hm : ∃ es c, w.heap[B]? = some (.map es c)) : KO w w' := fun _ _ _ _ _ _ _ ho => own_kp ho k hm
theorem KO.below {w w' : World} (hb : Below w.heap.size w w') : KO w w' := fun B e sz v n xs _ ho => by
  obtain ⟨h1, h2⟩ := ho
  refine ⟨h1, ?_⟩
  rcases h2 with h2 | ⟨g, cap, cur, hv, hB, hg, r⟩
  · exact .inl h2
  · exact .inr ⟨g, cap, cur, hv, hB, by rw [hb.block g (lt_of_block hg)]; exact hg, r⟩
theorem KO.grown {V : Nat} {w w' : World} {cs : Array Value} (hb : w.heap[V]? = some (.cells cs 37)) (hg : w.grownBy w' (some V)) : KO w w' := fun B e sz v n xs he ho => by
  refine World.ownsRow.kept ho hg ?_
  rcases ho.2 with ⟨rfl, -⟩ | ⟨g, cap, cur, rfl, -, hgg, -⟩
  · left; rfl
  · right
    intro e1
    have : g = V := by simpa [Value.ownBlock] using e1
    subst this
    rw [hb] at hgg
    simp only [Option.some.injEq, Obj.cells.injEq] at hgg
    exact he hgg.2.1.symm
theorem setCell_grown (w : World) (q : Addr) (u : Value) : w.grownBy (w.setCell q u) (some q.block) := ⟨rfl, rfl, rfl, by simp [World.setCell], fun i hi hne => Below.heap_setCell _ _ _ _ (fun e => hne (by rw [e]))⟩
theorem KO.i {w w' : World} (h : KO w w') {B : Nat} {v : Value} {xs : List Int} (ho : OwnI w B 3 .i64 v xs) : OwnI w' B 3 .i64 v xs := h _ _ _ _ _ _ (by decide) ho
theorem KO.s {w w' : World} (h : KO w w') {B sz : Nat} {e : TypeId} {v : Value} {rows : List (List Value)} (he : e ≠ 37) (ho : OwnS w B e sz v rows) : OwnS w' B e sz v rows := ⟨h _ _ _ _ _ _ he ho.1, ho.2⟩
theorem KO.defs {w w' : World} (h : KO w w') {B : Nat} {ds : List DefD} {rows : List (List Value)} (ho : DefRows w B ds rows) : DefRows w' B ds rows := ho.imp (fun v q hq => h.s (by decide) hq)
theorem KO.needs {w w' : World} (h : KO w w') {B : Nat} {ds : List NeedD} {rows : List (List Value)} (ho : NeedRows w B ds rows) : NeedRows w' B ds rows := ho.imp (fun v q hq => h.s (by decide) hq)
theorem DefRows.base {w : World} {B B' : Nat} (hB : B' ≤ B) {ds : List DefD} {rows : List (List Value)} (ho : DefRows w B ds rows) : DefRows w B' ds rows := ho.imp (fun v q hq => OwnS.mono hq hB)
theorem NeedRows.base {w : World} {B B' : Nat} (hB : B' ≤ B) {ds : List NeedD} {rows : List (List Value)} (ho : NeedRows w B ds rows) : NeedRows w B' ds rows := ho.imp (fun v q hq => OwnS.mono hq hB)
theorem Kp.toBelow {B N : Nat} {w w' : World} (h : Kp B w w') (hN : N ≤ B) (hs : N ≤ w.heap.size) : Below N w w' := ⟨h.os, h.tape, h.output, h.size, fun i hi => h.block i (by omega) (fun e => by simp only [Option.some.injEq] at e; omega)⟩
theorem strF_two (bs : List Nat) (ps : List PT) (x y : Nat) (hb : ∀ z ∈ bs, z < 256) : (∃ s, strF bs ps x y = (s, 0) ∧ s.length ≤ 1048576 ∧ ∀ z ∈ s, z < 256) ∨ ∃ c, strF bs ps x y = ([], c) ∧ 0 < c := by
  rcases strF_code bs ps x y with h | h | h | h
  · left
    obtain ⟨h1, h2, h3⟩ := strF_len h
    refine ⟨_, Prod.ext rfl h, ?_, ?_⟩
    · rw [h1]
      unfold strF at h
      split at h
      · simp at h
      · omega
    · intro z hz
      rw [h2] at hz
      simp only at hz
      unfold sliceF at hz
      split at hz
      · exact hb z (List.mem_of_mem_drop (List.mem_of_mem_take hz))
      · cases hz
  · exact .inr ⟨2, h, by omega⟩
  · exact .inr ⟨3, h, by omega⟩
  · exact .inr ⟨4, h, by omega⟩
theorem defsF_err {bs : List Nat} {ps : List PT} {ss told : List Nat} {x y : Nat} : (defsF bs ps ss told x y).2 < 30 := by
  unfold defsF
  split
  · show 0 < 30; decide
  · split
    · show 2 < 30; decide
    · exact errF_small (f := defStep bs ps ss) (fun s b a => defF_small _ _ _ _ _ _) _ _ _ _ _ _ _
theorem needsF_err {bs : List Nat} {ps : List PT} {ss told : List Nat} {x y : Nat} : (needsF bs ps ss told x y).2 < 30 := by
  unfold needsF
  split
  · show 0 < 30; decide
  · split
    · show 2 < 30; decide
    · exact errF_small (f := needStep bs ps ss) (fun s b a => needF_small _ _ _ _ _ _) _ _ _ _ _ _ _

set_option maxRecDepth 100000 in
set_option maxHeartbeats 16000000 in
theorem vread_main (a : Option Addr) (cap : Nat) (bs : List Nat) (ty en : Int) (p : Option Addr) (pc : Nat) (ps : List PT) (d : DT) (m : Nat) (w : World) (hb : BRow w a bs) (hbl : bs.length ≤ 140737488351232) (hbc : bs.length ≤ cap) (hbn : a = none → bs.length = 0 ∧ cap = 0)
    (h : PRow w p ps) (hl : ps.length ≤ 140737488351232) (hd : d.wf) (hm : m ≤ 4096) (h0 : ¬ d.versym = 0) :
    Calls Tryz.prog 31 #[.slice a bs.length cap, headV ty en p ps.length pc, .agg d.cells, .int .i64 (m : Int)] w (VersAns (versF bs ps d (m : Int)) w) := by
  have hvz : ((d.versym : Int) == 0) = false := beq_eq_false_iff_ne.2 (by omega)
  have HST := Lib.hid (fun (w1 : World) (hb1 : Below w.heap.size w w1) => strings_any a cap bs ty en p pc ps d w1 (hb.below hb1) hbl hbc hbn (h.below hb1) hl hd.strtab hd.strsz)
  have HSL := Lib.hid (fun (w1 : World) (hb1 : Below w.heap.size w w1) => slice_any a cap bs ty en p pc ps d.versym (2 * m) w1 (hb.below hb1) hbl hbc hbn (h.below hb1) hl hd.versym (by omega))
  have HROWS := Lib.hid (fun (w1 : World) (hb1 : Below w.heap.size w w1) => And.intro (hb.below hb1) (h.below hb1))
  have HFIT := Lib.hid (And.intro hbl (And.intro hbc (And.intro hbn hl)))
  have hS2 := strF_two bs ps d.strtab d.strsz hb.2
  have hT2 := sliceF_two bs ps d.versym (2 * m)
  have HTB : Hid (∀ t, sliceF bs ps d.versym (2 * m) = (t, 0) → ∀ z ∈ t, z < 256) := Lib.hid (fun t ht z hz => by
    have : t = (sliceF bs ps d.versym (2 * m)).1 := by rw [ht]
    rw [this] at hz
    unfold sliceF at hz
    split at hz
    · exact hb.2 z (List.mem_of_mem_drop (List.mem_of_mem_take hz))
    · cases hz)
  have HDF : Hid (d.verdef < 18446744073709551616 ∧ d.verdefnum < 18446744073709551616 ∧ d.verneed < 18446744073709551616 ∧ d.verneednum < 18446744073709551616) := Lib.hid ⟨hd.verdef, hd.verdefnum, hd.verneed, hd.verneednum⟩
  have hvs : d.versym < 18446744073709551616 := hd.versym
  obtain ⟨X, hX⟩ : ∃ X, versF bs ps d (m : Int) = X := ⟨_, rfl⟩
  have HX := Lib.hid hX
  rw [hX]
  unfold versF at HX
  rw [if_neg (by omega), if_neg (by omega), if_neg h0, Int.toNat_natCast] at HX
  clear h hb hbl hbc hbn hl hd hX
  have HI : Hid ((Tryz.prog.info? 30).map (·.size) = some d.cells.size) := Lib.hid (show _ = some 37 by kernel_rfl)
  have HD37 : Hid (d.cells.size = 37) := Lib.hid rfl
  have HD26 : Hid (d.cells[26]? = some (.int .u64 (d.versym : Int))) := Lib.hid rfl
  have HD28 : Hid (d.cells[28]? = some (.int .u64 (d.verdef : Int))) := Lib.hid rfl
  have HD29 : Hid (d.cells[29]? = some (.int .u64 (d.verdefnum : Int))) := Lib.hid rfl
  have HD30 : Hid (d.cells[30]? = some (.int .u64 (d.verneed : Int))) := Lib.hid rfl
  have HD31 : Hid (d.cells[31]? = some (.int .u64 (d.verneednum : Int))) := Lib.hid rfl
  generalize d.cells = D at *
  generalize d.versym = versym at *
  clear h0
  have B1 : Hid (Below w.heap.size w ((w.alloc (.cells #[.int .i64 ty, .int .u64 en, .slice p ps.length pc] 27)).alloc (.cells D 30))) := Lib.hid (((Below.refl _ _).alloc (Nat.le_refl _) _).alloc (by simp) _)
  have BZ : Hid (Below w.heap.size w (((w.alloc (.cells #[.int .i64 ty, .int .u64 en, .slice p ps.length pc] 27)).alloc (.cells D 30)).alloc (.cells #[.bool false, .slice none 0 0, .slice none 0 0, .slice none 0 0] 37))) := Lib.hid (B1.out.alloc B1.out.size _)
  have HV3 : Hid ((((w.alloc (.cells #[.int .i64 ty, .int .u64 en, .slice p ps.length pc] 27)).alloc (.cells D 30)).alloc (.cells #[.bool false, .slice none 0 0, .slice none 0 0, .slice none 0 0] 37)).heap[w.heap.size + 2]? = some (.cells #[.bool false, .slice none 0 0, .slice none 0 0, .slice none 0 0] 37)) := Lib.hid (by
    have := heap_alloc_new ((w.alloc (.cells #[.int .i64 ty, .int .u64 en, .slice p ps.length pc] 27)).alloc (.cells D 30)) (.cells #[.bool false, .slice none 0 0, .slice none 0 0, .slice none 0 0] 37)
    simpa using this)
  have HG3 : Hid ((((w.alloc (.cells #[.int .i64 ty, .int .u64 en, .slice p ps.length pc] 27)).alloc (.cells D 30)).alloc (.cells #[.bool false, .slice none 0 0, .slice none 0 0, .slice none 0 0] 37)).heap[w.heap.size + 1]? = some (.cells D 30)) := Lib.hid (by
    have h2 := heap_alloc_new (w.alloc (.cells #[.int .i64 ty, .int .u64 en, .slice p ps.length pc] 27)) (.cells D 30)
    rw [show (w.alloc (.cells #[.int .i64 ty, .int .u64 en, .slice p ps.length pc] 27)).heap.size = w.heap.size + 1 by simp] at h2
    have hb3 : Below ((w.alloc (.cells #[.int .i64 ty, .int .u64 en, .slice p ps.length pc] 27)).alloc (.cells D 30)).heap.size ((w.alloc (.cells #[.int .i64 ty, .int .u64 en, .slice p ps.length pc] 27)).alloc (.cells D 30)) (((w.alloc (.cells #[.int .i64 ty, .int .u64 en, .slice p ps.length pc] 27)).alloc (.cells D 30)).alloc (.cells #[.bool false, .slice none 0 0, .slice none 0 0, .slice none 0 0] 37)) := (Below.refl _ _).alloc (Nat.le_refl _) _
    rw [hb3.block _ (by simp)]
    exact h2)
  have HH3 : Hid ((((w.alloc (.cells #[.int .i64 ty, .int .u64 en, .slice p ps.length pc] 27)).alloc (.cells D 30)).alloc (.cells #[.bool false, .slice none 0 0, .slice none 0 0, .slice none 0 0] 37)).heap[w.heap.size]? = some (.cells #[.int .i64 ty, .int .u64 en, .slice p ps.length pc] 27)) := Lib.hid (by
    have h2 := heap_alloc_new w (.cells #[.int .i64 ty, .int .u64 en, .slice p ps.length pc] 27)
    have hb3 : Below (w.alloc (.cells #[.int .i64 ty, .int .u64 en, .slice p ps.length pc] 27)).heap.size (w.alloc (.cells #[.int .i64 ty, .int .u64 en, .slice p ps.length pc] 27)) (((w.alloc (.cells #[.int .i64 ty, .int .u64 en, .slice p ps.length pc] 27)).alloc (.cells D 30)).alloc (.cells #[.bool false, .slice none 0 0, .slice none 0 0, .slice none 0 0] 37)) := ((Below.refl _ _).alloc (Nat.le_refl _) _).alloc (by simp) _
    rw [hb3.block _ (by simp)]
    exact h2)
  -- the three boxes in a later world
  have FB : Hid (∀ w1, Below (((w.alloc (.cells #[.int .i64 ty, .int .u64 en, .slice p ps.length pc] 27)).alloc (.cells D 30)).alloc (.cells #[.bool false, .slice none 0 0, .slice none 0 0, .slice none 0 0] 37)).heap.size (((w.alloc (.cells #[.int .i64 ty, .int .u64 en, .slice p ps.length pc] 27)).alloc (.cells D 30)).alloc (.cells #[.bool false, .slice none 0 0, .slice none 0 0, .slice none 0 0] 37)) w1 → w1.heap[w.heap.size + 2]? = some (.cells #[.bool false, .slice none 0 0, .slice none 0 0, .slice none 0 0] 37) ∧ w1.heap[w.heap.size + 1]? = some (.cells D 30) ∧ w1.heap[w.heap.size]? = some (.cells #[.int .i64 ty, .int .u64 en, .slice p ps.length pc] 27)) := Lib.hid (fun w1 hw1 => ⟨by rw [hw1.block _ (lt_of_block HV3.out)]; exact HV3.out, by rw [hw1.block _ (lt_of_block HG3.out)]; exact HG3.out, by rw [hw1.block _ (lt_of_block HH3.out)]; exact HH3.out⟩)
  have hmm := @run_makeMap Tryz.prog
  unfold headV at *
  clear B1
  go_enter Tryz.func31, Tryz.ntmps31
  have C26 : Hid ((((w.alloc (.cells #[.int .i64 ty, .int .u64 en, .slice p ps.length pc] 27)).alloc (.cells D 30)).alloc (.cells #[.bool false, .slice none 0 0, .slice none 0 0, .slice none 0 0] 37)).cell? ⟨w.heap.size + 1, 26, none⟩ = some (.int .u64 (versym : Int))) := Lib.hid (by rw [cell_of_row _ _ 26 _ _ _ HG3.out]; exact HD26.out)
  have c26 := C26.out
  go_wp2_with (refine wpList_load_row rfl 30 _ rfl (w.heap.size + 1) rfl 30 D (0, 0) _ HG3.out Tryz.underlying30 rfl HI.out ?_)
  refine (HST.out _ BZ.out).mono ?_
  rintro e w2 ⟨sa, sc, he, ho2, hb2⟩
  have B2 := Lib.hid (bstep BZ.out hb2)
  have BW2 := Lib.hid hb2
  have HB2 := Lib.hid (FB.out _ hb2)
  have HV2 := Lib.hid HB2.out.1
  have HO2 := Lib.hid ho2
  clear ho2 hb2 HST c26
  have c26 : w2.cell? ⟨w.heap.size + 1, 26, none⟩ = some (.int .u64 (versym : Int)) := by rw [cell_of_row _ _ 26 _ _ _ HB2.out.2.1]; exact HD26.out
  have ch0 : w2.cell? ⟨w.heap.size, 0, none⟩ = some (.int .i64 ty) := by rw [cell_of_row _ _ 0 _ _ _ HB2.out.2.2]; rfl
  have ch1 : w2.cell? ⟨w.heap.size, 1, none⟩ = some (.int .u64 en) := by rw [cell_of_row _ _ 1 _ _ _ HB2.out.2.2]; rfl
  have ch2 : w2.cell? ⟨w.heap.size, 2, none⟩ = some (.slice p ps.length pc) := by rw [cell_of_row _ _ 2 _ _ _ HB2.out.2.2]; rfl
  rcases hS2 with ⟨S, hS, hSl, hS256⟩ | ⟨cS, hS, hcS⟩
  · rw [hS] at he HO2 HX
    replace he : e = .returned (.tuple #[.slice sa S.length sc, .nilIface]) := he
    subst he
    simp only [ne_eq, not_true_eq_false, if_false] at HX
    go_wp2_with fail
    refine (HSL.out _ B2.out).mono ?_
    rintro e w4 ⟨wa, wc, he, ho4, hb4⟩
    have B4 := Lib.hid (bstep B2.out hb4)
    have BW4 := Lib.hid (bstep BW2.out hb4)
    have HB4 := Lib.hid (FB.out _ BW4.out)
    have HV4 := Lib.hid HB4.out.1
    have HO4 := Lib.hid ho4
    have HB24 := Lib.hid hb4
    clear ho4 hb4 HSL c26 ch0 ch1 ch2
    rcases hT2 with ⟨T, hT, hTl⟩ | hT
    · have HT256 := Lib.hid (HTB.out T hT)
      rw [hT] at he HO4 HX
      replace he : e = .returned (.tuple #[.slice wa T.length wc, .nilIface]) := he
      subst he
      simp only [ne_eq, not_true_eq_false, if_false] at HX
      clear hS hT HTB
      have HS256 := Lib.hid hS256
      have HSL2 := Lib.hid hSl
      clear hS256 hSl
      have ch0 : w4.cell? ⟨w.heap.size, 0, none⟩ = some (.int .i64 ty) := by rw [cell_of_row _ _ 0 _ _ _ HB4.out.2.2]; rfl
      have ch1 : w4.cell? ⟨w.heap.size, 1, none⟩ = some (.int .u64 en) := by rw [cell_of_row _ _ 1 _ _ _ HB4.out.2.2]; rfl
      have ch2 : w4.cell? ⟨w.heap.size, 2, none⟩ = some (.slice p ps.length pc) := by rw [cell_of_row _ _ 2 _ _ _ HB4.out.2.2]; rfl
      have HLT4 : Hid (w.heap.size + 2 < w4.heap.size) := Lib.hid (lt_of_block HV4.out)
      have BR : Hid (Below w4.heap.size w4 ((w4.alloc (.map #[] 0)).alloc (.cells #[.slice a bs.length cap, .int .i64 ty, .int .u64 en, .slice p ps.length pc, .slice sa S.length sc, .map (some w4.heap.size)] 150))) := Lib.hid (((Below.refl _ _).alloc (Nat.le_refl _) _).alloc (by simp) _)
      have BU : Hid (Below ((w4.alloc (.map #[] 0)).alloc (.cells #[.slice a bs.length cap, .int .i64 ty, .int .u64 en, .slice p ps.length pc, .slice sa S.length sc, .map (some w4.heap.size)] 150)).heap.size ((w4.alloc (.map #[] 0)).alloc (.cells #[.slice a bs.length cap, .int .i64 ty, .int .u64 en, .slice p ps.length pc, .slice sa S.length sc, .map (some w4.heap.size)] 150)) (((w4.alloc (.map #[] 0)).alloc (.cells #[.slice a bs.length cap, .int .i64 ty, .int .u64 en, .slice p ps.length pc, .slice sa S.length sc, .map (some w4.heap.size)] 150)).alloc (.cells #[.bool true, .slice none 0 0, .slice none 0 0, .slice none 0 0] 37))) := Lib.hid ((Below.refl _ _).alloc (Nat.le_refl _) _)
      have HMR : Hid (MapN ((w4.alloc (.map #[] 0)).alloc (.cells #[.slice a bs.length cap, .int .i64 ty, .int .u64 en, .slice p ps.length pc, .slice sa S.length sc, .map (some w4.heap.size)] 150)) w4.heap.size []) := Lib.hid ⟨(World.ownsMap_made w4 _ _ _).alloc _, ToldOk.nil⟩
      have HRok : Hid (RD.ok (⟨w4.heap.size + 1, w4.heap.size, a, cap, bs, ty, en, p, pc, ps, sa, sc, S⟩ : RD) ((w4.alloc (.map #[] 0)).alloc (.cells #[.slice a bs.length cap, .int .i64 ty, .int .u64 en, .slice p ps.length pc, .slice sa S.length sc, .map (some w4.heap.size)] 150))) := Lib.hid (by
        refine ⟨?_, (HROWS.out _ B4.out).1.below BR.out, (HROWS.out _ B4.out).2.below BR.out, ?_, ⟨HFIT.out.1, HFIT.out.2.1, HFIT.out.2.2.1, HFIT.out.2.2.2, HSL2.out, ?_⟩, HMR.out.isMap⟩
        · have := heap_alloc_new (w4.alloc (.map #[] 0)) (.cells #[.slice a bs.length cap, .int .i64 ty, .int .u64 en, .slice p ps.length pc, .slice sa S.length sc, .map (some w4.heap.size)] 150)
          simpa [RD.cells] using this
        · exact (BRow.below (⟨HO2.out.row2v, HS256.out⟩ : BRow w2 sa S) HB24.out).below BR.out
        · exact HO2.out.cap2v)
      have HRows : Hid (BRow ((w4.alloc (.map #[] 0)).alloc (.cells #[.slice a bs.length cap, .int .i64 ty, .int .u64 en, .slice p ps.length pc, .slice sa S.length sc, .map (some w4.heap.size)] 150)) wa T) := Lib.hid (BRow.below ⟨HO4.out.row2v, HT256.out⟩ BR.out)
      have HWC : Hid (T.length ≤ wc) := Lib.hid HO4.out.cap2v
      have K7 : Hid (Kp w4.heap.size ((w4.alloc (.map #[] 0)).alloc (.cells #[.slice a bs.length cap, .int .i64 ty, .int .u64 en, .slice p ps.length pc, .slice sa S.length sc, .map (some w4.heap.size)] 150)) (((w4.alloc (.map #[] 0)).alloc (.cells #[.slice a bs.length cap, .int .i64 ty, .int .u64 en, .slice p ps.length pc, .slice sa S.length sc, .map (some w4.heap.size)] 150)).alloc (.cells #[.bool true, .slice none 0 0, .slice none 0 0, .slice none 0 0] 37))) := Lib.hid (Kp.below BU.out)
      have M7 : Hid (MapN (((w4.alloc (.map #[] 0)).alloc (.cells #[.slice a bs.length cap, .int .i64 ty, .int .u64 en, .slice p ps.length pc, .slice sa S.length sc, .map (some w4.heap.size)] 150)).alloc (.cells #[.bool true, .slice none 0 0, .slice none 0 0, .slice none 0 0] 37)) w4.heap.size []) := Lib.hid (HMR.out.below BU.out)
      have U7 : Hid ((((w4.alloc (.map #[] 0)).alloc (.cells #[.slice a bs.length cap, .int .i64 ty, .int .u64 en, .slice p ps.length pc, .slice sa S.length sc, .map (some w4.heap.size)] 150)).alloc (.cells #[.bool true, .slice none 0 0, .slice none 0 0, .slice none 0 0] 37)).heap[w4.heap.size + 1 + 1]? = some (.cells #[.bool true, .slice none 0 0, .slice none 0 0, .slice none 0 0] 37)) := Lib.hid (by
        have := heap_alloc_new ((w4.alloc (.map #[] 0)).alloc (.cells #[.slice a bs.length cap, .int .i64 ty, .int .u64 en, .slice p ps.length pc, .slice sa S.length sc, .map (some w4.heap.size)] 150)) (.cells #[.bool true, .slice none 0 0, .slice none 0 0, .slice none 0 0] 37)
        simpa using this)
      have HBX7 := Lib.hid (FB.out _ (bstep BW4.out (bstep BR.out BU.out)))
      have BWR : Hid (Below w.heap.size w ((w4.alloc (.map #[] 0)).alloc (.cells #[.slice a bs.length cap, .int .i64 ty, .int .u64 en, .slice p ps.length pc, .slice sa S.length sc, .map (some w4.heap.size)] 150))) := Lib.hid (bstep B4.out BR.out)
      obtain ⟨DX, hDX⟩ : ∃ DX, defsF bs ps S [] d.verdef d.verdefnum = DX := ⟨_, rfl⟩
      have HDC := Lib.hid (defs_any (⟨w4.heap.size + 1, w4.heap.size, a, cap, bs, ty, en, p, pc, ps, sa, sc, S⟩ : RD) (((w4.alloc (.map #[] 0)).alloc (.cells #[.slice a bs.length cap, .int .i64 ty, .int .u64 en, .slice p ps.length pc, .slice sa S.length sc, .map (some w4.heap.size)] 150)).alloc (.cells #[.bool true, .slice none 0 0, .slice none 0 0, .slice none 0 0] 37)) [] D d.verdef d.verdefnum (HRok.out.below BU.out) M7.out HD37.out HD28.out HD29.out HDF.out.1 HDF.out.2.1)
      have hDE : DX.2 < 30 := by rw [← hDX]; exact defsF_err
      rw [show defsF (RD.bs (⟨w4.heap.size + 1, w4.heap.size, a, cap, bs, ty, en, p, pc, ps, sa, sc, S⟩ : RD)) (RD.ps (⟨w4.heap.size + 1, w4.heap.size, a, cap, bs, ty, en, p, pc, ps, sa, sc, S⟩ : RD)) (RD.ss (⟨w4.heap.size + 1, w4.heap.size, a, cap, bs, ty, en, p, pc, ps, sa, sc, S⟩ : RD)) [] d.verdef d.verdefnum = DX from hDX] at HDC
      rw [hDX] at HX
      clear hDX HO2 HO4 HB24 HB2 HV2
      have HUV : Hid (¬ w.heap.size + 2 = w4.heap.size + 1 + 1) := Lib.hid (by have := HLT4.out; omega)
      unfold rdV at HDC
      simp only at HDC
      go_wp2_with (refine wpList_load_row rfl 30 _ rfl (w.heap.size + 1) rfl 30 D (0, 0) _ HBX7.out.2.1 Tryz.underlying30 rfl HI.out ?_)
      refine HDC.out.mono ?_
      rintro e w8 ⟨da, dc, drows, he, hos8, hdr8, hm8, hk8⟩
      have V7 := Lib.hid HBX7.out.1
      have G7 := Lib.hid HBX7.out.2.1
      have HUG : Hid (¬ w.heap.size + 1 = w4.heap.size + 1 + 1) := Lib.hid (by have := HLT4.out; omega)
      replace hk8 : Kp w4.heap.size (((w4.alloc (.map #[] 0)).alloc (.cells #[.slice a bs.length cap, .int .i64 ty, .int .u64 en, .slice p ps.length pc, .slice sa S.length sc, .map (some w4.heap.size)] 150)).alloc (.cells #[.bool true, .slice none 0 0, .slice none 0 0, .slice none 0 0] 37)) w8 := hk8
      have M8 : Hid (MapN w8 w4.heap.size DX.1.1) := Lib.hid hm8
      have K8 : Hid (Kp w4.heap.size ((w4.alloc (.map #[] 0)).alloc (.cells #[.slice a bs.length cap, .int .i64 ty, .int .u64 en, .slice p ps.length pc, .slice sa S.length sc, .map (some w4.heap.size)] 150)) w8) := Lib.hid (K7.out.trans hk8)
      have U8 := Lib.hid (block_kp U7.out hk8 M7.out.isMap)
      have V8 := Lib.hid (block_kp V7.out hk8 M7.out.isMap)
      have G8 := Lib.hid (block_kp G7.out hk8 M7.out.isMap)
      have HDROWS := Lib.hid (And.intro (OwnS.mono hos8 (show w.heap.size ≤ _ by have := HLT4.out; simp; omega)) (DefRows.base (show w.heap.size ≤ _ by have := HLT4.out; simp; omega) hdr8))
      clear hos8 hdr8 hm8 hk8 HDC HBX7 HB4 ch0 ch1 ch2
      have K8s : Hid (Kp w4.heap.size ((w4.alloc (.map #[] 0)).alloc (.cells #[.slice a bs.length cap, .int .i64 ty, .int .u64 en, .slice p ps.length pc, .slice sa S.length sc, .map (some w4.heap.size)] 150)) (w8.setCell ⟨w4.heap.size + 1 + 1, 2, none⟩ (.slice da DX.1.2.length dc))) := Lib.hid (K8.out.set (by simp) _)
      have M8s : Hid (MapN (w8.setCell ⟨w4.heap.size + 1 + 1, 2, none⟩ (.slice da DX.1.2.length dc)) w4.heap.size DX.1.1) := Lib.hid (M8.out.set (by show ¬ _ = _; simp only []; omega) _)
      have U8s : Hid ((w8.setCell ⟨w4.heap.size + 1 + 1, 2, none⟩ (.slice da DX.1.2.length dc)).heap[w4.heap.size + 1 + 1]? = some (.cells #[.bool true, .slice none 0 0, .slice da DX.1.2.length dc, .slice none 0 0] 37)) := Lib.hid (by rw [heap_setCell_same w8 (w4.heap.size + 1 + 1) 2 _ _ _ U8.out]; rfl)
      have V8s : Hid ((w8.setCell ⟨w4.heap.size + 1 + 1, 2, none⟩ (.slice da DX.1.2.length dc)).heap[w.heap.size + 2]? = some (.cells #[.bool false, .slice none 0 0, .slice none 0 0, .slice none 0 0] 37)) := Lib.hid ((heap_setCell_other w8 ⟨(w4.heap.size + 1 + 1), 2, none⟩ _ _ HUV.out).trans V8.out)
      have G8s : Hid ((w8.setCell ⟨w4.heap.size + 1 + 1, 2, none⟩ (.slice da DX.1.2.length dc)).heap[w.heap.size + 1]? = some (.cells D 30)) := Lib.hid ((heap_setCell_other w8 ⟨(w4.heap.size + 1 + 1), 2, none⟩ _ _ HUG.out).trans G8.out)
      have O8s : Hid (KO w8 (w8.setCell ⟨w4.heap.size + 1 + 1, 2, none⟩ (.slice da DX.1.2.length dc))) := Lib.hid (KO.grown U8.out (setCell_grown _ _ _))
      have cu : w8.cell? ⟨w4.heap.size + 1 + 1, 2, none⟩ = some (.slice none 0 0) := by rw [cell_of_row w8 (w4.heap.size + 1 + 1) 2 _ _ _ U8.out]; rfl
      have fu := frozen_of_row w8 (w4.heap.size + 1 + 1) 2 _ _ U8.out
      have huv := HUV.out
      have hvu : ¬ w4.heap.size + 1 + 1 = w.heap.size + 2 := fun e => HUV.out e.symm
      by_cases hd0 : DX.2 = 0
      · rw [hd0] at he
        replace he : e = .returned (.tuple #[.slice da DX.1.2.length dc, .nilIface]) := he
        subst he
        rw [if_neg (by omega)] at HX
        obtain ⟨NX, hNX⟩ : ∃ NX, needsF bs ps S DX.1.1 d.verneed d.verneednum = NX := ⟨_, rfl⟩
        have HNC := Lib.hid (needs_any (⟨w4.heap.size + 1, w4.heap.size, a, cap, bs, ty, en, p, pc, ps, sa, sc, S⟩ : RD) (w8.setCell ⟨w4.heap.size + 1 + 1, 2, none⟩ (.slice da DX.1.2.length dc)) DX.1.1 D d.verneed d.verneednum (HRok.out.kept K8s.out M8s.out.isMap) M8s.out HD37.out HD30.out HD31.out HDF.out.2.2.1 HDF.out.2.2.2)
        have hNE : NX.2 < 30 := by rw [← hNX]; exact needsF_err
        rw [show needsF (RD.bs (⟨w4.heap.size + 1, w4.heap.size, a, cap, bs, ty, en, p, pc, ps, sa, sc, S⟩ : RD)) (RD.ps (⟨w4.heap.size + 1, w4.heap.size, a, cap, bs, ty, en, p, pc, ps, sa, sc, S⟩ : RD)) (RD.ss (⟨w4.heap.size + 1, w4.heap.size, a, cap, bs, ty, en, p, pc, ps, sa, sc, S⟩ : RD)) DX.1.1 d.verneed d.verneednum = NX from hNX] at HNC
        rw [hNX] at HX
        clear hNX
        unfold rdV at HNC
        simp only at HNC
        go_wp2_with (refine wpList_load_row rfl 30 _ rfl (w.heap.size + 1) rfl 30 D (0, 0) _ G8s.out Tryz.underlying30 rfl HI.out ?_)
        refine HNC.out.mono ?_
        rintro e w10 ⟨na, nc, nrows, he, hos10, hnr10, hm10, hk10⟩
        replace hk10 : Kp w4.heap.size (w8.setCell ⟨w4.heap.size + 1 + 1, 2, none⟩ (.slice da DX.1.2.length dc)) w10 := hk10
        have M10 : Hid (MapN w10 w4.heap.size NX.1.1) := Lib.hid hm10
        have O10 : Hid (KO (w8.setCell ⟨w4.heap.size + 1 + 1, 2, none⟩ (.slice da DX.1.2.length dc)) w10) := Lib.hid (KO.kp hk10 M8s.out.isMap)
        have K10 : Hid (Kp w4.heap.size ((w4.alloc (.map #[] 0)).alloc (.cells #[.slice a bs.length cap, .int .i64 ty, .int .u64 en, .slice p ps.length pc, .slice sa S.length sc, .map (some w4.heap.size)] 150)) w10) := Lib.hid (K8s.out.trans hk10)
        have U10 := Lib.hid (block_kp U8s.out hk10 M8s.out.isMap)
        have V10 := Lib.hid (block_kp V8s.out hk10 M8s.out.isMap)
        have G10 := Lib.hid (block_kp G8s.out hk10 M8s.out.isMap)
        have HWS8 : Hid (w.heap.size ≤ (w8.setCell ⟨w4.heap.size + 1 + 1, 2, none⟩ (.slice da DX.1.2.length dc)).heap.size) := Lib.hid (by have h1 := K8s.out.size; have h2 := HLT4.out; have h3 := BWR.out.size; omega)
        have HNROWS := Lib.hid (And.intro (OwnS.mono hos10 HWS8.out) (NeedRows.base HWS8.out hnr10))
        clear hos10 hnr10 hm10 hk10 HNC cu fu
        have K10s : Hid (Kp w4.heap.size ((w4.alloc (.map #[] 0)).alloc (.cells #[.slice a bs.length cap, .int .i64 ty, .int .u64 en, .slice p ps.length pc, .slice sa S.length sc, .map (some w4.heap.size)] 150)) (w10.setCell ⟨w4.heap.size + 1 + 1, 3, none⟩ (.slice na NX.1.2.length nc))) := Lib.hid (K10.out.set (by simp) _)
        have M10s : Hid (MapN (w10.setCell ⟨w4.heap.size + 1 + 1, 3, none⟩ (.slice na NX.1.2.length nc)) w4.heap.size NX.1.1) := Lib.hid (M10.out.set (by show ¬ _ = _; simp only []; omega) _)
        have U10s : Hid ((w10.setCell ⟨w4.heap.size + 1 + 1, 3, none⟩ (.slice na NX.1.2.length nc)).heap[w4.heap.size + 1 + 1]? = some (.cells #[.bool true, .slice none 0 0, .slice da DX.1.2.length dc, .slice na NX.1.2.length nc] 37)) := Lib.hid (by rw [heap_setCell_same w10 (w4.heap.size + 1 + 1) 3 _ _ _ U10.out]; rfl)
        have V10s : Hid ((w10.setCell ⟨w4.heap.size + 1 + 1, 3, none⟩ (.slice na NX.1.2.length nc)).heap[w.heap.size + 2]? = some (.cells #[.bool false, .slice none 0 0, .slice none 0 0, .slice none 0 0] 37)) := Lib.hid ((heap_setCell_other w10 ⟨(w4.heap.size + 1 + 1), 3, none⟩ _ _ HUV.out).trans V10.out)
        have G10s : Hid ((w10.setCell ⟨w4.heap.size + 1 + 1, 3, none⟩ (.slice na NX.1.2.length nc)).heap[w.heap.size + 1]? = some (.cells D 30)) := Lib.hid ((heap_setCell_other w10 ⟨(w4.heap.size + 1 + 1), 3, none⟩ _ _ HUG.out).trans G10.out)
        have O10s : Hid (KO w10 (w10.setCell ⟨w4.heap.size + 1 + 1, 3, none⟩ (.slice na NX.1.2.length nc))) := Lib.hid (KO.grown U10.out (setCell_grown _ _ _))
        have cu : w10.cell? ⟨w4.heap.size + 1 + 1, 3, none⟩ = some (.slice none 0 0) := by rw [cell_of_row w10 (w4.heap.size + 1 + 1) 3 _ _ _ U10.out]; rfl
        have fu := frozen_of_row w10 (w4.heap.size + 1 + 1) 3 _ _ U10.out
        by_cases hn0 : NX.2 = 0
        · rw [hn0] at he
          replace he : e = .returned (.tuple #[.slice na NX.1.2.length nc, .nilIface]) := he
          subst he
          rw [if_neg (by omega)] at HX
          obtain ⟨OX, hOX⟩ : ∃ OX, ofF NX.1.1 T = OX := ⟨_, rfl⟩
          have HOC := Lib.hid (of_any (⟨w4.heap.size + 1, w4.heap.size, a, cap, bs, ty, en, p, pc, ps, sa, sc, S⟩ : RD) (w10.setCell ⟨w4.heap.size + 1 + 1, 3, none⟩ (.slice na NX.1.2.length nc)) NX.1.1 wa wc T m (HRok.out.kept K10s.out M10s.out.isMap) M10s.out (HRows.out.kp K10s.out HMR.out.isMap) hTl hm HWC.out)
          rw [hOX] at HOC HX
          clear hOX
          unfold rdV at HOC
          simp only at HOC
          go_wp2_with fail
          refine HOC.out.mono ?_
          rintro e w12 ⟨oa, oc, he, hoi12, hb12⟩
          have HWS10 : Hid (w.heap.size ≤ (w10.setCell ⟨w4.heap.size + 1 + 1, 3, none⟩ (.slice na NX.1.2.length nc)).heap.size) := Lib.hid (by have h1 := K10s.out.size; have h2 := HLT4.out; have h3 := BWR.out.size; omega)
          have K12 : Hid (Kp w4.heap.size ((w4.alloc (.map #[] 0)).alloc (.cells #[.slice a bs.length cap, .int .i64 ty, .int .u64 en, .slice p ps.length pc, .slice sa S.length sc, .map (some w4.heap.size)] 150)) w12) := Lib.hid (K10s.out.trans (Kp.below hb12))
          have M12 : Hid (MapN w12 w4.heap.size NX.1.1) := Lib.hid (M10s.out.below hb12)
          have U12 : Hid (w12.heap[w4.heap.size + 1 + 1]? = some (.cells #[.bool true, .slice none 0 0, .slice da DX.1.2.length dc, .slice na NX.1.2.length nc] 37)) := Lib.hid ((hb12.block _ (lt_of_block U10s.out)).trans U10s.out)
          have V12 : Hid (w12.heap[w.heap.size + 2]? = some (.cells #[.bool false, .slice none 0 0, .slice none 0 0, .slice none 0 0] 37)) := Lib.hid ((hb12.block _ (lt_of_block V10s.out)).trans V10s.out)
          have G12 : Hid (w12.heap[w.heap.size + 1]? = some (.cells D 30)) := Lib.hid ((hb12.block _ (lt_of_block G10s.out)).trans G10s.out)
          have O12 : Hid (KO (w10.setCell ⟨w4.heap.size + 1 + 1, 3, none⟩ (.slice na NX.1.2.length nc)) w12) := Lib.hid (KO.below hb12)
          have HOROW := Lib.hid (OwnI.mono hoi12 HWS10.out)
          clear hoi12 hb12 HOC cu fu
          have K12s : Hid (Kp w4.heap.size ((w4.alloc (.map #[] 0)).alloc (.cells #[.slice a bs.length cap, .int .i64 ty, .int .u64 en, .slice p ps.length pc, .slice sa S.length sc, .map (some w4.heap.size)] 150)) (w12.setCell ⟨w4.heap.size + 1 + 1, 1, none⟩ (.slice oa OX.1.length oc))) := Lib.hid (K12.out.set (by simp) _)
          have M12s : Hid (MapN (w12.setCell ⟨w4.heap.size + 1 + 1, 1, none⟩ (.slice oa OX.1.length oc)) w4.heap.size NX.1.1) := Lib.hid (M12.out.set (by show ¬ _ = _; simp only []; omega) _)
          have U12s : Hid ((w12.setCell ⟨w4.heap.size + 1 + 1, 1, none⟩ (.slice oa OX.1.length oc)).heap[w4.heap.size + 1 + 1]? = some (.cells #[.bool true, .slice oa OX.1.length oc, .slice da DX.1.2.length dc, .slice na NX.1.2.length nc] 37)) := Lib.hid (by rw [heap_setCell_same w12 (w4.heap.size + 1 + 1) 1 _ _ _ U12.out]; rfl)
          have V12s : Hid ((w12.setCell ⟨w4.heap.size + 1 + 1, 1, none⟩ (.slice oa OX.1.length oc)).heap[w.heap.size + 2]? = some (.cells #[.bool false, .slice none 0 0, .slice none 0 0, .slice none 0 0] 37)) := Lib.hid ((heap_setCell_other w12 ⟨(w4.heap.size + 1 + 1), 1, none⟩ _ _ HUV.out).trans V12.out)
          have G12s : Hid ((w12.setCell ⟨w4.heap.size + 1 + 1, 1, none⟩ (.slice oa OX.1.length oc)).heap[w.heap.size + 1]? = some (.cells D 30)) := Lib.hid ((heap_setCell_other w12 ⟨(w4.heap.size + 1 + 1), 1, none⟩ _ _ HUG.out).trans G12.out)
          have O12s : Hid (KO w12 (w12.setCell ⟨w4.heap.size + 1 + 1, 1, none⟩ (.slice oa OX.1.length oc))) := Lib.hid (KO.grown U12.out (setCell_grown _ _ _))
          have cu : w12.cell? ⟨w4.heap.size + 1 + 1, 1, none⟩ = some (.slice none 0 0) := by rw [cell_of_row w12 (w4.heap.size + 1 + 1) 1 _ _ _ U12.out]; rfl
          have fu := frozen_of_row w12 (w4.heap.size + 1 + 1) 1 _ _ U12.out
          by_cases ho0 : OX.2 = 0
          · rw [ho0] at he
            replace he : e = .returned (.tuple #[.slice oa OX.1.length oc, .nilIface]) := he
            subst he
            have HE : Hid (X = (⟨true, OX.1, DX.1.2, NX.1.2⟩, 0)) := Lib.hid (by rw [← HX.out, if_neg (by omega)])
            clear HX
            have cw0 : (w12.setCell ⟨w4.heap.size + 1 + 1, 1, none⟩ (.slice oa OX.1.length oc)).cell? ⟨w4.heap.size + 1 + 1, 0, none⟩ = some (.bool true) := by rw [cell_of_row (w12.setCell ⟨w4.heap.size + 1 + 1, 1, none⟩ (.slice oa OX.1.length oc)) (w4.heap.size + 1 + 1) 0 _ _ _ U12s.out]; rfl
            have cw1 : (w12.setCell ⟨w4.heap.size + 1 + 1, 1, none⟩ (.slice oa OX.1.length oc)).cell? ⟨w4.heap.size + 1 + 1, 1, none⟩ = some (.slice oa OX.1.length oc) := by rw [cell_of_row (w12.setCell ⟨w4.heap.size + 1 + 1, 1, none⟩ (.slice oa OX.1.length oc)) (w4.heap.size + 1 + 1) 1 _ _ _ U12s.out]; rfl
            have cw2 : (w12.setCell ⟨w4.heap.size + 1 + 1, 1, none⟩ (.slice oa OX.1.length oc)).cell? ⟨w4.heap.size + 1 + 1, 2, none⟩ = some (.slice da DX.1.2.length dc) := by rw [cell_of_row (w12.setCell ⟨w4.heap.size + 1 + 1, 1, none⟩ (.slice oa OX.1.length oc)) (w4.heap.size + 1 + 1) 2 _ _ _ U12s.out]; rfl
            have cw3 : (w12.setCell ⟨w4.heap.size + 1 + 1, 1, none⟩ (.slice oa OX.1.length oc)).cell? ⟨w4.heap.size + 1 + 1, 3, none⟩ = some (.slice na NX.1.2.length nc) := by rw [cell_of_row (w12.setCell ⟨w4.heap.size + 1 + 1, 1, none⟩ (.slice oa OX.1.length oc)) (w4.heap.size + 1 + 1) 3 _ _ _ U12s.out]; rfl
            have FS := Lib.hid (four_stores V12s.out (.bool true) (.slice oa OX.1.length oc) (.slice da DX.1.2.length dc) (.slice na NX.1.2.length nc))
            have hr := fun (cs : Array Value) (j : Nat) => cell_setRow_same (w12.setCell ⟨w4.heap.size + 1 + 1, 1, none⟩ (.slice oa OX.1.length oc)) (w.heap.size + 2) j _ cs _ _ V12s.out
            have r0 := hr #[.bool true, .slice oa OX.1.length oc, .slice da DX.1.2.length dc, .slice na NX.1.2.length nc] 0
            have r1 := hr #[.bool true, .slice oa OX.1.length oc, .slice da DX.1.2.length dc, .slice na NX.1.2.length nc] 1
            have r2 := hr #[.bool true, .slice oa OX.1.length oc, .slice da DX.1.2.length dc, .slice na NX.1.2.length nc] 2
            have r3 := hr #[.bool true, .slice oa OX.1.length oc, .slice da DX.1.2.length dc, .slice na NX.1.2.length nc] 3
            simp only [List.getElem?_toArray, List.getElem?_cons_zero, List.getElem?_cons_succ] at r0 r1 r2 r3
            have R0 := Lib.hid r0
            have R1 := Lib.hid r1
            have R2 := Lib.hid r2
            have R3 := Lib.hid r3
            clear r0 r1 r2 r3 hr
            have f0 := frozen_of_row (w12.setCell ⟨w4.heap.size + 1 + 1, 1, none⟩ (.slice oa OX.1.length oc)) (w.heap.size + 2) 0 _ _ V12s.out
            have f1 := frozen_of_row (w12.setCell ⟨w4.heap.size + 1 + 1, 1, none⟩ (.slice oa OX.1.length oc)) (w.heap.size + 2) 1 _ _ V12s.out
            have f2 := frozen_of_row (w12.setCell ⟨w4.heap.size + 1 + 1, 1, none⟩ (.slice oa OX.1.length oc)) (w.heap.size + 2) 2 _ _ V12s.out
            have f3 := frozen_of_row (w12.setCell ⟨w4.heap.size + 1 + 1, 1, none⟩ (.slice oa OX.1.length oc)) (w.heap.size + 2) 3 _ _ V12s.out
            have c0 : (w12.setCell ⟨w4.heap.size + 1 + 1, 1, none⟩ (.slice oa OX.1.length oc)).cell? ⟨w.heap.size + 2, 0, none⟩ = some (.bool false) := by rw [cell_of_row (w12.setCell ⟨w4.heap.size + 1 + 1, 1, none⟩ (.slice oa OX.1.length oc)) (w.heap.size + 2) 0 _ _ _ V12s.out]; rfl
            have c1 : (w12.setCell ⟨w4.heap.size + 1 + 1, 1, none⟩ (.slice oa OX.1.length oc)).cell? ⟨w.heap.size + 2, 1, none⟩ = some (.slice none 0 0) := by rw [cell_of_row (w12.setCell ⟨w4.heap.size + 1 + 1, 1, none⟩ (.slice oa OX.1.length oc)) (w.heap.size + 2) 1 _ _ _ V12s.out]; rfl
            have c2 : (w12.setCell ⟨w4.heap.size + 1 + 1, 1, none⟩ (.slice oa OX.1.length oc)).cell? ⟨w.heap.size + 2, 2, none⟩ = some (.slice none 0 0) := by rw [cell_of_row (w12.setCell ⟨w4.heap.size + 1 + 1, 1, none⟩ (.slice oa OX.1.length oc)) (w.heap.size + 2) 2 _ _ _ V12s.out]; rfl
            have c3 : (w12.setCell ⟨w4.heap.size + 1 + 1, 1, none⟩ (.slice oa OX.1.length oc)).cell? ⟨w.heap.size + 2, 3, none⟩ = some (.slice none 0 0) := by rw [cell_of_row (w12.setCell ⟨w4.heap.size + 1 + 1, 1, none⟩ (.slice oa OX.1.length oc)) (w.heap.size + 2) 3 _ _ _ V12s.out]; rfl
            go_wp2_with fail
            rw [HE.out]
            rw [FS.out]
            refine bodyPost_ret (by simp [results, Tryz.results31, go_sem, R0.out, R1.out, R2.out, R3.out]; try rfl) rfl ?_
            have OF : KO (w12.setCell ⟨w4.heap.size + 1 + 1, 1, none⟩ (.slice oa OX.1.length oc)) ((w12.setCell ⟨w4.heap.size + 1 + 1, 1, none⟩ (.slice oa OX.1.length oc)).setRow (w.heap.size + 2) #[.bool true, .slice oa OX.1.length oc, .slice da DX.1.2.length dc, .slice na NX.1.2.length nc]) := KO.grown V12s.out (setRow_grown _ _ _)
            have ON := (O12.out.trans O12s.out).trans OF
            have ON10 := O10s.out.trans ON
            have ON8 := (O8s.out.trans O10.out).trans ON10
            refine ⟨oa, oc, da, dc, drows, na, nc, nrows, rfl, ?_, ON8.s (by decide) HDROWS.out.1, ON8.defs HDROWS.out.2, ON10.s (by decide) HNROWS.out.1, ON10.needs HNROWS.out.2, (below_zero ((BWR.out.trans (Kp.toBelow K12s.out (show w.heap.size ≤ w4.heap.size by have := HLT4.out; omega) (by have := HLT4.out; simp; omega)))) (by omega) _)⟩
            exact (O12s.out.trans OF).i HOROW.out
          · have HE : Hid (X = (.zero, OX.2)) := Lib.hid (by rw [← HX.out, if_pos ho0])
            rw [errVp (by omega)] at he
            subst he
            clear HX
            have FS := Lib.hid (four_stores V12s.out (.bool false) (.slice none 0 0) (.slice none 0 0) (.slice none 0 0))
            have hr := fun (cs : Array Value) (j : Nat) => cell_setRow_same (w12.setCell ⟨w4.heap.size + 1 + 1, 1, none⟩ (.slice oa OX.1.length oc)) (w.heap.size + 2) j _ cs _ _ V12s.out
            have r0 := hr #[.bool false, .slice none 0 0, .slice none 0 0, .slice none 0 0] 0
            have r1 := hr #[.bool false, .slice none 0 0, .slice none 0 0, .slice none 0 0] 1
            have r2 := hr #[.bool false, .slice none 0 0, .slice none 0 0, .slice none 0 0] 2
            have r3 := hr #[.bool false, .slice none 0 0, .slice none 0 0, .slice none 0 0] 3
            simp only [List.getElem?_toArray, List.getElem?_cons_zero, List.getElem?_cons_succ] at r0 r1 r2 r3
            have R0 := Lib.hid r0
            have R1 := Lib.hid r1
            have R2 := Lib.hid r2
            have R3 := Lib.hid r3
            clear r0 r1 r2 r3 hr
            have f0 := frozen_of_row (w12.setCell ⟨w4.heap.size + 1 + 1, 1, none⟩ (.slice oa OX.1.length oc)) (w.heap.size + 2) 0 _ _ V12s.out
            have f1 := frozen_of_row (w12.setCell ⟨w4.heap.size + 1 + 1, 1, none⟩ (.slice oa OX.1.length oc)) (w.heap.size + 2) 1 _ _ V12s.out
            have f2 := frozen_of_row (w12.setCell ⟨w4.heap.size + 1 + 1, 1, none⟩ (.slice oa OX.1.length oc)) (w.heap.size + 2) 2 _ _ V12s.out
            have f3 := frozen_of_row (w12.setCell ⟨w4.heap.size + 1 + 1, 1, none⟩ (.slice oa OX.1.length oc)) (w.heap.size + 2) 3 _ _ V12s.out
            have c0 : (w12.setCell ⟨w4.heap.size + 1 + 1, 1, none⟩ (.slice oa OX.1.length oc)).cell? ⟨w.heap.size + 2, 0, none⟩ = some (.bool false) := by rw [cell_of_row (w12.setCell ⟨w4.heap.size + 1 + 1, 1, none⟩ (.slice oa OX.1.length oc)) (w.heap.size + 2) 0 _ _ _ V12s.out]; rfl
            have c1 : (w12.setCell ⟨w4.heap.size + 1 + 1, 1, none⟩ (.slice oa OX.1.length oc)).cell? ⟨w.heap.size + 2, 1, none⟩ = some (.slice none 0 0) := by rw [cell_of_row (w12.setCell ⟨w4.heap.size + 1 + 1, 1, none⟩ (.slice oa OX.1.length oc)) (w.heap.size + 2) 1 _ _ _ V12s.out]; rfl
            have c2 : (w12.setCell ⟨w4.heap.size + 1 + 1, 1, none⟩ (.slice oa OX.1.length oc)).cell? ⟨w.heap.size + 2, 2, none⟩ = some (.slice none 0 0) := by rw [cell_of_row (w12.setCell ⟨w4.heap.size + 1 + 1, 1, none⟩ (.slice oa OX.1.length oc)) (w.heap.size + 2) 2 _ _ _ V12s.out]; rfl
            have c3 : (w12.setCell ⟨w4.heap.size + 1 + 1, 1, none⟩ (.slice oa OX.1.length oc)).cell? ⟨w.heap.size + 2, 3, none⟩ = some (.slice none 0 0) := by rw [cell_of_row (w12.setCell ⟨w4.heap.size + 1 + 1, 1, none⟩ (.slice oa OX.1.length oc)) (w.heap.size + 2) 3 _ _ _ V12s.out]; rfl
            go_wp2_with fail
            rw [HE.out]
            rw [FS.out]
            refine bodyPost_ret (by simp [results, Tryz.results31, go_sem, R0.out, R1.out, R2.out, R3.out]; try rfl) rfl ?_
            exact VersAns.no (below_zero ((BWR.out.trans (Kp.toBelow K12s.out (show w.heap.size ≤ w4.heap.size by have := HLT4.out; omega) (by have := HLT4.out; simp; omega)))) (by omega) _) rfl (errVp (by omega)).symm
        · have HE : Hid (X = (.zero, NX.2)) := Lib.hid (by rw [← HX.out, if_pos hn0])
          rw [errVp (by omega)] at he
          subst he
          clear HX
          have FS := Lib.hid (four_stores V10s.out (.bool false) (.slice none 0 0) (.slice none 0 0) (.slice none 0 0))
          have hr := fun (cs : Array Value) (j : Nat) => cell_setRow_same (w10.setCell ⟨w4.heap.size + 1 + 1, 3, none⟩ (.slice na NX.1.2.length nc)) (w.heap.size + 2) j _ cs _ _ V10s.out
          have r0 := hr #[.bool false, .slice none 0 0, .slice none 0 0, .slice none 0 0] 0
          have r1 := hr #[.bool false, .slice none 0 0, .slice none 0 0, .slice none 0 0] 1
          have r2 := hr #[.bool false, .slice none 0 0, .slice none 0 0, .slice none 0 0] 2
          have r3 := hr #[.bool false, .slice none 0 0, .slice none 0 0, .slice none 0 0] 3
          simp only [List.getElem?_toArray, List.getElem?_cons_zero, List.getElem?_cons_succ] at r0 r1 r2 r3
          have R0 := Lib.hid r0
          have R1 := Lib.hid r1
          have R2 := Lib.hid r2
          have R3 := Lib.hid r3
          clear r0 r1 r2 r3 hr
          have f0 := frozen_of_row (w10.setCell ⟨w4.heap.size + 1 + 1, 3, none⟩ (.slice na NX.1.2.length nc)) (w.heap.size + 2) 0 _ _ V10s.out
          have f1 := frozen_of_row (w10.setCell ⟨w4.heap.size + 1 + 1, 3, none⟩ (.slice na NX.1.2.length nc)) (w.heap.size + 2) 1 _ _ V10s.out
          have f2 := frozen_of_row (w10.setCell ⟨w4.heap.size + 1 + 1, 3, none⟩ (.slice na NX.1.2.length nc)) (w.heap.size + 2) 2 _ _ V10s.out
          have f3 := frozen_of_row (w10.setCell ⟨w4.heap.size + 1 + 1, 3, none⟩ (.slice na NX.1.2.length nc)) (w.heap.size + 2) 3 _ _ V10s.out
          have c0 : (w10.setCell ⟨w4.heap.size + 1 + 1, 3, none⟩ (.slice na NX.1.2.length nc)).cell? ⟨w.heap.size + 2, 0, none⟩ = some (.bool false) := by rw [cell_of_row (w10.setCell ⟨w4.heap.size + 1 + 1, 3, none⟩ (.slice na NX.1.2.length nc)) (w.heap.size + 2) 0 _ _ _ V10s.out]; rfl
          have c1 : (w10.setCell ⟨w4.heap.size + 1 + 1, 3, none⟩ (.slice na NX.1.2.length nc)).cell? ⟨w.heap.size + 2, 1, none⟩ = some (.slice none 0 0) := by rw [cell_of_row (w10.setCell ⟨w4.heap.size + 1 + 1, 3, none⟩ (.slice na NX.1.2.length nc)) (w.heap.size + 2) 1 _ _ _ V10s.out]; rfl
          have c2 : (w10.setCell ⟨w4.heap.size + 1 + 1, 3, none⟩ (.slice na NX.1.2.length nc)).cell? ⟨w.heap.size + 2, 2, none⟩ = some (.slice none 0 0) := by rw [cell_of_row (w10.setCell ⟨w4.heap.size + 1 + 1, 3, none⟩ (.slice na NX.1.2.length nc)) (w.heap.size + 2) 2 _ _ _ V10s.out]; rfl
          have c3 : (w10.setCell ⟨w4.heap.size + 1 + 1, 3, none⟩ (.slice na NX.1.2.length nc)).cell? ⟨w.heap.size + 2, 3, none⟩ = some (.slice none 0 0) := by rw [cell_of_row (w10.setCell ⟨w4.heap.size + 1 + 1, 3, none⟩ (.slice na NX.1.2.length nc)) (w.heap.size + 2) 3 _ _ _ V10s.out]; rfl
          go_wp2_with fail
          rw [HE.out]
          rw [FS.out]
          refine bodyPost_ret (by simp [results, Tryz.results31, go_sem, R0.out, R1.out, R2.out, R3.out]; try rfl) rfl ?_
          exact VersAns.no (below_zero ((BWR.out.trans (Kp.toBelow K10s.out (show w.heap.size ≤ w4.heap.size by have := HLT4.out; omega) (by have := HLT4.out; simp; omega)))) (by omega) _) rfl (errVp (by omega)).symm
      · have HE : Hid (X = (.zero, DX.2)) := Lib.hid (by rw [← HX.out, if_pos hd0])
        rw [errVp (by omega)] at he
        subst he
        clear HX
        have FS := Lib.hid (four_stores V8s.out (.bool false) (.slice none 0 0) (.slice none 0 0) (.slice none 0 0))
        have hr := fun (cs : Array Value) (j : Nat) => cell_setRow_same (w8.setCell ⟨w4.heap.size + 1 + 1, 2, none⟩ (.slice da DX.1.2.length dc)) (w.heap.size + 2) j _ cs _ _ V8s.out
        have r0 := hr #[.bool false, .slice none 0 0, .slice none 0 0, .slice none 0 0] 0
        have r1 := hr #[.bool false, .slice none 0 0, .slice none 0 0, .slice none 0 0] 1
        have r2 := hr #[.bool false, .slice none 0 0, .slice none 0 0, .slice none 0 0] 2
        have r3 := hr #[.bool false, .slice none 0 0, .slice none 0 0, .slice none 0 0] 3
        simp only [List.getElem?_toArray, List.getElem?_cons_zero, List.getElem?_cons_succ] at r0 r1 r2 r3
        have R0 := Lib.hid r0
        have R1 := Lib.hid r1
        have R2 := Lib.hid r2
        have R3 := Lib.hid r3
        clear r0 r1 r2 r3 hr
        have f0 := frozen_of_row (w8.setCell ⟨w4.heap.size + 1 + 1, 2, none⟩ (.slice da DX.1.2.length dc)) (w.heap.size + 2) 0 _ _ V8s.out
        have f1 := frozen_of_row (w8.setCell ⟨w4.heap.size + 1 + 1, 2, none⟩ (.slice da DX.1.2.length dc)) (w.heap.size + 2) 1 _ _ V8s.out
        have f2 := frozen_of_row (w8.setCell ⟨w4.heap.size + 1 + 1, 2, none⟩ (.slice da DX.1.2.length dc)) (w.heap.size + 2) 2 _ _ V8s.out
        have f3 := frozen_of_row (w8.setCell ⟨w4.heap.size + 1 + 1, 2, none⟩ (.slice da DX.1.2.length dc)) (w.heap.size + 2) 3 _ _ V8s.out
        have c0 : (w8.setCell ⟨w4.heap.size + 1 + 1, 2, none⟩ (.slice da DX.1.2.length dc)).cell? ⟨w.heap.size + 2, 0, none⟩ = some (.bool false) := by rw [cell_of_row (w8.setCell ⟨w4.heap.size + 1 + 1, 2, none⟩ (.slice da DX.1.2.length dc)) (w.heap.size + 2) 0 _ _ _ V8s.out]; rfl
        have c1 : (w8.setCell ⟨w4.heap.size + 1 + 1, 2, none⟩ (.slice da DX.1.2.length dc)).cell? ⟨w.heap.size + 2, 1, none⟩ = some (.slice none 0 0) := by rw [cell_of_row (w8.setCell ⟨w4.heap.size + 1 + 1, 2, none⟩ (.slice da DX.1.2.length dc)) (w.heap.size + 2) 1 _ _ _ V8s.out]; rfl
        have c2 : (w8.setCell ⟨w4.heap.size + 1 + 1, 2, none⟩ (.slice da DX.1.2.length dc)).cell? ⟨w.heap.size + 2, 2, none⟩ = some (.slice none 0 0) := by rw [cell_of_row (w8.setCell ⟨w4.heap.size + 1 + 1, 2, none⟩ (.slice da DX.1.2.length dc)) (w.heap.size + 2) 2 _ _ _ V8s.out]; rfl
        have c3 : (w8.setCell ⟨w4.heap.size + 1 + 1, 2, none⟩ (.slice da DX.1.2.length dc)).cell? ⟨w.heap.size + 2, 3, none⟩ = some (.slice none 0 0) := by rw [cell_of_row (w8.setCell ⟨w4.heap.size + 1 + 1, 2, none⟩ (.slice da DX.1.2.length dc)) (w.heap.size + 2) 3 _ _ _ V8s.out]; rfl
        go_wp2_with fail
        rw [HE.out]
        rw [FS.out]
        refine bodyPost_ret (by simp [results, Tryz.results31, go_sem, R0.out, R1.out, R2.out, R3.out]; try rfl) rfl ?_
        exact VersAns.no (below_zero ((BWR.out.trans (Kp.toBelow K8s.out (show w.heap.size ≤ w4.heap.size by have := HLT4.out; omega) (by have := HLT4.out; simp; omega)))) (by omega) _) rfl (errVp (by omega)).symm
    · rw [hT] at he HX
      replace he : e = .returned (.tuple #[.slice wa 0 wc, .iface 56 (.int .i64 4)]) := he
      subst he
      have HE : Hid (X = (.zero, 4)) := Lib.hid (by rw [← HX.out, if_pos (by decide)])
      clear HX hS hT
      have FS := Lib.hid (four_stores HV4.out (.bool false) (.slice none 0 0) (.slice none 0 0) (.slice none 0 0))
      have hr := fun (cs : Array Value) (j : Nat) => cell_setRow_same w4 (w.heap.size + 2) j _ cs _ _ HV4.out
      have r0 := hr #[.bool false, .slice none 0 0, .slice none 0 0, .slice none 0 0] 0
      have r1 := hr #[.bool false, .slice none 0 0, .slice none 0 0, .slice none 0 0] 1
      have r2 := hr #[.bool false, .slice none 0 0, .slice none 0 0, .slice none 0 0] 2
      have r3 := hr #[.bool false, .slice none 0 0, .slice none 0 0, .slice none 0 0] 3
      simp only [List.getElem?_toArray, List.getElem?_cons_zero, List.getElem?_cons_succ] at r0 r1 r2 r3
      have R0 := Lib.hid r0
      have R1 := Lib.hid r1
      have R2 := Lib.hid r2
      have R3 := Lib.hid r3
      clear r0 r1 r2 r3 hr
      have f0 := frozen_of_row w4 (w.heap.size + 2) 0 _ _ HV4.out
      have f1 := frozen_of_row w4 (w.heap.size + 2) 1 _ _ HV4.out
      have f2 := frozen_of_row w4 (w.heap.size + 2) 2 _ _ HV4.out
      have f3 := frozen_of_row w4 (w.heap.size + 2) 3 _ _ HV4.out
      have c0 : w4.cell? ⟨w.heap.size + 2, 0, none⟩ = some (.bool false) := by rw [cell_of_row w4 (w.heap.size + 2) 0 _ _ _ HV4.out]; rfl
      have c1 : w4.cell? ⟨w.heap.size + 2, 1, none⟩ = some (.slice none 0 0) := by rw [cell_of_row w4 (w.heap.size + 2) 1 _ _ _ HV4.out]; rfl
      have c2 : w4.cell? ⟨w.heap.size + 2, 2, none⟩ = some (.slice none 0 0) := by rw [cell_of_row w4 (w.heap.size + 2) 2 _ _ _ HV4.out]; rfl
      have c3 : w4.cell? ⟨w.heap.size + 2, 3, none⟩ = some (.slice none 0 0) := by rw [cell_of_row w4 (w.heap.size + 2) 3 _ _ _ HV4.out]; rfl
      go_wp2_with fail
      rw [HE.out]
      rw [FS.out]
      refine bodyPost_ret (by simp [results, Tryz.results31, go_sem, R0.out, R1.out, R2.out, R3.out]; try rfl) rfl ?_
      exact VersAns.no (below_zero B4.out (by omega) _) rfl rfl
  · rw [hS] at he HX
    replace he : e = .returned (.tuple #[.slice sa 0 sc, errV (cS : Int)]) := he
    have HE : Hid (X = (.zero, cS)) := Lib.hid (by rw [← HX.out, if_pos (by show ¬ cS = 0; omega)])
    rw [errVp hcS] at he
    subst he
    clear HX hS
    have FS := Lib.hid (four_stores HV2.out (.bool false) (.slice none 0 0) (.slice none 0 0) (.slice none 0 0))
    have hr := fun (cs : Array Value) (j : Nat) => cell_setRow_same w2 (w.heap.size + 2) j _ cs _ _ HV2.out
    have r0 := hr #[.bool false, .slice none 0 0, .slice none 0 0, .slice none 0 0] 0
    have r1 := hr #[.bool false, .slice none 0 0, .slice none 0 0, .slice none 0 0] 1
    have r2 := hr #[.bool false, .slice none 0 0, .slice none 0 0, .slice none 0 0] 2
    have r3 := hr #[.bool false, .slice none 0 0, .slice none 0 0, .slice none 0 0] 3
    simp only [List.getElem?_toArray, List.getElem?_cons_zero, List.getElem?_cons_succ] at r0 r1 r2 r3
    have R0 := Lib.hid r0
    have R1 := Lib.hid r1
    have R2 := Lib.hid r2
    have R3 := Lib.hid r3
    clear r0 r1 r2 r3 hr
    have f0 := frozen_of_row w2 (w.heap.size + 2) 0 _ _ HV2.out
    have f1 := frozen_of_row w2 (w.heap.size + 2) 1 _ _ HV2.out
    have f2 := frozen_of_row w2 (w.heap.size + 2) 2 _ _ HV2.out
    have f3 := frozen_of_row w2 (w.heap.size + 2) 3 _ _ HV2.out
    have c0 : w2.cell? ⟨w.heap.size + 2, 0, none⟩ = some (.bool false) := by rw [cell_of_row w2 (w.heap.size + 2) 0 _ _ _ HV2.out]; rfl
    have c1 : w2.cell? ⟨w.heap.size + 2, 1, none⟩ = some (.slice none 0 0) := by rw [cell_of_row w2 (w.heap.size + 2) 1 _ _ _ HV2.out]; rfl
    have c2 : w2.cell? ⟨w.heap.size + 2, 2, none⟩ = some (.slice none 0 0) := by rw [cell_of_row w2 (w.heap.size + 2) 2 _ _ _ HV2.out]; rfl
    have c3 : w2.cell? ⟨w.heap.size + 2, 3, none⟩ = some (.slice none 0 0) := by rw [cell_of_row w2 (w.heap.size + 2) 3 _ _ _ HV2.out]; rfl
    go_wp2_with fail
    rw [HE.out]
    rw [FS.out]
    refine bodyPost_ret (by simp [results, Tryz.results31, go_sem, R0.out, R1.out, R2.out, R3.out]; try rfl) rfl ?_
    exact VersAns.no (below_zero B2.out (by omega) _) rfl (errVp hcS).symm

theorem vread_any (a : Option Addr) (cap : Nat) (bs : List Nat) (ty en : Int) (p : Option Addr) (pc : Nat) (ps : List PT) (d : DT) (n : Int) (w : World) (hb : BRow w a bs) (hbl : bs.length ≤ 140737488351232) (hbc : bs.length ≤ cap) (hbn : a = none → bs.length = 0 ∧ cap = 0)
    (h : PRow w p ps) (hl : ps.length ≤ 140737488351232) (hd : d.wf) (hn1 : -9223372036854775808 ≤ n) (hn2 : n < 9223372036854775808) :
    Calls Tryz.prog 31 #[.slice a bs.length cap, headV ty en p ps.length pc, .agg d.cells, .int .i64 n] w (VersAns (versF bs ps d n) w) := by
  by_cases hc : n < 0 ∨ 4096 < n ∨ d.versym = 0
  · exact vread_small a cap bs ty en p pc ps d n w hd hn1 hn2 hc
  · obtain ⟨m, rfl⟩ := Int.eq_ofNat_of_zero_le (show 0 ≤ n by omega)
    exact vread_main a cap bs ty en p pc ps d m w hb hbl hbc hbn h hl hd (by omega) (by omega)
end Go.Proofs.YtnaejlfjlennhaaGreatDoor
