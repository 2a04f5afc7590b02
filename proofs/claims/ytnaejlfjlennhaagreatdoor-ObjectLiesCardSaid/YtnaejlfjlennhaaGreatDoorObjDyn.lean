/- Layer 10: what a dynamic section leads to. -/
import Derived.Test.YtnaejlfjlennhaaGreatDoorObjHold
import Derived.Test.YtnaejlfjlennhaaGreatDoorObjCount
import Derived.Test.YtnaejlfjlennhaaGreatDoorObjRowApp
import Derived.BigRegion
import Derived.BigQuiet
import Derived.Deep.DeepCutAuto
import Derived.Test.YtnaejlfjlennhaaGreatDoorTk
namespace Go.Proofs.YtnaejlfjlennhaaGreatDoor
open Go.RowKit
set_option linter.unusedVariables false
set_option linter.unusedSimpArgs false

theorem stA_at {C : Array Value} {f : Nat → Value} : ∀ {n k : Nat}, 41 + n ≤ C.size → k < n → (stA C f n)[41 + k]? = some (f k)
  | n + 1, k, h, hk => by
    rw [stA]
    by_cases hkn : k = n
    · subst hkn
      rw [Array.getElem?_setIfInBounds_self_of_lt (by rw [stA_size]; omega)]
    · rw [Array.getElem?_setIfInBounds_ne (by omega)]
      exact stA_at (by omega) (by omega)
/-- the first error of what the dynamic section leads to -/
noncomputable def dynE (bs : List Nat) (ps : List PT) (d : DT) (ns : List Nat) : Nat :=
  if (countAF bs ps d.hash d.gnuHash).2 ≠ 0 then (countAF bs ps d.hash d.gnuHash).2
  else if (sreadF bs ps d ((countAF bs ps d.hash d.gnuHash).1 : Int)).2 ≠ 0 then (sreadF bs ps d ((countAF bs ps d.hash d.gnuHash).1 : Int)).2
  else if textsE (strF bs ps d.strtab d.strsz) d ns ≠ 0 then textsE (strF bs ps d.strtab d.strsz) d ns
  else if (versF bs ps d ((countAF bs ps d.hash d.gnuHash).1 : Int)).2 ≠ 0 then (versF bs ps d ((countAF bs ps d.hash d.gnuHash).1 : Int)).2
  else (relsAF bs ps d.rela d.relasz d.jmprel d.pltrelsz d.relr d.relrsz ((countAF bs ps d.hash d.gnuHash).1 : Int)).2
/-- the object when all is well -/
def DynOk (bo : Nat) (C : Array Value) (s : List Nat) (d : DT) (ns : List Nat) (Y : List (List Value)) (V : VersD) (Q : List (List Value) × List (List Value) × List Nat) (B : Nat) (w' : World) : Prop :=
  ∃ C', w'.heap[bo]? = some (.cells C' 40) ∧ C'.size = 54 ∧ (∀ j, (j < 41 ∨ j = 53) → C'[j]? = C[j]?) ∧ (∀ k, k < 3 → C'[41 + k]? = some (txF s d k)) ∧
    (∃ an cn, C'[44]? = some (.slice an ns.length cn) ∧ OwnS w' B 9 1 (.slice an ns.length cn) (ns.map fun x => [.string (textF s x).1])) ∧
    (∃ ay cy, C'[45]? = some (.slice ay Y.length cy) ∧ OwnS w' B 48 7 (.slice ay Y.length cy) Y) ∧
    (∃ oa oc da dc drows na nc nrows, C'[46]? = some (.bool V.has) ∧ C'[47]? = some (.slice oa V.of.length oc) ∧ C'[48]? = some (.slice da V.defs.length dc) ∧ C'[49]? = some (.slice na V.needs.length nc) ∧
      OwnI w' B 3 .i64 (.slice oa V.of.length oc) (toI V.of) ∧ OwnS w' B 204 4 (.slice da V.defs.length dc) drows ∧ DefRows w' B V.defs drows ∧ OwnS w' B 210 2 (.slice na V.needs.length nc) nrows ∧ NeedRows w' B V.needs nrows) ∧
    ∃ a1 n1 c1 a2 n2 c2 a3 n3 c3, C'[50]? = some (.slice a1 n1 c1) ∧ C'[51]? = some (.slice a2 n2 c2) ∧ C'[52]? = some (.slice a3 n3 c3) ∧
      OwnS w' B 46 4 (.slice a1 n1 c1) Q.1 ∧ OwnS w' B 46 4 (.slice a2 n2 c2) Q.2.1 ∧ OwnI w' B 24 .u64 (.slice a3 n3 c3) (toI Q.2.2)
def DynAns (bo : Nat) (C : Array Value) (bs : List Nat) (ps : List PT) (d : DT) (ns : List Nat) (w : World) (e : Ending) (w' : World) : Prop :=
  e = .returned (errV (dynE bs ps d ns : Int)) ∧ Near bo w w' ∧ (dynE bs ps d ns = 0 → DynOk bo C (strF bs ps d.strtab d.strsz).1 d ns (sreadF bs ps d ((countAF bs ps d.hash d.gnuHash).1 : Int)).1 (versF bs ps d ((countAF bs ps d.hash d.gnuHash).1 : Int)).1 (relsAF bs ps d.rela d.relasz d.jmprel d.pltrelsz d.relr d.relrsz ((countAF bs ps d.hash d.gnuHash).1 : Int)).1 w.heap.size w')
theorem DefRows.near {bo : Nat} {w w' : World} {B : Nat} {C : Array Value} (hb : w.heap[bo]? = some (.cells C 40)) (hn : Near bo w w') : ∀ {ds : List DefD} {rows : List (List Value)}, DefRows w B ds rows → DefRows w' B ds rows
  | [], [], _ => trivial
  | d :: ds, q :: qs, h => by
    obtain ⟨⟨pa, pc, e, ho⟩, h2⟩ := h
    exact ⟨⟨pa, pc, e, ho.near hb (by decide) hn⟩, DefRows.near hb hn h2⟩
  | [], q :: qs, h => h.elim
  | d :: ds, [], h => h.elim
theorem DefRows.monoO {w : World} {B B' : Nat} (hB : B' ≤ B) : ∀ {ds : List DefD} {rows : List (List Value)}, DefRows w B ds rows → DefRows w B' ds rows
  | [], [], _ => trivial
  | d :: ds, q :: qs, h => by
    obtain ⟨⟨pa, pc, e, ho⟩, h2⟩ := h
    exact ⟨⟨pa, pc, e, ho.mono hB⟩, DefRows.monoO hB h2⟩
  | [], q :: qs, h => h.elim
  | d :: ds, [], h => h.elim
theorem NeedRows.monoO {w : World} {B B' : Nat} (hB : B' ≤ B) : ∀ {ds : List NeedD} {rows : List (List Value)}, NeedRows w B ds rows → NeedRows w B' ds rows
  | [], [], _ => trivial
  | d :: ds, q :: qs, h => by
    obtain ⟨⟨pa, pc, e, ho⟩, h2⟩ := h
    exact ⟨⟨pa, pc, e, ho.mono hB⟩, NeedRows.monoO hB h2⟩
  | [], q :: qs, h => h.elim
  | d :: ds, [], h => h.elim
theorem NeedRows.near {bo : Nat} {w w' : World} {B : Nat} {C : Array Value} (hb : w.heap[bo]? = some (.cells C 40)) (hn : Near bo w w') : ∀ {ds : List NeedD} {rows : List (List Value)}, NeedRows w B ds rows → NeedRows w' B ds rows
  | [], [], _ => trivial
  | d :: ds, q :: qs, h => by
    obtain ⟨⟨pa, pc, e, ho⟩, h2⟩ := h
    exact ⟨⟨pa, pc, e, ho.near hb (by decide) hn⟩, NeedRows.near hb hn h2⟩
  | [], q :: qs, h => h.elim
  | d :: ds, [], h => h.elim
set_option maxRecDepth 100000 in
set_option maxHeartbeats 32000000 in
theorem dynamic_any (bo : Nat) (C : Array Value) (a : Option Addr) (cap : Nat) (bs : List Nat) (ty en : Int) (p : Option Addr) (pc : Nat) (ps : List PT) (d : DT) (ns : List Nat) (w : World)
    (ho : w.heap[bo]? = some (.cells C 40)) (hsz : C.size = 54) (c0 : C[0]? = some (.int .i64 ty)) (c1 : C[1]? = some (.int .u64 en)) (c2 : C[2]? = some (.slice p ps.length pc)) (cD : ∀ j v, d.cells.toList[j]? = some v → C[4 + j]? = some v)
    (c41 : C[41]? = some (.string ⟨#[]⟩)) (c42 : C[42]? = some (.string ⟨#[]⟩)) (c43 : C[43]? = some (.string ⟨#[]⟩)) (c44 : C[44]? = some (.slice none 0 0)) (c53 : C[53]? = some (.slice a bs.length cap))
    (hb : OwnI w 0 5 .u8 (.slice a bs.length cap) (toI bs)) (hb8 : ∀ b ∈ bs, b < 256) (hbl : bs.length ≤ 140737488351232) (hp : OwnS w 0 54 7 (.slice p ps.length pc) (ps.map PT.cells)) (hpw : ∀ q ∈ ps, q.wf) (hl : ps.length ≤ 140737488351232) (hd : d.wf)
    (hn : OwnI w 0 24 .u64 (.slice d.na d.nl d.nc) (toI ns)) (hnl : d.nl = ns.length) (hnx : ∀ x ∈ ns, x < 18446744073709551616) :
    Calls Tryz.prog 11 #[.pointer (some ⟨bo, 0, none⟩)] w (DynAns bo C bs ps d ns w) := by
  have hbo : bo < w.heap.size := lt_of_block ho
  have hbc : bs.length ≤ cap := hb.fit.1
  have hbn : a = none → bs.length = 0 ∧ cap = 0 := fun h => by
    have := (OwnI.at hb).2.2 h
    rw [toI_length] at this
    exact this
  have HBR : Hid (∀ wx, Near bo w wx → BRow wx a bs) := Lib.hid (fun wx hx => ⟨(OwnI.at (hb.near ho (by decide) hx)).2.1, hb8⟩)
  have HPR : Hid (∀ wx, Near bo w wx → PRow wx p ps) := Lib.hid (fun wx hx => own_prowO (hp.near ho (by decide) hx) hpw)
  have HNN : Hid (∀ wx, Near bo w wx → OwnI wx 0 24 .u64 (.slice d.na d.nl d.nc) (toI ns)) := Lib.hid (fun wx hx => hn.near ho (by decide) hx)
  have HR0 : Hid (∀ wx, Hold bo C w wx → wx.rangeAt bo 0 [.int .i64 ty, .int .u64 en, .slice p ps.length pc]) := Lib.hid (fun wx hx => hx.range (by simp) (fun j v hv => by
    rcases j with _ | _ | _ | j
    · rw [← hv]; exact c0
    · rw [← hv]; exact c1
    · rw [← hv]; exact c2
    · simp at hv))
  have HR4 : Hid (∀ wx, Hold bo C w wx → wx.rangeAt bo 4 d.cells.toList) := Lib.hid (fun wx hx => hx.range (by show 4 + 37 ≤ 41; omega) cD)
  have HI0 : Hid ((Tryz.prog.info? 27).map (·.size) = some [Value.int .i64 ty, .int .u64 en, .slice p ps.length pc].length) := Lib.hid (by kernel_rfl)
  have HI4 : Hid ((Tryz.prog.info? 30).map (·.size) = some d.cells.toList.length) := Lib.hid (by kernel_rfl)
  have KS : Hid (∀ wx, Hold bo C w wx → wx.cell? ⟨bo, 53, none⟩ = some (.slice a bs.length cap)) := Lib.hid (fun wx hx => hx.cell (.inr rfl) c53)
  have HCT : Hid (∀ wx, Hold bo C w wx → Calls Tryz.prog 28 #[.slice a bs.length cap, headV ty en p ps.length pc, .agg d.cells] wx fun e w' => e = .returned (.tuple #[.int .i64 ((countAF bs ps d.hash d.gnuHash).1 : Int), errV ((countAF bs ps d.hash d.gnuHash).2 : Int)]) ∧ Below wx.heap.size wx w') := Lib.hid (fun wx hx =>
    count_any a cap bs ty en p pc ps d.cells d.hash d.gnuHash wx ⟨HBR.out wx hx.near, hbl, hbc, hbn, HPR.out wx hx.near, hl, hd.hash, hd.gnuHash, rfl, rfl, rfl⟩)
  have hnn := countAF_lt (bs := bs) (ps := ps) (hash := d.hash) (gnu := d.gnuHash) hb8
  have HSY : Hid (∀ wx, Hold bo C w wx → Calls Tryz.prog 29 #[.slice a bs.length cap, headV ty en p ps.length pc, .agg d.cells, .int .i64 ((countAF bs ps d.hash d.gnuHash).1 : Int)] wx (SReadAns (sreadF bs ps d ((countAF bs ps d.hash d.gnuHash).1 : Int)) wx)) := Lib.hid (fun wx hx =>
    read_any a cap bs ty en p pc ps d _ wx (HBR.out wx hx.near) hbl hbc hbn (HPR.out wx hx.near) hl hd (by omega) (by omega))
  have HVE : Hid (∀ wx, Hold bo C w wx → Calls Tryz.prog 31 #[.slice a bs.length cap, headV ty en p ps.length pc, .agg d.cells, .int .i64 ((countAF bs ps d.hash d.gnuHash).1 : Int)] wx (VersAns (versF bs ps d ((countAF bs ps d.hash d.gnuHash).1 : Int)) wx)) := Lib.hid (fun wx hx =>
    vread_any a cap bs ty en p pc ps d _ wx (HBR.out wx hx.near) hbl hbc hbn (HPR.out wx hx.near) hl hd (by omega) (by omega))
  have HRE : Hid (∀ wx, Hold bo C w wx → Calls Tryz.prog 32 #[.slice a bs.length cap, headV ty en p ps.length pc, .agg d.cells, .int .i64 ((countAF bs ps d.hash d.gnuHash).1 : Int)] wx (RelsPost (relsAF bs ps d.rela d.relasz d.jmprel d.pltrelsz d.relr d.relrsz ((countAF bs ps d.hash d.gnuHash).1 : Int)) wx)) := Lib.hid (fun wx hx =>
    rels_any a cap bs ty en p pc ps d.cells d.rela d.relasz d.jmprel d.pltrelsz d.relr d.relrsz _ wx (HBR.out wx hx.near) hbl hbc hbn (HPR.out wx hx.near) hl rfl rfl rfl rfl rfl rfl rfl hd.rela hd.relasz hd.jmprel hd.pltrelsz hd.relr hd.relrsz)
  have HTX : Hid (∀ (C1 : Array Value) (wx : World), Near bo w wx → wx.heap[bo]? = some (.cells C1 40) → C1.size = 54 → (∀ j, (j < 45 ∨ j = 53) → C1[j]? = C[j]?) → Calls Tryz.prog 30 #[.pointer (some ⟨bo, 0, none⟩)] wx (TextsPost bo C1 (strF bs ps d.strtab d.strsz) d ns wx)) := Lib.hid (fun C1 wx hx h1 h2 h3 =>
    texts_any bo C1 a cap bs ty en p pc ps d ns wx h1 h2 ((h3 0 (by omega)).trans c0) ((h3 1 (by omega)).trans c1) ((h3 2 (by omega)).trans c2)
      (fun j v hv => (h3 (4 + j) (.inl (by have : j < 37 := (List.getElem?_eq_some_iff.1 hv).1; omega))).trans (cD j v hv))
      ((h3 41 (by omega)).trans c41) ((h3 42 (by omega)).trans c42) ((h3 43 (by omega)).trans c43) ((h3 44 (by omega)).trans c44) ((h3 53 (by omega)).trans c53)
      (HBR.out wx hx) hbl hbc hbn (HPR.out wx hx) hl hd (HNN.out wx hx) hnl hnx)
  have HPO : Hid (∀ (e : Ending) (w' : World) (c : Nat), dynE bs ps d ns = c → c ≠ 0 → e = .returned (errV (c : Int)) → Near bo w w' → DynAns bo C bs ps d ns w e w') := Lib.hid (fun e w' c h1 h2 h3 h4 => ⟨by rw [h1]; exact h3, h4, fun h5 => absurd (h1.symm.trans h5) h2⟩)
  have HPK : Hid (∀ (e : Ending) (w' : World), dynE bs ps d ns = 0 → e = .returned .nilIface → Near bo w w' → DynOk bo C (strF bs ps d.strtab d.strsz).1 d ns (sreadF bs ps d ((countAF bs ps d.hash d.gnuHash).1 : Int)).1 (versF bs ps d ((countAF bs ps d.hash d.gnuHash).1 : Int)).1 (relsAF bs ps d.rela d.relasz d.jmprel d.pltrelsz d.relr d.relrsz ((countAF bs ps d.hash d.gnuHash).1 : Int)).1 w.heap.size w' → DynAns bo C bs ps d ns w e w') := Lib.hid (fun e w' h1 h3 h4 h5 => ⟨by rw [h1]; exact h3, h4, fun _ => h5⟩)
  have HDE : Hid (dynE bs ps d ns = _) := Lib.hid (dynE.eq_1 bs ps d ns)
  generalize DynAns bo C bs ps d ns w = PP at *
  generalize dynE bs ps d ns = DE at *
  generalize versF bs ps d ((countAF bs ps d.hash d.gnuHash).1 : Int) = V at *
  generalize relsAF bs ps d.rela d.relasz d.jmprel d.pltrelsz d.relr d.relrsz ((countAF bs ps d.hash d.gnuHash).1 : Int) = Q at *
  generalize sreadF bs ps d ((countAF bs ps d.hash d.gnuHash).1 : Int) = Y at *
  generalize countAF bs ps d.hash d.gnuHash = N at *
  generalize strF bs ps d.strtab d.strsz = S at *
  obtain ⟨yl, yc⟩ := Y
  obtain ⟨vd, vc⟩ := V
  obtain ⟨q, qc⟩ := Q
  obtain ⟨nn, nc⟩ := N
  replace HCT : Hid (∀ wx, Hold bo C w wx → Calls Tryz.prog 28 #[.slice a bs.length cap, headV ty en p ps.length pc, .agg d.cells] wx fun e w' => e = .returned (.tuple #[.int .i64 (nn : Int), errV (nc : Int)]) ∧ Below wx.heap.size wx w') := HCT
  replace HDE : Hid (DE = if nc ≠ 0 then nc else if yc ≠ 0 then yc else if textsE S d ns ≠ 0 then textsE S d ns else if vc ≠ 0 then vc else qc) := HDE
  obtain ⟨ev1, hev1⟩ : ∃ ev1, errV (nc : Int) = ev1 := ⟨_, rfl⟩
  rw [hev1] at HCT
  have HEV1 := Lib.hid hev1
  clear hev1
  have HOB := Lib.hid ho
  obtain ⟨v45, hv45⟩ : ∃ v, C[45]? = some v := ⟨_, Array.getElem?_eq_getElem (by omega)⟩
  have H45 := Lib.hid hv45
  clear hb hb8 hp hpw hbn c0 c1 c2 cD c41 c42 c43 c44 c53 hn hnl hnx ho hnn hv45
  generalize hDD : d.cells = D at *
  have HDD := Lib.hid hDD
  clear hDD
  unfold headV at *
  go_enter Tryz.func11, Tryz.ntmps11
  go_wp2_with fail
  refine wp_region_held_drew (S := fun wx => Hold bo C w wx) (by kernel_rfl) ((Hold.start HOB.out hsz).drew) (fun hHeld => ?_)
  first
    | (refine tkw 0 ?_ rfl ?_ ?_
       rotate_left
       · intro wx hSw
         obtain s3 := KS.out wx hSw
         (first | (go_simp; rfl) | go_simp | rfl))
    | refine tku 0 rfl ?_
  first
    | (refine tkw 1 ?_ rfl ?_ ?_
       rotate_left
       · intro wx hSw
         obtain s3 := KS.out wx hSw
         (first | (go_simp; rfl) | go_simp | rfl))
    | refine tku 1 rfl ?_
  first
    | (refine tkw 2 ?_ rfl ?_ ?_
       rotate_left
       · intro wx hSw
         obtain s3 := KS.out wx hSw
         (first | (go_simp; rfl) | go_simp | rfl))
    | refine tku 2 rfl ?_
  first
    | (refine tkw 3 ?_ rfl ?_ ?_
       rotate_left
       · intro wx hSw
         obtain s3 := KS.out wx hSw
         (first | (go_simp; rfl) | go_simp | rfl))
    | refine tku 3 rfl ?_
  first
    | (refine tkw 4 ?_ rfl ?_ ?_
       rotate_left
       · intro wx hSw
         obtain s3 := KS.out wx hSw
         (first | (go_simp; rfl) | go_simp | rfl))
    | refine tku 4 rfl ?_
  first
    | (refine tkw 5 ?_ rfl ?_ ?_
       rotate_left
       · intro wx hSw
         obtain s3 := KS.out wx hSw
         (first | (go_simp; rfl) | go_simp | rfl))
    | refine tku 5 rfl ?_
  first
    | (refine tkw 6 ?_ rfl ?_ ?_
       rotate_left
       · intro wx hSw
         obtain s3 := KS.out wx hSw
         (first | (go_simp; rfl) | go_simp | rfl))
    | refine tku 6 rfl ?_
  refine wpAnyH_take (i := 7) (v := headV ty en p ps.length pc) rfl (by kernel_rfl) (by kernel_rfl) (by kernel_rfl) (fun _ _ _ h => h) (yieldsIf_load_mid rfl 27 _ rfl bo 0 (by go_simp) [.int .i64 ty, .int .u64 en, .slice p ps.length pc] _ (fun wx hS => HR0.out wx hS) Tryz.underlying27 rfl HI0.out) (by assumption) ?_
  try simp only [List.getElem_toArray, List.getElem_cons_zero, List.getElem_cons_succ, Act.put, List.setIfInBounds_toArray, List.set_cons_zero, List.set_cons_succ, Array.toArray_toList]
  first
    | (refine tkw 8 ?_ rfl ?_ ?_
       rotate_left
       · intro wx hSw
         obtain s3 := KS.out wx hSw
         (first | (go_simp; rfl) | go_simp | rfl))
    | refine tku 8 rfl ?_
  first
    | (refine tkw 9 ?_ rfl ?_ ?_
       rotate_left
       · intro wx hSw
         obtain s3 := KS.out wx hSw
         (first | (go_simp; rfl) | go_simp | rfl))
    | refine tku 9 rfl ?_
  first
    | (refine tkw 10 ?_ rfl ?_ ?_
       rotate_left
       · intro wx hSw
         obtain s3 := KS.out wx hSw
         (first | (go_simp; rfl) | go_simp | rfl))
    | refine tku 10 rfl ?_
  refine wpAnyH_take (i := 11) (v := .agg D) rfl (by kernel_rfl) (by kernel_rfl) (by kernel_rfl) (fun _ _ _ h => h) (yieldsIf_load_mid rfl 30 _ rfl bo 4 (by go_simp) D.toList _ (fun wx hS => HR4.out wx hS) Tryz.underlying30 rfl HI4.out) (by assumption) ?_
  try simp only [List.getElem_toArray, List.getElem_cons_zero, List.getElem_cons_succ, Act.put, List.setIfInBounds_toArray, List.set_cons_zero, List.set_cons_succ, Array.toArray_toList]
  refine wpAnyH_ready (rs := [12]) (by kernel_rfl) (by simp) ?_
  refine AllReadyH.cons rfl (fun K hK => ?_) AllReadyH.nil
  go_simp
  refine (HCT.out _ hHeld).mono ?_
  rintro e w1 ⟨he, hb1⟩
  subst he
  go_simp
  refine hK.out _ _ (hHeld.step hb1 hbo) (fun hHeld1 => ?_)
  clear hK K
  try simp only [List.getElem_toArray, List.getElem_cons_zero, List.getElem_cons_succ, Act.put, List.setIfInBounds_toArray, List.set_cons_zero, List.set_cons_succ, Array.toArray_toList]
  first
    | (refine tkw 13 ?_ rfl ?_ ?_
       rotate_left
       · intro wx hSw
         obtain s3 := KS.out wx hSw
         (first | (go_simp; rfl) | go_simp | rfl))
    | refine tku 13 rfl ?_
  first
    | (refine tkw 14 ?_ rfl ?_ ?_
       rotate_left
       · intro wx hSw
         obtain s3 := KS.out wx hSw
         (first | (go_simp; rfl) | go_simp | rfl))
    | refine tku 14 rfl ?_
  first
    | (refine tkw 15 ?_ rfl ?_ ?_
       rotate_left
       · intro wx hSw
         obtain s3 := KS.out wx hSw
         (first | (go_simp; rfl) | go_simp | rfl))
    | refine tku 15 rfl ?_
  first
    | (refine tkw 16 ?_ rfl ?_ ?_
       rotate_left
       · intro wx hSw
         obtain s3 := KS.out wx hSw
         (first | (go_simp; rfl) | go_simp | rfl))
    | refine tku 16 rfl ?_
  first
    | (refine tkw 17 ?_ rfl ?_ ?_
       rotate_left
       · intro wx hSw
         obtain s3 := KS.out wx hSw
         (first | (go_simp; rfl) | go_simp | rfl))
    | refine tku 17 rfl ?_
  refine wpAnyH_done (by kernel_rfl) ?_ _
  have HH1 := Lib.hid hHeld1
  have HB1 : Hid (w1.heap[bo]? = some (.cells C 40)) := Lib.hid ((hb1.block _ hbo).trans HOB.out)
  clear hb1 hHeld hHeld1 HCT
  rcases Nat.eq_zero_or_pos nc with h0 | hpos
  case inr =>
    have he1 : ev1 = .iface 56 (.int .i64 (nc : Int)) := HEV1.out.symm.trans (errV_pos hpos)
    subst he1
    go_wp2_with fail
    exact HPO.out _ _ nc (by rw [HDE.out, if_pos (Nat.ne_of_gt hpos)]) (Nat.ne_of_gt hpos) (by rw [errV_pos hpos]; rfl) HH1.out.near
  subst h0
  have he1 : ev1 = .nilIface := HEV1.out.symm
  subst he1
  go_wp2_with fail
  refine wp_region_held_drew (S := fun wx => Hold bo C w wx) (by kernel_rfl) (HH1.out.drew) (fun hHeld => ?_)
  first
    | (refine tkw 0 ?_ rfl ?_ ?_
       rotate_left
       · intro wx hSw
         obtain s3 := KS.out wx hSw
         (first | (go_simp; rfl) | go_simp | rfl))
    | refine tku 0 rfl ?_
  first
    | (refine tkw 1 ?_ rfl ?_ ?_
       rotate_left
       · intro wx hSw
         obtain s3 := KS.out wx hSw
         (first | (go_simp; rfl) | go_simp | rfl))
    | refine tku 1 rfl ?_
  first
    | (refine tkw 2 ?_ rfl ?_ ?_
       rotate_left
       · intro wx hSw
         obtain s3 := KS.out wx hSw
         (first | (go_simp; rfl) | go_simp | rfl))
    | refine tku 2 rfl ?_
  first
    | (refine tkw 3 ?_ rfl ?_ ?_
       rotate_left
       · intro wx hSw
         obtain s3 := KS.out wx hSw
         (first | (go_simp; rfl) | go_simp | rfl))
    | refine tku 3 rfl ?_
  first
    | (refine tkw 4 ?_ rfl ?_ ?_
       rotate_left
       · intro wx hSw
         obtain s3 := KS.out wx hSw
         (first | (go_simp; rfl) | go_simp | rfl))
    | refine tku 4 rfl ?_
  first
    | (refine tkw 5 ?_ rfl ?_ ?_
       rotate_left
       · intro wx hSw
         obtain s3 := KS.out wx hSw
         (first | (go_simp; rfl) | go_simp | rfl))
    | refine tku 5 rfl ?_
  first
    | (refine tkw 6 ?_ rfl ?_ ?_
       rotate_left
       · intro wx hSw
         obtain s3 := KS.out wx hSw
         (first | (go_simp; rfl) | go_simp | rfl))
    | refine tku 6 rfl ?_
  first
    | (refine tkw 7 ?_ rfl ?_ ?_
       rotate_left
       · intro wx hSw
         obtain s3 := KS.out wx hSw
         (first | (go_simp; rfl) | go_simp | rfl))
    | refine tku 7 rfl ?_
  refine wpAnyH_take (i := 8) (v := headV ty en p ps.length pc) rfl (by kernel_rfl) (by kernel_rfl) (by kernel_rfl) (fun _ _ _ h => h) (yieldsIf_load_mid rfl 27 _ rfl bo 0 (by go_simp) [.int .i64 ty, .int .u64 en, .slice p ps.length pc] _ (fun wx hS => HR0.out wx hS) Tryz.underlying27 rfl HI0.out) (by assumption) ?_
  try simp only [List.getElem_toArray, List.getElem_cons_zero, List.getElem_cons_succ, Act.put, List.setIfInBounds_toArray, List.set_cons_zero, List.set_cons_succ, Array.toArray_toList]
  first
    | (refine tkw 9 ?_ rfl ?_ ?_
       rotate_left
       · intro wx hSw
         obtain s3 := KS.out wx hSw
         (first | (go_simp; rfl) | go_simp | rfl))
    | refine tku 9 rfl ?_
  first
    | (refine tkw 10 ?_ rfl ?_ ?_
       rotate_left
       · intro wx hSw
         obtain s3 := KS.out wx hSw
         (first | (go_simp; rfl) | go_simp | rfl))
    | refine tku 10 rfl ?_
  first
    | (refine tkw 11 ?_ rfl ?_ ?_
       rotate_left
       · intro wx hSw
         obtain s3 := KS.out wx hSw
         (first | (go_simp; rfl) | go_simp | rfl))
    | refine tku 11 rfl ?_
  refine wpAnyH_take (i := 12) (v := .agg D) rfl (by kernel_rfl) (by kernel_rfl) (by kernel_rfl) (fun _ _ _ h => h) (yieldsIf_load_mid rfl 30 _ rfl bo 4 (by go_simp) D.toList _ (fun wx hS => HR4.out wx hS) Tryz.underlying30 rfl HI4.out) (by assumption) ?_
  try simp only [List.getElem_toArray, List.getElem_cons_zero, List.getElem_cons_succ, Act.put, List.setIfInBounds_toArray, List.set_cons_zero, List.set_cons_succ, Array.toArray_toList]
  first
    | (refine tkw 13 ?_ rfl ?_ ?_
       rotate_left
       · intro wx hSw
         obtain s3 := KS.out wx hSw
         (first | (go_simp; rfl) | go_simp | rfl))
    | refine tku 13 rfl ?_
  refine wpAnyH_ready (rs := [14]) (by kernel_rfl) (by simp) ?_
  refine AllReadyH.cons rfl (fun K hK => ?_) AllReadyH.nil
  go_simp
  refine (HSY.out _ hHeld).mono ?_
  rintro e w3 ⟨ad2, c2, he, ho2, hb2⟩
  simp only [] at he ho2
  obtain ⟨ev2, hev2⟩ : ∃ ev2, errV (yc : Int) = ev2 := ⟨_, rfl⟩
  rw [hev2] at he
  have HEV2 := Lib.hid hev2
  have O2 := Lib.hid ho2
  have HB3 : Hid (w3.heap[bo]? = some (.cells C 40)) := Lib.hid ((hb2.block _ (lt_of_block HB1.out)).trans HB1.out)
  have B2 : Hid (Below w1.heap.size w1 w3) := Lib.hid (bstep (Below.refl w1.heap.size w1).drew hb2)
  clear hev2 ho2
  subst he
  have z1 : w3.cell? ⟨bo, 45, none⟩ = some v45 := (by rw [cell_of_row _ _ 45 _ _ _ HB3.out]; exact H45.out)
  have z2 : w3.frozen? ⟨bo, 45, none⟩ = false := frozen_of_row _ _ _ _ _ HB3.out
  go_simp
  refine hK.out _ _ (hHeld.step hb2 hbo) (fun hHeld => ?_)
  clear hK K hb2
  try simp only [List.getElem_toArray, List.getElem_cons_zero, List.getElem_cons_succ, Act.put, List.setIfInBounds_toArray, List.set_cons_zero, List.set_cons_succ, Array.toArray_toList]
  first
    | (refine tkw 15 ?_ rfl ?_ ?_
       rotate_left
       · intro wx hSw
         obtain s3 := KS.out wx hSw
         (first | (go_simp; rfl) | go_simp | rfl))
    | refine tku 15 rfl ?_
  first
    | (refine tkw 16 ?_ rfl ?_ ?_
       rotate_left
       · intro wx hSw
         obtain s3 := KS.out wx hSw
         (first | (go_simp; rfl) | go_simp | rfl))
    | refine tku 16 rfl ?_
  first
    | (refine tkw 17 ?_ rfl ?_ ?_
       rotate_left
       · intro wx hSw
         obtain s3 := KS.out wx hSw
         (first | (go_simp; rfl) | go_simp | rfl))
    | refine tku 17 rfl ?_
  first
    | (refine tkw 18 ?_ rfl ?_ ?_
       rotate_left
       · intro wx hSw
         obtain s3 := KS.out wx hSw
         (first | (go_simp; rfl) | go_simp | rfl))
    | refine tku 18 rfl ?_
  first
    | (refine tkw 19 ?_ rfl ?_ ?_
       rotate_left
       · intro wx hSw
         obtain s3 := KS.out wx hSw
         (first | (go_simp; rfl) | go_simp | rfl))
    | refine tku 19 rfl ?_
  refine wpAnyH_ready (rs := [20]) (by kernel_rfl) (by simp) ?_
  refine AllReadyH.cons rfl (fun K hK => ?_) AllReadyH.nil
  go_simp
  refine hK.out _ _ (Hold.set hHeld (by omega) (by omega)) (fun hHeld => ?_)
  clear hK K
  try simp only [List.getElem_toArray, List.getElem_cons_zero, List.getElem_cons_succ, Act.put, List.setIfInBounds_toArray, List.set_cons_zero, List.set_cons_succ, Array.toArray_toList]
  first
    | (refine tkw 21 ?_ rfl ?_ ?_
       rotate_left
       · intro wx hSw
         obtain s3 := KS.out wx hSw
         (first | (go_simp; rfl) | go_simp | rfl))
    | refine tku 21 rfl ?_
  refine wpAnyH_done (by kernel_rfl) ?_ _
  have HB4 : Hid (∀ wz, wz = w3.setCell ⟨bo, 45, none⟩ (.slice ad2 yl.length c2) → wz.heap[bo]? = some (.cells (C.setIfInBounds 45 (.slice ad2 yl.length c2)) 40) ∧ OwnS wz w.heap.size 48 7 (.slice ad2 yl.length c2) yl) := Lib.hid (by
    rintro wz rfl
    exact ⟨block_set HB3.out, (O2.out.mono HH1.out.near.size).near HB3.out (by decide) ((Near.refl _ _).set _ _)⟩)
  generalize w3.setCell ⟨bo, 45, none⟩ (.slice ad2 yl.length c2) = w4 at *
  have HB4 := Lib.hid (HB4.out _ rfl)
  have HH4 := Lib.hid hHeld
  clear hHeld z1 z2
  obtain ⟨C1, hC1⟩ : ∃ A, C.setIfInBounds 45 (.slice ad2 yl.length c2) = A := ⟨_, rfl⟩
  have HC1 : Hid (C1.size = 54 ∧ C1[45]? = some (.slice ad2 yl.length c2) ∧ ∀ j, j ≠ 45 → C1[j]? = C[j]?) := Lib.hid (by
    rw [← hC1]
    exact ⟨by rw [Array.size_setIfInBounds]; exact hsz, by rw [Array.getElem?_setIfInBounds_self_of_lt (by omega)], fun j hj => by rw [Array.getElem?_setIfInBounds_ne (by omega)]⟩)
  rw [hC1] at HB4
  clear hC1
  rcases Nat.eq_zero_or_pos yc with h0 | hpos
  case inr =>
    have he1 : ev2 = .iface 56 (.int .i64 (yc : Int)) := HEV2.out.symm.trans (errV_pos hpos)
    subst he1
    go_wp2_with fail
    exact HPO.out _ _ yc (by rw [HDE.out, if_neg (by simp), if_pos (Nat.ne_of_gt hpos)]) (Nat.ne_of_gt hpos) (by rw [errV_pos hpos]; rfl) HH4.out.near
  subst h0
  have he1 : ev2 = .nilIface := HEV2.out.symm
  subst he1
  go_wp2_with fail
  refine (HTX.out C1 w4 HH4.out.near HB4.out.1 HC1.out.1 (fun j hj => HC1.out.2.2 j (by omega))).mono ?_
  intro e w5 ht
  obtain ⟨he, hn5, hok⟩ := ht
  obtain ⟨tc, htc⟩ : ∃ c, textsE S d ns = c := ⟨_, rfl⟩
  rw [htc] at he hok
  obtain ⟨ev3, hev3⟩ : ∃ ev3, errV (tc : Int) = ev3 := ⟨_, rfl⟩
  rw [hev3] at he
  have HTC := Lib.hid htc
  have HEV3 := Lib.hid hev3
  have HN45 := Lib.hid hn5
  have HN5 := Lib.hid (HH4.out.near.trans hn5)
  have HOK := Lib.hid hok
  clear htc hev3 hn5 hok
  subst he
  rcases Nat.eq_zero_or_pos tc with h0 | hpos
  case inr =>
    have he1 : ev3 = .iface 56 (.int .i64 (tc : Int)) := HEV3.out.symm.trans (errV_pos hpos)
    subst he1
    go_wp2_with fail
    exact HPO.out _ _ tc (by rw [HDE.out, if_neg (by simp), if_neg (by simp), HTC.out, if_pos (Nat.ne_of_gt hpos)]) (Nat.ne_of_gt hpos) (by rw [errV_pos hpos]; rfl) HN5.out
  subst h0
  have he1 : ev3 = .nilIface := HEV3.out.symm
  subst he1
  obtain ⟨an, cn, hb5, hon⟩ := HOK.out rfl
  have HON := Lib.hid (OwnS.mono hon HH4.out.near.size)
  have HY5 := Lib.hid (HB4.out.2.near HB4.out.1 (by decide) HN45.out)
  obtain ⟨C2, hC2⟩ : ∃ A, (stA C1 (txF S.1 d) 3).setIfInBounds 44 (.slice an ns.length cn) = A := ⟨_, rfl⟩
  have HC2 : Hid (C2.size = 54 ∧ (∀ j, (j < 41 ∨ j = 53) → C2[j]? = C[j]?) ∧ (∀ k, k < 3 → C2[41 + k]? = some (txF S.1 d k)) ∧ C2[44]? = some (.slice an ns.length cn) ∧ C2[45]? = some (.slice ad2 yl.length c2)) := Lib.hid (by
    have h1 : (stA C1 (txF S.1 d) 3).size = 54 := by rw [stA_size]; exact HC1.out.1
    rw [← hC2]
    refine ⟨by rw [Array.size_setIfInBounds]; exact h1, fun j hj => ?_, fun k hk => ?_, by rw [Array.getElem?_setIfInBounds_self_of_lt (by omega)], ?_⟩
    · rw [Array.getElem?_setIfInBounds_ne (by omega), stA_keep _ _ 3 j (by omega)]
      exact HC1.out.2.2 j (by omega)
    · rw [Array.getElem?_setIfInBounds_ne (by omega)]
      exact stA_at (by rw [HC1.out.1]; omega) hk
    · rw [Array.getElem?_setIfInBounds_ne (by omega), stA_keep _ _ 3 45 (by omega)]
      exact HC1.out.2.1)
  rw [hC2] at hb5
  have HB5 := Lib.hid hb5
  have HH5 : Hid (Hold bo C w w5) := Lib.hid (Hold.to HN5.out hb5 HC2.out.1 HC2.out.2.1)
  have hs2 := HC2.out.1
  obtain ⟨u46, hu46⟩ : ∃ v, C2[46]? = some v := ⟨_, Array.getElem?_eq_getElem (by omega)⟩
  obtain ⟨u47, hu47⟩ : ∃ v, C2[47]? = some v := ⟨_, Array.getElem?_eq_getElem (by omega)⟩
  obtain ⟨u48, hu48⟩ : ∃ v, C2[48]? = some v := ⟨_, Array.getElem?_eq_getElem (by omega)⟩
  obtain ⟨u49, hu49⟩ : ∃ v, C2[49]? = some v := ⟨_, Array.getElem?_eq_getElem (by omega)⟩
  have HU := Lib.hid (And.intro hu46 (And.intro hu47 (And.intro hu48 (And.intro hu49 True.intro))))
  clear hC2 hb5 hon hs2 hu46 hu47 hu48 hu49 HOK HTX HSY
  go_wp2_with fail
  refine wp_region_held_drew (S := fun wx => Hold bo C w wx) (by kernel_rfl) (HH5.out.drew) (fun hHeld => ?_)
  first
    | (refine tkw 0 ?_ rfl ?_ ?_
       rotate_left
       · intro wx hSw
         obtain s3 := KS.out wx hSw
         (first | (go_simp; rfl) | go_simp | rfl))
    | refine tku 0 rfl ?_
  first
    | (refine tkw 1 ?_ rfl ?_ ?_
       rotate_left
       · intro wx hSw
         obtain s3 := KS.out wx hSw
         (first | (go_simp; rfl) | go_simp | rfl))
    | refine tku 1 rfl ?_
  first
    | (refine tkw 2 ?_ rfl ?_ ?_
       rotate_left
       · intro wx hSw
         obtain s3 := KS.out wx hSw
         (first | (go_simp; rfl) | go_simp | rfl))
    | refine tku 2 rfl ?_
  first
    | (refine tkw 3 ?_ rfl ?_ ?_
       rotate_left
       · intro wx hSw
         obtain s3 := KS.out wx hSw
         (first | (go_simp; rfl) | go_simp | rfl))
    | refine tku 3 rfl ?_
  first
    | (refine tkw 4 ?_ rfl ?_ ?_
       rotate_left
       · intro wx hSw
         obtain s3 := KS.out wx hSw
         (first | (go_simp; rfl) | go_simp | rfl))
    | refine tku 4 rfl ?_
  first
    | (refine tkw 5 ?_ rfl ?_ ?_
       rotate_left
       · intro wx hSw
         obtain s3 := KS.out wx hSw
         (first | (go_simp; rfl) | go_simp | rfl))
    | refine tku 5 rfl ?_
  first
    | (refine tkw 6 ?_ rfl ?_ ?_
       rotate_left
       · intro wx hSw
         obtain s3 := KS.out wx hSw
         (first | (go_simp; rfl) | go_simp | rfl))
    | refine tku 6 rfl ?_
  first
    | (refine tkw 7 ?_ rfl ?_ ?_
       rotate_left
       · intro wx hSw
         obtain s3 := KS.out wx hSw
         (first | (go_simp; rfl) | go_simp | rfl))
    | refine tku 7 rfl ?_
  refine wpAnyH_take (i := 8) (v := headV ty en p ps.length pc) rfl (by kernel_rfl) (by kernel_rfl) (by kernel_rfl) (fun _ _ _ h => h) (yieldsIf_load_mid rfl 27 _ rfl bo 0 (by go_simp) [.int .i64 ty, .int .u64 en, .slice p ps.length pc] _ (fun wx hS => HR0.out wx hS) Tryz.underlying27 rfl HI0.out) (by assumption) ?_
  try simp only [List.getElem_toArray, List.getElem_cons_zero, List.getElem_cons_succ, Act.put, List.setIfInBounds_toArray, List.set_cons_zero, List.set_cons_succ, Array.toArray_toList]
  first
    | (refine tkw 9 ?_ rfl ?_ ?_
       rotate_left
       · intro wx hSw
         obtain s3 := KS.out wx hSw
         (first | (go_simp; rfl) | go_simp | rfl))
    | refine tku 9 rfl ?_
  first
    | (refine tkw 10 ?_ rfl ?_ ?_
       rotate_left
       · intro wx hSw
         obtain s3 := KS.out wx hSw
         (first | (go_simp; rfl) | go_simp | rfl))
    | refine tku 10 rfl ?_
  first
    | (refine tkw 11 ?_ rfl ?_ ?_
       rotate_left
       · intro wx hSw
         obtain s3 := KS.out wx hSw
         (first | (go_simp; rfl) | go_simp | rfl))
    | refine tku 11 rfl ?_
  refine wpAnyH_take (i := 12) (v := .agg D) rfl (by kernel_rfl) (by kernel_rfl) (by kernel_rfl) (fun _ _ _ h => h) (yieldsIf_load_mid rfl 30 _ rfl bo 4 (by go_simp) D.toList _ (fun wx hS => HR4.out wx hS) Tryz.underlying30 rfl HI4.out) (by assumption) ?_
  try simp only [List.getElem_toArray, List.getElem_cons_zero, List.getElem_cons_succ, Act.put, List.setIfInBounds_toArray, List.set_cons_zero, List.set_cons_succ, Array.toArray_toList]
  first
    | (refine tkw 13 ?_ rfl ?_ ?_
       rotate_left
       · intro wx hSw
         obtain s3 := KS.out wx hSw
         (first | (go_simp; rfl) | go_simp | rfl))
    | refine tku 13 rfl ?_
  refine wpAnyH_ready (rs := [14]) (by kernel_rfl) (by simp) ?_
  refine AllReadyH.cons rfl (fun K hK => ?_) AllReadyH.nil
  go_simp
  refine (HVE.out _ hHeld).mono ?_
  rintro e w7 ⟨oa, oc, da, dc, drows, na, nv, nrows, he, o1, o2, o3, o4, o5, hb2⟩
  simp only [] at he o1 o2 o3 o4 o5
  obtain ⟨ev4, hev4⟩ : ∃ ev4, errV (vc : Int) = ev4 := ⟨_, rfl⟩
  rw [hev4] at he
  have HEV4 := Lib.hid hev4
  have OV := Lib.hid (And.intro o1 (And.intro o2 (And.intro o3 (And.intro o4 o5))))
  have HB7 : Hid (w7.heap[bo]? = some (.cells C2 40)) := Lib.hid ((hb2.block _ (lt_of_block HB5.out)).trans HB5.out)
  have B7 : Hid (Below w5.heap.size w5 w7) := Lib.hid (bstep (Below.refl w5.heap.size w5).drew hb2)
  clear hev4 o1 o2 o3 o4 o5
  subst he
  have z1 : w7.cell? ⟨bo, 46, none⟩ = some u46 := (by rw [cell_of_row _ _ 46 _ _ _ HB7.out]; exact HU.out.1)
  have z2 : w7.cell? ⟨bo, 47, none⟩ = some u47 := (by rw [cell_of_row _ _ 47 _ _ _ HB7.out]; exact HU.out.2.1)
  have z3 : w7.cell? ⟨bo, 48, none⟩ = some u48 := (by rw [cell_of_row _ _ 48 _ _ _ HB7.out]; exact HU.out.2.2.1)
  have z4 : w7.cell? ⟨bo, 49, none⟩ = some u49 := (by rw [cell_of_row _ _ 49 _ _ _ HB7.out]; exact HU.out.2.2.2.1)
  have y1 : w7.frozen? ⟨bo, 46, none⟩ = false := frozen_of_row _ _ _ _ _ HB7.out
  have y2 : w7.frozen? ⟨bo, 47, none⟩ = false := frozen_of_row _ _ _ _ _ HB7.out
  have y3 : w7.frozen? ⟨bo, 48, none⟩ = false := frozen_of_row _ _ _ _ _ HB7.out
  have y4 : w7.frozen? ⟨bo, 49, none⟩ = false := frozen_of_row _ _ _ _ _ HB7.out
  go_simp
  refine hK.out _ _ (hHeld.step hb2 hbo) (fun hHeld => ?_)
  clear hK K hb2
  try simp only [List.getElem_toArray, List.getElem_cons_zero, List.getElem_cons_succ, Act.put, List.setIfInBounds_toArray, List.set_cons_zero, List.set_cons_succ, Array.toArray_toList]
  first
    | (refine tkw 15 ?_ rfl ?_ ?_
       rotate_left
       · intro wx hSw
         obtain s3 := KS.out wx hSw
         (first | (go_simp; rfl) | go_simp | rfl))
    | refine tku 15 rfl ?_
  first
    | (refine tkw 16 ?_ rfl ?_ ?_
       rotate_left
       · intro wx hSw
         obtain s3 := KS.out wx hSw
         (first | (go_simp; rfl) | go_simp | rfl))
    | refine tku 16 rfl ?_
  first
    | (refine tkw 17 ?_ rfl ?_ ?_
       rotate_left
       · intro wx hSw
         obtain s3 := KS.out wx hSw
         (first | (go_simp; rfl) | go_simp | rfl))
    | refine tku 17 rfl ?_
  first
    | (refine tkw 18 ?_ rfl ?_ ?_
       rotate_left
       · intro wx hSw
         obtain s3 := KS.out wx hSw
         (first | (go_simp; rfl) | go_simp | rfl))
    | refine tku 18 rfl ?_
  first
    | (refine tkw 19 ?_ rfl ?_ ?_
       rotate_left
       · intro wx hSw
         obtain s3 := KS.out wx hSw
         (first | (go_simp; rfl) | go_simp | rfl))
    | refine tku 19 rfl ?_
  refine wpAnyH_ready (rs := [20]) (by kernel_rfl) (by simp) ?_
  refine AllReadyH.cons rfl (fun K hK => ?_) AllReadyH.nil
  go_simp
  refine hK.out _ _ ((((hHeld.set (by omega) (by omega)).set (by omega) (by omega)).set (by omega) (by omega)).set (by omega) (by omega)) (fun hHeld => ?_)
  clear hK K
  try simp only [List.getElem_toArray, List.getElem_cons_zero, List.getElem_cons_succ, Act.put, List.setIfInBounds_toArray, List.set_cons_zero, List.set_cons_succ, Array.toArray_toList]
  first
    | (refine tkw 21 ?_ rfl ?_ ?_
       rotate_left
       · intro wx hSw
         obtain s3 := KS.out wx hSw
         (first | (go_simp; rfl) | go_simp | rfl))
    | refine tku 21 rfl ?_
  refine wpAnyH_done (by kernel_rfl) ?_ _
  have HB8 : Hid (∀ wz, wz = (((w7.setCell ⟨bo, 46, none⟩ (.bool vd.has)).setCell ⟨bo, 47, none⟩ (.slice oa vd.of.length oc)).setCell ⟨bo, 48, none⟩ (.slice da vd.defs.length dc)).setCell ⟨bo, 49, none⟩ (.slice na vd.needs.length nv) → wz.heap[bo]? = some (.cells ((((C2.setIfInBounds 46 (.bool vd.has)).setIfInBounds 47 (.slice oa vd.of.length oc)).setIfInBounds 48 (.slice da vd.defs.length dc)).setIfInBounds 49 (.slice na vd.needs.length nv)) 40) ∧ Near bo w7 wz) := Lib.hid (by
    rintro wz rfl
    exact ⟨block_set (block_set (block_set (block_set HB7.out))), ((((Near.refl _ _).set _ _).set _ _).set _ _).set _ _⟩)
  generalize (((w7.setCell ⟨bo, 46, none⟩ (.bool vd.has)).setCell ⟨bo, 47, none⟩ (.slice oa vd.of.length oc)).setCell ⟨bo, 48, none⟩ (.slice da vd.defs.length dc)).setCell ⟨bo, 49, none⟩ (.slice na vd.needs.length nv) = w8 at *
  have HB8 := Lib.hid (HB8.out _ rfl)
  have HH8 := Lib.hid hHeld
  clear hHeld z1 z2 z3 z4 y1 y2 y3 y4
  obtain ⟨C3, hC3⟩ : ∃ A, (((C2.setIfInBounds 46 (.bool vd.has)).setIfInBounds 47 (.slice oa vd.of.length oc)).setIfInBounds 48 (.slice da vd.defs.length dc)).setIfInBounds 49 (.slice na vd.needs.length nv) = A := ⟨_, rfl⟩
  have HC3 : Hid (C3.size = 54 ∧ (∀ j, (j < 46 ∨ 50 ≤ j) → C3[j]? = C2[j]?) ∧ C3[46]? = some (.bool vd.has) ∧ C3[47]? = some (.slice oa vd.of.length oc) ∧ C3[48]? = some (.slice da vd.defs.length dc) ∧ C3[49]? = some (.slice na vd.needs.length nv)) := Lib.hid (by
    have hs2 := HC2.out.1
    rw [← hC3]
    refine ⟨by simp [hs2], fun j hj => ?_, by simp [Array.getElem?_setIfInBounds, hs2], by simp [Array.getElem?_setIfInBounds, hs2], by simp [Array.getElem?_setIfInBounds, hs2], by simp [Array.getElem?_setIfInBounds, hs2]⟩
    rw [Array.getElem?_setIfInBounds_ne (by omega), Array.getElem?_setIfInBounds_ne (by omega), Array.getElem?_setIfInBounds_ne (by omega), Array.getElem?_setIfInBounds_ne (by omega)])
  rw [hC3] at HB8
  have HN58 : Hid (Near bo w5 w8) := Lib.hid ((Near.of B7.out (lt_of_block HB5.out)).trans HB8.out.2)
  have HON8 := Lib.hid (HON.out.near HB5.out (by decide) HN58.out)
  have HY8 := Lib.hid (HY5.out.near HB5.out (by decide) HN58.out)
  have hw5 := HN5.out.size
  have OV8 : Hid (OwnI w8 w.heap.size 3 .i64 (.slice oa vd.of.length oc) (toI vd.of) ∧ OwnS w8 w.heap.size 204 4 (.slice da vd.defs.length dc) drows ∧ DefRows w8 w.heap.size vd.defs drows ∧ OwnS w8 w.heap.size 210 2 (.slice na vd.needs.length nv) nrows ∧ NeedRows w8 w.heap.size vd.needs nrows) := Lib.hid (by
    obtain ⟨o1, o2, o3, o4, o5⟩ := OV.out
    exact ⟨(o1.mono hw5).near HB7.out (by decide) HB8.out.2, (o2.mono hw5).near HB7.out (by decide) HB8.out.2, DefRows.near HB7.out HB8.out.2 (DefRows.monoO hw5 o3), (o4.mono hw5).near HB7.out (by decide) HB8.out.2, NeedRows.near HB7.out HB8.out.2 (NeedRows.monoO hw5 o5)⟩)
  have hs3 := HC3.out.1
  obtain ⟨u50, hu50⟩ : ∃ v, C3[50]? = some v := ⟨_, Array.getElem?_eq_getElem (by omega)⟩
  obtain ⟨u51, hu51⟩ : ∃ v, C3[51]? = some v := ⟨_, Array.getElem?_eq_getElem (by omega)⟩
  obtain ⟨u52, hu52⟩ : ∃ v, C3[52]? = some v := ⟨_, Array.getElem?_eq_getElem (by omega)⟩
  have HU3 := Lib.hid (And.intro hu50 (And.intro hu51 (And.intro hu52 True.intro)))
  clear hC3 hs3 hu50 hu51 hu52 hw5 HU OV HON HY5 HVE
  rcases Nat.eq_zero_or_pos vc with h0 | hpos
  case inr =>
    have he1 : ev4 = .iface 56 (.int .i64 (vc : Int)) := HEV4.out.symm.trans (errV_pos hpos)
    subst he1
    go_wp2_with fail
    exact HPO.out _ _ vc (by rw [HDE.out, if_neg (by simp), if_neg (by simp), HTC.out, if_neg (by simp), if_pos (Nat.ne_of_gt hpos)]) (Nat.ne_of_gt hpos) (by rw [errV_pos hpos]; rfl) HH8.out.near
  subst h0
  have he1 : ev4 = .nilIface := HEV4.out.symm
  subst he1
  go_wp2_with fail
  refine wp_region_held_drew (S := fun wx => Hold bo C w wx) (by kernel_rfl) (HH8.out.drew) (fun hHeld => ?_)
  first
    | (refine tkw 0 ?_ rfl ?_ ?_
       rotate_left
       · intro wx hSw
         obtain s3 := KS.out wx hSw
         (first | (go_simp; rfl) | go_simp | rfl))
    | refine tku 0 rfl ?_
  first
    | (refine tkw 1 ?_ rfl ?_ ?_
       rotate_left
       · intro wx hSw
         obtain s3 := KS.out wx hSw
         (first | (go_simp; rfl) | go_simp | rfl))
    | refine tku 1 rfl ?_
  first
    | (refine tkw 2 ?_ rfl ?_ ?_
       rotate_left
       · intro wx hSw
         obtain s3 := KS.out wx hSw
         (first | (go_simp; rfl) | go_simp | rfl))
    | refine tku 2 rfl ?_
  first
    | (refine tkw 3 ?_ rfl ?_ ?_
       rotate_left
       · intro wx hSw
         obtain s3 := KS.out wx hSw
         (first | (go_simp; rfl) | go_simp | rfl))
    | refine tku 3 rfl ?_
  first
    | (refine tkw 4 ?_ rfl ?_ ?_
       rotate_left
       · intro wx hSw
         obtain s3 := KS.out wx hSw
         (first | (go_simp; rfl) | go_simp | rfl))
    | refine tku 4 rfl ?_
  first
    | (refine tkw 5 ?_ rfl ?_ ?_
       rotate_left
       · intro wx hSw
         obtain s3 := KS.out wx hSw
         (first | (go_simp; rfl) | go_simp | rfl))
    | refine tku 5 rfl ?_
  first
    | (refine tkw 6 ?_ rfl ?_ ?_
       rotate_left
       · intro wx hSw
         obtain s3 := KS.out wx hSw
         (first | (go_simp; rfl) | go_simp | rfl))
    | refine tku 6 rfl ?_
  first
    | (refine tkw 7 ?_ rfl ?_ ?_
       rotate_left
       · intro wx hSw
         obtain s3 := KS.out wx hSw
         (first | (go_simp; rfl) | go_simp | rfl))
    | refine tku 7 rfl ?_
  first
    | (refine tkw 8 ?_ rfl ?_ ?_
       rotate_left
       · intro wx hSw
         obtain s3 := KS.out wx hSw
         (first | (go_simp; rfl) | go_simp | rfl))
    | refine tku 8 rfl ?_
  first
    | (refine tkw 9 ?_ rfl ?_ ?_
       rotate_left
       · intro wx hSw
         obtain s3 := KS.out wx hSw
         (first | (go_simp; rfl) | go_simp | rfl))
    | refine tku 9 rfl ?_
  refine wpAnyH_take (i := 10) (v := headV ty en p ps.length pc) rfl (by kernel_rfl) (by kernel_rfl) (by kernel_rfl) (fun _ _ _ h => h) (yieldsIf_load_mid rfl 27 _ rfl bo 0 (by go_simp) [.int .i64 ty, .int .u64 en, .slice p ps.length pc] _ (fun wx hS => HR0.out wx hS) Tryz.underlying27 rfl HI0.out) (by assumption) ?_
  try simp only [List.getElem_toArray, List.getElem_cons_zero, List.getElem_cons_succ, Act.put, List.setIfInBounds_toArray, List.set_cons_zero, List.set_cons_succ, Array.toArray_toList]
  first
    | (refine tkw 11 ?_ rfl ?_ ?_
       rotate_left
       · intro wx hSw
         obtain s3 := KS.out wx hSw
         (first | (go_simp; rfl) | go_simp | rfl))
    | refine tku 11 rfl ?_
  first
    | (refine tkw 12 ?_ rfl ?_ ?_
       rotate_left
       · intro wx hSw
         obtain s3 := KS.out wx hSw
         (first | (go_simp; rfl) | go_simp | rfl))
    | refine tku 12 rfl ?_
  first
    | (refine tkw 13 ?_ rfl ?_ ?_
       rotate_left
       · intro wx hSw
         obtain s3 := KS.out wx hSw
         (first | (go_simp; rfl) | go_simp | rfl))
    | refine tku 13 rfl ?_
  refine wpAnyH_take (i := 14) (v := .agg D) rfl (by kernel_rfl) (by kernel_rfl) (by kernel_rfl) (fun _ _ _ h => h) (yieldsIf_load_mid rfl 30 _ rfl bo 4 (by go_simp) D.toList _ (fun wx hS => HR4.out wx hS) Tryz.underlying30 rfl HI4.out) (by assumption) ?_
  try simp only [List.getElem_toArray, List.getElem_cons_zero, List.getElem_cons_succ, Act.put, List.setIfInBounds_toArray, List.set_cons_zero, List.set_cons_succ, Array.toArray_toList]
  first
    | (refine tkw 15 ?_ rfl ?_ ?_
       rotate_left
       · intro wx hSw
         obtain s3 := KS.out wx hSw
         (first | (go_simp; rfl) | go_simp | rfl))
    | refine tku 15 rfl ?_
  refine wpAnyH_ready (rs := [16]) (by kernel_rfl) (by simp) ?_
  refine AllReadyH.cons rfl (fun K hK => ?_) AllReadyH.nil
  go_simp
  refine (HRE.out _ hHeld).mono ?_
  rintro e w9 ⟨a1, m1, e1, a2, m2, e2, a3, m3, e3, he, p1, p2, p3, hb2⟩
  simp only [] at he p1 p2 p3
  obtain ⟨ev5, hev5⟩ : ∃ ev5, errV (qc : Int) = ev5 := ⟨_, rfl⟩
  rw [hev5] at he
  have HEV5 := Lib.hid hev5
  have OQ := Lib.hid (And.intro p1 (And.intro p2 p3))
  have HB9 : Hid (w9.heap[bo]? = some (.cells C3 40)) := Lib.hid ((hb2.block _ (lt_of_block HB8.out.1)).trans HB8.out.1)
  have B9 : Hid (Below w8.heap.size w8 w9) := Lib.hid (bstep (Below.refl w8.heap.size w8).drew hb2)
  clear hev5 p1 p2 p3
  subst he
  have z1 : w9.cell? ⟨bo, 50, none⟩ = some u50 := (by rw [cell_of_row _ _ 50 _ _ _ HB9.out]; exact HU3.out.1)
  have z2 : w9.cell? ⟨bo, 51, none⟩ = some u51 := (by rw [cell_of_row _ _ 51 _ _ _ HB9.out]; exact HU3.out.2.1)
  have z3 : w9.cell? ⟨bo, 52, none⟩ = some u52 := (by rw [cell_of_row _ _ 52 _ _ _ HB9.out]; exact HU3.out.2.2.1)
  have y1 : w9.frozen? ⟨bo, 50, none⟩ = false := frozen_of_row _ _ _ _ _ HB9.out
  have y2 : w9.frozen? ⟨bo, 51, none⟩ = false := frozen_of_row _ _ _ _ _ HB9.out
  have y3 : w9.frozen? ⟨bo, 52, none⟩ = false := frozen_of_row _ _ _ _ _ HB9.out
  go_simp
  refine hK.out _ _ (hHeld.step hb2 hbo) (fun hHeld => ?_)
  clear hK K hb2
  try simp only [List.getElem_toArray, List.getElem_cons_zero, List.getElem_cons_succ, Act.put, List.setIfInBounds_toArray, List.set_cons_zero, List.set_cons_succ, Array.toArray_toList]
  first
    | (refine tkw 17 ?_ rfl ?_ ?_
       rotate_left
       · intro wx hSw
         obtain s3 := KS.out wx hSw
         (first | (go_simp; rfl) | go_simp | rfl))
    | refine tku 17 rfl ?_
  first
    | (refine tkw 18 ?_ rfl ?_ ?_
       rotate_left
       · intro wx hSw
         obtain s3 := KS.out wx hSw
         (first | (go_simp; rfl) | go_simp | rfl))
    | refine tku 18 rfl ?_
  first
    | (refine tkw 19 ?_ rfl ?_ ?_
       rotate_left
       · intro wx hSw
         obtain s3 := KS.out wx hSw
         (first | (go_simp; rfl) | go_simp | rfl))
    | refine tku 19 rfl ?_
  first
    | (refine tkw 20 ?_ rfl ?_ ?_
       rotate_left
       · intro wx hSw
         obtain s3 := KS.out wx hSw
         (first | (go_simp; rfl) | go_simp | rfl))
    | refine tku 20 rfl ?_
  first
    | (refine tkw 21 ?_ rfl ?_ ?_
       rotate_left
       · intro wx hSw
         obtain s3 := KS.out wx hSw
         (first | (go_simp; rfl) | go_simp | rfl))
    | refine tku 21 rfl ?_
  first
    | (refine tkw 22 ?_ rfl ?_ ?_
       rotate_left
       · intro wx hSw
         obtain s3 := KS.out wx hSw
         (first | (go_simp; rfl) | go_simp | rfl))
    | refine tku 22 rfl ?_
  first
    | (refine tkw 23 ?_ rfl ?_ ?_
       rotate_left
       · intro wx hSw
         obtain s3 := KS.out wx hSw
         (first | (go_simp; rfl) | go_simp | rfl))
    | refine tku 23 rfl ?_
  refine wpAnyH_ready (rs := [24]) (by kernel_rfl) (by simp) ?_
  refine AllReadyH.cons rfl (fun K hK => ?_) AllReadyH.nil
  go_simp
  refine hK.out _ _ (Hold.set hHeld (by omega) (by omega)) (fun hHeld => ?_)
  clear hK K
  try simp only [List.getElem_toArray, List.getElem_cons_zero, List.getElem_cons_succ, Act.put, List.setIfInBounds_toArray, List.set_cons_zero, List.set_cons_succ, Array.toArray_toList]
  first
    | (refine tkw 25 ?_ rfl ?_ ?_
       rotate_left
       · intro wx hSw
         obtain s3 := KS.out wx hSw
         (first | (go_simp; rfl) | go_simp | rfl))
    | refine tku 25 rfl ?_
  first
    | (refine tkw 26 ?_ rfl ?_ ?_
       rotate_left
       · intro wx hSw
         obtain s3 := KS.out wx hSw
         (first | (go_simp; rfl) | go_simp | rfl))
    | refine tku 26 rfl ?_
  refine wpAnyH_ready (rs := [27]) (by kernel_rfl) (by simp) ?_
  refine AllReadyH.cons rfl (fun K hK => ?_) AllReadyH.nil
  go_simp
  refine hK.out _ _ (Hold.set hHeld (by omega) (by omega)) (fun hHeld => ?_)
  clear hK K
  try simp only [List.getElem_toArray, List.getElem_cons_zero, List.getElem_cons_succ, Act.put, List.setIfInBounds_toArray, List.set_cons_zero, List.set_cons_succ, Array.toArray_toList]
  first
    | (refine tkw 28 ?_ rfl ?_ ?_
       rotate_left
       · intro wx hSw
         obtain s3 := KS.out wx hSw
         (first | (go_simp; rfl) | go_simp | rfl))
    | refine tku 28 rfl ?_
  first
    | (refine tkw 29 ?_ rfl ?_ ?_
       rotate_left
       · intro wx hSw
         obtain s3 := KS.out wx hSw
         (first | (go_simp; rfl) | go_simp | rfl))
    | refine tku 29 rfl ?_
  refine wpAnyH_ready (rs := [30]) (by kernel_rfl) (by simp) ?_
  refine AllReadyH.cons rfl (fun K hK => ?_) AllReadyH.nil
  go_simp
  refine hK.out _ _ (Hold.set hHeld (by omega) (by omega)) (fun hHeld => ?_)
  clear hK K
  try simp only [List.getElem_toArray, List.getElem_cons_zero, List.getElem_cons_succ, Act.put, List.setIfInBounds_toArray, List.set_cons_zero, List.set_cons_succ, Array.toArray_toList]
  first
    | (refine tkw 31 ?_ rfl ?_ ?_
       rotate_left
       · intro wx hSw
         obtain s3 := KS.out wx hSw
         (first | (go_simp; rfl) | go_simp | rfl))
    | refine tku 31 rfl ?_
  refine wpAnyH_done (by kernel_rfl) ?_ _
  have HB10 : Hid (∀ wz, wz = ((w9.setCell ⟨bo, 50, none⟩ (.slice a1 m1 e1)).setCell ⟨bo, 51, none⟩ (.slice a2 m2 e2)).setCell ⟨bo, 52, none⟩ (.slice a3 m3 e3) → wz.heap[bo]? = some (.cells (((C3.setIfInBounds 50 (.slice a1 m1 e1)).setIfInBounds 51 (.slice a2 m2 e2)).setIfInBounds 52 (.slice a3 m3 e3)) 40) ∧ Near bo w9 wz) := Lib.hid (by
    rintro wz rfl
    exact ⟨block_set (block_set (block_set HB9.out)), (((Near.refl _ _).set _ _).set _ _).set _ _⟩)
  generalize ((w9.setCell ⟨bo, 50, none⟩ (.slice a1 m1 e1)).setCell ⟨bo, 51, none⟩ (.slice a2 m2 e2)).setCell ⟨bo, 52, none⟩ (.slice a3 m3 e3) = w10 at *
  have HB10 := Lib.hid (HB10.out _ rfl)
  have HH10 := Lib.hid hHeld
  clear hHeld z1 z2 z3 y1 y2 y3
  obtain ⟨C4, hC4⟩ : ∃ A, ((C3.setIfInBounds 50 (.slice a1 m1 e1)).setIfInBounds 51 (.slice a2 m2 e2)).setIfInBounds 52 (.slice a3 m3 e3) = A := ⟨_, rfl⟩
  have HC4 : Hid (C4.size = 54 ∧ (∀ j, (j < 50 ∨ 53 ≤ j) → C4[j]? = C3[j]?) ∧ C4[50]? = some (.slice a1 m1 e1) ∧ C4[51]? = some (.slice a2 m2 e2) ∧ C4[52]? = some (.slice a3 m3 e3)) := Lib.hid (by
    have hs3 := HC3.out.1
    rw [← hC4]
    refine ⟨by simp [hs3], fun j hj => ?_, by simp [Array.getElem?_setIfInBounds, hs3], by simp [Array.getElem?_setIfInBounds, hs3], by simp [Array.getElem?_setIfInBounds, hs3]⟩
    rw [Array.getElem?_setIfInBounds_ne (by omega), Array.getElem?_setIfInBounds_ne (by omega), Array.getElem?_setIfInBounds_ne (by omega)])
  rw [hC4] at HB10
  clear hC4
  go_wp2_with fail
  rcases Nat.eq_zero_or_pos qc with h0 | hpos
  · subst h0
    have he1 : ev5 = .nilIface := HEV5.out.symm
    refine HPK.out _ _ (by rw [HDE.out, if_neg (by simp), if_neg (by simp), HTC.out, if_neg (by simp), if_neg (by simp)]) (by rw [he1]; rfl) HH10.out.near ?_
    have HN810 : Near bo w8 w10 := (Near.of B9.out (lt_of_block HB8.out.1)).trans HB10.out.2
    have hw8 := HH8.out.near.size
    obtain ⟨q1, q2, q3⟩ := OQ.out
    obtain ⟨o1, o2, o3, o4, o5⟩ := OV8.out
    obtain ⟨g1, g2, g3, g4, g5⟩ := HC2.out
    obtain ⟨k1, k2, k3, k4, k5, k6⟩ := HC3.out
    obtain ⟨l1, l2, l3, l4, l5⟩ := HC4.out
    refine ⟨C4, HB10.out.1, l1, fun j hj => ?_, fun k hk => ?_, ⟨an, cn, ?_, HON8.out.near HB8.out.1 (by decide) HN810⟩, ⟨ad2, c2, ?_, HY8.out.near HB8.out.1 (by decide) HN810⟩,
      ⟨oa, oc, da, dc, drows, na, nv, nrows, ?_, ?_, ?_, ?_, o1.near HB8.out.1 (by decide) HN810, o2.near HB8.out.1 (by decide) HN810, DefRows.near HB8.out.1 HN810 o3, o4.near HB8.out.1 (by decide) HN810, NeedRows.near HB8.out.1 HN810 o5⟩,
      a1, m1, e1, a2, m2, e2, a3, m3, e3, l3, l4, l5, (q1.mono hw8).near HB9.out (by decide) HB10.out.2, (q2.mono hw8).near HB9.out (by decide) HB10.out.2, (q3.mono hw8).near HB9.out (by decide) HB10.out.2⟩
    · rw [l2 j (by omega), k2 j (by omega)]; exact g2 j hj
    · rw [l2 _ (by omega), k2 _ (by omega)]; exact g3 k hk
    · rw [l2 _ (by omega), k2 _ (by omega)]; exact g4
    · rw [l2 _ (by omega), k2 _ (by omega)]; exact g5
    · rw [l2 _ (by omega)]; exact k3
    · rw [l2 _ (by omega)]; exact k4
    · rw [l2 _ (by omega)]; exact k5
    · rw [l2 _ (by omega)]; exact k6
  · have he1 : ev5 = .iface 56 (.int .i64 (qc : Int)) := HEV5.out.symm.trans (errV_pos hpos)
    subst he1
    exact HPO.out _ _ qc (by rw [HDE.out, if_neg (by simp), if_neg (by simp), HTC.out, if_neg (by simp), if_neg (by simp)]) (Nat.ne_of_gt hpos) (by rw [errV_pos hpos]; rfl) HH10.out.near
end Go.Proofs.YtnaejlfjlennhaaGreatDoor
