/- Layer 10: the texts that a dynamic section tells of by their places. -/
import Derived.Test.YtnaejlfjlennhaaGreatDoorObjNear
import Derived.Test.YtnaejlfjlennhaaGreatDoorRowAt
import Derived.Test.YtnaejlfjlennhaaGreatDoorObjRowApp
import Derived.Test.YtnaejlfjlennhaaGreatDoorVersReadM
import Derived.Test.YtnaejlfjlennhaaGreatDoorRelsAll
import Derived.StillTailTactics
import Derived.BigRegion
import Derived.BigQuiet
import Derived.Deep.DeepCutAuto
import Derived.Test.YtnaejlfjlennhaaGreatDoorTk
namespace Go.Proofs.YtnaejlfjlennhaaGreatDoor
open Go.RowKit
set_option linter.unusedVariables false
set_option linter.unusedSimpArgs false

def hasF (d : DT) : Nat → Bool
  | 0 => d.hasSoname
  | 1 => d.hasRpath
  | _ => d.hasRunpath
def atF (d : DT) : Nat → Nat
  | 0 => d.soname
  | 1 => d.rpath
  | _ => d.runpath
/-- the text number k of the three, if it is there -/
noncomputable def txF (s : List Nat) (d : DT) (k : Nat) : Value := .string (if hasF d k then (textF s (atF d k)).1 else ⟨#[]⟩)
noncomputable def er3 (s : List Nat) (d : DT) (k : Nat) : Nat := if hasF d k then (textF s (atF d k)).2 else 0
/-- the first error of the three -/
noncomputable def errTo (s : List Nat) (d : DT) : Nat := if er3 s d 0 ≠ 0 then er3 s d 0 else if er3 s d 1 ≠ 0 then er3 s d 1 else er3 s d 2
/-- the first error of the names -/
noncomputable def errOf (s : List Nat) : List Nat → Nat
  | [] => 0
  | x :: r => if (textF s x).2 ≠ 0 then (textF s x).2 else errOf s r
noncomputable def textsE (s : List Nat × Nat) (d : DT) (ns : List Nat) : Nat :=
  if s.2 ≠ 0 then s.2 else if errTo s.1 d ≠ 0 then errTo s.1 d else if 64 < ns.length then 2 else errOf s.1 ns
theorem errTo_at {s : List Nat} {d : DT} {k : Nat} (hk : k < 3) (h : ∀ j, j < k → er3 s d j = 0) (h0 : er3 s d k ≠ 0) : errTo s d = er3 s d k := by
  unfold errTo
  rcases k with _ | _ | _ | k
  · rw [if_pos h0]
  · rw [if_neg (by have := h 0 (by omega); omega), if_pos h0]
  · rw [if_neg (by have := h 0 (by omega); omega), if_neg (by have := h 1 (by omega); omega)]
  · omega
theorem errTo_none {s : List Nat} {d : DT} (h : ∀ j, j < 3 → er3 s d j = 0) : errTo s d = 0 := by
  unfold errTo
  rw [if_neg (by have := h 0 (by omega); omega), if_neg (by have := h 1 (by omega); omega)]
  exact h 2 (by omega)
theorem errOf_at {s : List Nat} : ∀ {ns : List Nat} {k : Nat} (hk : k < ns.length), (∀ j (hj : j < ns.length), j < k → (textF s ns[j]).2 = 0) → (textF s ns[k]).2 ≠ 0 → errOf s ns = (textF s ns[k]).2
  | x :: r, 0, hk, h, h0 => by
    rw [errOf]
    exact if_pos h0
  | x :: r, k + 1, hk, h, h0 => by
    rw [errOf, if_neg (show ¬ (textF s x).2 ≠ 0 from not_not_intro (h 0 (Nat.succ_pos _) (Nat.succ_pos _)))]
    exact errOf_at (ns := r) (k := k) (by simpa using hk) (fun j hj hjk => h (j + 1) (Nat.succ_lt_succ hj) (Nat.succ_lt_succ hjk)) h0
theorem errOf_none {s : List Nat} : ∀ {ns : List Nat}, (∀ j (hj : j < ns.length), (textF s ns[j]).2 = 0) → errOf s ns = 0
  | [], h => rfl
  | x :: r, h => by
    rw [errOf, if_neg (show ¬ (textF s x).2 ≠ 0 from not_not_intro (h 0 (Nat.succ_pos _)))]
    exact errOf_none (ns := r) (fun j hj => h (j + 1) (Nat.succ_lt_succ hj))
/-- the block with the first k of the three texts -/
def stA (C : Array Value) (f : Nat → Value) : Nat → Array Value
  | 0 => C
  | k + 1 => (stA C f k).setIfInBounds (41 + k) (f k)
theorem stA_size (C : Array Value) (f : Nat → Value) : ∀ k, (stA C f k).size = C.size
  | 0 => rfl
  | k + 1 => by rw [stA, Array.size_setIfInBounds]; exact stA_size C f k
theorem stA_keep (C : Array Value) (f : Nat → Value) : ∀ k j, (j < 41 ∨ 41 + k ≤ j) → (stA C f k)[j]? = C[j]?
  | 0, j, h => rfl
  | k + 1, j, h => by
    rw [stA, Array.getElem?_setIfInBounds_ne (by omega)]
    exact stA_keep C f k j (by omega)
theorem stA_same {C : Array Value} {f : Nat → Value} {k : Nat} (h : C[41 + k]? = some (f k)) : stA C f (k + 1) = stA C f k := by
  rw [stA]
  refine Array.ext_getElem? fun j => ?_
  by_cases hj : j = 41 + k
  · subst hj
    rw [stA_keep C f k _ (by omega), h]
    have hl : 41 + k < (stA C f k).size := by
      rw [stA_size]
      exact (Array.getElem?_eq_some_iff.1 h).1
    rw [Array.getElem?_setIfInBounds_self_of_lt hl]
  · rw [Array.getElem?_setIfInBounds_ne (by omega)]
theorem Near.drew {bo : Nat} {a b : World} (h : Near bo a b) : Near bo a b.drew := ⟨h.below.drew, h.rest⟩
theorem txF_none {s : List Nat} {d : DT} {k : Nat} (h : hasF d k = false) : txF s d k = .string ⟨#[]⟩ := by simp [txF, h]
theorem txF_some {s : List Nat} {d : DT} {k : Nat} (h : hasF d k = true) : txF s d k = .string (textF s (atF d k)).1 := by simp [txF, h]
theorem er3_none {s : List Nat} {d : DT} {k : Nat} (h : hasF d k = false) : er3 s d k = 0 := by simp [er3, h]
theorem er3_some {s : List Nat} {d : DT} {k : Nat} (h : hasF d k = true) : er3 s d k = (textF s (atF d k)).2 := by simp [er3, h]
theorem atF_lt {d : DT} (h : d.wf) : ∀ k, atF d k < 18446744073709551616
  | 0 => h.soname
  | 1 => h.rpath
  | k + 2 => h.runpath
theorem textsE_three {s : List Nat} {d : DT} {ns : List Nat} {c : Nat} (h : errTo s d = c) (h0 : c ≠ 0) : textsE (s, 0) d ns = c := by
  show (if (0 : Nat) ≠ 0 then 0 else if errTo s d ≠ 0 then errTo s d else if 64 < ns.length then 2 else errOf s ns) = c
  rw [if_neg (by simp), h, if_pos h0]
theorem textsE_long {s : List Nat} {d : DT} {ns : List Nat} (h : errTo s d = 0) (h0 : 64 < ns.length) : textsE (s, 0) d ns = 2 := by
  show (if (0 : Nat) ≠ 0 then 0 else if errTo s d ≠ 0 then errTo s d else if 64 < ns.length then 2 else errOf s ns) = 2
  rw [if_neg (by simp), if_neg (not_not_intro h), if_pos h0]
theorem textsE_names {s : List Nat} {d : DT} {ns : List Nat} (h : errTo s d = 0) (h0 : ¬ 64 < ns.length) : textsE (s, 0) d ns = errOf s ns := by
  show (if (0 : Nat) ≠ 0 then 0 else if errTo s d ≠ 0 then errTo s d else if 64 < ns.length then 2 else errOf s ns) = errOf s ns
  rw [if_neg (by simp), if_neg (not_not_intro h), if_neg h0]
theorem set_same {A : Array Value} {j : Nat} {v : Value} (h : A[j]? = some v) : A.setIfInBounds j v = A := by
  refine Array.ext_getElem? fun i => ?_
  by_cases hi : i = j
  · subst hi
    rw [h, Array.getElem?_setIfInBounds_self_of_lt (Array.getElem?_eq_some_iff.1 h).1]
  · rw [Array.getElem?_setIfInBounds_ne (by omega)]
theorem set_twice (A : Array Value) (j : Nat) (u v : Value) : (A.setIfInBounds j u).setIfInBounds j v = A.setIfInBounds j v := by
  refine Array.ext_getElem? fun i => ?_
  by_cases hi : i = j
  · subst hi
    simp [Array.getElem?_setIfInBounds]
  · rw [Array.getElem?_setIfInBounds_ne (by omega), Array.getElem?_setIfInBounds_ne (by omega), Array.getElem?_setIfInBounds_ne (by omega)]
/-- the table of the three -/
def tabT (d : DT) (bo : Nat) : Array Value := #[.bool d.hasSoname, .int .u64 (d.soname : Int), .pointer (some ⟨bo, 41, none⟩), .bool d.hasRpath, .int .u64 (d.rpath : Int), .pointer (some ⟨bo, 42, none⟩), .bool d.hasRunpath, .int .u64 (d.runpath : Int), .pointer (some ⟨bo, 43, none⟩)]
theorem tabT_row {d : DT} {bo k : Nat} (hk : k < 3) : ∀ j v, [Value.bool (hasF d k), .int .u64 (atF d k : Int), .pointer (some ⟨bo, 41 + k, none⟩)][j]? = some v → (tabT d bo)[k * 3 + j]? = some v := by
  intro j v hv
  rcases k with _ | _ | _ | k
  · rcases j with _ | _ | _ | j <;> first | exact hv | (simp at hv)
  · rcases j with _ | _ | _ | j <;> first | exact hv | (simp at hv)
  · rcases j with _ | _ | _ | j <;> first | exact hv | (simp at hv)
  · omega
def TextsPost (bo : Nat) (C : Array Value) (s : List Nat × Nat) (d : DT) (ns : List Nat) (w : World) (e : Ending) (w' : World) : Prop :=
  e = .returned (errV (textsE s d ns : Int)) ∧ Near bo w w' ∧ (textsE s d ns = 0 → ∃ ad c, w'.heap[bo]? = some (.cells ((stA C (txF s.1 d) 3).setIfInBounds 44 (.slice ad ns.length c)) 40) ∧ OwnS w' w.heap.size 9 1 (.slice ad ns.length c) (ns.map fun x => [.string (textF s.1 x).1]))
theorem TextsPost.err {bo : Nat} {C : Array Value} {s : List Nat × Nat} {d : DT} {ns : List Nat} {w w' : World} {c : Nat} (h : textsE s d ns = c) (h0 : c ≠ 0) (hn : Near bo w w') : TextsPost bo C s d ns w (.returned (errV (c : Int))) w' := by
  subst h
  exact ⟨rfl, hn, fun h => absurd h h0⟩
set_option maxRecDepth 100000 in
set_option maxHeartbeats 32000000 in
theorem texts_any (bo : Nat) (C : Array Value) (a : Option Addr) (cap : Nat) (bs : List Nat) (ty en : Int) (p : Option Addr) (pc : Nat) (ps : List PT) (d : DT) (ns : List Nat) (w : World)
    (ho : w.heap[bo]? = some (.cells C 40)) (hsz : C.size = 54) (c0 : C[0]? = some (.int .i64 ty)) (c1 : C[1]? = some (.int .u64 en)) (c2 : C[2]? = some (.slice p ps.length pc)) (cD : ∀ j v, d.cells.toList[j]? = some v → C[4 + j]? = some v)
    (c41 : C[41]? = some (.string ⟨#[]⟩)) (c42 : C[42]? = some (.string ⟨#[]⟩)) (c43 : C[43]? = some (.string ⟨#[]⟩)) (c44 : C[44]? = some (.slice none 0 0)) (c53 : C[53]? = some (.slice a bs.length cap))
    (hb : BRow w a bs) (hbl : bs.length ≤ 140737488351232) (hbc : bs.length ≤ cap) (hbn : a = none → bs.length = 0 ∧ cap = 0) (h : PRow w p ps) (hl : ps.length ≤ 140737488351232) (hd : d.wf)
    (hn : OwnI w 0 24 .u64 (.slice d.na d.nl d.nc) (toI ns)) (hnl : d.nl = ns.length) (hnx : ∀ x ∈ ns, x < 18446744073709551616) :
    Calls Tryz.prog 30 #[.pointer (some ⟨bo, 0, none⟩)] w (TextsPost bo C (strF bs ps d.strtab d.strsz) d ns w) := by
  have hbo : bo < w.heap.size := lt_of_block ho
  have HST := Lib.hid (fun (w1 : World) (hb1 : Below w.heap.size w w1) => strings_any a cap bs ty en p pc ps d w1 (hb.below hb1) hbl hbc hbn (h.below hb1) hl hd.strtab hd.strsz)
  have HSC := Lib.hid (strF_two bs ps d.strtab d.strsz hb.2)
  have HSD := Lib.hid (strF_code bs ps d.strtab d.strsz)
  generalize strF bs ps d.strtab d.strsz = S at *
  obtain ⟨s, sc⟩ := S
  replace HST : Hid (∀ w1, Below w.heap.size w w1 → Calls Tryz.prog 54 #[.slice a bs.length cap, headV ty en p ps.length pc, .agg d.cells] w1 fun e w' => ∃ ad c, e = .returned (.tuple #[.slice ad s.length c, errV (sc : Int)]) ∧ OwnI w' w1.heap.size 5 .u8 (.slice ad s.length c) (toI s) ∧ Below w1.heap.size w1 w') := HST
  obtain ⟨ev, hev⟩ : ∃ ev, errV (sc : Int) = ev := ⟨_, rfl⟩
  rw [hev] at HST
  have HEV := Lib.hid hev
  clear hev
  have HBO : Hid (∀ wx, Below w.heap.size w wx → wx.heap[bo]? = some (.cells C 40)) := Lib.hid (fun wx hx => (hx.block _ hbo).trans ho)
  have HR0 : Hid (∀ wx, Below w.heap.size w wx → wx.rangeAt bo 0 [.int .i64 ty, .int .u64 en, .slice p ps.length pc]) := Lib.hid (fun wx hx => range_of (HBO.out wx hx) (fun j v hv => by
    rcases j with _ | _ | _ | j
    · rw [← hv]; exact c0
    · rw [← hv]; exact c1
    · rw [← hv]; exact c2
    · simp at hv))
  have HR4 : Hid (∀ wx, Below w.heap.size w wx → wx.rangeAt bo 4 d.cells.toList) := Lib.hid (fun wx hx => range_of (HBO.out wx hx) cD)
  have HI0 : Hid ((Tryz.prog.info? 27).map (·.size) = some [Value.int .i64 ty, .int .u64 en, .slice p ps.length pc].length) := Lib.hid (by kernel_rfl)
  have HI4 : Hid ((Tryz.prog.info? 30).map (·.size) = some d.cells.toList.length) := Lib.hid (by kernel_rfl)
  have K1 : Hid (∀ wx, Below w.heap.size w wx → wx.cell? ⟨bo, 53, none⟩ = some (.slice a bs.length cap)) := Lib.hid (fun wx hx => by rw [cell_of_row _ _ 53 _ _ _ (HBO.out wx hx)]; exact c53)
  have HC := Lib.hid (And.intro c41 (And.intro c42 (And.intro c43 c44)))
  have HCD := Lib.hid cD
  have HWF := Lib.hid hd
  have HN := Lib.hid (And.intro hn (And.intro hnl hnx))
  have HOB := Lib.hid ho
  clear hb h hbn c0 c1 c2 cD c41 c42 c43 c44 c53 hd hn hnl hnx ho
  generalize hDD : d.cells = D at *
  have HDD := Lib.hid hDD
  clear hDD
  unfold headV at *
  have KS := K1
  go_enter Tryz.func30, Tryz.ntmps30
  go_wp2_with fail
  refine wp_region_held_drew (S := fun wx => Below w.heap.size w wx) (by kernel_rfl) ((Below.refl _ _).drew) (fun hHeld => ?_)
  first
    | (refine tkw 0 ?_ rfl ?_ ?_
       rotate_left
       · intro wx hSw
         obtain s3 := KS.out wx hSw
         (first | (go_simp; rfl) | go_simp | rfl))
    | refine tku 0 rfl ?_
  first
    | (refine tkw 1 ?_ rfl ?_ ?_
       rotate_left
       · intro wx hSw
         obtain s3 := KS.out wx hSw
         (first | (go_simp; rfl) | go_simp | rfl))
    | refine tku 1 rfl ?_
  first
    | (refine tkw 2 ?_ rfl ?_ ?_
       rotate_left
       · intro wx hSw
         obtain s3 := KS.out wx hSw
         (first | (go_simp; rfl) | go_simp | rfl))
    | refine tku 2 rfl ?_
  first
    | (refine tkw 3 ?_ rfl ?_ ?_
       rotate_left
       · intro wx hSw
         obtain s3 := KS.out wx hSw
         (first | (go_simp; rfl) | go_simp | rfl))
    | refine tku 3 rfl ?_
  first
    | (refine tkw 4 ?_ rfl ?_ ?_
       rotate_left
       · intro wx hSw
         obtain s3 := KS.out wx hSw
         (first | (go_simp; rfl) | go_simp | rfl))
    | refine tku 4 rfl ?_
  first
    | (refine tkw 5 ?_ rfl ?_ ?_
       rotate_left
       · intro wx hSw
         obtain s3 := KS.out wx hSw
         (first | (go_simp; rfl) | go_simp | rfl))
    | refine tku 5 rfl ?_
  first
    | (refine tkw 6 ?_ rfl ?_ ?_
       rotate_left
       · intro wx hSw
         obtain s3 := KS.out wx hSw
         (first | (go_simp; rfl) | go_simp | rfl))
    | refine tku 6 rfl ?_
  refine wpAnyH_take (i := 7) (v := headV ty en p ps.length pc) rfl (by kernel_rfl) (by kernel_rfl) (by kernel_rfl) (fun _ _ _ h => h) (yieldsIf_load_mid rfl 27 _ rfl bo 0 (by go_simp) [.int .i64 ty, .int .u64 en, .slice p ps.length pc] _ (fun wx hS => HR0.out wx hS) Tryz.underlying27 rfl HI0.out) (by assumption) ?_
  try simp only [List.getElem_toArray, List.getElem_cons_zero, List.getElem_cons_succ, Act.put, List.setIfInBounds_toArray, List.set_cons_zero, List.set_cons_succ, Array.toArray_toList]
  first
    | (refine tkw 8 ?_ rfl ?_ ?_
       rotate_left
       · intro wx hSw
         obtain s3 := KS.out wx hSw
         (first | (go_simp; rfl) | go_simp | rfl))
    | refine tku 8 rfl ?_
  first
    | (refine tkw 9 ?_ rfl ?_ ?_
       rotate_left
       · intro wx hSw
         obtain s3 := KS.out wx hSw
         (first | (go_simp; rfl) | go_simp | rfl))
    | refine tku 9 rfl ?_
  first
    | (refine tkw 10 ?_ rfl ?_ ?_
       rotate_left
       · intro wx hSw
         obtain s3 := KS.out wx hSw
         (first | (go_simp; rfl) | go_simp | rfl))
    | refine tku 10 rfl ?_
  refine wpAnyH_take (i := 11) (v := .agg D) rfl (by kernel_rfl) (by kernel_rfl) (by kernel_rfl) (fun _ _ _ h => h) (yieldsIf_load_mid rfl 30 _ rfl bo 4 (by go_simp) D.toList _ (fun wx hS => HR4.out wx hS) Tryz.underlying30 rfl HI4.out) (by assumption) ?_
  try simp only [List.getElem_toArray, List.getElem_cons_zero, List.getElem_cons_succ, Act.put, List.setIfInBounds_toArray, List.set_cons_zero, List.set_cons_succ, Array.toArray_toList]
  refine wpAnyH_ready (rs := [12]) (by kernel_rfl) (by simp) ?_
  refine AllReadyH.cons rfl (fun K hK => ?_) AllReadyH.nil
  go_simp
  refine (HST.out _ hHeld).mono ?_
  rintro e w1 ⟨ad1, c1, he, ho1, hb1⟩
  subst he
  go_simp
  refine hK.out _ _ (bstep hHeld hb1) (fun hHeld1 => ?_)
  clear hK K hHeld hb1
  try simp only [List.getElem_toArray, List.getElem_cons_zero, List.getElem_cons_succ, Act.put, List.setIfInBounds_toArray, List.set_cons_zero, List.set_cons_succ, Array.toArray_toList]
  first
    | (refine tkw 13 ?_ rfl ?_ ?_
       rotate_left
       · intro wx hSw
         obtain s3 := KS.out wx hSw
         (first | (go_simp; rfl) | go_simp | rfl))
    | refine tku 13 rfl ?_
  first
    | (refine tkw 14 ?_ rfl ?_ ?_
       rotate_left
       · intro wx hSw
         obtain s3 := KS.out wx hSw
         (first | (go_simp; rfl) | go_simp | rfl))
    | refine tku 14 rfl ?_
  first
    | (refine tkw 15 ?_ rfl ?_ ?_
       rotate_left
       · intro wx hSw
         obtain s3 := KS.out wx hSw
         (first | (go_simp; rfl) | go_simp | rfl))
    | refine tku 15 rfl ?_
  first
    | (refine tkw 16 ?_ rfl ?_ ?_
       rotate_left
       · intro wx hSw
         obtain s3 := KS.out wx hSw
         (first | (go_simp; rfl) | go_simp | rfl))
    | refine tku 16 rfl ?_
  first
    | (refine tkw 17 ?_ rfl ?_ ?_
       rotate_left
       · intro wx hSw
         obtain s3 := KS.out wx hSw
         (first | (go_simp; rfl) | go_simp | rfl))
    | refine tku 17 rfl ?_
  refine wpAnyH_done (by kernel_rfl) ?_ _
  have BW1 : Hid (Below w.heap.size w w1) := Lib.hid hHeld1
  have OS1 : Hid (OwnI w1 w.heap.size 5 .u8 (.slice ad1 s.length c1) (toI s)) := Lib.hid ho1
  clear ho1 hHeld1
  rcases HSC.out with ⟨s', h1, hlen, hlt⟩ | ⟨c, h1, hc⟩
  case inr =>
    simp only [Prod.mk.injEq] at h1
    obtain ⟨rfl, rfl⟩ := h1
    have hc4 : sc = 2 ∨ sc = 3 ∨ sc = 4 := by
      rcases HSD.out with h | h | h | h
      · replace h : sc = 0 := h
        omega
      · simp only [Prod.mk.injEq, true_and] at h; omega
      · simp only [Prod.mk.injEq, true_and] at h; omega
      · simp only [Prod.mk.injEq, true_and] at h; omega
    have he1 : ev = .iface 56 (.int .i64 (sc : Int)) := HEV.out.symm.trans (errVd hc4)
    subst he1
    go_wp2_with fail
    go_returns
    rw [← errVd hc4]
    exact TextsPost.err (by unfold textsE; rw [if_pos (by simpa using (Nat.ne_of_gt hc))]) (Nat.ne_of_gt hc) (Near.of BW1.out hbo)
  simp only [Prod.mk.injEq] at h1
  obtain ⟨rfl, rfl⟩ := h1
  have he1 : ev = .nilIface := HEV.out.symm
  subst he1
  have HSL := Lib.hid (And.intro hlen hlt)
  have HB1 := Lib.hid (HBO.out w1 BW1.out)
  have KS : Hid (∀ wx, Below w1.heap.size w1 wx → wx.cell? ⟨bo, 18, none⟩ = some (.bool d.hasSoname) ∧ wx.cell? ⟨bo, 15, none⟩ = some (.int .u64 (d.soname : Int)) ∧ wx.cell? ⟨bo, 19, none⟩ = some (.bool d.hasRpath) ∧ wx.cell? ⟨bo, 16, none⟩ = some (.int .u64 (d.rpath : Int)) ∧ wx.cell? ⟨bo, 20, none⟩ = some (.bool d.hasRunpath) ∧ wx.cell? ⟨bo, 17, none⟩ = some (.int .u64 (d.runpath : Int))) := Lib.hid (fun wx hx => by
    have hb := HBO.out wx (bstep BW1.out hx)
    have cD : ∀ j v, d.cells.toList[j]? = some v → C[4 + j]? = some v := by rw [HDD.out]; exact HCD.out
    refine ⟨?_, ?_, ?_, ?_, ?_, ?_⟩
    · rw [cell_of_row _ _ 18 _ _ _ hb]; exact cD 14 _ rfl
    · rw [cell_of_row _ _ 15 _ _ _ hb]; exact cD 11 _ rfl
    · rw [cell_of_row _ _ 19 _ _ _ hb]; exact cD 15 _ rfl
    · rw [cell_of_row _ _ 16 _ _ _ hb]; exact cD 12 _ rfl
    · rw [cell_of_row _ _ 20 _ _ _ hb]; exact cD 16 _ rfl
    · rw [cell_of_row _ _ 17 _ _ _ hb]; exact cD 13 _ rfl)
  clear hlen hlt K1 HR0 HR4 HI0 HI4
  go_wp2_with fail
  refine wp_region_held_drew (S := fun wx => Below w1.heap.size w1 wx) (by kernel_rfl) ((Below.refl _ _).drew) (fun hHeld => ?_)
  first
    | (refine tkw 0 ?_ rfl ?_ ?_
       rotate_left
       · intro wx hSw
         obtain ⟨s0, s1, s2, s3, s4, s5⟩ := KS.out wx hSw
         (first | (go_simp; rfl) | go_simp | rfl))
    | refine tku 0 rfl ?_
  first
    | (refine tkw 1 ?_ rfl ?_ ?_
       rotate_left
       · intro wx hSw
         obtain ⟨s0, s1, s2, s3, s4, s5⟩ := KS.out wx hSw
         (first | (go_simp; rfl) | go_simp | rfl))
    | refine tku 1 rfl ?_
  first
    | (refine tkw 2 ?_ rfl ?_ ?_
       rotate_left
       · intro wx hSw
         obtain ⟨s0, s1, s2, s3, s4, s5⟩ := KS.out wx hSw
         (first | (go_simp; rfl) | go_simp | rfl))
    | refine tku 2 rfl ?_
  first
    | (refine tkw 3 ?_ rfl ?_ ?_
       rotate_left
       · intro wx hSw
         obtain ⟨s0, s1, s2, s3, s4, s5⟩ := KS.out wx hSw
         (first | (go_simp; rfl) | go_simp | rfl))
    | refine tku 3 rfl ?_
  first
    | (refine tkw 4 ?_ rfl ?_ ?_
       rotate_left
       · intro wx hSw
         obtain ⟨s0, s1, s2, s3, s4, s5⟩ := KS.out wx hSw
         (first | (go_simp; rfl) | go_simp | rfl))
    | refine tku 4 rfl ?_
  first
    | (refine tkw 5 ?_ rfl ?_ ?_
       rotate_left
       · intro wx hSw
         obtain ⟨s0, s1, s2, s3, s4, s5⟩ := KS.out wx hSw
         (first | (go_simp; rfl) | go_simp | rfl))
    | refine tku 5 rfl ?_
  first
    | (refine tkw 6 ?_ rfl ?_ ?_
       rotate_left
       · intro wx hSw
         obtain ⟨s0, s1, s2, s3, s4, s5⟩ := KS.out wx hSw
         (first | (go_simp; rfl) | go_simp | rfl))
    | refine tku 6 rfl ?_
  first
    | (refine tkw 7 ?_ rfl ?_ ?_
       rotate_left
       · intro wx hSw
         obtain ⟨s0, s1, s2, s3, s4, s5⟩ := KS.out wx hSw
         (first | (go_simp; rfl) | go_simp | rfl))
    | refine tku 7 rfl ?_
  first
    | (refine tkw 8 ?_ rfl ?_ ?_
       rotate_left
       · intro wx hSw
         obtain ⟨s0, s1, s2, s3, s4, s5⟩ := KS.out wx hSw
         (first | (go_simp; rfl) | go_simp | rfl))
    | refine tku 8 rfl ?_
  first
    | (refine tkw 9 ?_ rfl ?_ ?_
       rotate_left
       · intro wx hSw
         obtain ⟨s0, s1, s2, s3, s4, s5⟩ := KS.out wx hSw
         (first | (go_simp; rfl) | go_simp | rfl))
    | refine tku 9 rfl ?_
  first
    | (refine tkw 10 ?_ rfl ?_ ?_
       rotate_left
       · intro wx hSw
         obtain ⟨s0, s1, s2, s3, s4, s5⟩ := KS.out wx hSw
         (first | (go_simp; rfl) | go_simp | rfl))
    | refine tku 10 rfl ?_
  first
    | (refine tkw 11 ?_ rfl ?_ ?_
       rotate_left
       · intro wx hSw
         obtain ⟨s0, s1, s2, s3, s4, s5⟩ := KS.out wx hSw
         (first | (go_simp; rfl) | go_simp | rfl))
    | refine tku 11 rfl ?_
  first
    | (refine tkw 12 ?_ rfl ?_ ?_
       rotate_left
       · intro wx hSw
         obtain ⟨s0, s1, s2, s3, s4, s5⟩ := KS.out wx hSw
         (first | (go_simp; rfl) | go_simp | rfl))
    | refine tku 12 rfl ?_
  first
    | (refine tkw 13 ?_ rfl ?_ ?_
       rotate_left
       · intro wx hSw
         obtain ⟨s0, s1, s2, s3, s4, s5⟩ := KS.out wx hSw
         (first | (go_simp; rfl) | go_simp | rfl))
    | refine tku 13 rfl ?_
  first
    | (refine tkw 14 ?_ rfl ?_ ?_
       rotate_left
       · intro wx hSw
         obtain ⟨s0, s1, s2, s3, s4, s5⟩ := KS.out wx hSw
         (first | (go_simp; rfl) | go_simp | rfl))
    | refine tku 14 rfl ?_
  first
    | (refine tkw 15 ?_ rfl ?_ ?_
       rotate_left
       · intro wx hSw
         obtain ⟨s0, s1, s2, s3, s4, s5⟩ := KS.out wx hSw
         (first | (go_simp; rfl) | go_simp | rfl))
    | refine tku 15 rfl ?_
  first
    | (refine tkw 16 ?_ rfl ?_ ?_
       rotate_left
       · intro wx hSw
         obtain ⟨s0, s1, s2, s3, s4, s5⟩ := KS.out wx hSw
         (first | (go_simp; rfl) | go_simp | rfl))
    | refine tku 16 rfl ?_
  first
    | (refine tkw 17 ?_ rfl ?_ ?_
       rotate_left
       · intro wx hSw
         obtain ⟨s0, s1, s2, s3, s4, s5⟩ := KS.out wx hSw
         (first | (go_simp; rfl) | go_simp | rfl))
    | refine tku 17 rfl ?_
  first
    | (refine tkw 18 ?_ rfl ?_ ?_
       rotate_left
       · intro wx hSw
         obtain ⟨s0, s1, s2, s3, s4, s5⟩ := KS.out wx hSw
         (first | (go_simp; rfl) | go_simp | rfl))
    | refine tku 18 rfl ?_
  first
    | (refine tkw 19 ?_ rfl ?_ ?_
       rotate_left
       · intro wx hSw
         obtain ⟨s0, s1, s2, s3, s4, s5⟩ := KS.out wx hSw
         (first | (go_simp; rfl) | go_simp | rfl))
    | refine tku 19 rfl ?_
  first
    | (refine tkw 20 ?_ rfl ?_ ?_
       rotate_left
       · intro wx hSw
         obtain ⟨s0, s1, s2, s3, s4, s5⟩ := KS.out wx hSw
         (first | (go_simp; rfl) | go_simp | rfl))
    | refine tku 20 rfl ?_
  first
    | (refine tkw 21 ?_ rfl ?_ ?_
       rotate_left
       · intro wx hSw
         obtain ⟨s0, s1, s2, s3, s4, s5⟩ := KS.out wx hSw
         (first | (go_simp; rfl) | go_simp | rfl))
    | refine tku 21 rfl ?_
  first
    | (refine tkw 22 ?_ rfl ?_ ?_
       rotate_left
       · intro wx hSw
         obtain ⟨s0, s1, s2, s3, s4, s5⟩ := KS.out wx hSw
         (first | (go_simp; rfl) | go_simp | rfl))
    | refine tku 22 rfl ?_
  first
    | (refine tkw 23 ?_ rfl ?_ ?_
       rotate_left
       · intro wx hSw
         obtain ⟨s0, s1, s2, s3, s4, s5⟩ := KS.out wx hSw
         (first | (go_simp; rfl) | go_simp | rfl))
    | refine tku 23 rfl ?_
  first
    | (refine tkw 24 ?_ rfl ?_ ?_
       rotate_left
       · intro wx hSw
         obtain ⟨s0, s1, s2, s3, s4, s5⟩ := KS.out wx hSw
         (first | (go_simp; rfl) | go_simp | rfl))
    | refine tku 24 rfl ?_
  first
    | (refine tkw 25 ?_ rfl ?_ ?_
       rotate_left
       · intro wx hSw
         obtain ⟨s0, s1, s2, s3, s4, s5⟩ := KS.out wx hSw
         (first | (go_simp; rfl) | go_simp | rfl))
    | refine tku 25 rfl ?_
  first
    | (refine tkw 26 ?_ rfl ?_ ?_
       rotate_left
       · intro wx hSw
         obtain ⟨s0, s1, s2, s3, s4, s5⟩ := KS.out wx hSw
         (first | (go_simp; rfl) | go_simp | rfl))
    | refine tku 26 rfl ?_
  first
    | (refine tkw 27 ?_ rfl ?_ ?_
       rotate_left
       · intro wx hSw
         obtain ⟨s0, s1, s2, s3, s4, s5⟩ := KS.out wx hSw
         (first | (go_simp; rfl) | go_simp | rfl))
    | refine tku 27 rfl ?_
  first
    | (refine tkw 28 ?_ rfl ?_ ?_
       rotate_left
       · intro wx hSw
         obtain ⟨s0, s1, s2, s3, s4, s5⟩ := KS.out wx hSw
         (first | (go_simp; rfl) | go_simp | rfl))
    | refine tku 28 rfl ?_
  first
    | (refine tkw 29 ?_ rfl ?_ ?_
       rotate_left
       · intro wx hSw
         obtain ⟨s0, s1, s2, s3, s4, s5⟩ := KS.out wx hSw
         (first | (go_simp; rfl) | go_simp | rfl))
    | refine tku 29 rfl ?_
  first
    | (refine tkw 30 ?_ rfl ?_ ?_
       rotate_left
       · intro wx hSw
         obtain ⟨s0, s1, s2, s3, s4, s5⟩ := KS.out wx hSw
         (first | (go_simp; rfl) | go_simp | rfl))
    | refine tku 30 rfl ?_
  first
    | (refine tkw 31 ?_ rfl ?_ ?_
       rotate_left
       · intro wx hSw
         obtain ⟨s0, s1, s2, s3, s4, s5⟩ := KS.out wx hSw
         (first | (go_simp; rfl) | go_simp | rfl))
    | refine tku 31 rfl ?_
  first
    | (refine tkw 32 ?_ rfl ?_ ?_
       rotate_left
       · intro wx hSw
         obtain ⟨s0, s1, s2, s3, s4, s5⟩ := KS.out wx hSw
         (first | (go_simp; rfl) | go_simp | rfl))
    | refine tku 32 rfl ?_
  first
    | (refine tkw 33 ?_ rfl ?_ ?_
       rotate_left
       · intro wx hSw
         obtain ⟨s0, s1, s2, s3, s4, s5⟩ := KS.out wx hSw
         (first | (go_simp; rfl) | go_simp | rfl))
    | refine tku 33 rfl ?_
  first
    | (refine tkw 34 ?_ rfl ?_ ?_
       rotate_left
       · intro wx hSw
         obtain ⟨s0, s1, s2, s3, s4, s5⟩ := KS.out wx hSw
         (first | (go_simp; rfl) | go_simp | rfl))
    | refine tku 34 rfl ?_
  first
    | (refine tkw 35 ?_ rfl ?_ ?_
       rotate_left
       · intro wx hSw
         obtain ⟨s0, s1, s2, s3, s4, s5⟩ := KS.out wx hSw
         (first | (go_simp; rfl) | go_simp | rfl))
    | refine tku 35 rfl ?_
  first
    | (refine tkw 36 ?_ rfl ?_ ?_
       rotate_left
       · intro wx hSw
         obtain ⟨s0, s1, s2, s3, s4, s5⟩ := KS.out wx hSw
         (first | (go_simp; rfl) | go_simp | rfl))
    | refine tku 36 rfl ?_
  first
    | (refine tkw 37 ?_ rfl ?_ ?_
       rotate_left
       · intro wx hSw
         obtain ⟨s0, s1, s2, s3, s4, s5⟩ := KS.out wx hSw
         (first | (go_simp; rfl) | go_simp | rfl))
    | refine tku 37 rfl ?_
  first
    | (refine tkw 38 ?_ rfl ?_ ?_
       rotate_left
       · intro wx hSw
         obtain ⟨s0, s1, s2, s3, s4, s5⟩ := KS.out wx hSw
         (first | (go_simp; rfl) | go_simp | rfl))
    | refine tku 38 rfl ?_
  first
    | (refine tkw 39 ?_ rfl ?_ ?_
       rotate_left
       · intro wx hSw
         obtain ⟨s0, s1, s2, s3, s4, s5⟩ := KS.out wx hSw
         (first | (go_simp; rfl) | go_simp | rfl))
    | refine tku 39 rfl ?_
  first
    | (refine tkw 40 ?_ rfl ?_ ?_
       rotate_left
       · intro wx hSw
         obtain ⟨s0, s1, s2, s3, s4, s5⟩ := KS.out wx hSw
         (first | (go_simp; rfl) | go_simp | rfl))
    | refine tku 40 rfl ?_
  first
    | (refine tkw 41 ?_ rfl ?_ ?_
       rotate_left
       · intro wx hSw
         obtain ⟨s0, s1, s2, s3, s4, s5⟩ := KS.out wx hSw
         (first | (go_simp; rfl) | go_simp | rfl))
    | refine tku 41 rfl ?_
  first
    | (refine tkw 44 ?_ rfl ?_ ?_
       rotate_left
       · intro wx hSw
         obtain ⟨s0, s1, s2, s3, s4, s5⟩ := KS.out wx hSw
         (first | (go_simp; rfl) | go_simp | rfl))
    | refine tku 44 rfl ?_
  refine wpAnyH_ready (rs := [42]) (by kernel_rfl) (by simp) ?_
  refine AllReadyH.cons rfl (fun K hK => ?_) AllReadyH.nil
  go_simp
  refine hK.out _ _ (ballo (by assumption) _) (fun hHeld => ?_)
  clear hK K
  try simp only [List.getElem_toArray, List.getElem_cons_zero, List.getElem_cons_succ, Act.put, List.setIfInBounds_toArray, List.set_cons_zero, List.set_cons_succ, Array.toArray_toList]
  first
    | (refine tkw 43 ?_ rfl ?_ ?_
       rotate_left
       · intro wx hSw
         obtain ⟨s0, s1, s2, s3, s4, s5⟩ := KS.out wx hSw
         (first | (go_simp; rfl) | go_simp | rfl))
    | refine tku 43 rfl ?_
  refine wpAnyH_done (by kernel_rfl) ?_ _
  have HT2 : Hid (∀ wz, wz = (w1.alloc (.cells #[.bool d.hasSoname, .int .u64 (d.soname : Int), .pointer (some ⟨bo, 41, none⟩), .bool d.hasRpath, .int .u64 (d.rpath : Int), .pointer (some ⟨bo, 42, none⟩), .bool d.hasRunpath, .int .u64 (d.runpath : Int), .pointer (some ⟨bo, 43, none⟩)] 144)).drew → wz.heap[w1.heap.size]? = some (.cells (tabT d bo) 144)) := Lib.hid (by
    rintro wz rfl
    exact heap_alloc_new _ _)
  generalize hw2 : (w1.alloc (.cells #[.bool d.hasSoname, .int .u64 (d.soname : Int), .pointer (some ⟨bo, 41, none⟩), .bool d.hasRpath, .int .u64 (d.rpath : Int), .pointer (some ⟨bo, 42, none⟩), .bool d.hasRunpath, .int .u64 (d.runpath : Int), .pointer (some ⟨bo, 43, none⟩)] 144)).drew = w2 at hHeld ⊢
  have HT2 := Lib.hid (HT2.out _ hw2.symm)
  have BW2 : Hid (Below w1.heap.size w1 w2) := Lib.hid hHeld
  have BWW : Hid (Below w.heap.size w w2) := Lib.hid (bstep BW1.out hHeld)
  have HB2 := Lib.hid (HBO.out w2 BWW.out)
  have NW2 := Lib.hid (Near.of BWW.out hbo)
  have OS2 := Lib.hid (OS1.out.below hHeld)
  have HTB : Hid (w1.heap.size < w2.heap.size ∧ bo < w1.heap.size ∧ w1.heap.size ≠ bo) := Lib.hid (by
    have h1 := lt_of_block HT2.out
    have h2 := BW1.out.size
    omega)
  generalize w1.heap.size = tb at *
  clear hHeld hw2 KS HST HSC HSD HEV OS1 BW2 BW1 HB1
  have HIT : Hid ((Tryz.prog.info? 144).map (·.size) = some 3) := Lib.hid (by kernel_rfl)
  go_wp2_with fail
  go_loopg [2, 74] 3 (fun g r i wr => ∃ k : Nat, k + g = 3 ∧ r = .nilIface ∧ i = .int .i64 (k : Int) ∧ Hid (wr.heap[bo]? = some (.cells (stA C (txF s d) k) 40)) ∧ Hid (∀ j, j < k → er3 s d j = 0) ∧ Hid (Near bo w wr) ∧ Hid (wr.heap[tb]? = some (.cells (tabT d bo) 144)) ∧ Hid (OwnI wr w.heap.size 5 .u8 (.slice ad1 s.length c1) (toI s)))
  case atStart => exact ⟨0, by omega, rfl, rfl, HB2, Lib.hid (fun j hj => by omega), NW2, HT2, OS2⟩
  case round =>
    obtain ⟨k, hk, rfl, rfl, HB, HE, HNr, HTr, HO⟩ := hrel
    clear HB2 NW2 HT2 OS2 BWW
    cases gk with
    | zero =>
      have hk3 : k = 3 := by omega
      subst hk3
      have HE3 : Hid (errTo s d = 0) := Lib.hid (errTo_none HE.out)
      obtain ⟨A3, hA3⟩ : ∃ A, stA C (txF s d) 3 = A := ⟨_, rfl⟩
      have HA3 := Lib.hid hA3
      rw [hA3] at HB
      have HA44 : Hid (A3[44]? = some (.slice none 0 0) ∧ A3.size = 54) := Lib.hid (by rw [← hA3]; exact ⟨(stA_keep _ _ 3 44 (by omega)).trans HC.out.2.2.2, by rw [stA_size]; exact hsz⟩)
      have HA4 : Hid (A3[4]? = some (.slice d.na d.nl d.nc)) := Lib.hid (by rw [← hA3]; exact (stA_keep _ _ 3 4 (by omega)).trans (HCD.out 0 _ (by rw [← HDD.out]; rfl)))
      clear hA3
      obtain ⟨na, hna⟩ : ∃ x, d.na = x := ⟨_, rfl⟩
      obtain ⟨nc, hnc⟩ : ∃ x, d.nc = x := ⟨_, rfl⟩
      have hnl := HN.out.2.1
      obtain ⟨NL, hNL⟩ : ∃ n, ns.length = n := ⟨_, rfl⟩
      rw [hna, hnc, hnl, hNL] at HA4
      have HNN : Hid (OwnI w 0 24 .u64 (.slice na NL nc) (toI ns)) := Lib.hid (by have := HN.out.1; rwa [hna, hnl, hnc, hNL] at this)
      have HNL := Lib.hid hNL
      have HNX := Lib.hid HN.out.2.2
      clear hna hnc hnl hNL
      have c4 : wr.cell? ⟨bo, 4, none⟩ = some (.slice na NL nc) := by rw [cell_of_row _ _ 4 _ _ _ HB.out]; exact HA4.out
      by_cases h64 : 64 < NL
      · have h64i : (64 : Int) < (NL : Int) := by omega
        clear hk
        go_wp2_with fail
        go_returns
        rw [show Value.iface 56 (.int .i64 2) = errV ((2 : Nat) : Int) from (errVd (by simp)).symm]
        exact TextsPost.err (textsE_long HE3.out (by rw [HNL.out]; exact h64)) (by simp) HNr.out
      · have h64i : ¬ ((64 : Int) < (NL : Int)) := by omega
        clear hk
        go_wp2_with fail
        go_loopg [2, 109] NL (fun g r i wz => ∃ (k : Nat) (ad : Option Addr) (c : Nat), k + g = NL ∧ r = .nilIface ∧ i = .int .i64 (k : Int) ∧ Hid (wz.heap[bo]? = some (.cells (A3.setIfInBounds 44 (.slice ad k c)) 40)) ∧ Hid (OwnS wz w.heap.size 9 1 (.slice ad k c) ((ns.take k).map fun x => [.string (textF s x).1])) ∧ Hid (∀ j (hj : j < ns.length), j < k → (textF s ns[j]).2 = 0) ∧ Hid (Near bo w wz) ∧ Hid (OwnI wz w.heap.size 5 .u8 (.slice ad1 s.length c1) (toI s)))
        case atStart => exact ⟨0, none, 0, by omega, rfl, rfl, Lib.hid (by rw [set_same HA44.out.1]; exact HB.out), Lib.hid (OwnS.nil _ _ _ _), Lib.hid (fun j hj h => by omega), HNr, HO⟩
        case round =>
          clear HB HNr HTr HO HE c4
          obtain ⟨k, ad, c, hk, rfl, rfl, HB, HOW, HE, HNr, HO⟩ := hrel
          cases gk with
          | zero =>
            have hkN : k = NL := by omega
            subst hkN
            clear hk
            go_wp2_with fail
            go_returns
            refine ⟨?_, HNr.out, fun _ => ⟨ad, c, ?_, ?_⟩⟩
            · rw [textsE_names HE3.out (by rw [HNL.out]; exact h64), errOf_none (fun j hj => HE.out j hj (by have := HNL.out; omega))]
              rfl
            · show wr.heap[bo]? = some (.cells ((stA C (txF s d) 3).setIfInBounds 44 (.slice ad ns.length c)) 40)
              rw [HA3.out, HNL.out]
              exact HB.out
            · have := HOW.out
              rw [← HNL.out, List.take_length] at this
              exact this
          | succ g =>
            have hkN : k < NL := by omega
            have HK2 := Lib.hid hk
            have hki : (k : Int) < (NL : Int) := by omega
            clear hk
            have hkl : k < ns.length := by rw [HNL.out]; exact hkN
            obtain ⟨x, hx⟩ : ∃ x, ns[k] = x := ⟨_, rfl⟩
            have HXK : Hid (ns[k]? = some x) := Lib.hid (by rw [List.getElem?_eq_getElem hkl, hx])
            have HNK : Hid (∃ h : k < ns.length, ns[k] = x) := Lib.hid ⟨hkl, hx⟩
            have hxm : x < 18446744073709551616 := HNX.out x (by rw [← hx]; exact List.getElem_mem _)
            have hrow := (OwnI.at (HNN.out.near HOB.out (by decide) HNr.out)).2.1
            obtain ⟨b, o, hab, hcell⟩ := hrow k (by rw [toI_length]; exact hkl)
            subst hab
            have hcx : wr.cell? ⟨b, o + k, none⟩ = some (.int .u64 (x : Int)) := by
              rw [hcell]
              simp [toI, List.getD, HXK.out]
            obtain ⟨X, hX⟩ : ∃ X, (textF s x).1 = X := ⟨_, rfl⟩
            obtain ⟨ec, hec⟩ : ∃ ec, (textF s x).2 = ec := ⟨_, rfl⟩
            obtain ⟨ev, hev⟩ : ∃ ev, errV (ec : Int) = ev := ⟨_, rfl⟩
            have HX := Lib.hid hX
            have HEC := Lib.hid hec
            have HEV := Lib.hid hev
            have HCO : Hid (ec = 0 ∨ ec = 2 ∨ ec = 3 ∨ ec = 4) := Lib.hid (by
              rcases textF_code s x with h | h | h
              · rw [hec] at h; omega
              · rw [← hec, h]; simp
              · rw [← hec, h]; simp)
            have HTX : Hid (Calls Tryz.prog 58 #[.slice ad1 s.length c1, .int .u64 (x : Int)] wr fun e w' => e = .returned (.tuple #[.string X, ev]) ∧ wr = w') := Lib.hid (by
              have h1 := OwnI.at HO.out
              have h2 := OwnI.fit HO.out
              have := symText_any ad1 c1 s x wr ⟨h1.2.1, HSL.out.2⟩ (by have := HSL.out.1; omega) h2.1 hxm
              rw [hX, hec, hev] at this
              exact this)
            have c44 : wr.cell? ⟨bo, 44, none⟩ = some (.slice ad k c) := by
              rw [cell_of_row _ _ 44 _ _ _ HB.out, Array.getElem?_setIfInBounds_self_of_lt (by rw [HA44.out.2]; omega)]
            have HLE : Hid (((ns.take k).map fun x => [Value.string (textF s x).1]).length = k) := Lib.hid (by rw [List.length_map, List.length_take]; omega)
            have HKX : Hid (k + 1 ≤ maxLen ∧ (k + 1) * 16 ≤ 140737488355328) := Lib.hid (by unfold maxLen; omega)
            have HSZ := Lib.hid (HNr.out.size)
            clear hX hec hev hx hkl hxm hrow hcell hkN
            go_wp2_with fail
            refine HTX.out.mono ?_
            rintro e w7 ⟨rfl, rfl⟩
            rcases HCO.out with h0 | hcc
            case inr =>
              have he1 : ev = .iface 56 (.int .i64 (ec : Int)) := HEV.out.symm.trans (errVd hcc)
              subst he1
              go_wp2_with fail
              go_returns
              rw [← errVd hcc]
              obtain ⟨hkl, hx⟩ := HNK.out
              refine TextsPost.err ((textsE_names HE3.out (by rw [HNL.out]; exact h64)).trans ((errOf_at hkl (fun j hj hjk => HE.out j hj hjk) (by rw [hx, HEC.out]; omega)).trans (by rw [hx]; exact HEC.out))) (by omega) HNr.out
            subst h0
            have he1 : ev = .nilIface := HEV.out.symm
            subst he1
            go_wp2_with (at_builtin; go_loud (refine wpList_grow_row rfl (.tmp 126) (.tmp 128) rowT rfl w.heap.size (.slice ad k c) ((ns.take k).map fun x => [Value.string (textF s x).1]) k [.string X] rfl (by rfl) HLE.out rfl (by intro u hu; simp only [List.mem_cons, List.not_mem_nil, or_false] at hu; subst hu; rfl) HOW.out HKX.out.1 HKX.out.2 HSZ.out ?_); intro ad9 c9 w9 ho9 hg9; have hal := (Below.refl wr.heap.size wr).alloc (Nat.le_refl _) (.cells [Value.string X].toArray 9); have hb9 : w9.heap[bo]? = some (.cells (A3.setIfInBounds 44 (.slice ad k c)) 40) := (hg9.block _ (by have := lt_of_block HB.out; have := hal.size; omega) (fun e => own_ne HOW.out.1 HB.out (by decide) e.symm)).trans ((hal.block _ (lt_of_block HB.out)).trans HB.out); have z1 : w9.cell? ⟨bo, 44, none⟩ = some (.slice ad k c) := (by rw [cell_of_row _ _ 44 _ _ _ hb9, Array.getElem?_setIfInBounds_self_of_lt (by rw [HA44.out.2]; omega)]); have z2 : w9.frozen? ⟨bo, 44, none⟩ = false := frozen_of_row _ _ _ _ _ hb9; have O9 := Lib.hid ho9; have G9 := Lib.hid hg9; have HB9 := Lib.hid hb9; have HAL := Lib.hid hal; clear ho9 hg9 hb9 hal)
            go_roundg g
            case measure => have := HK2.out; omega
            case rel =>
              refine ⟨k + 1, ad9, c9, by have := HK2.out; omega, rfl, by first | rfl | simp, Lib.hid ?_, Lib.hid ?_, Lib.hid ?_, Lib.hid ?_, Lib.hid ?_⟩
              · refine (block_set HB9.out).trans ?_
                rw [set_twice]
              · have : ((ns.take (k + 1)).map fun x => [Value.string (textF s x).1]) = ((ns.take k).map fun x => [Value.string (textF s x).1]) ++ [[.string X]] := by
                  rw [List.take_add_one, HXK.out]
                  simp [HX.out]
                rw [this]
                exact O9.out.near HB9.out (by decide) ((Near.refl _ _).set _ _)
              · intro j hj hjk
                by_cases hjk2 : j = k
                · subst hjk2
                  obtain ⟨hkl, hx⟩ := HNK.out
                  rw [hx]
                  exact HEC.out
                · exact HE.out j hj (by omega)
              · exact ((HNr.out.step HAL.out hbo).grown G9.out hbo (fun q hq => (World.ownsRow.lt HOW.out.1 q hq).1)).set _ _
              · exact ((HO.out.below HAL.out).keepS G9.out (HOW.out.below HAL.out) (by decide)).near HB9.out (by decide) ((Near.refl _ _).set _ _)
    | succ g =>
      have hk3 : k < 3 := by omega
      have HK := Lib.hid hk
      have hki : (k : Int) < 3 := by omega
      clear hk
      obtain ⟨hh, hhk⟩ : ∃ hh, hasF d k = hh := ⟨_, rfl⟩
      have HH := Lib.hid hhk
      have HRG : Hid (wr.rangeAt tb (k * 3) [.bool hh, .int .u64 (atF d k : Int), .pointer (some ⟨bo, 41 + k, none⟩)]) := Lib.hid (by rw [← hhk]; exact range_of HTr.out (tabT_row hk3))
      clear hhk
      have hgrow : Hid (∀ v : Value, True) := Lib.hid (fun _ => trivial)
      cases hh with
      | false =>
        have HS : Hid (stA C (txF s d) (k + 1) = stA C (txF s d) k) := Lib.hid (stA_same (by
          rw [txF_none HH.out]
          have hc := HC.out
          rcases k with _ | _ | _ | k
          · exact hc.1
          · exact hc.2.1
          · exact hc.2.2.1
          · omega))
        go_wp2_with (refine wpList_load_mid rfl 144 _ rfl tb (k * 3) (by rfl) [.bool false, .int .u64 (atF d k : Int), .pointer (some ⟨bo, 41 + k, none⟩)] _ HRG.out Tryz.underlying144 rfl HIT.out ?_)
        have hba : Below wr.heap.size wr (wr.alloc (.cells #[.bool false, .int .u64 (atF d k : Int), .pointer (some ⟨bo, 41 + k, none⟩)] 144)) := (Below.refl _ _).alloc (Nat.le_refl _) _
        have HBA := Lib.hid hba
        clear hba
        generalize wr.alloc (.cells #[.bool false, .int .u64 (atF d k : Int), .pointer (some ⟨bo, 41 + k, none⟩)] 144) = w5 at *
        go_roundg g
        case measure => have := HK.out; omega
        case rel =>
          refine ⟨k + 1, by have := HK.out; omega, rfl, by first | rfl | simp, Lib.hid ?_, Lib.hid ?_, Lib.hid (HNr.out.step HBA.out hbo), Lib.hid ((HBA.out.block _ (lt_of_block HTr.out)).trans HTr.out), Lib.hid (HO.out.below HBA.out)⟩
          · rw [HS.out]
            exact (HBA.out.block _ (lt_of_block HB.out)).trans HB.out
          · intro j hj
            by_cases hjk : j = k
            · subst hjk; exact er3_none HH.out
            · exact HE.out j (by omega)
      | true =>
        obtain ⟨X, hX⟩ : ∃ X, (textF s (atF d k)).1 = X := ⟨_, rfl⟩
        obtain ⟨ec, hec⟩ : ∃ ec, (textF s (atF d k)).2 = ec := ⟨_, rfl⟩
        obtain ⟨ev, hev⟩ : ∃ ev, errV (ec : Int) = ev := ⟨_, rfl⟩
        have HX := Lib.hid hX
        have HEC := Lib.hid hec
        have HEV := Lib.hid hev
        have HCO : Hid (ec = 0 ∨ ec = 2 ∨ ec = 3 ∨ ec = 4) := Lib.hid (by
          rcases textF_code s (atF d k) with h | h | h
          · rw [hec] at h; omega
          · rw [← hec, h]; simp
          · rw [← hec, h]; simp)
        have HTX : Hid (∀ wx, Near bo wr wx → Calls Tryz.prog 58 #[.slice ad1 s.length c1, .int .u64 (atF d k : Int)] wx fun e w' => e = .returned (.tuple #[.string X, ev]) ∧ wx = w') := Lib.hid (fun wx hx => by
          have h1 := OwnI.at (HO.out.near HB.out (by decide) hx)
          have h2 := OwnI.fit HO.out
          have := symText_any ad1 c1 s (atF d k) wx ⟨h1.2.1, HSL.out.2⟩ (by have := HSL.out.1; omega) h2.1 (atF_lt HWF.out k)
          rw [hX, hec, hev] at this
          exact this)
        clear hX hec hev
        go_wp2_with (refine wpList_load_mid rfl 144 _ rfl tb (k * 3) (by rfl) [.bool true, .int .u64 (atF d k : Int), .pointer (some ⟨bo, 41 + k, none⟩)] _ HRG.out Tryz.underlying144 rfl HIT.out ?_)
        have HBA : Hid (Below wr.heap.size wr (wr.alloc (.cells #[.bool true, .int .u64 (atF d k : Int), .pointer (some ⟨bo, 41 + k, none⟩)] 144))) := Lib.hid ((Below.refl _ _).alloc (Nat.le_refl _) _)
        have HB5 : Hid (∀ wz, wz = wr.alloc (.cells #[.bool true, .int .u64 (atF d k : Int), .pointer (some ⟨bo, 41 + k, none⟩)] 144) → wz.heap[wr.heap.size]? = some (.cells #[.bool true, .int .u64 (atF d k : Int), .pointer (some ⟨bo, 41 + k, none⟩)] 144)) := Lib.hid (by
          rintro wz rfl
          exact heap_alloc_new _ _)
        generalize wr.alloc (.cells #[.bool true, .int .u64 (atF d k : Int), .pointer (some ⟨bo, 41 + k, none⟩)] 144) = w5 at *
        have HB5 := Lib.hid (HB5.out _ rfl)
        have HBO5 : Hid (w5.heap[bo]? = some (.cells (stA C (txF s d) k) 40)) := Lib.hid ((HBA.out.block _ (lt_of_block HB.out)).trans HB.out)
        have HT5 : Hid (w5.heap[tb]? = some (.cells (tabT d bo) 144)) := Lib.hid ((HBA.out.block _ (lt_of_block HTr.out)).trans HTr.out)
        have HO5 := Lib.hid (HO.out.below HBA.out)
        have HN5 : Hid (Near bo w w5) := Lib.hid (HNr.out.step HBA.out hbo)
        have HNR5 : Hid (Near bo wr w5) := Lib.hid (Near.of HBA.out (by have := HNr.out.size; omega))
        have KS : Hid (∀ wx, Near bo w5 wx → wx.cell? ⟨wr.heap.size, 1, none⟩ = some (.int .u64 (atF d k : Int)) ∧ wx.cell? ⟨wr.heap.size, 2, none⟩ = some (.pointer (some ⟨bo, 41 + k, none⟩))) := Lib.hid (fun wx hx => by
          have hb := (hx.block (lt_of_block HB5.out) (by have := HNr.out.size; omega)).trans HB5.out
          exact ⟨by rw [cell_of_row _ _ 1 _ _ _ hb]; rfl, by rw [cell_of_row _ _ 2 _ _ _ hb]; rfl⟩)
        have HTX5 : Hid (∀ wx, Near bo w5 wx → Calls Tryz.prog 58 #[.slice ad1 s.length c1, .int .u64 (atF d k : Int)] wx fun e w' => e = .returned (.tuple #[.string X, ev]) ∧ wx = w') := Lib.hid (fun wx hx => HTX.out wx (HNR5.out.trans hx))
        obtain ⟨v0, hv0⟩ : ∃ v0, w5.cell? ⟨bo, 41 + k, none⟩ = some v0 := by
          have hl : 41 + k < (stA C (txF s d) k).size := by rw [stA_size]; omega
          exact ⟨_, by rw [cell_of_row _ _ (41 + k) _ _ _ HBO5.out]; exact Array.getElem?_eq_getElem hl⟩
        have hf0 : w5.frozen? ⟨bo, 41 + k, none⟩ = false := frozen_of_row _ _ _ _ _ HBO5.out
        clear HTX HB5
        generalize wr.heap.size = box at *
        refine wp_region_held_drew (S := fun wx => Near bo w5 wx) (by kernel_rfl) ((Near.refl _ _).drew) (fun hHeld => ?_)
        first
          | (refine tkw 0 ?_ rfl ?_ ?_
             rotate_left
             · intro wx hSw
               obtain ⟨s0, s1⟩ := KS.out wx hSw
               (first | (go_simp; rfl) | go_simp | rfl))
          | refine tku 0 rfl ?_
        first
          | (refine tkw 1 ?_ rfl ?_ ?_
             rotate_left
             · intro wx hSw
               obtain ⟨s0, s1⟩ := KS.out wx hSw
               (first | (go_simp; rfl) | go_simp | rfl))
          | refine tku 1 rfl ?_
        first
          | (refine tkw 2 ?_ rfl ?_ ?_
             rotate_left
             · intro wx hSw
               obtain ⟨s0, s1⟩ := KS.out wx hSw
               (first | (go_simp; rfl) | go_simp | rfl))
          | refine tku 2 rfl ?_
        first
          | (refine tkw 3 ?_ rfl ?_ ?_
             rotate_left
             · intro wx hSw
               obtain ⟨s0, s1⟩ := KS.out wx hSw
               (first | (go_simp; rfl) | go_simp | rfl))
          | refine tku 3 rfl ?_
        first
          | (refine tkw 4 ?_ rfl ?_ ?_
             rotate_left
             · intro wx hSw
               obtain ⟨s0, s1⟩ := KS.out wx hSw
               (first | (go_simp; rfl) | go_simp | rfl))
          | refine tku 4 rfl ?_
        refine wpAnyH_ready (rs := [5]) (by kernel_rfl) (by simp) ?_
        refine AllReadyH.cons rfl (fun K hK => ?_) AllReadyH.nil
        go_simp
        refine (HTX5.out _ hHeld).mono ?_
        rintro e w7 ⟨rfl, rfl⟩
        go_simp
        refine hK.out _ _ hHeld (fun hHeld => ?_)
        clear hK K
        try simp only [List.getElem_toArray, List.getElem_cons_zero, List.getElem_cons_succ, Act.put, List.setIfInBounds_toArray, List.set_cons_zero, List.set_cons_succ, Array.toArray_toList]
        first
          | (refine tkw 6 ?_ rfl ?_ ?_
             rotate_left
             · intro wx hSw
               obtain ⟨s0, s1⟩ := KS.out wx hSw
               (first | (go_simp; rfl) | go_simp | rfl))
          | refine tku 6 rfl ?_
        first
          | (refine tkw 7 ?_ rfl ?_ ?_
             rotate_left
             · intro wx hSw
               obtain ⟨s0, s1⟩ := KS.out wx hSw
               (first | (go_simp; rfl) | go_simp | rfl))
          | refine tku 7 rfl ?_
        first
          | (refine tkw 8 ?_ rfl ?_ ?_
             rotate_left
             · intro wx hSw
               obtain ⟨s0, s1⟩ := KS.out wx hSw
               (first | (go_simp; rfl) | go_simp | rfl))
          | refine tku 8 rfl ?_
        first
          | (refine tkw 9 ?_ rfl ?_ ?_
             rotate_left
             · intro wx hSw
               obtain ⟨s0, s1⟩ := KS.out wx hSw
               (first | (go_simp; rfl) | go_simp | rfl))
          | refine tku 9 rfl ?_
        refine wpAnyH_ready (rs := [10]) (by kernel_rfl) (by simp) ?_
        refine AllReadyH.cons rfl (fun K hK => ?_) AllReadyH.nil
        go_simp
        refine hK.out _ _ (Near.set hHeld _ _) (fun hHeld => ?_)
        clear hK K
        try simp only [List.getElem_toArray, List.getElem_cons_zero, List.getElem_cons_succ, Act.put, List.setIfInBounds_toArray, List.set_cons_zero, List.set_cons_succ, Array.toArray_toList]
        first
          | (refine tkw 11 ?_ rfl ?_ ?_
             rotate_left
             · intro wx hSw
               obtain ⟨s0, s1⟩ := KS.out wx hSw
               (first | (go_simp; rfl) | go_simp | rfl))
          | refine tku 11 rfl ?_
        refine wpAnyH_done (by kernel_rfl) ?_ _
        have HB6 : Hid (∀ wz, wz = (w5.setCell ⟨bo, 41 + k, none⟩ (.string X)).drew → wz.heap[bo]? = some (.cells (stA C (txF s d) (k + 1)) 40)) := Lib.hid (by
          rintro wz rfl
          refine (block_set HBO5.out).trans ?_
          rw [stA, txF_some HH.out, HX.out])
        generalize (w5.setCell ⟨bo, 41 + k, none⟩ (.string X)).drew = w6 at *
        have HB6 := Lib.hid (HB6.out _ rfl)
        have HN6 := Lib.hid (HN5.out.trans hHeld)
        have HT6 : Hid (w6.heap[tb]? = some (.cells (tabT d bo) 144)) := Lib.hid ((hHeld.block (lt_of_block HT5.out) (by have := HTB.out; omega)).trans HT5.out)
        have HO6 : Hid (OwnI w6 w.heap.size 5 .u8 (.slice ad1 s.length c1) (toI s)) := Lib.hid (HO5.out.near HBO5.out (by decide) hHeld)
        clear hHeld hv0 hf0 KS
        rcases HCO.out with h0 | hcc
        case inr =>
          have he1 : ev = .iface 56 (.int .i64 (ec : Int)) := HEV.out.symm.trans (errVd hcc)
          subst he1
          go_wp2_with fail
          go_returns
          rw [← errVd hcc]
          exact TextsPost.err (textsE_three ((errTo_at hk3 HE.out (by rw [er3_some HH.out, HEC.out]; omega)).trans ((er3_some HH.out).trans HEC.out)) (by omega)) (by omega) HN6.out
        subst h0
        have he1 : ev = .nilIface := HEV.out.symm
        subst he1
        go_wp2_with fail
        go_roundg g
        case measure => have := HK.out; omega
        case rel =>
          refine ⟨k + 1, by have := HK.out; omega, rfl, by first | rfl | simp, HB6, Lib.hid ?_, HN6, HT6, HO6⟩
          intro j hj
          by_cases hjk : j = k
          · subst hjk; exact (er3_some HH.out).trans HEC.out
          · exact HE.out j (by omega)
end Go.Proofs.YtnaejlfjlennhaaGreatDoor
