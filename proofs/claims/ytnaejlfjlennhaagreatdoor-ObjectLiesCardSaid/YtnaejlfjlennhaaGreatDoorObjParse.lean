/- Layer 10: object.Parse of whatever bytes. -/
import Derived.Test.YtnaejlfjlennhaaGreatDoorObjKeep
import Derived.Test.YtnaejlfjlennhaaGreatDoorObjTold
import Derived.Test.YtnaejlfjlennhaaGreatDoorDynRead
import Derived.Test.YtnaejlfjlennhaaGreatDoorHeadReadA
import Derived.BigRegion
import Derived.BigQuiet
import Derived.Deep.DeepCutAuto
import Derived.Test.YtnaejlfjlennhaaGreatDoorTk
namespace Go.Proofs.YtnaejlfjlennhaaGreatDoor
open Go.RowKit
set_option linter.unusedVariables false
set_option linter.unusedSimpArgs false

def objZ : Array Value := #[.int .i64 0, .int .u64 0, .slice none 0 0, .bool false, .slice none 0 0, .int .u64 0, .int .u64 0, .int .u64 0, .int .u64 0, .int .u64 0, .int .u64 0, .int .u64 0, .int .u64 0, .int .u64 0, .int .u64 0, .int .u64 0, .int .u64 0, .int .u64 0, .bool false, .bool false, .bool false, .int .u64 0, .int .u64 0, .int .u64 0, .int .u64 0, .int .u64 0, .int .u64 0, .int .u64 0, .int .u64 0, .int .u64 0, .int .u64 0, .int .u64 0, .int .u64 0, .int .u64 0, .int .u64 0, .int .u64 0, .bool false, .bool false, .bool false, .bool false, .bool false, .string ⟨#[]⟩, .string ⟨#[]⟩, .string ⟨#[]⟩, .slice none 0 0, .slice none 0 0, .bool false, .slice none 0 0, .slice none 0 0, .slice none 0 0, .slice none 0 0, .slice none 0 0, .slice none 0 0, .slice none 0 0]
theorem near_setRow (g : Nat) (w : World) (cs : Array Value) : Near g w (w.setRow g cs) := ⟨below_setRow (Below.refl _ _) (Nat.le_refl _), fun k h1 _ => setRow_other w g k cs (by omega)⟩
theorem readF_few {bs : List Nat} {h : HT} (e : readF bs = .ok h) : h.ps.length ≤ 16 := by
  unfold readF at e
  split at e
  · cases e
  split at e
  · cases e
  split at e
  · cases e
  split at e
  · cases e
  · rename_i hw
    split at e
    · cases e
    rename_i ps hp
    split at e
    · cases e
    cases e
    have h1 := progsF_len _ _ _ _ _ _ hp
    have h2 : numF bs 56 2 ≤ 16 := by
      refine Decidable.byContradiction fun hn => ?_
      unfold whereF at hw
      simp only [firstF, unF, hn, decide_false] at hw
      split at hw
      · simp [firstF] at hw
      · simp [firstF] at hw
    show ps.length ≤ 16
    rw [h1]
    simpa using h2
theorem dynRF_pos {bs : List Nat} {ps : List PT} {n : Nat} (h : dynRF bs ps = .error n) : 0 < n := by
  unfold dynRF at h
  split at h
  · cases h
  split at h
  · split at h
    · rename_i he
      cases h
      exact entF_code he
    · split at h
      · cases h
      · cases h; omega
  · cases h; omega
theorem results_cell2 {P : Program} {fn : Func} {p q : Tmp} {ty : TypeId} (h : fn.results = #[.cell p ty, .tmp q]) (tmps : Array Value) (w : World) (g : Nat) (t : TypeId) (cs : Array Value) (fr : Nat × Nat) (d : TypeDesc)
    (hp : tmps.getD p undef = .pointer (some ⟨g, 0, none⟩)) (hg : w.heap[g]? = some (.cells cs t fr))
    (hu : P.underlying ty = some d) (hd : (match d with | .struct _ | .array _ _ => true | _ => false) = true) (hi : (P.info? ty).map (·.size) = some cs.size) :
    (results fn tmps).run P w = .ok (.tuple #[.agg cs, tmps.getD q undef]) w := by
  have hp' : tmps[p]?.getD undef = .pointer (some ⟨g, 0, none⟩) := by simpa using hp
  simp [results, h, hp', asAddr, run_loadVar_row w g t ty cs fr d hg hu hd hi]
theorem objZ_built : Tryz.prog.built 40 [] = some objZ := by kernel_rfl
def objH (k e : Nat) (pa : Option Addr) (n pc : Nat) (ba : Option Addr) (bn bc : Nat) : Array Value := #[.int .i64 (k : Int), .int .u64 (e : Int), .slice pa n pc, .bool false, .slice none 0 0, .int .u64 0, .int .u64 0, .int .u64 0, .int .u64 0, .int .u64 0, .int .u64 0, .int .u64 0, .int .u64 0, .int .u64 0, .int .u64 0, .int .u64 0, .int .u64 0, .int .u64 0, .bool false, .bool false, .bool false, .int .u64 0, .int .u64 0, .int .u64 0, .int .u64 0, .int .u64 0, .int .u64 0, .int .u64 0, .int .u64 0, .int .u64 0, .int .u64 0, .int .u64 0, .int .u64 0, .int .u64 0, .int .u64 0, .int .u64 0, .bool false, .bool false, .bool false, .bool false, .bool false, .string ⟨#[]⟩, .string ⟨#[]⟩, .string ⟨#[]⟩, .slice none 0 0, .slice none 0 0, .bool false, .slice none 0 0, .slice none 0 0, .slice none 0 0, .slice none 0 0, .slice none 0 0, .slice none 0 0, .slice ba bn bc]
theorem objZ_zero : ((Tryz.prog.info? 40).bind (·.zero)) = some (.agg objZ) := by kernel_rfl

theorem pick {l m : List Value} {o n j : Nat} (h : (l.drop o).take n = (m.drop o).take n) (h1 : o ≤ j) (h2 : j < o + n) : l[j]? = m[j]? := by
  have := congrArg (fun q => q[j - o]?) h
  simp only [List.getElem?_take, List.getElem?_drop] at this
  rw [if_pos (by omega), if_pos (by omega), show o + (j - o) = j by omega] at this
  exact this
theorem objX_at (k e : Nat) (pa : Option Addr) (n pc : Nat) (ba : Option Addr) (bn bc : Nat) : ∀ j, 3 ≤ j → j < 53 → (overR (objH k e pa n pc ba bn bc) 4 dyn0.toList)[j]? = objZ[j]? := by
  intro j h1 h2
  by_cases hj : 4 ≤ j ∧ j < 41
  · have := overR_in (old := objH k e pa n pc ba bn bc) (o := 4) (vs := dyn0.toList) (by simp [objH, dyn0]) (j := j - 4) (by show j - 4 < 37; omega)
    rw [show 4 + (j - 4) = j by omega] at this
    rw [this]
    have h : dyn0.toList = (objZ.toList.drop 4).take 37 := rfl
    rw [h, List.getElem?_take, if_pos (by omega), List.getElem?_drop, show 4 + (j - 4) = j by omega, Array.getElem?_toList]
  · rw [overR_out (by simp [objH, dyn0]) (by show j < 4 ∨ 41 ≤ j; omega)]
    by_cases hj3 : j = 3
    · subst hj3; rfl
    · have := pick (l := (objH k e pa n pc ba bn bc).toList) (m := objZ.toList) (o := 41) (n := 12) (j := j) rfl (by omega) (by omega)
      simpa using this
/-- the object's head cells -/
def HeadOk (CO : Array Value) (w' : World) (B : Nat) (bs : List Nat) (h : HT) : Prop :=
  CO.size = 54 ∧ CO[0]? = some (.int .i64 (h.kind : Int)) ∧ CO[1]? = some (.int .u64 (h.entry : Int)) ∧ ∃ pa pc ba bc, CO[2]? = some (.slice pa h.ps.length pc) ∧ CO[53]? = some (.slice ba bs.length bc) ∧
    OwnS w' B 54 7 (.slice pa h.ps.length pc) (h.ps.map PT.cells) ∧ OwnI w' B 5 .u8 (.slice ba bs.length bc) (toI bs)
/-- what is answered to Parse -/
def ParseAns (bs : List Nat) (w : World) (e : Ending) (w' : World) : Prop :=
  match readF bs with
  | .error x => ∃ v, e = .returned (.tuple #[.agg objZ, v]) ∧ ErrH w' v x
  | .ok h => match dynRF bs h.ps with
    | .error n => e = .returned (.tuple #[.agg objZ, errV (n : Int)])
    | .ok none => ∃ CO, e = .returned (.tuple #[.agg CO, .nilIface]) ∧ HeadOk CO w' w.heap.size bs h ∧ ∀ j, 3 ≤ j → j < 53 → CO[j]? = objZ[j]?
    | .ok (some (ns, m)) => ∃ ad c, if dynE bs h.ps (toldF ad ns.length c m) ns = 0 then ∃ bo C CO, e = .returned (.tuple #[.agg CO, .nilIface]) ∧ w'.heap[bo]? = some (.cells CO 40) ∧ HeadOk CO w' w.heap.size bs h ∧ CO[3]? = some (.bool true) ∧
          (∀ j v, (toldF ad ns.length c m).cells.toList[j]? = some v → CO[4 + j]? = some v) ∧ OwnI w' w.heap.size 24 .u64 (.slice ad ns.length c) (toI ns) ∧
          DynOk bo C (strF bs h.ps (toldF ad ns.length c m).strtab (toldF ad ns.length c m).strsz).1 (toldF ad ns.length c m) ns (sreadF bs h.ps (toldF ad ns.length c m) ((countAF bs h.ps (toldF ad ns.length c m).hash (toldF ad ns.length c m).gnuHash).1 : Int)).1 (versF bs h.ps (toldF ad ns.length c m) ((countAF bs h.ps (toldF ad ns.length c m).hash (toldF ad ns.length c m).gnuHash).1 : Int)).1 (relsAF bs h.ps (toldF ad ns.length c m).rela (toldF ad ns.length c m).relasz (toldF ad ns.length c m).jmprel (toldF ad ns.length c m).pltrelsz (toldF ad ns.length c m).relr (toldF ad ns.length c m).relrsz ((countAF bs h.ps (toldF ad ns.length c m).hash (toldF ad ns.length c m).gnuHash).1 : Int)).1 w.heap.size w'
        else e = .returned (.tuple #[.agg objZ, errV (dynE bs h.ps (toldF ad ns.length c m) ns : Int)])
set_option maxRecDepth 100000 in
set_option maxHeartbeats 32000000 in
theorem parse_any (a : Option Addr) (cap : Nat) (bs : List Nat) (w : World) (hb : BRow w a bs) (hl : bs.length ≤ 140737488351232) (hbn : a = none → bs.length = 0 ∧ cap = 0) (hbc : bs.length ≤ cap) (hf : FixAt w) :
    Calls Tryz.prog 5 #[.slice a bs.length cap] w (fun e w' => ParseAns bs w e w' ∧ Below w.heap.size w w') := by
  have HRD := Lib.hid (fun (w1 : World) (hb1 : Below w.heap.size w w1) => hread_any a bs.length cap bs w1 (hb.below hb1) rfl hl hbn hbc (hf.below hb1))
  have HZB : Hid (Tryz.prog.built 40 [] = some objZ) := Lib.hid objZ_built
  have HPP : Hid (∀ x v w', readF bs = .error x → ErrH w' v x → Below w.heap.size w w' → ParseAns bs w (.returned (.tuple #[.agg objZ, v])) w' ∧ Below w.heap.size w w') := Lib.hid (fun x v w' e hv hb => ⟨by unfold ParseAns; rw [e]; exact ⟨v, rfl, hv⟩, hb⟩)
  have HON : Hid (objZ.all (·.oneCell') = true) := Lib.hid (by simp [objZ, Value.oneCell'])
  have HS : Hid (objZ.size = 54) := Lib.hid rfl
  have HI : Hid ((Tryz.prog.info? 40).map (·.size) = some objZ.size) := Lib.hid (by kernel_rfl)
  have HB := Lib.hid hb
  clear hb hf
  go_enter Tryz.func5, Tryz.ntmps5
  go_wp2_with fail
  have HW0 : Hid (∀ wz, wz = w.alloc (.cells #[.int .i64 0, .int .u64 0, .slice none 0 0, .bool false, .slice none 0 0, .int .u64 0, .int .u64 0, .int .u64 0, .int .u64 0, .int .u64 0, .int .u64 0, .int .u64 0, .int .u64 0, .int .u64 0, .int .u64 0, .int .u64 0, .int .u64 0, .int .u64 0, .bool false, .bool false, .bool false, .int .u64 0, .int .u64 0, .int .u64 0, .int .u64 0, .int .u64 0, .int .u64 0, .int .u64 0, .int .u64 0, .int .u64 0, .int .u64 0, .int .u64 0, .int .u64 0, .int .u64 0, .int .u64 0, .int .u64 0, .bool false, .bool false, .bool false, .bool false, .bool false, .string ⟨#[]⟩, .string ⟨#[]⟩, .string ⟨#[]⟩, .slice none 0 0, .slice none 0 0, .bool false, .slice none 0 0, .slice none 0 0, .slice none 0 0, .slice none 0 0, .slice none 0 0, .slice none 0 0, .slice none 0 0] 40) → wz.heap[w.heap.size]? = some (.cells objZ 40) ∧ Below w.heap.size w wz) := Lib.hid (by
    rintro wz rfl
    exact ⟨heap_alloc_new _ _, (Below.refl _ _).alloc (Nat.le_refl _) _⟩)
  generalize w.alloc (.cells #[.int .i64 0, .int .u64 0, .slice none 0 0, .bool false, .slice none 0 0, .int .u64 0, .int .u64 0, .int .u64 0, .int .u64 0, .int .u64 0, .int .u64 0, .int .u64 0, .int .u64 0, .int .u64 0, .int .u64 0, .int .u64 0, .int .u64 0, .int .u64 0, .bool false, .bool false, .bool false, .int .u64 0, .int .u64 0, .int .u64 0, .int .u64 0, .int .u64 0, .int .u64 0, .int .u64 0, .int .u64 0, .int .u64 0, .int .u64 0, .int .u64 0, .int .u64 0, .int .u64 0, .int .u64 0, .int .u64 0, .bool false, .bool false, .bool false, .bool false, .bool false, .string ⟨#[]⟩, .string ⟨#[]⟩, .string ⟨#[]⟩, .slice none 0 0, .slice none 0 0, .bool false, .slice none 0 0, .slice none 0 0, .slice none 0 0, .slice none 0 0, .slice none 0 0, .slice none 0 0, .slice none 0 0] 40) = w0 at *
  have HW0 := Lib.hid (HW0.out _ rfl)
  refine (HRD.out _ HW0.out.2).mono ?_
  rintro e w1 ⟨hans, hb1⟩
  have B1 : Hid (Below w.heap.size w w1) := Lib.hid (HW0.out.2.trans (hb1.mono HW0.out.2.size))
  have HR1 : Hid (w1.heap[w.heap.size]? = some (.cells objZ 40)) := Lib.hid ((hb1.block _ (lt_of_block HW0.out.1)).trans HW0.out.1)
  cases hR : readF bs with
  | error x =>
    rw [hR] at hans
    obtain ⟨v, rfl, hv⟩ := hans
    have HV := Lib.hid hv
    have HXE := Lib.hid hR
    rcases hv.ev with ⟨sb, rfl⟩ | ⟨c, rfl⟩
    all_goals
      clear hv hR hb1
      have HR2 : Hid ((w1.alloc (.cells #[.int .i64 0, .int .u64 0, .slice none 0 0] 27)).heap[w.heap.size]? = some (.cells objZ 40)) := Lib.hid ((heap_alloc_old _ _ (lt_of_block HR1.out)).trans HR1.out)
      have B2 : Hid (Below w.heap.size w (w1.alloc (.cells #[.int .i64 0, .int .u64 0, .slice none 0 0] 27))) := Lib.hid (ballo B1.out _)
      go_wp2_with (refine wpList_store_row rfl 40 _ _ rfl w.heap.size objZ rfl (by rfl) 40 _ HR2.out HI.out rfl HON.out ?_)
      rw [setRow_self _ _ _ _ _ HR2.out]
      refine bodyPost_ret_by (results_cell2 Tryz.results5 _ _ w.heap.size 40 objZ (0, 0) _ rfl HR2.out Tryz.underlying40 rfl HI.out) (by rfl) ?_
      exact HPP.out _ _ _ HXE.out (HV.out.below ((Below.refl _ _).alloc (Nat.le_refl _) _)) B2.out
  | ok h =>
    rw [hR] at hans
    obtain ⟨pa, pc, rfl, ho, hpw⟩ := hans
    have HXE := Lib.hid hR
    have HO1 : Hid (OwnS w1 w.heap.size 54 7 (.slice pa h.ps.length pc) (h.ps.map PT.cells)) := Lib.hid (ho.mono HW0.out.2.size)
    have HPW := Lib.hid hpw
    obtain ⟨hk, he, ps⟩ := h
    dsimp only [] at HO1 HPW
    have HW2 : Hid (∀ wz, wz = w1.alloc (.cells #[.int .i64 (hk : Int), .int .u64 (he : Int), .slice pa ps.length pc] 27) → wz.heap[w.heap.size]? = some (.cells objZ 40) ∧ Below w.heap.size w wz ∧ Below w1.heap.size w1 wz ∧ wz.heap[w1.heap.size]? = some (.cells #[.int .i64 (hk : Int), .int .u64 (he : Int), .slice pa ps.length pc] 27)) := Lib.hid (by
      rintro wz rfl
      exact ⟨(heap_alloc_old _ _ (lt_of_block HR1.out)).trans HR1.out, ballo B1.out _, (Below.refl _ _).alloc (Nat.le_refl _) _, heap_alloc_new _ _⟩)
    clear ho hpw hR hb1
    go_upto_region 4 with fail
    generalize w1.alloc (.cells #[.int .i64 (hk : Int), .int .u64 (he : Int), .slice pa ps.length pc] 27) = w2 at *
    have HW2 := Lib.hid (HW2.out _ rfl)
    have KS : Hid (∀ wx, Below w2.heap.size w2 wx → wx.cell? ⟨w1.heap.size, 0, none⟩ = some (.int .i64 (hk : Int)) ∧ wx.cell? ⟨w1.heap.size, 1, none⟩ = some (.int .u64 (he : Int)) ∧ wx.cell? ⟨w1.heap.size, 2, none⟩ = some (.slice pa ps.length pc)) := Lib.hid (fun wx hx => by
      have hb := (hx.block _ (lt_of_block HW2.out.2.2.2)).trans HW2.out.2.2.2
      exact ⟨by rw [cell_of_row _ _ 0 _ _ _ hb]; rfl, by rw [cell_of_row _ _ 1 _ _ _ hb]; rfl, by rw [cell_of_row _ _ 2 _ _ _ hb]; rfl⟩)
    have HCL : Hid (∀ wx, Below w2.heap.size w2 wx → Calls Tryz.prog 9 #[.slice a bs.length cap] wx fun e w' => ∃ ad c, e = .returned (.slice ad bs.length c) ∧ OwnI w' wx.heap.size 5 .u8 (.slice ad bs.length c) (toI bs) ∧ Below wx.heap.size wx w') := Lib.hid (fun wx hx => clone_own a bs.length cap bs wx rfl (HB.out.below (bstep HW2.out.2.1 hx)) (by omega) hbn)
    have HIH : Hid (∀ (ba : Option Addr) (bc : Nat), (Tryz.prog.info? 40).map (·.size) = some (objH hk he pa ps.length pc ba bs.length bc).size) := Lib.hid (fun _ _ => by kernel_rfl)
    go_cut [6] (fun pv wx => Hid (∃ ob ba bc, pv = .pointer (some ⟨ob, 0, none⟩) ∧ wx.heap[ob]? = some (.cells (objH hk he pa ps.length pc ba bs.length bc) 40) ∧ OwnI wx w2.heap.size 5 .u8 (.slice ba bs.length bc) (toI bs) ∧ Below w2.heap.size w2 wx ∧ w2.heap.size ≤ ob))
    case first =>
      refine wp_region_held_drew (S := fun wx => Below w2.heap.size w2 wx) (by kernel_rfl) ((Below.refl _ _).drew) (fun hHeld => ?_)
      first
        | (refine tkw 0 ?_ rfl ?_ ?_
           rotate_left
           · intro wx hSw
             obtain ⟨s0, s1, s2⟩ := KS.out wx hSw
             (first | (go_simp; rfl) | go_simp | rfl))
        | refine tku 0 rfl ?_
      first
        | (refine tkw 1 ?_ rfl ?_ ?_
           rotate_left
           · intro wx hSw
             obtain ⟨s0, s1, s2⟩ := KS.out wx hSw
             (first | (go_simp; rfl) | go_simp | rfl))
        | refine tku 1 rfl ?_
      refine wpAnyH_ready (rs := [2, 4]) (by kernel_rfl) (by simp) ?_
      refine AllReadyH.cons rfl (fun K hK => ?_) (AllReadyH.cons rfl (fun K hK => ?_) AllReadyH.nil)
      · go_simp
        refine (HCL.out _ hHeld).mono ?_
        rintro e w7 ⟨ba, bc, rfl, o7, b7⟩
        have O7 := Lib.hid (OwnI.mono o7 (Below.size hHeld))
        have B7 := Lib.hid b7
        have HGE : Hid (w2.heap.size ≤ w7.heap.size) := Lib.hid (Below.size (bstep hHeld b7))
        try go_simp
        refine hK.out _ _ (bstep hHeld b7) (fun hHeld => ?_)
        clear hK K b7 o7
        try simp only [List.getElem_toArray, List.getElem_cons_zero, List.getElem_cons_succ, Act.put, List.setIfInBounds_toArray, List.set_cons_zero, List.set_cons_succ, Array.toArray_toList]
        first
          | (refine tkw 3 ?_ rfl ?_ ?_
             rotate_left
             · intro wx hSw
               obtain ⟨s0, s1, s2⟩ := KS.out wx hSw
               (first | (go_simp; rfl) | go_simp | rfl))
          | refine tku 3 rfl ?_
        refine wpAnyH_ready (rs := [4]) (by kernel_rfl) (by simp) ?_
        refine AllReadyH.cons rfl (fun K hK => ?_) AllReadyH.nil
        go_simp
        refine hK.out _ _ (ballo hHeld _) (fun hHeld => ?_)
        clear hK K
        try simp only [List.getElem_toArray, List.getElem_cons_zero, List.getElem_cons_succ, Act.put, List.setIfInBounds_toArray, List.set_cons_zero, List.set_cons_succ, Array.toArray_toList]
        refine wpAnyH_ready (rs := [5]) (by kernel_rfl) (by simp) ?_
        refine AllReadyH.cons rfl (fun K hK => ?_) AllReadyH.nil
        rw [if_pos (by kernel_rfl)]
        refine wp_store_row 40 _ _ rfl w7.heap.size (objH hk he pa ps.length pc ba bs.length bc) rfl rfl 40 _ (heap_alloc_new _ _) (HIH.out _ _) rfl (by simp [objH, Value.oneCell']) ?_
        refine hK.out _ _ (below_setRow hHeld HGE.out) (fun hHeld => ?_)
        clear hK K
        try simp only [List.getElem_toArray, List.getElem_cons_zero, List.getElem_cons_succ, Act.put, List.setIfInBounds_toArray, List.set_cons_zero, List.set_cons_succ, Array.toArray_toList]
        refine wpAnyH_done (by kernel_rfl) ?_ _
        have HB9 := Lib.hid hHeld
        clear hHeld
        go_wp2_with fail
        go_meet
        case rel => exact Lib.hid ⟨w7.heap.size, ba, bc, rfl, setRow_heap _ _ _ _ _ _ (heap_alloc_new _ _), (O7.out.below ((Below.refl _ _).alloc (Nat.le_refl _) _)).near (heap_alloc_new _ _) (by decide) (near_setRow _ _ _), HB9.out, HGE.out⟩
      · go_simp
        refine hK.out _ _ (ballo hHeld _) (fun hHeld => ?_)
        clear hK K
        try simp only [List.getElem_toArray, List.getElem_cons_zero, List.getElem_cons_succ, Act.put, List.setIfInBounds_toArray, List.set_cons_zero, List.set_cons_succ, Array.toArray_toList]
        refine wpAnyH_ready (rs := [2]) (by kernel_rfl) (by simp) ?_
        refine AllReadyH.cons rfl (fun K hK => ?_) AllReadyH.nil
        go_simp
        refine (HCL.out _ hHeld).mono ?_
        rintro e w7 ⟨ba, bc, rfl, o7, b7⟩
        have O7 := Lib.hid (OwnI.mono o7 (Below.size hHeld))
        have B7 := Lib.hid b7
        have XB : Hid (w7.heap[w2.heap.size]? = some (.cells objZ 40)) := Lib.hid ((b7.block _ (by simp [World.drew])).trans (heap_alloc_new w2 _))
        have HGE : Hid (w2.heap.size ≤ w2.heap.size) := Lib.hid (Nat.le_refl _)
        try go_simp
        refine hK.out _ _ (bstep hHeld b7) (fun hHeld => ?_)
        clear hK K b7 o7
        try simp only [List.getElem_toArray, List.getElem_cons_zero, List.getElem_cons_succ, Act.put, List.setIfInBounds_toArray, List.set_cons_zero, List.set_cons_succ, Array.toArray_toList]
        first
          | (refine tkw 3 ?_ rfl ?_ ?_
             rotate_left
             · intro wx hSw
               obtain ⟨s0, s1, s2⟩ := KS.out wx hSw
               (first | (go_simp; rfl) | go_simp | rfl))
          | refine tku 3 rfl ?_
        refine wpAnyH_ready (rs := [5]) (by kernel_rfl) (by simp) ?_
        refine AllReadyH.cons rfl (fun K hK => ?_) AllReadyH.nil
        rw [if_pos (by kernel_rfl)]
        refine wp_store_row 40 _ _ rfl w2.heap.size (objH hk he pa ps.length pc ba bs.length bc) rfl rfl 40 _ (XB.out) (HIH.out _ _) rfl (by simp [objH, Value.oneCell']) ?_
        refine hK.out _ _ (below_setRow hHeld HGE.out) (fun hHeld => ?_)
        clear hK K
        try simp only [List.getElem_toArray, List.getElem_cons_zero, List.getElem_cons_succ, Act.put, List.setIfInBounds_toArray, List.set_cons_zero, List.set_cons_succ, Array.toArray_toList]
        refine wpAnyH_done (by kernel_rfl) ?_ _
        have HB9 := Lib.hid hHeld
        clear hHeld
        go_wp2_with fail
        go_meet
        case rel => exact Lib.hid ⟨w2.heap.size, ba, bc, rfl, setRow_heap _ _ _ _ _ _ (XB.out), O7.out.near XB.out (by decide) (near_setRow _ _ _), HB9.out, HGE.out⟩
    obtain ⟨ob, ba, bc, rfl, hob, hby, hwc, hge⟩ := hcut.out
    have HOB := Lib.hid hob
    have HBY := Lib.hid (OwnI.mono hby HW2.out.2.1.size)
    have HWC := Lib.hid hwc
    have HRC : Hid (wc.heap[w.heap.size]? = some (.cells objZ 40)) := Lib.hid ((hwc.block _ (lt_of_block HW2.out.1)).trans HW2.out.1)
    have HID : Hid ((Tryz.prog.info? 30).map (·.size) = some dyn0.size) := Lib.hid (by kernel_rfl)
    have BWC := Lib.hid (bstep HW2.out.2.1 hwc)
    have HGE : Hid (w.heap.size < ob ∧ w1.heap.size < ob) := Lib.hid (by
      have h1 := lt_of_block HW2.out.2.2.2
      have h2 := B1.out.size
      have h3 := lt_of_block HR1.out
      omega)
    have HOP := Lib.hid (HO1.out.below (bstep HW2.out.2.2.1 hwc))
    have HDR : Hid (Calls Tryz.prog 10 #[.slice a bs.length cap, headV hk he pa ps.length pc] wc fun e w' => DynPost wc.heap.size w' e (dynRF bs ps) ∧ Below wc.heap.size wc w') := Lib.hid (dynread_any hk he pa a ps.length pc cap bs ps wc (own_prowO HOP.out HPW.out) rfl HOP.out.at.2.2.1 (by have := readF_few HXE.out; exact Nat.le_trans this (by omega)) (HB.out.below BWC.out) hbc (by omega) hbn)
    obtain ⟨d0, d1, d2⟩ := KS.out wc hwc
    clear hcut hob hby hwc hge
    go_wp2_with fail
    unfold headV at HDR
    refine HDR.out.mono ?_
    rintro e w3 ⟨hdp, hb3⟩
    have BW3 := Lib.hid (bstep BWC.out hb3)
    have HO3 := Lib.hid ((hb3.block _ (lt_of_block HOB.out)).trans HOB.out)
    have HR3 : Hid (w3.heap[w.heap.size]? = some (.cells objZ 40)) := Lib.hid ((hb3.block _ (by have := HGE.out; have := lt_of_block HOB.out; omega)).trans (HRC.out))
    clear d0 d1 d2 HDR KS
    cases hD : dynRF bs ps with
    | error n =>
      rw [hD] at hdp
      have hn0 := dynRF_pos hD
      replace hdp : e = .returned (.tuple #[.agg dyn0, .bool false, errV (n : Int)]) := hdp
      rw [errV_pos hn0] at hdp
      subst hdp
      have HN0 := Lib.hid hn0
      have HD := Lib.hid hD
      obtain ⟨X, hX⟩ : ∃ X, overR (objH hk he pa ps.length pc ba bs.length bc) 4 dyn0.toList = X := ⟨_, rfl⟩
      have hX3 : X[3]? = some (.bool false) := by rw [← hX, overR_out (by simp [objH, dyn0]) (by omega)]; rfl
      have HX4 : Hid ((w3.setRow ob X).heap[ob]? = some (.cells X 40)) := Lib.hid (setRow_heap _ _ _ _ _ _ HO3.out)
      have z1 : (w3.setRow ob X).cell? ⟨ob, 3, none⟩ = some (.bool false) := by rw [cell_of_row _ _ 3 _ _ _ HX4.out]; exact hX3
      have z2 : (w3.setRow ob X).frozen? ⟨ob, 3, none⟩ = false := frozen_of_row _ _ _ _ _ HX4.out
      have HR4 : Hid (((w3.setRow ob X).setCell ⟨ob, 3, none⟩ (.bool false)).heap[w.heap.size]? = some (.cells objZ 40)) := Lib.hid ((heap_setCell_other _ _ _ _ (Nat.ne_of_lt HGE.out.1)).trans ((setRow_other _ _ _ _ (Nat.ne_of_lt HGE.out.1)).trans HR3.out))
      have B4 : Hid (Below w.heap.size w ((w3.setRow ob X).setCell ⟨ob, 3, none⟩ (.bool false))) := Lib.hid ((below_setRow BW3.out (by have := HGE.out; omega)).setCell (p := ⟨ob, 3, none⟩) (by have := HGE.out; show w.heap.size ≤ ob; omega) _)
      have HXX := Lib.hid hX
      clear hX hX3 hn0 hD hb3
      go_wp2_with (first
        | (refine wpList_store_at rfl 30 _ _ rfl ob 4 dyn0 rfl rfl 40 _ HO3.out HID.out (by simp [objH, dyn0]) (by simp [dyn0, Value.oneCell']) ?_; rw [HXX.out])
        | (refine wpList_store_row rfl 40 _ _ rfl w.heap.size objZ rfl (by rfl) 40 _ HR4.out HI.out rfl HON.out ?_))
      rw [setRow_self _ _ _ _ _ HR4.out]
      refine bodyPost_ret_by (results_cell2 Tryz.results5 _ _ w.heap.size 40 objZ (0, 0) _ rfl HR4.out Tryz.underlying40 rfl HI.out) (by rfl) ?_
      refine ⟨?_, B4.out⟩
      unfold ParseAns
      rw [HXE.out]
      dsimp only []
      rw [HD.out]
      dsimp only []
      rw [errV_pos HN0.out]
      rfl
    | ok r =>
      cases r with
      | none =>
        rw [hD] at hdp
        replace hdp : e = .returned (.tuple #[.agg dyn0, .bool false, .nilIface]) := hdp
        subst hdp
        have HD := Lib.hid hD
        obtain ⟨X, hX⟩ : ∃ X, overR (objH hk he pa ps.length pc ba bs.length bc) 4 dyn0.toList = X := ⟨_, rfl⟩
        have hXo : ∀ j, (j < 4 ∨ 41 ≤ j) → X[j]? = (objH hk he pa ps.length pc ba bs.length bc)[j]? := fun j hj => by rw [← hX]; exact overR_out (by simp [objH, dyn0]) hj
        have hX3 : X[3]? = some (.bool false) := hXo 3 (by omega)
        have hXS : X.size = 54 := by rw [← hX, overR_size (by simp [objH, dyn0])]; rfl
        have HXO := Lib.hid hXo
        have HXS := Lib.hid hXS
        have HXA : Hid (∀ j, 3 ≤ j → j < 53 → X[j]? = objZ[j]?) := Lib.hid (by rw [← hX]; exact objX_at _ _ _ _ _ _ _ _)
        have HIX : Hid ((Tryz.prog.info? 40).map (·.size) = some X.size) := Lib.hid (by rw [hXS]; kernel_rfl)
        have HOX : Hid (X.all (·.oneCell') = true) := Lib.hid (by rw [← hX]; simp [overR, objH, dyn0, Value.oneCell'])
        have HX4 : Hid ((w3.setRow ob X).heap[ob]? = some (.cells X 40)) := Lib.hid (setRow_heap _ _ _ _ _ _ HO3.out)
        have z1 : (w3.setRow ob X).cell? ⟨ob, 3, none⟩ = some (.bool false) := by rw [cell_of_row _ _ 3 _ _ _ HX4.out]; exact hX3
        have z2 : (w3.setRow ob X).frozen? ⟨ob, 3, none⟩ = false := frozen_of_row _ _ _ _ _ HX4.out
        have HX5 : Hid (((w3.setRow ob X).setCell ⟨ob, 3, none⟩ (.bool false)).heap[ob]? = some (.cells X 40)) := Lib.hid ((block_set HX4.out).trans (by rw [set_same hX3]))
        have z3 : ((w3.setRow ob X).setCell ⟨ob, 3, none⟩ (.bool false)).cell? ⟨ob, 3, none⟩ = some (.bool false) := by rw [cell_of_row _ _ 3 _ _ _ HX5.out]; exact hX3
        have HR4 : Hid (((w3.setRow ob X).setCell ⟨ob, 3, none⟩ (.bool false)).heap[w.heap.size]? = some (.cells objZ 40)) := Lib.hid ((heap_setCell_other _ _ _ _ (Nat.ne_of_lt HGE.out.1)).trans ((setRow_other _ _ _ _ (Nat.ne_of_lt HGE.out.1)).trans HR3.out))
        have B4 : Hid (Below w.heap.size w ((w3.setRow ob X).setCell ⟨ob, 3, none⟩ (.bool false))) := Lib.hid ((below_setRow BW3.out (by have := HGE.out; omega)).setCell (p := ⟨ob, 3, none⟩) (by have := HGE.out; show w.heap.size ≤ ob; omega) _)
        have HXX := Lib.hid hX
        have HP3 := Lib.hid (((HOP.out.below hb3).near HO3.out (by decide) (near_setRow ob w3 X)).near HX4.out (by decide) ((Near.refl _ _).set 3 (.bool false)))
        have HY3 := Lib.hid (((HBY.out.below hb3).near HO3.out (by decide) (near_setRow ob w3 X)).near HX4.out (by decide) ((Near.refl _ _).set 3 (.bool false)))
        clear hX hX3 hD hb3 hXo hXS
        go_wp2_with (first
          | (refine wpList_store_at rfl 30 _ _ rfl ob 4 dyn0 rfl rfl 40 _ HO3.out HID.out (by simp [objH, dyn0]) (by simp [dyn0, Value.oneCell']) ?_; rw [HXX.out])
          | (refine wpList_load_row rfl 40 _ rfl ob rfl 40 X (0, 0) _ HX5.out Tryz.underlying40 rfl HIX.out ?_)
          | (refine wpList_store_row rfl 40 _ _ rfl w.heap.size X rfl rfl 40 _ HR4.out HIX.out (by rw [HXS.out]; rfl) HOX.out ?_))
        refine bodyPost_ret_by (results_cell2 Tryz.results5 _ _ w.heap.size 40 X (0, 0) _ rfl (setRow_heap _ _ _ _ _ _ HR4.out) Tryz.underlying40 rfl HIX.out) (by rfl) ?_
        refine ⟨?_, below_setRow B4.out (Nat.le_refl _)⟩
        unfold ParseAns
        rw [HXE.out]
        dsimp only []
        rw [HD.out]
        dsimp only []
        exact ⟨X, rfl, ⟨HXS.out, HXO.out 0 (by omega), HXO.out 1 (by omega), pa, pc, ba, bc, HXO.out 2 (by omega), HXO.out 53 (by omega), HP3.out.near HR4.out (by decide) (near_setRow _ _ _), HY3.out.near HR4.out (by decide) (near_setRow _ _ _)⟩, HXA.out⟩
      | some x =>
        obtain ⟨ns, mm⟩ := x
        rw [hD] at hdp
        obtain ⟨ad, n, c, hdp, hns, hnn⟩ := hdp
        subst hnn
        obtain ⟨hnx, hmb⟩ := dynRF_told HB.out.2 hD
        have hwf := told_wf hmb ad ns.length c
        obtain ⟨d, hd⟩ : ∃ d, toldF ad ns.length c mm = d := ⟨_, rfl⟩
        have hdn : d.na = ad ∧ d.nl = ns.length ∧ d.nc = c := by rw [← hd]; exact ⟨rfl, rfl, rfl⟩
        rw [hd] at hdp hwf
        replace hdp : e = .returned (.tuple #[.agg d.cells, .bool true, .nilIface]) := hdp
        subst hdp
        have HD := Lib.hid hD
        have HTD := Lib.hid hd
        obtain ⟨X, hX⟩ : ∃ X, overR (objH hk he pa ps.length pc ba bs.length bc) 4 d.cells.toList = X := ⟨_, rfl⟩
        have hfit : 4 + d.cells.toList.length ≤ (objH hk he pa ps.length pc ba bs.length bc).size := by show 4 + 37 ≤ 54; omega
        have hXo : ∀ j, (j < 4 ∨ 41 ≤ j) → X[j]? = (objH hk he pa ps.length pc ba bs.length bc)[j]? := fun j hj => by rw [← hX]; exact overR_out hfit hj
        have hXi : ∀ j v, d.cells.toList[j]? = some v → X[4 + j]? = some v := fun j v hv => by rw [← hX, overR_in hfit (List.getElem?_eq_some_iff.1 hv).1]; exact hv
        have hX3 : X[3]? = some (.bool false) := hXo 3 (by omega)
        have hXS : X.size = 54 := by rw [← hX, overR_size hfit]; rfl
        have hXA : X.all (·.oneCell') = true := by rw [← hX]; simp [overR, objH, DT.cells, Value.oneCell']
        have HID2 : Hid ((Tryz.prog.info? 30).map (·.size) = some d.cells.size) := Lib.hid (by kernel_rfl)
        have HOD : Hid (d.cells.all (·.oneCell') = true) := Lib.hid (dyn_one d)
        have HFIT : Hid (4 + d.cells.size ≤ (objH hk he pa ps.length pc ba bs.length bc).size) := Lib.hid (by show 4 + 37 ≤ 54; omega)
        have hX4 : (w3.setRow ob X).heap[ob]? = some (.cells X 40) := setRow_heap _ _ _ _ _ _ HO3.out
        obtain ⟨X5, hX5⟩ : ∃ A, X.setIfInBounds 3 (.bool true) = A := ⟨_, rfl⟩
        have h5o : ∀ j, j ≠ 3 → X5[j]? = X[j]? := fun j hj => by rw [← hX5, Array.getElem?_setIfInBounds_ne (by omega)]
        have h53 : X5[3]? = some (.bool true) := by rw [← hX5, Array.getElem?_setIfInBounds_self_of_lt (by omega)]
        have h5S : X5.size = 54 := by rw [← hX5, Array.size_setIfInBounds]; exact hXS
        have h5A : X5.all (·.oneCell') = true := by
          refine Array.all_eq_true.2 fun i hi => ?_
          by_cases hi3 : i = 3
          · subst hi3
            rw [Array.getElem?_eq_getElem hi] at h53
            rw [Option.some.inj h53]
            rfl
          · have := h5o i hi3
            rw [Array.getElem?_eq_getElem hi] at this
            obtain ⟨hi2, h6⟩ := Array.getElem?_eq_some_iff.1 this.symm
            rw [← h6]
            exact Array.all_eq_true.1 hXA i hi2
        have z1 : (w3.setRow ob X).cell? ⟨ob, 3, none⟩ = some (.bool false) := by rw [cell_of_row _ _ 3 _ _ _ hX4]; exact hX3
        have z2 : (w3.setRow ob X).frozen? ⟨ob, 3, none⟩ = false := frozen_of_row _ _ _ _ _ hX4
        have hx5 : ((w3.setRow ob X).setCell ⟨ob, 3, none⟩ (.bool true)).heap[ob]? = some (.cells X5 40) := (block_set hX4).trans (by rw [hX5])
        have z3 : ((w3.setRow ob X).setCell ⟨ob, 3, none⟩ (.bool true)).cell? ⟨ob, 3, none⟩ = some (.bool true) := by rw [cell_of_row _ _ 3 _ _ _ hx5]; exact h53
        have HR4 : Hid (((w3.setRow ob X).setCell ⟨ob, 3, none⟩ (.bool true)).heap[w.heap.size]? = some (.cells objZ 40)) := Lib.hid ((heap_setCell_other _ _ _ _ (Nat.ne_of_lt HGE.out.1)).trans ((setRow_other _ _ _ _ (Nat.ne_of_lt HGE.out.1)).trans HR3.out))
        have B4 : Hid (Below w.heap.size w ((w3.setRow ob X).setCell ⟨ob, 3, none⟩ (.bool true))) := Lib.hid ((below_setRow BW3.out (by have := HGE.out; omega)).setCell (p := ⟨ob, 3, none⟩) (by have := HGE.out; show w.heap.size ≤ ob; omega) _)
        have HXX := Lib.hid hX
        have HP3 := Lib.hid (((HOP.out.below hb3).near HO3.out (by decide) (near_setRow ob w3 X)).near hX4 (by decide) ((Near.refl _ _).set 3 (.bool true)))
        have HY3 := Lib.hid (((HBY.out.below hb3).near HO3.out (by decide) (near_setRow ob w3 X)).near hX4 (by decide) ((Near.refl _ _).set 3 (.bool true)))
        have HN3 := Lib.hid ((((hns.mono (show w.heap.size ≤ wc.heap.size from BWC.out.size))).near HO3.out (by decide) (near_setRow ob w3 X)).near hX4 (by decide) ((Near.refl _ _).set 3 (.bool true)))
        have HDY : Hid (Calls Tryz.prog 11 #[.pointer (some ⟨ob, 0, none⟩)] ((w3.setRow ob X).setCell ⟨ob, 3, none⟩ (.bool true)) (DynAns ob X5 bs ps d ns ((w3.setRow ob X).setCell ⟨ob, 3, none⟩ (.bool true)))) := Lib.hid (
          dynamic_any ob X5 ba bc bs hk he pa pc ps d ns _ hx5 h5S ((h5o 0 (by omega)).trans (hXo 0 (by omega))) ((h5o 1 (by omega)).trans (hXo 1 (by omega))) ((h5o 2 (by omega)).trans (hXo 2 (by omega)))
            (fun j v hv => (h5o _ (by omega)).trans (hXi j v hv)) ((h5o 41 (by omega)).trans (hXo 41 (by omega))) ((h5o 42 (by omega)).trans (hXo 42 (by omega))) ((h5o 43 (by omega)).trans (hXo 43 (by omega))) ((h5o 44 (by omega)).trans (hXo 44 (by omega))) ((h5o 53 (by omega)).trans (hXo 53 (by omega)))
            (HY3.out.mono (Nat.zero_le _)) HB.out.2 hl (HP3.out.mono (Nat.zero_le _)) HPW.out (by have := readF_few HXE.out; exact Nat.le_trans this (by omega)) hwf (by rw [hdn.1, hdn.2.1, hdn.2.2]; exact HN3.out.mono (Nat.zero_le _)) hdn.2.1 hnx)
        have HX5F := Lib.hid (And.intro hx5 (And.intro h5S (And.intro h5A (And.intro h53 (And.intro h5o (And.intro hXo hXi))))))
        clear hX hX3 hD hb3 hXo hXS hXi hXA hX4 hX5 h5o h53 h5S h5A hx5 hns hnx hmb hwf hdn hd hfit
        go_wp2_with (first
          | (refine wpList_store_at rfl 30 _ _ rfl ob 4 d.cells rfl rfl 40 _ HO3.out HID2.out HFIT.out HOD.out ?_; rw [HXX.out]))
        have HW4 : Hid (w.heap.size ≤ ((w3.setRow ob X).setCell ⟨ob, 3, none⟩ (.bool true)).heap.size) := Lib.hid B4.out.size
        clear z1 z2 z3
        generalize (w3.setRow ob X).setCell ⟨ob, 3, none⟩ (.bool true) = w4 at *
        refine HDY.out.mono ?_
        intro e w6 hda
        obtain ⟨he6, hn6, hok⟩ := hda
        obtain ⟨DC, hdc⟩ : ∃ DC, dynE bs ps d ns = DC := ⟨_, rfl⟩
        rw [hdc] at he6 hok
        have HDC := Lib.hid hdc
        have hlt4 : w.heap.size < w4.heap.size := lt_of_block HR4.out
        have HR6 : Hid (w6.heap[w.heap.size]? = some (.cells objZ 40)) := Lib.hid ((hn6.block hlt4 (Nat.ne_of_lt HGE.out.1)).trans HR4.out)
        have B6 : Hid (Below w.heap.size w w6) := Lib.hid (B4.out.trans (hn6.below.mono (by have := HGE.out; omega)))
        have HN6 := Lib.hid hn6
        have HOK := Lib.hid hok
        clear hdc hn6 hok
        rcases Nat.eq_zero_or_pos DC with h0 | hpos
        · subst h0
          replace he6 : e = .returned .nilIface := he6
          subst he6
          obtain ⟨CO, hco, hco2⟩ : ∃ CO, w6.heap[ob]? = some (.cells CO 40) ∧ True := by
            obtain ⟨C', h1, -⟩ := HOK.out rfl
            exact ⟨C', h1, trivial⟩
          have HOK2 := Lib.hid (HOK.out rfl)
          have h1 := (HOK.out rfl).one hco HX5F.out.2.2.1
          have HCO := Lib.hid hco
          have HC1 := Lib.hid h1
          have HIC : Hid ((Tryz.prog.info? 40).map (·.size) = some CO.size) := Lib.hid (by rw [h1.2.1]; kernel_rfl)
          clear hco hco2 h1
          go_wp2_with (first
            | (refine wpList_load_row rfl 40 _ rfl ob rfl 40 CO (0, 0) _ HCO.out Tryz.underlying40 rfl HIC.out ?_)
            | (refine wpList_store_row rfl 40 _ _ rfl w.heap.size CO rfl rfl 40 _ HR6.out HIC.out (by rw [HC1.out.2.1]; rfl) HC1.out.1 ?_))
          refine bodyPost_ret_by (results_cell2 Tryz.results5 _ _ w.heap.size 40 CO (0, 0) _ rfl (setRow_heap _ _ _ _ _ _ HR6.out) Tryz.underlying40 rfl HIC.out) (by rfl) ?_
          refine ⟨?_, below_setRow B6.out (Nat.le_refl _)⟩
          have hnr := near_setRow w.heap.size w6 CO
          obtain ⟨g1, g2, g3, g4, g5, g6, g7⟩ := HX5F.out
          have hcj := HC1.out.2.2
          unfold ParseAns
          rw [HXE.out]
          dsimp only []
          rw [HD.out]
          dsimp only []
          refine ⟨ad, c, ?_⟩
          rw [HTD.out, if_pos HDC.out]
          refine ⟨ob, X5, CO, rfl, (setRow_other _ _ _ _ (Nat.ne_of_gt HGE.out.1)).trans HCO.out, ⟨HC1.out.2.1, ?_, ?_, pa, pc, ba, bc, ?_, ?_, (HP3.out.near g1 (by decide) HN6.out).near HR6.out (by decide) hnr, (HY3.out.near g1 (by decide) HN6.out).near HR6.out (by decide) hnr⟩, ?_, ?_, (HN3.out.near g1 (by decide) HN6.out).near HR6.out (by decide) hnr, (HOK2.out.mono HW4.out).near (Nat.ne_of_gt HGE.out.1) HR6.out hnr⟩
          · exact (hcj 0 (by omega)).trans ((g5 0 (by omega)).trans (g6 0 (by omega)))
          · exact (hcj 1 (by omega)).trans ((g5 1 (by omega)).trans (g6 1 (by omega)))
          · exact (hcj 2 (by omega)).trans ((g5 2 (by omega)).trans (g6 2 (by omega)))
          · exact (hcj 53 (by omega)).trans ((g5 53 (by omega)).trans (g6 53 (by omega)))
          · exact (hcj 3 (by omega)).trans g4
          · intro j v hv
            have hj : j < 37 := (List.getElem?_eq_some_iff.1 hv).1
            exact (hcj (4 + j) (by omega)).trans ((g5 (4 + j) (by omega)).trans (g7 j v hv))
        · rw [errV_pos hpos] at he6
          subst he6
          go_wp2_with (first
            | (refine wpList_store_row rfl 40 _ _ rfl w.heap.size objZ rfl (by rfl) 40 _ HR6.out HI.out rfl HON.out ?_))
          rw [setRow_self _ _ _ _ _ HR6.out]
          refine bodyPost_ret_by (results_cell2 Tryz.results5 _ _ w.heap.size 40 objZ (0, 0) _ rfl HR6.out Tryz.underlying40 rfl HI.out) (by rfl) ?_
          refine ⟨?_, B6.out⟩
          unfold ParseAns
          rw [HXE.out]
          dsimp only []
          rw [HD.out]
          dsimp only []
          refine ⟨ad, c, ?_⟩
          rw [HTD.out, HDC.out, if_neg (Nat.ne_of_gt hpos), errV_pos hpos]
          rfl
end Go.Proofs.YtnaejlfjlennhaaGreatDoor
