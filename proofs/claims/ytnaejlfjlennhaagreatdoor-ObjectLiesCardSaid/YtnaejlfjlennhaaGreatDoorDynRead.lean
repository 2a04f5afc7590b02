/- Layer 5: dyn.Read of any bytes and any header. -/
import Derived.Test.YtnaejlfjlennhaaGreatDoorDynIdx
import Derived.Test.YtnaejlfjlennhaaGreatDoorDynFitW
import Derived.Test.YtnaejlfjlennhaaGreatDoorDynToldW
import Derived.Deep.MidRow
import Derived.Deep.DeepCutAuto
namespace Go.Proofs.YtnaejlfjlennhaaGreatDoor
open Go.RowKit
set_option linter.unusedVariables false
set_option linter.unusedSimpArgs false

/-- what is told of bytes and program headers -/
def dynRF (bs : List Nat) (ps : List PT) : Except Nat (Option (List Nat × (Nat → Option Nat))) :=
  match pidx 2 0 ps with
  | none => .ok none
  | some k =>
    if (ps.getD k PT.zero).off ≤ bs.length ∧ (ps.getD k PT.zero).filesz ≤ bs.length - (ps.getD k PT.zero).off then
      match entF ((bs.drop (ps.getD k PT.zero).off).take (ps.getD k PT.zero).filesz) with
      | .error n => .error n
      | .ok (ns, m) => if fitF m = true then .ok (some (ns, m)) else .error 3
    else .error 4
def dyn0 : Array Value := #[.slice none 0 0, .int .u64 0, .int .u64 0, .int .u64 0, .int .u64 0, .int .u64 0, .int .u64 0, .int .u64 0, .int .u64 0, .int .u64 0, .int .u64 0, .int .u64 0, .int .u64 0, .int .u64 0, .bool false, .bool false, .bool false, .int .u64 0, .int .u64 0, .int .u64 0, .int .u64 0, .int .u64 0, .int .u64 0, .int .u64 0, .int .u64 0, .int .u64 0, .int .u64 0, .int .u64 0, .int .u64 0, .int .u64 0, .int .u64 0, .int .u64 0, .bool false, .bool false, .bool false, .bool false, .bool false]
theorem dyn0_built : Tryz.prog.built 30 [] = some dyn0 := by kernel_rfl
/-- what is answered to Read, in the world behind -/
def DynPost (B : Nat) (w' : World) (e : Ending) : Except Nat (Option (List Nat × (Nat → Option Nat))) → Prop
  | .error n => e = .returned (.tuple #[.agg dyn0, .bool false, errV (n : Int)])
  | .ok none => e = .returned (.tuple #[.agg dyn0, .bool false, .nilIface])
  | .ok (some (ns, m)) => ∃ ad n c, e = .returned (.tuple #[(toldF ad n c m).v, .bool true, .nilIface]) ∧ OwnI w' B 24 .u64 (.slice ad n c) (toI ns) ∧ n = ns.length
theorem entGo_code {bs : List Nat} : ∀ {f i : Nat} {ns : List Nat} {m : Nat → Option Nat} {n : Nat}, entGo bs f i ns m = .error n → 0 < n
  | 0, i, ns, m, n, h => by
    unfold entGo at h
    cases h
    omega
  | f + 1, i, ns, m, n, h => by
    unfold entGo at h
    split at h
    · cases h; omega
    split at h
    · cases h
    split at h
    · cases h; omega
    split at h
    · exact entGo_code h
    split at h
    · cases h; omega
    · exact entGo_code h
theorem entGo_bound {bs : List Nat} (hb : ∀ b ∈ bs, b < 256) : ∀ {f i : Nat} {ns : List Nat} {m : Nat → Option Nat} {ns' : List Nat} {m' : Nat → Option Nat}, (∀ k v, m k = some v → v < 18446744073709551616) → entGo bs f i ns m = .ok (ns', m') → ∀ k v, m' k = some v → v < 18446744073709551616
  | 0, i, ns, m, ns', m', hm, h => by
    unfold entGo at h
    cases h
  | f + 1, i, ns, m, ns', m', hm, h => by
    unfold entGo at h
    split at h
    · cases h
    split at h
    · cases h; exact hm
    split at h
    · cases h
    split at h
    · exact entGo_bound hb hm h
    split at h
    · cases h
    · refine entGo_bound hb ?_ h
      intro k v hk
      split at hk
      · cases hk
        unfold valAt
        have h1 := numOf_lt ((bs.drop (16 * i + 8)).take 8) (fun x hx => hb x (List.mem_of_mem_drop (List.mem_of_mem_take hx)))
        have h2 : ((bs.drop (16 * i + 8)).take 8).length ≤ 8 := by simp; omega
        have h3 : (256 : Nat) ^ ((bs.drop (16 * i + 8)).take 8).length ≤ 256 ^ 8 := Nat.pow_le_pow_right (by omega) h2
        have h5 : (256 : Nat) ^ 8 = 18446744073709551616 := by decide
        omega
      · exact hm k v hk

theorem entF_code {bs : List Nat} {n : Nat} (h : entF bs = .error n) : 0 < n := by
  unfold entF at h
  exact entGo_code h
theorem errVd_pos {n : Nat} (h : 0 < n) : errV (n : Int) = .iface 56 (.int .i64 n) := by unfold errV; rw [if_neg (by omega)]
theorem results_cell3 {P : Program} {fn : Func} {p q r : Tmp} {ty : TypeId} (h : fn.results = #[.cell p ty, .tmp q, .tmp r]) (tmps : Array Value) (w : World) (g : Nat) (t : TypeId) (cs : Array Value) (fr : Nat × Nat) (d : TypeDesc)
    (hp : tmps.getD p undef = .pointer (some ⟨g, 0, none⟩)) (hg : w.heap[g]? = some (.cells cs t fr))
    (hu : P.underlying ty = some d) (hd : (match d with | .struct _ | .array _ _ => true | _ => false) = true) (hi : (P.info? ty).map (·.size) = some cs.size) :
    (results fn tmps).run P w = .ok (.tuple #[.agg cs, tmps.getD q undef, tmps.getD r undef]) w := by
  have hp' : tmps[p]?.getD undef = .pointer (some ⟨g, 0, none⟩) := by simpa using hp
  simp [results, h, hp', asAddr, run_loadVar_row w g t ty cs fr d hg hu hd hi]
theorem dyn_one (d : DT) : d.cells.all (·.oneCell') = true := by simp [DT.cells, Value.oneCell']
theorem dyn_size (d : DT) : d.cells.size = 37 := rfl
theorem OwnI.setRow {w : World} {B : Nat} {e : TypeId} {k : IntKind} {v : Value} {xs : List Int} (h : OwnI w B e k v xs) {g : Nat} {cs : Array Value} (hg : g < B) : OwnI (w.setRow g cs) B e k v xs := by
  obtain ⟨h1, h2⟩ := h
  refine ⟨h1, ?_⟩
  rcases h2 with h2 | ⟨g', cap, cur, hv, hB, hg', r⟩
  · exact .inl h2
  · exact .inr ⟨g', cap, cur, hv, hB, by rw [setRow_other _ _ _ _ (by omega)]; exact hg', r⟩
/-- what the two blocks of Read hold -/
def RdStD (w wx : World) (ty en : Int) (a : Option Addr) (n cap : Nat) (cs : Array Value) : Prop :=
  Below w.heap.size w wx ∧ wx.heap[w.heap.size]? = some (.cells #[.int .i64 ty, .int .u64 en, .slice a n cap] 27) ∧ wx.heap[w.heap.size + 1]? = some (.cells cs 30)
theorem RdStD.go {w wx wy : World} {ty en : Int} {a : Option Addr} {n cap : Nat} {cs : Array Value} (h : RdStD w wx ty en a n cap cs) (hb : Below wx.heap.size wx wy) : RdStD w wy ty en a n cap cs :=
  ⟨bstep h.1 hb, (hb.block _ (lt_of_block h.2.1)).trans h.2.1, (hb.block _ (lt_of_block h.2.2)).trans h.2.2⟩
def dynOld : Array Value := #[.slice none 0 0, .int .u64 0, .int .u64 0, .int .u64 0, .int .u64 0, .int .u64 0, .int .u64 0, .int .u64 0, .int .u64 0, .int .u64 0, .int .u64 0, .int .u64 0, .int .u64 0, .int .u64 0, .bool false, .bool false, .bool false, .int .u64 0, .int .u64 0, .int .u64 0, .int .u64 0, .int .u64 0, .int .u64 0, .int .u64 0, .int .u64 0, .int .u64 0, .int .u64 0, .int .u64 0, .int .u64 0, .int .u64 0, .int .u64 0, .int .u64 0, .bool false, .bool false, .bool false, .bool false, .bool false]

set_option maxRecDepth 100000 in
set_option maxHeartbeats 8000000 in
theorem dynread_any (ty en : Int) (a ba : Option Addr) (n cap bc : Nat) (bs : List Nat) (ps : List PT) (w : World) (h : PRow w a ps) (hn : ps.length = n) (hnc : n ≤ cap) (hl : n ≤ 140737488351232) (hb : BRow w ba bs) (hbc : bs.length ≤ bc) (hbl : bs.length ≤ 140737488355328) (hbn : ba = none → bs.length = 0 ∧ bc = 0) :
    Calls Tryz.prog 10 #[.slice ba bs.length bc, headV ty en a n cap] w fun e w' => DynPost w.heap.size w' e (dynRF bs ps) ∧ Below w.heap.size w w' := by
  obtain ⟨R, hR⟩ : ∃ R, dynRF bs ps = R := ⟨_, rfl⟩
  rw [hR]
  obtain ⟨D, hD⟩ : ∃ D, dyn0 = D := ⟨_, rfl⟩
  have HDE := Lib.hid hD
  have HBLT : Hid (Tryz.prog.built 30 [] = some D) := Lib.hid (by rw [← hD]; exact dyn0_built)
  have h37 : D.size = 37 := by rw [← hD]; rfl
  have HON : Hid (D.all (·.oneCell') = true) := Lib.hid (by rw [← hD]; simp [dyn0, Value.oneCell'])
  have HI : Hid ((Tryz.prog.info? 30).map (·.size) = some D.size) := Lib.hid (by rw [h37]; kernel_rfl)
  have H37 := Lib.hid h37
  have key : ∀ (wz : World) (cs : Array Value), wz = (w.alloc (.cells #[.int .i64 ty, .int .u64 en, .slice a n cap] 27)).alloc (.cells cs 30) → RdStD w wz ty en a n cap cs := by
    rintro wz cs rfl
    refine ⟨((Below.refl _ _).alloc (Nat.le_refl _) _).alloc (by simp) _, ?_, ?_⟩
    · rw [heap_alloc_old _ _ (by simp)]
      exact heap_alloc_new _ _
    · have := heap_alloc_new (w.alloc (.cells #[.int .i64 ty, .int .u64 en, .slice a n cap] 27)) (.cells cs 30)
      simpa using this
  have HK : Hid (RdStD w ((w.alloc (.cells #[.int .i64 ty, .int .u64 en, .slice a n cap] 27)).alloc (.cells #[.slice none 0 0, .int .u64 0, .int .u64 0, .int .u64 0, .int .u64 0, .int .u64 0, .int .u64 0, .int .u64 0, .int .u64 0, .int .u64 0, .int .u64 0, .int .u64 0, .int .u64 0, .int .u64 0, .bool false, .bool false, .bool false, .int .u64 0, .int .u64 0, .int .u64 0, .int .u64 0, .int .u64 0, .int .u64 0, .int .u64 0, .int .u64 0, .int .u64 0, .int .u64 0, .int .u64 0, .int .u64 0, .int .u64 0, .int .u64 0, .int .u64 0, .bool false, .bool false, .bool false, .bool false, .bool false] 30)) ty en a n cap dynOld) := Lib.hid (key _ _ rfl)
  clear key
  have HPR := Lib.hid h
  have HBR := Lib.hid hb
  have HN := Lib.hid hn
  have HBN := Lib.hid hbn
  obtain ⟨N, hN⟩ : ∃ N, bs.length = N := ⟨_, rfl⟩
  rw [hN] at hbc hbl hbn ⊢
  have HLN := Lib.hid hN
  have HRR := Lib.hid hR
  clear hR hN
  obtain ⟨I, hI⟩ : ∃ I, pidx 2 0 ps = I := ⟨_, rfl⟩
  have HIDX : Hid (∀ wx, Below w.heap.size w wx → Calls Tryz.prog 22 #[.slice a n cap, .func (.func 23) #[] #[]] wx fun e w' => e = .returned (.int .i64 (pidxV I)) ∧ Below wx.heap.size wx w') := Lib.hid (fun wx hb => by
    rw [← hI]
    exact indexDyn_any a n cap ps wx hn (h.below hb) hl)
  have HIE := Lib.hid hI
  clear h hI hD h37 hn hb hbn
  unfold headV
  cases I with
  | none =>
    have HRN : Hid (R = .ok none) := Lib.hid (by rw [← HRR.out]; unfold dynRF; rw [HIE.out])
    go_enter Tryz.func10, Tryz.ntmps10
    go_wp2_with fail
    generalize (w.alloc (.cells #[.int .i64 ty, .int .u64 en, .slice a n cap] 27)).alloc (.cells #[.slice none 0 0, .int .u64 0, .int .u64 0, .int .u64 0, .int .u64 0, .int .u64 0, .int .u64 0, .int .u64 0, .int .u64 0, .int .u64 0, .int .u64 0, .int .u64 0, .int .u64 0, .int .u64 0, .bool false, .bool false, .bool false, .int .u64 0, .int .u64 0, .int .u64 0, .int .u64 0, .int .u64 0, .int .u64 0, .int .u64 0, .int .u64 0, .int .u64 0, .int .u64 0, .int .u64 0, .int .u64 0, .int .u64 0, .int .u64 0, .int .u64 0, .bool false, .bool false, .bool false, .bool false, .bool false] 30) = w1 at *
    refine (HIDX.out w1 HK.out.1).mono ?_
    rintro e w2 ⟨rfl, hb2⟩
    have K2 := Lib.hid (HK.out.go hb2)
    clear hb2 HK HIDX
    unfold pidxV
    go_wp2_with fail
    refine wp_build_asT 30 _ rfl [] D (by rw [Array.toList_map]; rfl) HBLT.out ?_
    go_wp2_with (refine wpList_store_row rfl 30 _ _ rfl (w.heap.size + 1) D rfl rfl 30 _ K2.out.2.2 HI.out (by rw [H37.out]; rfl) HON.out ?_)
    refine bodyPost_ret_by (results_cell3 Tryz.results10 _ _ (w.heap.size + 1) 30 D (0, 0) _ rfl (setRow_heap _ _ _ _ _ _ K2.out.2.2) Tryz.underlying30 rfl HI.out) (by rfl) ?_
    rw [HRN.out]
    refine ⟨?_, below_setRow K2.out.1 (by omega)⟩
    unfold DynPost
    rw [HDE.out]
    rfl
  | some k =>
    obtain ⟨-, hkl, -⟩ := pidx_lt HIE.out
    rw [Nat.sub_zero] at hkl
    have HRS : Hid (R = if ps[k].off ≤ N ∧ ps[k].filesz ≤ N - ps[k].off then
      (match entF ((bs.drop ps[k].off).take ps[k].filesz) with
      | .error n => .error n
      | .ok (ns, m) => if fitF m = true then .ok (some (ns, m)) else .error 3)
      else .error 4) := Lib.hid (by
        rw [← HRR.out]
        unfold dynRF
        rw [HIE.out, HLN.out]
        simp only []
        rw [show ps.getD k PT.zero = ps[k] by rw [List.getD, List.getElem?_eq_getElem hkl, Option.getD_some]])
    have HKL := Lib.hid hkl
    have hkn : k < n := by rw [← HN.out]; exact hkl
    have HPK : Hid (∀ wx, Below w.heap.size w wx → ps[k].wf ∧ ∃ b o, a = some ⟨b, o, none⟩ ∧ b < wx.heap.size ∧ ∀ j, j < 7 → wx.cell? ⟨b, o + k * 7 + j, none⟩ = ps[k].cells[j]?) := Lib.hid (fun wx hb => (HPR.out.below hb) k hkl)
    generalize ps[k] = p at *
    have hkn0 : (0 : Int) ≤ (k : Int) := by omega
    have hkn1 : (k : Int) < (n : Int) := by omega
    clear hkl HKL HRR HIE
    go_enter Tryz.func10, Tryz.ntmps10
    go_wp2_with fail
    generalize (w.alloc (.cells #[.int .i64 ty, .int .u64 en, .slice a n cap] 27)).alloc (.cells #[.slice none 0 0, .int .u64 0, .int .u64 0, .int .u64 0, .int .u64 0, .int .u64 0, .int .u64 0, .int .u64 0, .int .u64 0, .int .u64 0, .int .u64 0, .int .u64 0, .int .u64 0, .int .u64 0, .bool false, .bool false, .bool false, .int .u64 0, .int .u64 0, .int .u64 0, .int .u64 0, .int .u64 0, .int .u64 0, .int .u64 0, .int .u64 0, .int .u64 0, .int .u64 0, .int .u64 0, .int .u64 0, .int .u64 0, .int .u64 0, .int .u64 0, .bool false, .bool false, .bool false, .bool false, .bool false] 30) = w1 at *
    refine (HIDX.out w1 HK.out.1).mono ?_
    rintro e w2 ⟨rfl, hb2⟩
    have K2 := Lib.hid (HK.out.go hb2)
    clear hb2 HK HIDX
    unfold pidxV
    simp only []
    obtain ⟨hw, b, o, rfl, hbl2, hc⟩ := HPK.out w2 K2.out.1
    obtain ⟨q0, q1, q2, q3, q4, q5, q6⟩ := p
    have c0 := hc 0 (by omega)
    have c1 := hc 1 (by omega)
    have c2 := hc 2 (by omega)
    have c3 := hc 3 (by omega)
    have c4 := hc 4 (by omega)
    have c5 := hc 5 (by omega)
    have c6 := hc 6 (by omega)
    simp only [PT.cells, List.getElem?_cons_zero, List.getElem?_cons_succ, Nat.add_zero] at c0 c1 c2 c3 c4 c5 c6
    unfold PT.wf at hw
    simp only [] at hw HRS
    have HQ2 : Hid (q2 < 18446744073709551616) := Lib.hid hw.2.2.1
    have HQ4 : Hid (q4 < 18446744073709551616) := Lib.hid hw.2.2.2.2.1
    have h02 := K2.out.2.1
    clear hc hw hbl2 HPK
    have hh2 := cell_of_row _ _ 2 _ _ _ h02
    simp only [List.getElem?_toArray, List.getElem?_cons_zero, List.getElem?_cons_succ] at hh2
    have K3 : Hid (RdStD w (w2.alloc (.cells #[.int .u32 (q0 : Int), .int .u32 (q1 : Int), .int .u64 (q2 : Int), .int .u64 (q3 : Int), .int .u64 (q4 : Int), .int .u64 (q5 : Int), .int .u64 (q6 : Int)] 54)) ty en (some ⟨b, o, none⟩) n cap dynOld) := Lib.hid (K2.out.go ((Below.refl _ _).alloc (Nat.le_refl _) _))
    have hp3 : (w2.alloc (.cells #[.int .u32 (q0 : Int), .int .u32 (q1 : Int), .int .u64 (q2 : Int), .int .u64 (q3 : Int), .int .u64 (q4 : Int), .int .u64 (q5 : Int), .int .u64 (q6 : Int)] 54)).heap[w2.heap.size]? = some (.cells #[.int .u32 (q0 : Int), .int .u32 (q1 : Int), .int .u64 (q2 : Int), .int .u64 (q3 : Int), .int .u64 (q4 : Int), .int .u64 (q5 : Int), .int .u64 (q6 : Int)] 54) := heap_alloc_new _ _
    have HP3 := Lib.hid hp3
    have HS2 : Hid (w.heap.size + 1 < w2.heap.size) := Lib.hid (lt_of_block K2.out.2.2)
    clear hp3
    go_wp2_with fail
    generalize w2.alloc (.cells #[.int .u32 (q0 : Int), .int .u32 (q1 : Int), .int .u64 (q2 : Int), .int .u64 (q3 : Int), .int .u64 (q4 : Int), .int .u64 (q5 : Int), .int .u64 (q6 : Int)] 54) = w3 at *
    refine (within_any ba N bc q2 q4 w3 hbl HQ2.out HQ4.out).mono ?_
    rintro e w3' ⟨rfl, rfl⟩
    clear c0 c1 c2 c3 c4 c5 c6 hh2 h02 K2
    by_cases hA : q2 ≤ N ∧ q4 ≤ N - q2
    · rw [decide_eq_true hA]
      have HRA : Hid (R = match entF ((bs.drop q2).take q4) with
        | .error n => .error n
        | .ok (ns, m) => if fitF m = true then .ok (some (ns, m)) else .error 3) := Lib.hid (by rw [HRS.out, if_pos hA])
      obtain ⟨hA1, hA2⟩ := hA
      have HL4 := Lib.hid (show ((bs.drop q2).take q4).length = q4 from by have := HLN.out; simp; omega)
      have hu : IntKind.u64.wrap ((q2 : Int) + (q4 : Int)) = ((q2 + q4 : Nat) : Int) := by rw [IntKind.wrap_u64]; omega
      have d0 := cell_of_row _ _ 2 _ _ _ HP3.out
      have d1 := cell_of_row _ _ 4 _ _ _ HP3.out
      simp only [List.getElem?_toArray, List.getElem?_cons_zero, List.getElem?_cons_succ] at d0 d1
      have i0 : (0 : Int) ≤ (q2 : Int) := by omega
      have i1 : (q2 : Int) ≤ ((q2 + q4 : Nat) : Int) := by omega
      have i2 : ((q2 + q4 : Nat) : Int) ≤ (bc : Int) := by omega
      have i3 : (((q2 + q4 : Nat) : Int) - (q2 : Int)).toNat = q4 := by omega
      have i4 : (((q2 + q4 : Nat) : Int)).toNat - q2 = q4 := by omega
      rcases (show ¬ bc = q2 ∨ bc = q2 by omega) with hcase | hcase
      · go_wp2_with fail
        clear hu d0 d1 i0 i1 i2 i3 i4
        have hent : Calls Tryz.prog 25 #[.slice (ba.map (·.add q2)) q4 (bc - q2)] w3 fun e w' => EntPost w3.heap.size w' e (entF ((bs.drop q2).take q4)) ∧ Below w3.heap.size w3 w' := by
          have := entries_any (ba.map (·.add q2)) (bc - q2) ((bs.drop q2).take q4) w3 ((HBR.out.below K3.out.1).cut q2 q4) (by rw [HL4.out]; omega) (by rw [HL4.out]; omega)
          rw [HL4.out] at this
          exact this
        refine hent.mono ?_
        rintro e w4 ⟨he, hb4⟩
        have K4 := Lib.hid (K3.out.go hb4)
        have HB34 := Lib.hid hb4
        clear hent hb4
        have HEC : Hid (∀ en, entF ((bs.drop q2).take q4) = .error en → 0 < en) := Lib.hid (fun en h => entF_code h)
        generalize entF ((bs.drop q2).take q4) = E at *
        rcases E with en' | ⟨ns, m⟩
        · have HRA2 : Hid (R = .error en') := Lib.hid HRA.out
          have hen : 0 < en' := HEC.out en' rfl
          unfold EntPost at he
          simp only [] at he
          rw [errVd_pos hen] at he
          have HEN := Lib.hid hen
          subst he
          clear hen HEC HRS HRA
          go_wp2_with fail
          refine wp_build_asT 30 _ rfl [] D (by rw [Array.toList_map]; rfl) HBLT.out ?_
          go_wp2_with (refine wpList_store_row rfl 30 _ _ rfl (w.heap.size + 1) D rfl rfl 30 _ K4.out.2.2 HI.out (by rw [H37.out]; rfl) HON.out ?_)
          refine bodyPost_ret_by (results_cell3 Tryz.results10 _ _ (w.heap.size + 1) 30 D (0, 0) _ rfl (setRow_heap _ _ _ _ _ _ K4.out.2.2) Tryz.underlying30 rfl HI.out) (by rfl) ?_
          rw [HRA2.out]
          refine ⟨?_, below_setRow K4.out.1 (by omega)⟩
          unfold DynPost
          rw [HDE.out]
          simp only []
          rw [errVd_pos HEN.out]
          rfl
        · unfold EntPost at he
          simp only [] at he
          obtain ⟨ad, nn, c, cm, rfl, hown, hum, hnn⟩ := he
          have HOW := Lib.hid hown
          have HUM := Lib.hid hum
          have HNN := Lib.hid hnn
          clear hown hum hnn HEC HRS
          go_wp2_with fail
          refine (fit_any w3.heap.size cm m w4 HUM.out).mono ?_
          rintro e w5 ⟨rfl, hb5⟩
          have K5 := Lib.hid (K4.out.go hb5)
          have HB35 := Lib.hid (bstep HB34.out hb5)
          have HB5 := Lib.hid hb5
          clear hb5
          by_cases hft : fitF m = true
          · have HRA2 : Hid (R = .ok (some (ns, m))) := Lib.hid (by rw [HRA.out]; exact if_pos hft)
            rw [hft]
            clear hft HRA
            go_wp2_with fail
            refine (told_any ad nn c w3.heap.size cm m w5 (HUM.out.of_block (HB5.out.block _ HUM.out.lt))).mono ?_
            rintro e w6 ⟨rfl, hb6⟩
            have K6 := Lib.hid (K5.out.go hb6)
            have HOW6 := Lib.hid ((HOW.out.below HB5.out).below hb6)
            have HS3 : Hid (w.heap.size + 1 < w3.heap.size) := Lib.hid (lt_of_block K3.out.2.2)
            clear hb6
            obtain ⟨DC, hDC⟩ : ∃ DC, (toldF ad nn c m).cells = DC := ⟨_, rfl⟩
            have HDC := Lib.hid hDC
            have h37c : DC.size = 37 := by rw [← hDC]; rfl
            have HONC : Hid (DC.all (·.oneCell') = true) := Lib.hid (by rw [← hDC]; exact dyn_one _)
            have HIC : Hid ((Tryz.prog.info? 30).map (·.size) = some DC.size) := Lib.hid (by rw [h37c]; kernel_rfl)
            have H37C := Lib.hid h37c
            unfold DT.v
            rw [hDC]
            clear hDC h37c
            go_wp2_with (refine wpList_store_row rfl 30 _ _ rfl (w.heap.size + 1) DC rfl rfl 30 _ K6.out.2.2 HIC.out (by rw [H37C.out]; rfl) HONC.out ?_)
            refine bodyPost_ret_by (results_cell3 Tryz.results10 _ _ (w.heap.size + 1) 30 DC (0, 0) _ rfl (setRow_heap _ _ _ _ _ _ K6.out.2.2) Tryz.underlying30 rfl HIC.out) (by rfl) ?_
            rw [HRA2.out]
            refine ⟨?_, below_setRow K6.out.1 (by omega)⟩
            unfold DynPost
            refine ⟨ad, nn, c, ?_, ?_, HNN.out⟩
            · unfold DT.v
              rw [HDC.out]
              rfl
            · exact (HOW6.out.setRow (by have := HS3.out; omega)).mono (by have := HS3.out; omega)
          · have HRA2 : Hid (R = .error 3) := Lib.hid (by rw [HRA.out]; exact if_neg hft)
            rw [Bool.not_eq_true] at hft
            rw [hft]
            clear hft HRA
            go_wp2_with fail
            refine wp_build_asT 30 _ rfl [] D (by rw [Array.toList_map]; rfl) HBLT.out ?_
            go_wp2_with (refine wpList_store_row rfl 30 _ _ rfl (w.heap.size + 1) D rfl rfl 30 _ K5.out.2.2 HI.out (by rw [H37.out]; rfl) HON.out ?_)
            refine bodyPost_ret_by (results_cell3 Tryz.results10 _ _ (w.heap.size + 1) 30 D (0, 0) _ rfl (setRow_heap _ _ _ _ _ _ K5.out.2.2) Tryz.underlying30 rfl HI.out) (by rfl) ?_
            rw [HRA2.out]
            refine ⟨?_, below_setRow K5.out.1 (by omega)⟩
            unfold DynPost
            rw [HDE.out]
            rfl
      · subst hcase
        go_wp2_with fail
        clear hu d0 d1 i0 i1 i2 i3 i4
        obtain rfl : q4 = 0 := by omega
        have hent : Calls Tryz.prog 25 #[.slice ba 0 0] w3 fun e w' => EntPost w3.heap.size w' e (entF ((bs.drop bc).take 0)) ∧ Below w3.heap.size w3 w' := by
          rw [List.take_zero]
          exact entries_any ba 0 [] w3 ⟨fun i hi => by simp [toI] at hi, fun b hb => by cases hb⟩ (by simp) (by simp)
        refine hent.mono ?_
        rintro e w4 ⟨he, hb4⟩
        have K4 := Lib.hid (K3.out.go hb4)
        have HB34 := Lib.hid hb4
        clear hent hb4
        have HEC : Hid (∀ en, entF ((bs.drop bc).take 0) = .error en → 0 < en) := Lib.hid (fun en h => entF_code h)
        generalize entF ((bs.drop bc).take 0) = E at *
        rcases E with en' | ⟨ns, m⟩
        · have HRA2 : Hid (R = .error en') := Lib.hid HRA.out
          have hen : 0 < en' := HEC.out en' rfl
          unfold EntPost at he
          simp only [] at he
          rw [errVd_pos hen] at he
          have HEN := Lib.hid hen
          subst he
          clear hen HEC HRS HRA
          go_wp2_with fail
          refine wp_build_asT 30 _ rfl [] D (by rw [Array.toList_map]; rfl) HBLT.out ?_
          go_wp2_with (refine wpList_store_row rfl 30 _ _ rfl (w.heap.size + 1) D rfl rfl 30 _ K4.out.2.2 HI.out (by rw [H37.out]; rfl) HON.out ?_)
          refine bodyPost_ret_by (results_cell3 Tryz.results10 _ _ (w.heap.size + 1) 30 D (0, 0) _ rfl (setRow_heap _ _ _ _ _ _ K4.out.2.2) Tryz.underlying30 rfl HI.out) (by rfl) ?_
          rw [HRA2.out]
          refine ⟨?_, below_setRow K4.out.1 (by omega)⟩
          unfold DynPost
          rw [HDE.out]
          simp only []
          rw [errVd_pos HEN.out]
          rfl
        · unfold EntPost at he
          simp only [] at he
          obtain ⟨ad, nn, c, cm, rfl, hown, hum, hnn⟩ := he
          have HOW := Lib.hid hown
          have HUM := Lib.hid hum
          have HNN := Lib.hid hnn
          clear hown hum hnn HEC HRS
          go_wp2_with fail
          refine (fit_any w3.heap.size cm m w4 HUM.out).mono ?_
          rintro e w5 ⟨rfl, hb5⟩
          have K5 := Lib.hid (K4.out.go hb5)
          have HB35 := Lib.hid (bstep HB34.out hb5)
          have HB5 := Lib.hid hb5
          clear hb5
          by_cases hft : fitF m = true
          · have HRA2 : Hid (R = .ok (some (ns, m))) := Lib.hid (by rw [HRA.out]; exact if_pos hft)
            rw [hft]
            clear hft HRA
            go_wp2_with fail
            refine (told_any ad nn c w3.heap.size cm m w5 (HUM.out.of_block (HB5.out.block _ HUM.out.lt))).mono ?_
            rintro e w6 ⟨rfl, hb6⟩
            have K6 := Lib.hid (K5.out.go hb6)
            have HOW6 := Lib.hid ((HOW.out.below HB5.out).below hb6)
            have HS3 : Hid (w.heap.size + 1 < w3.heap.size) := Lib.hid (lt_of_block K3.out.2.2)
            clear hb6
            obtain ⟨DC, hDC⟩ : ∃ DC, (toldF ad nn c m).cells = DC := ⟨_, rfl⟩
            have HDC := Lib.hid hDC
            have h37c : DC.size = 37 := by rw [← hDC]; rfl
            have HONC : Hid (DC.all (·.oneCell') = true) := Lib.hid (by rw [← hDC]; exact dyn_one _)
            have HIC : Hid ((Tryz.prog.info? 30).map (·.size) = some DC.size) := Lib.hid (by rw [h37c]; kernel_rfl)
            have H37C := Lib.hid h37c
            unfold DT.v
            rw [hDC]
            clear hDC h37c
            go_wp2_with (refine wpList_store_row rfl 30 _ _ rfl (w.heap.size + 1) DC rfl rfl 30 _ K6.out.2.2 HIC.out (by rw [H37C.out]; rfl) HONC.out ?_)
            refine bodyPost_ret_by (results_cell3 Tryz.results10 _ _ (w.heap.size + 1) 30 DC (0, 0) _ rfl (setRow_heap _ _ _ _ _ _ K6.out.2.2) Tryz.underlying30 rfl HIC.out) (by rfl) ?_
            rw [HRA2.out]
            refine ⟨?_, below_setRow K6.out.1 (by omega)⟩
            unfold DynPost
            refine ⟨ad, nn, c, ?_, ?_, HNN.out⟩
            · unfold DT.v
              rw [HDC.out]
              rfl
            · exact (HOW6.out.setRow (by have := HS3.out; omega)).mono (by have := HS3.out; omega)
          · have HRA2 : Hid (R = .error 3) := Lib.hid (by rw [HRA.out]; exact if_neg hft)
            rw [Bool.not_eq_true] at hft
            rw [hft]
            clear hft HRA
            go_wp2_with fail
            refine wp_build_asT 30 _ rfl [] D (by rw [Array.toList_map]; rfl) HBLT.out ?_
            go_wp2_with (refine wpList_store_row rfl 30 _ _ rfl (w.heap.size + 1) D rfl rfl 30 _ K5.out.2.2 HI.out (by rw [H37.out]; rfl) HON.out ?_)
            refine bodyPost_ret_by (results_cell3 Tryz.results10 _ _ (w.heap.size + 1) 30 D (0, 0) _ rfl (setRow_heap _ _ _ _ _ _ K5.out.2.2) Tryz.underlying30 rfl HI.out) (by rfl) ?_
            rw [HRA2.out]
            refine ⟨?_, below_setRow K5.out.1 (by omega)⟩
            unfold DynPost
            rw [HDE.out]
            rfl
    · rw [decide_eq_false hA]
      have HRA : Hid (R = .error 4) := Lib.hid (by rw [HRS.out, if_neg hA])
      clear HRS hA
      go_wp2_with fail
      refine wp_build_asT 30 _ rfl [] D (by rw [Array.toList_map]; rfl) HBLT.out ?_
      go_wp2_with (refine wpList_store_row rfl 30 _ _ rfl (w.heap.size + 1) D rfl rfl 30 _ K3.out.2.2 HI.out (by rw [H37.out]; rfl) HON.out ?_)
      refine bodyPost_ret_by (results_cell3 Tryz.results10 _ _ (w.heap.size + 1) 30 D (0, 0) _ rfl (setRow_heap _ _ _ _ _ _ K3.out.2.2) Tryz.underlying30 rfl HI.out) (by rfl) ?_
      rw [HRA.out]
      refine ⟨?_, below_setRow K3.out.1 (by omega)⟩
      unfold DynPost
      rw [HDE.out]
      rfl
end Go.Proofs.YtnaejlfjlennhaaGreatDoor
