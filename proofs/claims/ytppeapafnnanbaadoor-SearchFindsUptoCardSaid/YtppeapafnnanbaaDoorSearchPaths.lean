/- Layer 14: the paths at which a library may be, of the directories. -/
import Derived.Test.YtppeapafnnanbaaDoorDirsProg
import Derived.Deep.DeepCutAuto
import Derived.Deep.RegionHeld3
import Derived.Deep.RegionLaw
import Derived.Deep.MidRow
namespace Go.Proofs.YtppeapafnnanbaaDoor
open Go.RowKit
set_option linter.unusedVariables false
set_option linter.unusedSimpArgs false

/-- a path with a / ahead of it -/
def rootedF (p : ByteArray) : ByteArray := if Lib.hasPrefix p.data.toList [47] then p else ⟨#[47]⟩ ++ p
theorem rootedF_size (p : ByteArray) : (rootedF p).size ≤ p.size + 1 := by
  unfold rootedF
  split
  · omega
  · rw [ByteArray.size_append]
    show 1 + p.size ≤ _
    omega
set_option maxRecDepth 100000 in
set_option maxHeartbeats 4000000 in
theorem rooted_any (p : ByteArray) (w : World) (hp : p.size ≤ 140737488351232) :
    Calls Tryd.prog 36 #[.string p] w fun e w' => e = .returned (.string (rootedF p)) ∧ w = w' := by
  have HP := Lib.hid ((Tryd.strings_HasPrefix p ⟨#[47]⟩ w).mono (fun e w' h => (⟨h.1, h.2.symm⟩ : _ ∧ w = w')))
  have e0 : (⟨#[47]⟩ : ByteArray).data.toList = [47] := rfl
  rw [e0] at HP
  cases hb : Lib.hasPrefix p.data.toList [47] with
  | true =>
    have hR : rootedF p = p := by unfold rootedF; rw [hb]; rfl
    rw [hR]
    rw [hb] at HP
    clear hR hb e0
    go_enter Tryd.func36, Tryd.ntmps36
    go_wp2_with fail
    refine HP.out.mono ?_
    rintro e w' ⟨rfl, rfl⟩
    go_wp2_with fail
    go_ret
    exact ⟨rfl, rfl⟩
  | false =>
    have hR : rootedF p = ⟨#[47]⟩ ++ p := by unfold rootedF; rw [hb]; rfl
    rw [hR]
    rw [hb] at HP
    clear hR hb e0
    go_enter Tryd.func36, Tryd.ntmps36
    go_wp2_with fail
    refine HP.out.mono ?_
    rintro e w' ⟨rfl, rfl⟩
    go_wp2_with fail
    go_ret
    exact ⟨rfl, rfl⟩

/-- out = append(out, t), in a region that draws its order -/
theorem step_text {P : Program} {w : World} {ops : Array Oper} {o : Oper} {a : Act} {K : Act → World → Prop} {Q : Exit → Act → World → Prop} {E : Prop} (hgd : o.guard = none) (s x : Operand) {t e : TypeId} (ht : P.underlying t = some (.slice e)) (hinfo : (P.info? e).map (fun i => (i.zero, i.size, i.bytes)) = some (some (.string .empty), 1, 16))
    (ho : o.op = .call { callee := .builtin .append, args := #[s, x], argTypes := #[t, t] })
    (B : Nat) (v : Value) (T : List ByteArray) (n : Nat) (y : ByteArray) (hs : a.eval s = v) (ad : Addr) (c : Nat) (hx : a.eval x = .slice (some ad) 1 c) (hnew : w.cell? ad = some (.string y)) (hn0 : T.length = n)
    (hown : OwnT w B e v T) (h63 : n + 1 ≤ maxLen) (hlen : (n + 1) * 16 ≤ 140737488355328) (hb : B ≤ w.heap.size)
    (h : ∀ ad' cap w', OwnT w' B e (.slice ad' (n + 1) cap) (T ++ [y]) → w.grownBy w' v.ownBlock → K (a.put o.dst (.slice ad' (n + 1) cap)) w') :
    if Region.wanted o (yielded ops a.tmps) = true then Oper.wp P o a w K Q else E := by
  subst hn0
  obtain ⟨i, hi, hz0, hz1, hz2⟩ := info_parts hinfo
  refine step_append_lies _ hgd s x t ho B e i (.string .empty) 1 16 ht hi hz0 hz1 hz2 rfl (by decide) v T.length (T.map Value.string) hs hown ad 1 c [.string y] hx rfl ?_ (by intro u hu; simp only [List.mem_cons, List.not_mem_nil, or_false] at hu; subst hu; rfl) (by omega) h63 hlen hb _ rfl ?_
  · intro j u hj
    match j, hj with
    | 0, hj =>
      simp only [List.getElem?_cons_zero, Option.some.injEq] at hj
      subst hj
      have : ad.add 0 = ad := by cases ad; rfl
      rw [this]
      exact hnew
  · intro g cap w1 hown' hgr _ _
    refine h (some ⟨g, 0, none⟩) cap w1 ?_ hgr
    unfold OwnT
    rw [List.length_append, List.map_append]
    exact hown'

/-- the paths of the directories -/
def pathF (name d : ByteArray) : ByteArray := (rootedF d ++ ⟨#[47]⟩) ++ name
theorem pathF_size (name d : ByteArray) : (pathF name d).size ≤ d.size + 2 + name.size := by
  unfold pathF
  rw [ByteArray.size_append, ByteArray.size_append]
  have := rootedF_size d
  show _ + 1 + _ ≤ _
  omega
/-- texts that are answered -/
def PathsAns (R : List ByteArray) (w : World) (e : Ending) (w' : World) : Prop :=
  (∃ ad c, e = .returned (.slice ad R.length c) ∧ TRow w' ad R) ∧ Below w.heap.size w w'

set_option maxRecDepth 100000 in
set_option maxHeartbeats 8000000 in
theorem paths_dirs (name env : ByteArray) (ca : Option Addr) (n cc : Nat) (secure : Bool) (R : List ByteArray) (w : World) (hno : Lib.indexByte name.data.toList 47 < 0) (hns : name.size ≤ 1048576) (hRl : R.length ≤ 1099511627776) (hRs : Short R)
    (hT : Told (.agg #[.string name, .slice ca n cc, .string env, .bool secure]) w R) :
    Calls Tryd.prog 14 #[.agg #[.string name, .slice ca n cc, .string env, .bool secure]] w (PathsAns (R.map (pathF name)) w) := by
  have B0 : Hid (Below w.heap.size w (w.alloc (.cells #[.string name, .slice ca n cc, .string env, .bool secure] 25))) := Lib.hid ((Below.refl _ _).alloc (Nat.le_refl _) _)
  have X0 : Hid ((w.alloc (.cells #[.string name, .slice ca n cc, .string env, .bool secure] 25)).heap[w.heap.size]? = some (.cells #[.string name, .slice ca n cc, .string env, .bool secure] 25)) := Lib.hid (heap_alloc_new _ _)
  have HCO : Hid (∀ wx, Calls Tryd.prog 34 #[.string name, .string ⟨#[47]⟩] wx fun e w' => e = .returned (.bool false) ∧ wx = w') := Lib.hid (fun wx => (Tryd.strings_Contains_one name 47 wx).mono (fun e w' h => ⟨by rw [h.1, decide_eq_false (by omega)], h.2.symm⟩))
  have HTD := Lib.hid hT
  have HI : Hid ((Tryd.prog.info? 25).map (·.size) = some (#[.string name, .slice ca n cc, .string env, .bool secure] : Array Value).size) := Lib.hid (by kernel_rfl)
  obtain ⟨ab, hab⟩ : ∃ ab, w.heap.size = ab := ⟨_, rfl⟩
  obtain ⟨w1, hw1⟩ : ∃ w1, w.alloc (.cells #[.string name, .slice ca n cc, .string env, .bool secure] 25) = w1 := ⟨_, rfl⟩
  have HW1 := Lib.hid hw1
  rw [hw1] at B0 X0
  rw [hab] at X0
  obtain ⟨m, hm⟩ : ∃ m, R.length = m := ⟨_, rfl⟩
  have HM := Lib.hid hm
  have HML : Hid (m ≤ 1099511627776) := Lib.hid (by omega)
  have HRS := Lib.hid hRs
  have HPL : (R.map (pathF name)).length = m := by rw [List.length_map]; exact hm
  have HPLH := Lib.hid HPL
  have c0 : w1.cell? ⟨ab, 0, none⟩ = some (.string name) := by rw [cell_of_row _ _ 0 _ _ _ X0.out]; rfl
  have HC1 : Hid (w1.cell? ⟨ab, 0, none⟩ = some (.string name)) := Lib.hid c0
  obtain ⟨Q, hQ⟩ : ∃ Q, R.map (pathF name) = Q := ⟨_, rfl⟩
  have HQ := Lib.hid hQ
  rw [hQ] at HPLH ⊢
  clear hm hT hno hRl hRs hw1 HPL hQ
  unfold PathsAns
  go_enter Tryd.func14, Tryd.ntmps14
  go_upto_region 1 with fail
  rw [HW1.out]
  try rw [hab]
  go_wp2_with fail
  refine (HCO.out w1).mono ?_
  rintro e w' ⟨rfl, rfl⟩
  go_wp2_with (refine wpList_load_row rfl 25 _ rfl ab rfl 25 #[.string name, .slice ca n cc, .string env, .bool secure] (0, 0) _ X0.out Tryd.underlying25 rfl HI.out ?_)
  refine (HTD.out w1 B0.out).mono ?_
  rintro e w2 ⟨⟨da, dc, rfl, htr⟩, hb2⟩
  have B2 := Lib.hid (bstep B0.out hb2)
  have TR2 := Lib.hid htr
  have X2 : Hid (w2.heap[ab]? = some (.cells #[.string name, .slice ca n cc, .string env, .bool secure] 25)) := Lib.hid ((hb2.block _ (lt_of_block X0.out)).trans X0.out)
  rw [HM.out]
  clear hb2 htr c0 HC1
  go_wp2_with fail
  go_loopg [5, 32] m (fun g lv iv wr => ∃ (k c : Nat) (ad : Option Addr), k + g = m ∧ iv = .int .i64 (k : Int) ∧ lv = .slice ad k c ∧ Hid (OwnT wr w2.heap.size 9 (.slice ad k c) (Q.take k)) ∧ Hid (Below w2.heap.size w2 wr))
  case atStart => exact ⟨0, 0, none, by omega, rfl, rfl, Lib.hid (OwnT.nil _ _ _), Lib.hid (Below.refl _ _)⟩
  case round =>
    obtain ⟨k, c, ad, hk, rfl, rfl, HO, HB⟩ := hrel
    have HKK := Lib.hid hk
    cases gk with
    | zero =>
      have hkm : k = m := by omega
      subst hkm
      clear hk
      go_wp2_with fail
      go_ret
      have ho := HO.out
      rw [List.take_of_length_le (by rw [HPLH.out]; exact Nat.le_refl _)] at ho
      exact ⟨⟨ad, c, by rw [HPLH.out]; rfl, ho.row.1⟩, B2.out.trans (HB.out.mono B2.out.size)⟩
    | succ g =>
      have hlt : k < m := by omega
      have hkR : k < R.length := by rw [HM.out]; exact hlt
      obtain ⟨b1, o1, rfl, hbl, p0⟩ := (TR2.out.below HB.out) k hkR
      obtain ⟨d, hd⟩ : ∃ d, R[k]'hkR = d := ⟨_, rfl⟩
      have hg : R.getD k .empty = d := by rw [← hd]; simp [List.getD, hkR]
      rw [hg] at p0
      have hds : d.size ≤ 2199023255552 := by rw [← hd]; exact HRS.out _ (List.getElem_mem hkR)
      have HRO : Hid (∀ wx, Calls Tryd.prog 36 #[.string d] wx fun e w' => e = .returned (.string (rootedF d)) ∧ wx = w') := Lib.hid (fun wx => rooted_any d wx (by omega))
      have HNX : Hid (Q.take (k + 1) = Q.take k ++ [(rootedF d ++ ⟨#[47]⟩) ++ name]) := Lib.hid (by
        have hkQ : k < Q.length := by rw [HPLH.out]; exact hlt
        rw [List.take_succ_eq_append_getElem hkQ]
        congr 2
        have : Q[k] = pathF name d := by
          have h := HQ.out
          subst h
          rw [List.getElem_map, hd]
        exact this)
      have hs1 : (rootedF d).size ≤ 2199023255553 := by have := rootedF_size d; omega
      generalize rootedF d = rd at *
      have hs2 : (rd ++ (⟨#[47]⟩ : ByteArray)).size ≤ 2199023255554 := by
        rw [ByteArray.size_append]
        show _ + 1 ≤ _
        omega
      obtain ⟨q, hq⟩ : ∃ q, (rd ++ (⟨#[47]⟩ : ByteArray)) ++ name = q := ⟨_, rfl⟩
      have HQQ := Lib.hid hq
      have XR : Hid (wr.heap[ab]? = some (.cells #[.string name, .slice ca n cc, .string env, .bool secure] 25)) := Lib.hid ((HB.out.block _ (lt_of_block X2.out)).trans X2.out)
      have KS : Hid (∀ wx, Below wr.heap.size wr wx → wx.cell? ⟨ab, 0, none⟩ = some (.string name)) := Lib.hid (fun wx hb => by rw [cell_of_row _ _ 0 _ _ _ ((hb.block _ (lt_of_block XR.out)).trans XR.out)]; rfl)
      have z1 : (9223372036854775807 < rd.size + 1) = False := eq_false (by omega)
      have z2 : (9223372036854775807 < rd.size + 1 + name.size) = False := eq_false (by omega)
      have HOT := Lib.hid (HO.out.below (((Below.refl wr.heap.size wr).alloc (Nat.le_refl _) (.cells #[.string ((rd ++ (⟨#[47]⟩ : ByteArray)) ++ name)] 9)).drew))
      clear hk hkR hg hds hq hd
      go_upto_region 10 with fail
      have k0 := KS.out wr (Below.refl _ _)
      have HB1 : Hid (Below wr.heap.size wr (wr.alloc (.cells #[.string ((rd ++ (⟨#[47]⟩ : ByteArray)) ++ name)] 9)).drew) := Lib.hid ((Below.refl _ _).alloc (Nat.le_refl _) _).drew
      have HNW : Hid (((wr.alloc (.cells #[.string ((rd ++ (⟨#[47]⟩ : ByteArray)) ++ name)] 9)).drew).cell? ⟨wr.heap.size, 0, none⟩ = some (.string ((rd ++ (⟨#[47]⟩ : ByteArray)) ++ name))) := Lib.hid (by
        show (wr.alloc _).cell? _ = _
        rw [World.cell?_alloc_new]
        rfl)
      have HTL : Hid ((Q.take k).length = k) := Lib.hid (by rw [List.length_take, HPLH.out]; omega)
      have HK1 : Hid (k + 1 ≤ maxLen ∧ (k + 1) * 16 ≤ 140737488355328) := Lib.hid (by have := HML.out; unfold maxLen; omega)
      have HSZ : Hid (w2.heap.size ≤ ((wr.alloc (.cells #[.string ((rd ++ (⟨#[47]⟩ : ByteArray)) ++ name)] 9)).drew).heap.size) := Lib.hid (Nat.le_trans HB.out.size HB1.out.size)
      go_region_law (first | (go_simp; go_at_call 36; refine (HRO.out _).mono ?_; rintro e w6 ⟨rfl, rfl⟩) | (go_loud (refine step_text rfl (.tmp 36) (.tmp 43) texts_t text_info rfl w2.heap.size (.slice ad k c) (Q.take k) k ((rd ++ (⟨#[47]⟩ : ByteArray)) ++ name) rfl ⟨wr.heap.size, 0, none⟩ 1 rfl HNW.out HTL.out HOT.out HK1.out.1 HK1.out.2 HSZ.out ?_); intro ad8 c8 w8 ho8 hg8; have HO8 := Lib.hid ho8; have HG8 := Lib.hid hg8; clear ho8 hg8))
      all_goals (
        have HBX : Hid (Below w2.heap.size w2 w8) := Lib.hid ((HB.out.trans (HB1.out.mono HB.out.size)).grown HG8.out HSZ.out (fun j hj => (World.ownsRow.lt HOT.out j hj).1))
        have HOX : Hid (OwnT w8 w2.heap.size 9 (.slice ad8 (k + 1) c8) (Q.take (k + 1))) := Lib.hid (by rw [HNX.out]; exact HO8.out)
        go_wp2_with fail
        go_roundg g
        case measure => have := HKK.out; omega
        case rel => exact ⟨k + 1, c8, ad8, by have := HKK.out; omega, by have := HML.out; rw [IntWalk.wrap64_in _ ⟨by omega, by omega⟩]; rfl, rfl, HOX, HBX⟩)
end Go.Proofs.YtppeapafnnanbaaDoor
/- Layer 14: the path of a name with a slash. -/
namespace Go.Proofs.YtppeapafnnanbaaDoor
open Go.RowKit
set_option linter.unusedVariables false
set_option linter.unusedSimpArgs false

theorem field_opath (w : World) (v0 v1 v2 v3 v4 : Value) : (Instr.field 48 (.agg #[v0, v1, v2, v3, v4]) 0).run Tryd.prog w = .ok v0 w := by
  simp [Instr.field, run_underlying Tryd.underlying48, part, asAgg, Tryd.sizeOf9, Tryd.isAgg9, go_sem]
/-- the path of the object that asks -/
def askerF (C : List OT) : ByteArray := match C with | [] => ⟨#[]⟩ | o :: _ => o.path
theorem asker_any (ca : Option Addr) (n cc : Nat) (C : List OT) (w : World) (hC : CRow w ca C) (hn : C.length = n) (hnl : n ≤ 200000) :
    Calls Tryd.prog 35 #[.slice ca n cc] w fun e w' => (∃ v1 v2 v3 v4, e = .returned (.agg #[.string (askerF C), v1, v2, v3, v4])) ∧ Below w.heap.size w w' := by
  cases C with
  | nil =>
    simp only [List.length_nil] at hn
    subst hn
    refine (first_none ca cc w).mono ?_
    rintro e w' ⟨rfl, hb⟩
    exact ⟨⟨_, _, _, _, rfl⟩, hb⟩
  | cons o l =>
    obtain ⟨b, off, rfl, hlt, hc⟩ := hC 0 (by simp)
    have hn0 : 0 < n := by simp only [List.length_cons] at hn; omega
    refine (first_any b off n cc o w hn0 (by omega) (fun j hj => ?_) hlt).mono ?_
    · have := hc j hj
      rw [Nat.zero_mul, Nat.add_zero] at this
      exact this
    · rintro e w' ⟨rfl, hb⟩
      exact ⟨⟨_, _, _, _, rfl⟩, hb⟩
/-- the paths of a name with a slash -/
def slashPaths (name origin : ByteArray) (secure : Bool) : List ByteArray := if (expF name origin).2 && secure then [] else [rootedF (mkT (expF name origin).1)]

set_option maxRecDepth 100000 in
set_option maxHeartbeats 8000000 in
theorem paths_slash (name env : ByteArray) (ca : Option Addr) (n cc : Nat) (C : List OT) (secure : Bool) (w : World) (hyes : ¬ Lib.indexByte name.data.toList 47 < 0) (hns : name.size ≤ 1048576) (hC : CRow w ca C) (hn : C.length = n) (hnl : n ≤ 200000) (hs : ∀ o ∈ C, Sizes o) :
    Calls Tryd.prog 14 #[.agg #[.string name, .slice ca n cc, .string env, .bool secure]] w (PathsAns (slashPaths name (askerF C) secure) w) := by
  have B0 : Hid (Below w.heap.size w (w.alloc (.cells #[.string name, .slice ca n cc, .string env, .bool secure] 25))) := Lib.hid ((Below.refl _ _).alloc (Nat.le_refl _) _)
  have X0 : Hid ((w.alloc (.cells #[.string name, .slice ca n cc, .string env, .bool secure] 25)).heap[w.heap.size]? = some (.cells #[.string name, .slice ca n cc, .string env, .bool secure] 25)) := Lib.hid (heap_alloc_new _ _)
  have HCO : Hid (∀ wx, Calls Tryd.prog 34 #[.string name, .string ⟨#[47]⟩] wx fun e w' => e = .returned (.bool true) ∧ wx = w') := Lib.hid (fun wx => (Tryd.strings_Contains_one name 47 wx).mono (fun e w' h => ⟨by rw [h.1, decide_eq_true (by omega)], h.2.symm⟩))
  have hos : (askerF C).size ≤ 1048576 := by
    unfold askerF
    split
    · decide
    · exact (hs _ (by simp)).p
  have hel : (expF name (askerF C)).1.length ≤ 1099520016384 := by
    have h1 := expF_len name (askerF C)
    have h2 : name.size * ((askerF C).size + 8) ≤ 1048576 * (1048576 + 8) := Nat.mul_le_mul hns (by omega)
    omega
  have HFI : Hid (∀ wx, Below w.heap.size w wx → Calls Tryd.prog 35 #[.slice ca n cc] wx fun e w' => (∃ v1 v2 v3 v4, e = .returned (.agg #[.string (askerF C), v1, v2, v3, v4])) ∧ Below wx.heap.size wx w') := Lib.hid (fun wx hb => asker_any ca n cc C wx (hC.below hb) hn hnl)
  have HEX : Hid (∀ wx, Calls Tryd.prog 9 #[.string name, .string (askerF C)] wx (ExpAns (expF name (askerF C)) wx)) := Lib.hid (fun wx => expand_any name (askerF C) wx (by omega) (by omega) (by omega))
  have hfd := field_opath
  generalize askerF C = origin at *
  obtain ⟨ab, hab⟩ : ∃ ab, w.heap.size = ab := ⟨_, rfl⟩
  obtain ⟨w1, hw1⟩ : ∃ w1, w.alloc (.cells #[.string name, .slice ca n cc, .string env, .bool secure] 25) = w1 := ⟨_, rfl⟩
  have HW1 := Lib.hid hw1
  rw [hw1] at B0 X0
  rw [hab] at X0
  rcases hR : expF name origin with ⟨P, own⟩
  rw [hR] at HEX hel
  simp only [] at hel
  have hRF : slashPaths name origin secure = if own && secure then [] else [rootedF (mkT P)] := by unfold slashPaths; rw [hR]
  rw [hRF]
  have HRO : Hid (∀ wx, Calls Tryd.prog 36 #[.string ⟨P.toArray⟩] wx fun e w' => e = .returned (.string (rootedF (mkT P))) ∧ wx = w') := Lib.hid (fun wx => rooted_any (mkT P) wx (by
    have : (mkT P).size = P.length := by show P.toArray.size = _; simp
    omega))
  have c0 : w1.cell? ⟨ab, 0, none⟩ = some (.string name) := by rw [cell_of_row _ _ 0 _ _ _ X0.out]; rfl
  have c1 : w1.cell? ⟨ab, 1, none⟩ = some (.slice ca n cc) := by rw [cell_of_row _ _ 1 _ _ _ X0.out]; rfl
  have KS : Hid (∀ wx, Below w1.heap.size w1 wx → wx.cell? ⟨ab, 0, none⟩ = some (.string name) ∧ wx.cell? ⟨ab, 1, none⟩ = some (.slice ca n cc) ∧ wx.cell? ⟨ab, 3, none⟩ = some (.bool secure)) := Lib.hid (fun wx hb => by
    have hr := (hb.block _ (lt_of_block X0.out)).trans X0.out
    exact ⟨by rw [cell_of_row _ _ 0 _ _ _ hr]; rfl, by rw [cell_of_row _ _ 1 _ _ _ hr]; rfl, by rw [cell_of_row _ _ 3 _ _ _ hr]; rfl⟩)
  clear hyes hC hn hs hos hel hw1 hR hRF
  unfold PathsAns
  go_enter Tryd.func14, Tryd.ntmps14
  go_upto_region 1 with fail
  rw [HW1.out]
  try rw [hab]
  go_wp2_with fail
  refine (HCO.out w1).mono ?_
  rintro e w' ⟨rfl, rfl⟩
  clear c0 c1
  go_upto_region 2 with fail
  go_region_held3 (fun wx => wx.cell? ⟨ab, 0, none⟩ = some (.string name) ∧ wx.cell? ⟨ab, 1, none⟩ = some (.slice ca n cc) ∧ wx.cell? ⟨ab, 3, none⟩ = some (.bool secure))
    (first | exact KS.out _ (Below.refl _ _).drew | exact KS.out _ b6 | exact KS.out _ b7)
    (first | (go_at_call 35; refine (HFI.out _ B0.out.drew).mono ?_; rintro e w6 ⟨⟨v1, v2, v3, v4, rfl⟩, hb6⟩; have b6 : Below w1.heap.size w1 w6 := bstep (Below.refl w1.heap.size w1).drew hb6; clear hb6) | (go_at_call 9; refine (HEX.out _).mono ?_; rintro e w7 ⟨rfl, hb7⟩; have b7 : Below w1.heap.size w1 w7 := bstep b6 hb7; clear hb7))
  all_goals (
    obtain ⟨q0, q1, q3⟩ := KS.out _ b7
    have B7 := Lib.hid (bstep B0.out b7)
    have HS7 : Hid (w.heap.size ≤ w7.heap.size) := Lib.hid B7.out.size
    clear b6 b7
    cases own <;> cases secure
    · go_wp2_with fail
      refine (HRO.out _).mono ?_
      rintro e w' ⟨rfl, rfl⟩
      go_wp2_with fail
      go_ret
      exact ⟨⟨_, ⟨1, rfl⟩, text_row _ _ _⟩, (hab ▸ B7.out : Below ab w w7).alloc (hab ▸ HS7.out) _⟩
    · go_wp2_with fail
      refine (HRO.out _).mono ?_
      rintro e w' ⟨rfl, rfl⟩
      go_wp2_with fail
      go_ret
      exact ⟨⟨_, ⟨1, rfl⟩, text_row _ _ _⟩, (hab ▸ B7.out : Below ab w w7).alloc (hab ▸ HS7.out) _⟩
    · go_wp2_with fail
      refine (HRO.out _).mono ?_
      rintro e w' ⟨rfl, rfl⟩
      go_wp2_with fail
      go_ret
      exact ⟨⟨_, ⟨1, rfl⟩, text_row _ _ _⟩, (hab ▸ B7.out : Below ab w w7).alloc (hab ▸ HS7.out) _⟩
    · go_wp2_with fail
      go_ret
      exact ⟨⟨none, ⟨0, rfl⟩, (fun i hi => by cases hi)⟩, (hab ▸ B7.out)⟩)
end Go.Proofs.YtppeapafnnanbaaDoor
