/- Layer 3, the document's answer: the names in a directory, where a path leads nowhere or to a file. -/
import Derived.Test.YtcabpidbdnlomaaGreatDoorRefFollow
import Derived.Test.YtcabpidbdnlomaaGreatDoorKit1
import Derived.Test.YtcabpidbdnlomaaGreatDoorVfsListE
import Derived.Test.YtcabpidbdnlomaaGreatDoorVfsSelf
import Derived.Test.YtcabpidbdnlomaaGreatDoorRefSame
import Derived.Deep.DeepCutAuto
import Derived.Deep.RegionLaw
import Derived.BigQuiet
import Derived.Sort.Walk0
namespace Go.Proofs.YtcabpidbdnlomaaGreatDoor
open Go.RowKit
set_option linter.unusedVariables false
set_option linter.unusedSimpArgs false

set_option maxRecDepth 100000 in
set_option maxHeartbeats 8000000 in
theorem rlist_err (tb c : Nat) (a : Option Addr) (L : List Nd) (F : ByteArray → Option Ent) (path : ByteArray) (w : World) (h : RefAt w tb a c L) (hI : RefIs L F) (hF : TreeIn F) (hp : path.size ≤ 140737488351232) (n : Nat) (hn : folF F path = .error n) :
    Calls Tryz.prog 7 #[.pointer (some ⟨tb, 0, none⟩), .string path] w fun e w' => e = .returned (.tuple #[.slice none 0 0, .int .i64 (n : Int)]) ∧ Below w.heap.size w w' := by
  have HF := Lib.hid (rfollow_any tb c a L F path w h hI hF hp)
  rw [hn] at HF
  have hcs := folF_err hF.ok hn
  obtain ⟨m, hm⟩ : ∃ m : Int, (n : Int) = m := ⟨_, rfl⟩
  have hm0 : (m != 0) = true := by rw [bne_iff_ne]; omega
  have HM := Lib.hid hm
  rw [hm]
  clear h hI hF hp hn hcs hm
  go_enter Tryz.func7, Tryz.ntmps7
  go_wp2_with fail
  refine HF.out.mono ?_
  rintro e w2 ⟨hpost, hb2⟩
  have hpost2 : e = .returned (.tuple #[.string ⟨#[]⟩, .int .i64 m]) := by rw [← HM.out]; exact hpost
  subst hpost2
  have B2 := Lib.hid hb2
  clear hb2 hpost
  go_wp2_with fail
  go_ret2
  exact ⟨rfl, B2.out⟩
set_option maxRecDepth 100000 in
set_option maxHeartbeats 8000000 in
theorem rlist_file (tb c : Nat) (a : Option Addr) (L : List Nd) (F : ByteArray → Option Ent) (path p : ByteArray) (w : World) (h : RefAt w tb a c L) (hI : RefIs L F) (hF : TreeIn F) (hp : path.size ≤ 140737488351232) (hn : folF F path = .ok p) (hk : ((F p).getD Ent.zero).kind ≠ 1) :
    Calls Tryz.prog 7 #[.pointer (some ⟨tb, 0, none⟩), .string path] w fun e w' => e = .returned (.tuple #[.slice none 0 0, .int .i64 16]) ∧ Below w.heap.size w w' := by
  have HF := Lib.hid (rfollow_any tb c a L F path w h hI hF hp)
  rw [hn] at HF
  obtain ⟨d2, hd2⟩ : ∃ d2, (dirR L p).2 = d2 := ⟨_, rfl⟩
  have HD : Hid (∀ wx, Below w.heap.size w wx → Calls Tryz.prog 20 #[.pointer (some ⟨tb, 0, none⟩), .string p] wx fun e w' => e = .returned (.tuple #[.bool false, .bool d2]) ∧ Below wx.heap.size wx w') := Lib.hid (fun wx hb => by
    have := rdir_any tb c a L p wx (h.below hb)
    rw [hI.dir p, decide_eq_false hk, hd2] at this
    exact this)
  clear h hI hF hp hn hk hd2
  go_enter Tryz.func7, Tryz.ntmps7
  go_wp2_with fail
  refine HF.out.mono ?_
  rintro e w2 ⟨hpost, hb2⟩
  obtain rfl : e = _ := hpost
  have B2 := Lib.hid hb2
  clear hb2
  go_wp2_with fail
  refine (HD.out w2 B2.out).mono ?_
  rintro e w3 ⟨rfl, hb3⟩
  have B3 := Lib.hid (bstep B2.out hb3)
  clear hb3
  go_wp2_with fail
  go_ret2
  exact ⟨rfl, B3.out⟩
end Go.Proofs.YtcabpidbdnlomaaGreatDoor
/- An element is let down into a sorted list, place by place. -/
namespace Go.Proofs.YtcabpidbdnlomaaGreatDoor
set_option linter.unusedVariables false
set_option linter.unusedSimpArgs false

/-- x stands at place k of T, among what is sorted -/
def Ins (x : List UInt8) (k : Nat) (T R : List (List UInt8)) : Prop := ∃ A B, A.length = k ∧ T = A ++ x :: B ∧ R = A ++ B ∧ R.Pairwise (· ≤ ·) ∧ ∀ b ∈ B, x ≤ b
theorem Ins.start {x : List UInt8} {R : List (List UInt8)} (h : R.Pairwise (· ≤ ·)) : Ins x R.length (R ++ [x]) R := ⟨R, [], rfl, rfl, by rw [List.append_nil], h, fun b hb => by cases hb⟩
theorem Ins.len {x : List UInt8} {k : Nat} {T R : List (List UInt8)} (h : Ins x k T R) : k < T.length ∧ T.length = R.length + 1 := by
  obtain ⟨A, B, rfl, rfl, rfl, -, -⟩ := h
  simp only [List.length_append, List.length_cons]
  omega
theorem Ins.perm {x : List UInt8} {k : Nat} {T R : List (List UInt8)} (h : Ins x k T R) : T.Perm (R ++ [x]) := by
  obtain ⟨A, B, rfl, rfl, rfl, -, -⟩ := h
  rw [List.append_assoc]
  exact List.Perm.append_left A (List.perm_append_comm (l₁ := [x]) (l₂ := B))
theorem Ins.here {x : List UInt8} {k : Nat} {T R : List (List UInt8)} (h : Ins x k T R) : T[k]? = some x := by
  obtain ⟨A, B, rfl, rfl, rfl, -, -⟩ := h
  rw [List.getElem?_append_right (Nat.le_refl _), Nat.sub_self]
  rfl
theorem Ins.swap {x y : List UInt8} {k : Nat} {T R : List (List UInt8)} (h : Ins x (k + 1) T R) (hy : T[k]? = some y) (hlt : x < y) : Ins x k ((T.set (k + 1) y).set k x) R := by
  obtain ⟨A, B, hA, rfl, rfl, hs, hb⟩ := h
  have hne : A ≠ [] := by intro e; rw [e] at hA; simp at hA
  obtain ⟨A', z, rfl⟩ : ∃ A' z, A = A' ++ [z] := ⟨A.dropLast, A.getLast hne, (List.dropLast_concat_getLast hne).symm⟩
  have hk : A'.length = k := by rw [List.length_append, List.length_singleton] at hA; omega
  subst hk
  have hz : z = y := by
    rw [List.append_assoc, List.getElem?_append_right (Nat.le_refl _), Nat.sub_self] at hy
    simpa using hy
  subst hz
  refine ⟨A', z :: B, rfl, ?_, by simp, hs, ?_⟩
  · simp [List.set_append]
  · intro b hbm
    rcases List.mem_cons.1 hbm with rfl | h1
    · exact List.le_of_lt hlt
    · exact hb b h1
theorem Ins.stop {x : List UInt8} {k : Nat} {T R : List (List UInt8)} (h : Ins x k T R) (hk : ∀ y, 0 < k → T[k - 1]? = some y → ¬ x < y) : T.Pairwise (· ≤ ·) := by
  obtain ⟨A, B, rfl, rfl, rfl, hs, hb⟩ := h
  rw [List.pairwise_append] at hs ⊢
  obtain ⟨h1, h2, h3⟩ := hs
  refine ⟨h1, List.pairwise_cons.2 ⟨hb, h2⟩, ?_⟩
  intro a ha b hbm
  rcases List.mem_cons.1 hbm with rfl | hb2
  · by_cases hne : A = []
    · rw [hne] at ha; cases ha
    · have hl : 0 < A.length := List.length_pos_iff.2 hne
      have hg : (A ++ b :: B)[A.length - 1]? = some (A.getLast hne) := by
        rw [List.getElem?_append_left (by omega), List.getLast_eq_getElem, List.getElem?_eq_getElem]
      have hle : A.getLast hne ≤ b := List.not_lt.1 (hk _ hl hg)
      have hal : a ≤ A.getLast hne := by
        obtain ⟨A', z, rfl⟩ : ∃ A' z, A = A' ++ [z] := ⟨A.dropLast, A.getLast hne, (List.dropLast_concat_getLast hne).symm⟩
        rw [List.getLast_concat]
        rcases List.mem_append.1 ha with h5 | h5
        · exact (List.pairwise_append.1 h1).2.2 a h5 z (by simp)
        · rw [List.mem_singleton] at h5; rw [h5]; exact List.le_refl _
      exact List.le_trans hal hle
  · exact h3 a ha b hb2
end Go.Proofs.YtcabpidbdnlomaaGreatDoor
/- Layer 3 as mathematics: the last of a path's parts is its last name. -/
namespace Go.Proofs.YtcabpidbdnlomaaGreatDoor
open Go.RowKit
set_option linter.unusedVariables false
set_option linter.unusedSimpArgs false

theorem parts_last (s : ByteArray) : ∃ P, partsR s = P ++ [mkP (lastName s.data.toList)] := by
  have hmk : mkP s.data.toList = s := by
    apply ByteArray.ext
    apply Array.ext'
    rfl
  have hsz : s.data.toList.length = s.size := by simp
  unfold lastName
  rw [hmk]
  rcases Lib.lastIndexByte_spec s 47 with ⟨hix, hno⟩ | ⟨i, hi, hix, h1, h2⟩
  · rw [hix]
    have h0 : ((-1 : Int) + 1).toNat = 0 := rfl
    rw [h0, extract_part]
    have hn : ∀ c ∈ s.data.toList, c ≠ 47 := fun c hc e => by
      obtain ⟨j, hj, hh⟩ := List.getElem_of_mem hc
      apply hno j (by omega)
      rw [bang_list s j (by omega), hh, e]
      rfl
    refine ⟨[], ?_⟩
    unfold partsR cutF
    rw [cut_none hn]
    simp only [List.nil_append, List.map_cons, List.map_nil, List.drop_zero, Nat.sub_zero]
    rw [List.take_of_length_le (by omega)]
    rfl
  · rw [hix]
    have h0 : ((i : Int) + 1).toNat = i + 1 := by omega
    rw [h0, extract_part]
    have hil : i < s.data.toList.length := by omega
    have h47 : s.data.toList[i] = 47 := by
      have := h1
      rw [bang_list s i hi] at this
      exact UInt8.toNat_inj.1 (by show _ = 47; omega)
    have hsplit : s.data.toList = s.data.toList.take i ++ 47 :: s.data.toList.drop (i + 1) := by
      conv => lhs; rw [← List.take_append_drop i s.data.toList, List.drop_eq_getElem_cons hil, h47]
    have hn : ∀ c ∈ s.data.toList.drop (i + 1), c ≠ 47 := fun c hc e => by
      obtain ⟨j, hj, hh⟩ := List.getElem_of_mem hc
      rw [List.length_drop] at hj
      rw [List.getElem_drop] at hh
      apply h2 (i + 1 + j) (by omega) (by omega)
      rw [bang_list s (i + 1 + j) (by omega), hh, e]
      rfl
    refine ⟨(cutGo slashP [] (s.data.toList.take i)).map mkP, ?_⟩
    unfold partsR cutF
    conv => lhs; rw [hsplit, cut_snoc hn]
    have e : (s.data.toList.drop (i + 1)).take (s.size - (i + 1)) = s.data.toList.drop (i + 1) := List.take_of_length_le (by rw [List.length_drop]; omega)
    rw [List.map_append, List.map_cons, List.map_nil, e]
    rfl
end Go.Proofs.YtcabpidbdnlomaaGreatDoor
/- Layer 3 as mathematics: the names in a directory are the last parts of the nodes' paths whose directory it is. -/
namespace Go.Proofs.YtcabpidbdnlomaaGreatDoor
open Go.RowKit
set_option linter.unusedVariables false
set_option linter.unusedSimpArgs false

theorem laid_nodup {L : List Nd} {es : List Ent} (h : Laid L es) : ((L.take es.length).map fun n => n.path.data.toList).Nodup := by
  induction h with
  | nil => simp
  | snoc es e h hl hc he ih =>
    rw [List.length_append, List.length_singleton, List.take_succ_eq_append_getElem hl, List.map_append, List.nodup_append]
    refine ⟨ih, by simp, fun a ha b hb => ?_⟩
    simp only [List.map_cons, List.map_nil, List.mem_singleton] at hb
    subst hb
    obtain ⟨n, hn, rfl⟩ := List.mem_map.1 ha
    intro e0
    obtain ⟨i, hi, rfl⟩ := List.getElem_of_mem hn
    rw [List.length_take] at hi
    rw [List.getElem_take] at e0
    have h1 := (laid_here h i (by omega) (by omega)).1
    have h2 : L[i].path = L[es.length].path := by
      apply ByteArray.ext
      apply Array.ext'
      exact e0
    have h3 := (check_zero hc).2.2.1
    rw [h2, h3] at h1
    cases h1
/-- the last parts of the paths in a directory, node by node -/
def lastsF (at' : ByteArray) (L : List Nd) : List (List UInt8) := (L.filter fun n => decide (parentF n.path = at')).map fun n => lastName n.path.data.toList
theorem mk_data (k : ByteArray) : mkP k.data.toList = k := by
  apply ByteArray.ext
  apply Array.ext'
  rfl
theorem names_perm {L : List Nd} {es : List Ent} (h : Laid L es) (he : es.length = L.length) {ss : List (List UInt8)} (hk : KeysOf (treeE L es) ss) (at' : ByteArray) : (namesIn at' ss).Perm (lastsF at' L) := by
  have hnd := laid_nodup h
  rw [he, List.take_length] at hnd
  have hp : (ss.filter (inDir at')).Perm ((L.filter fun n => decide (parentF n.path = at')).map fun n => n.path.data.toList) := by
    refine (List.perm_ext_iff_of_nodup (hk.1.filter _) ?_).2 fun x => ?_
    · exact hnd.sublist (List.filter_sublist.map _)
    · rw [List.mem_filter, hk.2 x]
      constructor
      · rintro ⟨h1, h2⟩
        unfold inDir at h2
        simp only [Bool.and_eq_true, Bool.not_eq_true', decide_eq_false_iff_not, decide_eq_true_eq] at h2
        obtain ⟨e, hx⟩ := Option.isSome_iff_exists.1 h1
        rcases laid_dom h _ _ hx with h3 | ⟨i, i1, i2, h3⟩
        · exact absurd h3 h2.1
        · refine List.mem_map.2 ⟨L[i], List.mem_filter.2 ⟨List.getElem_mem _, by rw [h3]; exact decide_eq_true h2.2⟩, ?_⟩
          rw [h3]
          rfl
      · intro hx
        obtain ⟨n, hn, rfl⟩ := List.mem_map.1 hx
        obtain ⟨hn1, hn2⟩ := List.mem_filter.1 hn
        obtain ⟨i, hi, rfl⟩ := List.getElem_of_mem hn1
        have hh := laid_here h i (by omega) hi
        rw [mk_data]
        refine ⟨by rw [hh.1]; rfl, ?_⟩
        unfold inDir
        rw [mk_data, decide_eq_false hh.2.2.2.2.2.1]
        simpa using hn2
  unfold namesIn lastsF
  have := hp.map lastName
  rw [List.map_map] at this
  exact this
end Go.Proofs.YtcabpidbdnlomaaGreatDoor
/- Layer 3, the document's answer: the names in a directory. -/
namespace Go.Proofs.YtcabpidbdnlomaaGreatDoor
open Go.RowKit
set_option linter.unusedVariables false
set_option linter.unusedSimpArgs false

/-- a node whose path can be one -/
structure NdIn (n : Nd) : Prop where
  lo : 1 ≤ n.path.size
  hi : n.path.size ≤ 4096
  first : n.path.get! 0 = 47
theorem lasts_take (p : ByteArray) {L : List Nd} {k : Nat} (hk : k < L.length) : lastsF p (L.take (k + 1)) = lastsF p (L.take k) ++ if parentF L[k].path = p then [lastName L[k].path.data.toList] else [] := by
  unfold lastsF
  rw [List.take_succ_eq_append_getElem hk, List.filter_append, List.map_append]
  congr 1
  by_cases h : parentF L[k].path = p
  · rw [if_pos h, List.filter_cons_of_pos (by simpa using h)]
    rfl
  · rw [if_neg h, List.filter_cons_of_neg (by simpa using h)]
    rfl
theorem OwnT.cellT {w : World} {B : Nat} {e : TypeId} {g n cap : Nat} {T : List (List UInt8)} (h : OwnT w B e (.slice (some ⟨g, 0, none⟩) n cap) (T.map mkP)) {j : Nat} {x : List UInt8} (hx : T[j]? = some x) : w.cell? ⟨g, j, none⟩ = some (.string (mkP x)) := by
  obtain ⟨h1, -, -⟩ := h.row
  have hj : j < T.length := (List.getElem?_eq_some_iff.1 hx).1
  obtain ⟨b, o, e1, -, h2⟩ := h1 j (by rw [List.length_map]; exact hj)
  simp only [Option.some.injEq, Addr.mk.injEq, and_true] at e1
  obtain ⟨rfl, rfl⟩ := e1
  rw [Nat.zero_add] at h2
  rw [h2]
  simp [List.getD, hx]
theorem OwnT.setT {w : World} {B : Nat} {e : TypeId} {g n cap : Nat} {T : List (List UInt8)} (h : OwnT w B e (.slice (some ⟨g, 0, none⟩) n cap) (T.map mkP)) (hn : n = T.length) (j : Nat) (x : List UInt8) : OwnT (w.setCell ⟨g, j, none⟩ (.string (mkP x))) B e (.slice (some ⟨g, 0, none⟩) n cap) ((T.set j x).map mkP) := by
  subst hn
  have h' : w.ownsRow B e 1 (.slice (some ⟨g, 0, none⟩) T.length cap) T.length ((T.map mkP).map Value.string) := by
    have := h
    unfold OwnT at this
    rw [List.length_map] at this
    exact this
  unfold OwnT
  have := (h'.stored j (.string (mkP x))).1
  rw [List.length_map, List.length_set, List.map_set, List.map_set]
  exact this
theorem OwnT.freeT {w : World} {B : Nat} {e : TypeId} {g n cap : Nat} {T : List ByteArray} (h : OwnT w B e (.slice (some ⟨g, 0, none⟩) n cap) T) (hn : n = T.length) (j : Nat) : w.frozen? ⟨g, j, none⟩ = false := by
  subst hn
  exact World.ownsRow.frozenAt h j
theorem OwnT.geT {w : World} {B : Nat} {e : TypeId} {g n cap : Nat} {T : List ByteArray} (h : OwnT w B e (.slice (some ⟨g, 0, none⟩) n cap) T) : B ≤ g ∧ g < w.heap.size := World.ownsRow.lt h g rfl

set_option maxRecDepth 100000 in
set_option maxHeartbeats 16000000 in
theorem rlist_dir (tb c : Nat) (a : Option Addr) (L : List Nd) (F : ByteArray → Option Ent) (path p : ByteArray) (w : World) (h : RefAt w tb a c L) (hI : RefIs L F) (hF : TreeIn F) (hp : path.size ≤ 140737488351232) (hcl : ∀ i, (h : i < L.length) → NdIn L[i]) (hn : folF F path = .ok p) (hk : ((F p).getD Ent.zero).kind = 1) :
    Calls Tryz.prog 7 #[.pointer (some ⟨tb, 0, none⟩), .string path] w fun e w' => (∃ (ad : Option Addr) (n cap : Nat) (R : List (List UInt8)), e = .returned (.tuple #[.slice ad n cap, .int .i64 0]) ∧ R.Perm (lastsF p L) ∧ R.Pairwise (· ≤ ·) ∧ n = R.length ∧ OwnT w' w.heap.size 9 (.slice ad n cap) (R.map mkP)) ∧ Below w.heap.size w w' := by
  have HF := Lib.hid (rfollow_any tb c a L F path w h hI hF hp)
  rw [hn] at HF
  obtain ⟨d2, hd2⟩ : ∃ d2, (dirR L p).2 = d2 := ⟨_, rfl⟩
  have HD : Hid (∀ wx, Below w.heap.size w wx → Calls Tryz.prog 20 #[.pointer (some ⟨tb, 0, none⟩), .string p] wx fun e w' => e = .returned (.tuple #[.bool true, .bool d2]) ∧ Below wx.heap.size wx w') := Lib.hid (fun wx hb => by
    have := rdir_any tb c a L p wx (h.below hb)
    rw [hI.dir p, decide_eq_true hk, hd2] at this
    exact this)
  have HR : Hid (∀ wx, Below w.heap.size w wx → RefAt wx tb a c L) := Lib.hid (fun wx hb => h.below hb)
  have HCL := Lib.hid hcl
  obtain ⟨N, hN⟩ : ∃ N, L.length = N := ⟨_, rfl⟩
  have HN : Hid (L.length = N ∧ N ≤ 1024) := Lib.hid ⟨hN, by rw [← hN]; exact h.many⟩
  have HLT : Hid (lastsF p (L.take 0) = []) := Lib.hid rfl
  have HLF : Hid (lastsF p (L.take N) = lastsF p L) := Lib.hid (by rw [← hN, List.take_length])
  clear h hI hF hp hn hk hd2 hcl hN
  go_enter Tryz.func7, Tryz.ntmps7
  go_wp2_with fail
  refine HF.out.mono ?_
  rintro e w2 ⟨hpost, hb2⟩
  obtain rfl : e = _ := hpost
  have B2 := Lib.hid hb2
  clear hb2
  go_wp2_with fail
  refine (HD.out w2 B2.out).mono ?_
  rintro e w3 ⟨rfl, hb3⟩
  have B3 := Lib.hid (bstep B2.out hb3)
  clear hb3
  go_wp2_with fail
  go_loopg [10, 11, 12, 13, 14] N (fun g1 ov iv lv kv sv wr => ∃ (k : Nat) (R : List (List UInt8)) (ad : Option Addr) (n cap : Nat), k + g1 = N ∧ iv = .int .i64 (k : Int) ∧ ov = .slice ad n cap ∧ Hid (n = R.length ∧ R.length ≤ k) ∧ Hid (R.Perm (lastsF p (L.take k)) ∧ R.Pairwise (· ≤ ·)) ∧ Hid (OwnT wr w.heap.size 9 (.slice ad n cap) (R.map mkP)) ∧ Hid (Below w.heap.size w wr))
  case atStart => exact ⟨0, [], none, 0, 0, by omega, rfl, rfl, Lib.hid ⟨rfl, Nat.le_refl _⟩, Lib.hid ⟨by rw [HLT.out], List.Pairwise.nil⟩, Lib.hid (OwnT.nil _ _ _), B3⟩
  case round =>
    obtain ⟨k, R, ad, n, cap, hk, rfl, rfl, HNR, HP, HO, HB⟩ := hrel
    have hr := HR.out wr HB.out
    have e0 : wr.cell? ⟨tb, 0, none⟩ = some (.slice a N c) := by rw [cell_of_row _ _ 0 _ _ _ hr.box, ← HN.out.1]; rfl
    cases gk with
    | zero =>
      have hkn : k = N := by omega
      subst hkn
      clear hk hr
      go_wp2_with fail
      go_ret2
      exact ⟨⟨ad, n, cap, R, rfl, by rw [← HLF.out]; exact HP.out.1, HP.out.2, HNR.out.1, HO.out⟩, HB.out⟩
    | succ g2 =>
      have hlt : k < N := by omega
      have hkL : k < L.length := by rw [HN.out.1]; exact hlt
      obtain ⟨b1, o1, rfl, hbl, hcs⟩ := hr.row k hkL
      obtain ⟨q, hq⟩ : ∃ q, (L[k]'hkL).path = q := ⟨_, rfl⟩
      have c0 : wr.cell? ⟨b1, o1 + k * 5, none⟩ = some (.string q) := by rw [← hq]; exact hcs 0 (by omega)
      have hnd := HCL.out k hkL
      have HST := Lib.hid (lasts_take p hkL)
      rw [hq] at HST
      have HQ : Hid (1 ≤ q.size ∧ q.size ≤ 4096 ∧ upR q = parentF q) := Lib.hid (by rw [← hq]; exact ⟨hnd.lo, hnd.hi, upR_parent hnd.lo hnd.first⟩)
      have HU := Lib.hid (up_any q wr HQ.out.1 (by have := HQ.out.2.1; omega))
      rw [HQ.out.2.2] at HU
      have HK := Lib.hid hk
      clear hk hkL hcs hnd hq hr
      by_cases hpd : parentF q = p
      · obtain ⟨P, hP⟩ := parts_last q
        obtain ⟨x, hx⟩ : ∃ x, lastName q.data.toList = x := ⟨_, rfl⟩
        rw [if_pos hpd, hx] at HST
        rw [hpd] at HU
        have HPA := Lib.hid (parts_any q wr (by have := HQ.out.2.1; omega))
        rw [hP, hx] at HPA
        obtain ⟨m, hm⟩ : ∃ m, P.length = m := ⟨_, rfl⟩
        have hPl : (P ++ [mkP x]).length = m + 1 := by rw [List.length_append, hm]; rfl
        rw [hPl] at HPA
        have HPL : Hid ((P ++ [mkP x]).length = m + 1 ∧ (P ++ [mkP x]).getD m .empty = mkP x) := Lib.hid ⟨hPl, by rw [← hm]; simp [List.getD]⟩
        have HML : Hid (m + 1 ≤ 4097) := Lib.hid (by
          have := partsR_len q
          rw [hP, hx, hPl] at this
          have := HQ.out.2.1
          omega)
        have HRR := Lib.hid (HR.out wr HB.out)
        clear hpd hP hx hm hPl
        go_wp2_with fail
        refine HU.out.mono ?_
        rintro e w' ⟨rfl, rfl⟩
        go_wp2_with fail
        refine HPA.out.mono ?_
        rintro e w4 ⟨pa, pc, rfl, hown, hb4⟩
        have B4 : Hid (Below w.heap.size w w4) := Lib.hid (bstep HB.out hb4)
        obtain ⟨pb, po, rfl, hpb, c4⟩ := hown.row.1 m (by rw [HPL.out.1]; omega)
        rw [HPL.out.2] at c4
        have O4 := Lib.hid (HO.out.below hb4)
        have OA : Hid (OwnT (w4.alloc (.cells #[.string (mkP x)] 9)) w.heap.size 9 (.slice ad n cap) (R.map mkP)) := Lib.hid (World.ownsRow.alloc O4.out _)
        have BA : Hid (Below w.heap.size w (w4.alloc (.cells #[.string (mkP x)] 9))) := Lib.hid (B4.out.alloc B4.out.size _)
        have HNW : Hid ((w4.alloc (.cells #[.string (mkP x)] 9)).cell? ⟨w4.heap.size, 0, none⟩ = some (.string (mkP x))) := Lib.hid (by
          rw [World.cell?_alloc_new]
          rfl)
        have HRL : Hid ((R.map mkP).length = n ∧ n + 1 ≤ 1025) := Lib.hid ⟨by rw [List.length_map]; exact HNR.out.1.symm, by have := HNR.out; have := HK.out; have := HN.out; omega⟩
        have HI0 : Hid (Ins x n (R ++ [x]) R ∧ (R ++ [x]).length = n + 1 ∧ (R ++ [x]).map mkP = R.map mkP ++ [mkP x]) := Lib.hid ⟨by rw [HNR.out.1]; exact Ins.start HP.out.2, by rw [List.length_append, ← HNR.out.1]; rfl, by rw [List.map_append]; rfl⟩
        have w1 : wrap64 (m : Int) = (m : Int) := by have := HML.out; rw [IntWalk.wrap64_in _ ⟨by omega, by omega⟩]
        have i0 : (0 : Int) ≤ (m : Int) := by omega
        have i1 : (m : Int) < (m : Int) + 1 := by omega
        have w2' : wrap64 (n : Int) = (n : Int) := by have := HRL.out; rw [IntWalk.wrap64_in _ ⟨by omega, by omega⟩]
        have HNK : Hid (n + 1 ≤ k + 1) := Lib.hid (by have := HNR.out; omega)
        clear hown hb4 HNR hlt e0 c0 hbl
        go_wp2_with (at_builtin; go_loud (refine wpList_name_g rfl (.tmp 61) (.tmp 68) texts_t text_info rfl w.heap.size (.slice ad n cap) (R.map mkP) n ⟨w4.heap.size, 0, none⟩ 1 (mkP x) rfl rfl HNW.out HRL.out.1 OA.out (by have := HRL.out.2; unfold maxLen; omega) (by have := HRL.out.2; omega) BA.out.size ?_); intro g7 c7 w7 ho7 hg7; have HO7 := Lib.hid ho7; have HG7 := Lib.hid hg7; clear ho7 hg7)
        have B7 : Hid (Below w.heap.size w w7) := Lib.hid (BA.out.grown HG7.out BA.out.size (fun j hj => (World.ownsRow.lt OA.out j hj).1))
        have O7 : Hid (OwnT w7 w.heap.size 9 (.slice (some ⟨g7, 0, none⟩) (n + 1) c7) ((R ++ [x]).map mkP)) := Lib.hid (by rw [HI0.out.2.2]; exact HO7.out)
        have HFIN : Hid (∀ T j, Ins x j T R → T.Pairwise (· ≤ ·) → T.Perm (lastsF p (L.take (k + 1))) ∧ T.Pairwise (· ≤ ·)) := Lib.hid (fun T j h1 h2 => ⟨by rw [HST.out]; exact h1.perm.trans (HP.out.1.append_right [x]), h2⟩)
        have HNB : Hid (n + 1 ≤ 1025 ∧ n = R.length) := Lib.hid ⟨HRL.out.2, by have := HRL.out.1; rw [List.length_map] at this; exact this.symm⟩
        clear HO7 HG7 OA BA HNW HRL O4 B4 HPL c4 i0 i1 w1 hpb HML HU HPA HRR HQ
        go_loopg [13] n (fun q kv wr => ∃ (j : Nat) (T : List (List UInt8)), kv = .int .i64 (j : Int) ∧ Hid (j ≤ q ∧ j ≤ n ∧ T.length = n + 1) ∧ Hid (Ins x j T R) ∧ Hid (OwnT wr w.heap.size 9 (.slice (some ⟨g7, 0, none⟩) (n + 1) c7) (T.map mkP)) ∧ Hid (Below w.heap.size w wr))
        case atStart => exact ⟨n, R ++ [x], (by rw [w2']), Lib.hid ⟨Nat.le_refl _, Nat.le_refl _, HI0.out.2.1⟩, Lib.hid HI0.out.1, O7, B7⟩
        case round =>
          clear HI0 O7 B7 w2'
          obtain ⟨j, T, rfl, HJ, HI, OZ, BZ⟩ := hrel
          have OLT := Lib.hid (OwnT.geT OZ.out)
          by_cases hj0 : j = 0
          · subst hj0
            have HOUT := Lib.hid (HFIN.out T 0 HI.out (HI.out.stop (fun y h => by omega)))
            have t0 : decide ((0 : Int) < ((0 : Nat) : Int)) = false := by simp
            go_wp2_with fail
            go_quiet (fail)
            have hBD : Below wr.heap.size wr (wr.drewN nq) := below_drewN (Below.refl _ _) _
            have ON := Lib.hid (OZ.out.below hBD)
            have BN := Lib.hid (BZ.out.trans (hBD.mono BZ.out.size))
            generalize wr.drewN nq = wd at ON BN ⊢
            clear hBD
            go_wp2_with fail
            go_roundg g2
            case measure => have := HK.out; omega
            case rel => exact ⟨k + 1, T, some ⟨g7, 0, none⟩, n + 1, c7, by have := HK.out; omega, (by have := HK.out; have := HN.out; rw [IntWalk.wrap64_in _ ⟨by omega, by omega⟩]; rfl), rfl, Lib.hid (by have := HJ.out; have := HK.out; have := HNK.out; omega), HOUT, ON, BN⟩
          · obtain ⟨y, hy⟩ : ∃ y, T[j - 1]? = some y := ⟨T[j - 1]'(by have := HJ.out; omega), List.getElem?_eq_getElem _⟩
            have q0 : wr.cell? ⟨g7, j, none⟩ = some (.string (mkP x)) := OZ.out.cellT HI.out.here
            have q1 : wr.cell? ⟨g7, j - 1, none⟩ = some (.string (mkP y)) := OZ.out.cellT hy
            have e1 : IntKind.i64.wrap ((j : Int) - 1) = ((j - 1 : Nat) : Int) := by have := HJ.out; have := HNB.out; rw [IntKind.wrap_i64]; omega
            have e2 : wrap64 ((j : Int) - 1) = ((j - 1 : Nat) : Int) := by have := HJ.out; have := HNB.out; rw [IntWalk.wrap64_in _ ⟨by omega, by omega⟩]; omega
            have i0 : (0 : Int) ≤ (j : Int) := by omega
            have i1 : (j : Int) < (n : Int) + 1 := by have := HJ.out; omega
            have i2 : ((j - 1 : Nat) : Int) < (n : Int) + 1 := by have := HJ.out; omega
            have i3 : (0 : Int) ≤ ((j - 1 : Nat) : Int) := by omega
            have t0 : decide ((0 : Int) < (j : Int)) = true := decide_eq_true (by omega)
            have t1 : decide (0 < j) = true := decide_eq_true (by omega)
            have HJB : Hid (0 < j) := Lib.hid (by omega)
            by_cases hxy : x < y
            · have hbl : Op.bytesLess (mkP x).toList (mkP y).toList = true := by rw [bytesLess_eq, Lib.toList_data, Lib.toList_data]; exact decide_eq_true hxy
              have HSW : Hid (Ins x (j - 1) ((T.set j y).set (j - 1) x) R) := Lib.hid (by
                have hi := HI.out
                obtain ⟨j', rfl⟩ : ∃ j', j = j' + 1 := ⟨j - 1, by omega⟩
                exact hi.swap (by simpa using hy) hxy)
              have hjj : ¬ j - 1 = j := by omega
              have hjj2 : ¬ j = j - 1 := by omega
              clear hxy hy hj0
              go_wp2_with fail
              go_quiet (fail)
              have hBD : Below wr.heap.size wr (wr.drewN nq) := below_drewN (Below.refl _ _) _
              have ON := Lib.hid (OZ.out.below hBD)
              have BN := Lib.hid (BZ.out.trans (hBD.mono BZ.out.size))
              have p0 : (wr.drewN nq).cell? ⟨g7, j, none⟩ = some (.string (mkP x)) := by rw [hBD.cell (p := ⟨g7, j, none⟩) OLT.out.2]; exact q0
              have p1 : (wr.drewN nq).cell? ⟨g7, j - 1, none⟩ = some (.string (mkP y)) := by rw [hBD.cell (p := ⟨g7, j - 1, none⟩) OLT.out.2]; exact q1
              have f0 := ON.out.freeT (by rw [List.length_map]; exact HJ.out.2.2.symm) j
              have f1 := ON.out.freeT (by rw [List.length_map]; exact HJ.out.2.2.symm) (j - 1)
              generalize wr.drewN nq = wd at ON BN p0 p1 f0 f1 ⊢
              clear hBD q0 q1
              have O2 : Hid (OwnT ((wd.setCell ⟨g7, j, none⟩ (.string (mkP y))).setCell ⟨g7, j - 1, none⟩ (.string (mkP x))) w.heap.size 9 (.slice (some ⟨g7, 0, none⟩) (n + 1) c7) (((T.set j y).set (j - 1) x).map mkP)) := Lib.hid ((ON.out.setT HJ.out.2.2.symm j y).setT (by rw [List.length_set]; exact HJ.out.2.2.symm) (j - 1) x)
              have B2 : Hid (Below w.heap.size w ((wd.setCell ⟨g7, j, none⟩ (.string (mkP y))).setCell ⟨g7, j - 1, none⟩ (.string (mkP x)))) := Lib.hid ((BN.out.setCell (p := ⟨g7, j, none⟩) OLT.out.1 _).setCell (p := ⟨g7, j - 1, none⟩) OLT.out.1 _)
              clear hbl
              go_wp2_with fail
              obtain ⟨q2, rfl⟩ : ∃ q2, gk = q2 + 1 := ⟨gk - 1, by have := HJ.out; have := HJB.out; omega⟩
              go_roundg q2
              case measure => omega
              case rel => exact ⟨j - 1, (T.set j y).set (j - 1) x, rfl, Lib.hid (by have := HJ.out; rw [List.length_set, List.length_set]; omega), HSW, O2, B2⟩
            · have hbl : Op.bytesLess (mkP x).toList (mkP y).toList = false := by rw [bytesLess_eq, Lib.toList_data, Lib.toList_data]; exact decide_eq_false hxy
              have HOUT := Lib.hid (HFIN.out T j HI.out (HI.out.stop (fun y' h h2 => by rw [hy] at h2; obtain rfl := Option.some.inj h2; exact hxy)))
              clear hxy hy hj0
              go_wp2_with fail
              go_quiet (fail)
              have hBD : Below wr.heap.size wr (wr.drewN nq) := below_drewN (Below.refl _ _) _
              have ON := Lib.hid (OZ.out.below hBD)
              have BN := Lib.hid (BZ.out.trans (hBD.mono BZ.out.size))
              generalize wr.drewN nq = wd at ON BN ⊢
              clear hBD q0 q1 hbl e1 e2 i0 i1 i2 i3 t0 t1
              go_wp2_with fail
              go_roundg g2
              case measure => have := HK.out; omega
              case rel => exact ⟨k + 1, T, some ⟨g7, 0, none⟩, n + 1, c7, by have := HK.out; omega, (by have := HK.out; have := HN.out; rw [IntWalk.wrap64_in _ ⟨by omega, by omega⟩]; rfl), rfl, Lib.hid (by have := HJ.out; have := HK.out; have := HNK.out; omega), HOUT, ON, BN⟩
      · have HIN : Hid (lastsF p (L.take (k + 1)) = lastsF p (L.take k)) := Lib.hid (by rw [HST.out, if_neg hpd, List.append_nil])
        have hne := text_ne hpd
        generalize parentF q = pd at *
        clear hpd
        go_wp2_with fail
        refine HU.out.mono ?_
        rintro e w' ⟨rfl, rfl⟩
        go_wp2_with fail
        go_roundg g2
        case measure => have := HK.out; omega
        case rel => exact ⟨k + 1, R, ad, n, cap, by have := HK.out; omega, (by have := HK.out; have := HN.out; rw [IntWalk.wrap64_in _ ⟨by omega, by omega⟩]; rfl), rfl, Lib.hid (by have := HNR.out; omega), Lib.hid (by rw [HIN.out]; exact HP.out), HO, HB⟩
end Go.Proofs.YtcabpidbdnlomaaGreatDoor
