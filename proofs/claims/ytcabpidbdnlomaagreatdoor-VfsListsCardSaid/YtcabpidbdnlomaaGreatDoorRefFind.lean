/- Layer 3, the document's answer: is a path clean; where a path's node stands; is it a directory; which file's node it is. -/
import Derived.Test.YtcabpidbdnlomaaGreatDoorRefName
import Derived.Test.YtcabpidbdnlomaaGreatDoorVfsNew
namespace Go.Proofs.YtcabpidbdnlomaaGreatDoor
open Go.RowKit
set_option linter.unusedVariables false
set_option linter.unusedSimpArgs false

theorem partGo_mem (p : Nat → Bool) : ∀ (r cur x : List UInt8), x ∈ cutGo p cur r → x.length ≤ cur.length + r.length
  | [], cur, x, h => by
    have : x = cur := by simpa [cutGo] using h
    subst this
    exact Nat.le_add_right _ _
  | c :: r, cur, x, h => by
    rw [cutGo] at h
    split at h
    · rcases List.mem_cons.1 h with h1 | h1
      · subst h1; exact Nat.le_add_right _ _
      · have := partGo_mem p r [] x h1
        simp only [List.length_nil, List.length_cons] at *
        omega
    · have := partGo_mem p r (cur ++ [c]) x h
      simp only [List.length_append, List.length_cons, List.length_nil] at *
      omega
theorem partsR_mem {s x : ByteArray} (h : x ∈ partsR s) : x.size ≤ s.size := by
  unfold partsR cutF at h
  obtain ⟨l, hl, rfl⟩ := List.mem_map.1 h
  have := partGo_mem slashP _ _ l hl
  have e : (mkP l).size = l.length := by show l.toArray.size = _; simp
  rw [e]
  simpa using this
/-- is a path clean? -/
def cleanR (s : ByteArray) : Bool := isPathR s && ((partsR s).drop 1).all nameR
theorem cleanR_size {s : ByteArray} (h : cleanR s = true) : 1 ≤ s.size ∧ s.size ≤ 4096 := by
  unfold cleanR isPathR at h
  simp only [Bool.and_eq_true] at h
  exact within_size h.1.1

set_option maxRecDepth 100000 in
set_option maxHeartbeats 4000000 in
theorem rclean_any (s : ByteArray) (w : World) (hs : s.size ≤ 140737488355328) :
    Calls Tryz.prog 46 #[.string s] w fun e w' => e = .returned (.bool (cleanR s)) ∧ Below w.heap.size w w' := by
  have HI := Lib.hid (isPath_any s w hs)
  cases hp : isPathR s with
  | false =>
    have hF : cleanR s = false := by unfold cleanR; rw [hp]; rfl
    rw [hF]
    rw [hp] at HI
    clear hF hp hs
    go_enter Tryz.func46, Tryz.ntmps46
    go_wp2_with fail
    refine HI.out.mono ?_
    rintro e w' ⟨rfl, rfl⟩
    go_wp2_with fail
    go_ret
    exact ⟨rfl, Below.refl _ _⟩
  | true =>
    have hsz : s.size ≤ 4096 := by
      unfold isPathR at hp
      simp only [Bool.and_eq_true] at hp
      exact (within_size hp.1).2
    obtain ⟨R, hR⟩ : ∃ R, cleanR s = R := ⟨_, rfl⟩
    have HR0 : Hid (((partsR s).drop 1).all nameR = R) := Lib.hid (by rw [← hR]; unfold cleanR; rw [hp]; rfl)
    have HPA := Lib.hid (parts_any s w (by omega))
    have HPM : Hid (∀ x ∈ partsR s, x.size ≤ 4096) := Lib.hid (fun x hx => Nat.le_trans (partsR_mem hx) hsz)
    have HLN : Hid ((partsR s).length ≤ 4097 ∧ 1 ≤ (partsR s).length) := Lib.hid ⟨by have := partsR_len s; omega, by unfold partsR cutF; rw [List.length_map]; exact cutGo_pos _ _ _⟩
    rw [hR]
    rw [hp] at HI
    generalize partsR s = L at *
    obtain ⟨n, hn⟩ : ∃ n, L.length = n := ⟨_, rfl⟩
    have HN := Lib.hid hn
    rw [hn] at HPA HLN
    clear hR hp hsz hs hn
    go_enter Tryz.func46, Tryz.ntmps46
    go_wp2_with fail
    refine HI.out.mono ?_
    rintro e w' ⟨rfl, rfl⟩
    go_wp2_with fail
    refine HPA.out.mono ?_
    rintro e w2 ⟨ad, c, rfl, ho, hb⟩
    have HB := Lib.hid hb
    have HTR := Lib.hid ho.row.1
    clear hb ho HI HPA
    go_wp2_with fail
    go_loopg [5] (n - 1) (fun g iv wr => ∃ k : Nat, k + g = n ∧ 1 ≤ k ∧ iv = .int .i64 (k : Int) ∧ Hid ((L.drop k).all nameR = R) ∧ w2 = wr)
    case atStart => exact ⟨1, by have := HLN.out; omega, Nat.le_refl _, rfl, HR0, rfl⟩
    case round =>
      obtain ⟨k, hk, hk1, rfl, HG, rfl⟩ := hrel
      clear HR0
      cases gk with
      | zero =>
        have hkn : k = n := by omega
        subst hkn
        have hR : Hid (R = true) := Lib.hid (by rw [← HG.out, List.drop_of_length_le (by rw [HN.out]; exact Nat.le_refl _)]; rfl)
        clear hk
        go_wp2_with fail
        go_ret
        rw [hR.out]
        exact ⟨rfl, HB.out⟩
      | succ g =>
        have hlt : k < n := by omega
        have hkL : k < L.length := by rw [HN.out]; exact hlt
        obtain ⟨b1, o1, rfl, hbl, p0⟩ := HTR.out k hkL
        have HD : Hid ((L.drop k).all nameR = (nameR L[k] && (L.drop (k + 1)).all nameR)) := Lib.hid (by rw [List.drop_eq_getElem_cons hkL, List.all_cons])
        have hg : L.getD k .empty = L[k] := by simp [List.getD, hkL]
        rw [hg] at p0
        have HRN := Lib.hid (rname_any L[k] w2 (by have := HPM.out L[k] (List.getElem_mem hkL); omega))
        have HK := Lib.hid hk
        generalize L[k] = x at *
        clear hg hkL hk
        go_wp2_with fail
        refine HRN.out.mono ?_
        rintro e w' ⟨rfl, rfl⟩
        cases hx : nameR x with
        | false =>
          have hR : Hid (R = false) := Lib.hid (by rw [← HG.out, HD.out, hx]; rfl)
          clear hx
          go_wp2_with fail
          go_ret
          rw [hR.out]
          exact ⟨rfl, HB.out⟩
        | true =>
          have hR : Hid ((L.drop (k + 1)).all nameR = R) := Lib.hid (by rw [← HG.out, HD.out, hx]; rfl)
          clear hx
          go_wp2_with fail
          go_roundg g
          case measure => have := HK.out; omega
          case rel => exact ⟨k + 1, by have := HK.out; omega, by omega, by have := HLN.out; rw [IntWalk.wrap64_in _ ⟨by omega, by omega⟩]; rfl, hR, rfl⟩

/-- the document's tree in memory -/
structure RefAt (w : World) (tb : Nat) (a : Option Addr) (c : Nat) (L : List Nd) : Prop where
  box : w.heap[tb]? = some (.cells #[.slice a L.length c] 68)
  row : NdRow w a L
  many : L.length ≤ 1024
theorem RefAt.below {w w' : World} {tb c : Nat} {a : Option Addr} {L : List Nd} (h : RefAt w tb a c L) (hb : Below w.heap.size w w') : RefAt w' tb a c L :=
  ⟨(hb.block _ (lt_of_block h.box)).trans h.box, h.row.below hb, h.many⟩
/-- where a path's node stands -/
def idxR (L : List Nd) (p : ByteArray) : Nat := L.findIdx (fun n => decide (n.path = p))
def findR (L : List Nd) (p : ByteArray) : Int := if idxR L p < L.length then (idxR L p : Int) else -1
theorem idxR_at {L : List Nd} {p : ByteArray} {k : Nat} (hk : k < L.length) (h : L[k].path = p) (hj : ∀ j, (h : j < L.length) → j < k → L[j].path ≠ p) : idxR L p = k := by
  unfold idxR
  rw [List.findIdx_eq hk]
  exact ⟨decide_eq_true h, fun j hjk => decide_eq_false (hj j (by omega) hjk)⟩
theorem idxR_none {L : List Nd} {p : ByteArray} (hj : ∀ j, (h : j < L.length) → L[j].path ≠ p) : ¬ idxR L p < L.length := by
  unfold idxR
  intro h
  have := List.findIdx_getElem (w := h)
  exact hj _ h (by simpa using this)

set_option maxRecDepth 100000 in
set_option maxHeartbeats 4000000 in
theorem rfind_any (tb c : Nat) (a : Option Addr) (L : List Nd) (p : ByteArray) (w : World) (h : RefAt w tb a c L) :
    Calls Tryz.prog 37 #[.pointer (some ⟨tb, 0, none⟩), .string p] w fun e w' => e = .returned (.int .i64 (findR L p)) ∧ Below w.heap.size w w' := by
  obtain ⟨R, hR⟩ : ∃ R, findR L p = R := ⟨_, rfl⟩
  obtain ⟨n, hn⟩ : ∃ n, L.length = n := ⟨_, rfl⟩
  have HN := Lib.hid hn
  have HAT : Hid (∀ k, (hk : k < L.length) → L[k].path = p → (∀ j, (h : j < L.length) → j < k → L[j].path ≠ p) → R = (k : Int)) := Lib.hid (fun k hk h1 h2 => by rw [← hR]; unfold findR; rw [idxR_at hk h1 h2, if_pos hk])
  have HNO : Hid ((∀ j, (h : j < L.length) → L[j].path ≠ p) → R = -1) := Lib.hid (fun h => by rw [← hR]; unfold findR; rw [if_neg (idxR_none h)])
  have HT : Hid (∀ wx, Below w.heap.size w wx → wx.cell? ⟨tb, 0, none⟩ = some (.slice a n c)) := Lib.hid (fun wx hb => by
    have := cell_of_row _ _ 0 _ _ _ (h.below hb).box
    rw [hn] at this
    simpa using this)
  have HRW : Hid (∀ wx, Below w.heap.size w wx → NdRow wx a L) := Lib.hid (fun wx hb => h.row.below hb)
  have HM : Hid (n ≤ 1024) := Lib.hid (by have := h.many; omega)
  rw [hR]
  clear hR hn h
  go_enter Tryz.func37, Tryz.ntmps37
  go_wp2_with fail
  go_loopg [5] n (fun g iv wr => ∃ k : Nat, k + g = n ∧ iv = .int .i64 (k : Int) ∧ Hid (∀ j, (h : j < L.length) → j < k → L[j].path ≠ p) ∧ Hid (Below w.heap.size w wr))
  case atStart => exact ⟨0, by omega, rfl, Lib.hid (fun j _ h => by omega), Lib.hid (Below.refl _ _)⟩
  case round =>
    obtain ⟨k, hk, rfl, HJ, HB⟩ := hrel
    have ht := HT.out wr HB.out
    cases gk with
    | zero =>
      have hkn : k = n := by omega
      have hE : Hid (R = -1) := Lib.hid (HNO.out (fun j h => HJ.out j h (by have := HN.out; omega)))
      subst hkn
      clear hk
      go_wp2_with fail
      go_ret
      rw [hE.out]
      exact ⟨rfl, HB.out⟩
    | succ g =>
      have hlt : k < n := by omega
      have hkL : k < L.length := by rw [HN.out]; exact hlt
      obtain ⟨b, o, rfl, hbl, hcs⟩ := HRW.out wr HB.out k hkL
      obtain ⟨q, hq⟩ : ∃ q, (L[k]'hkL).path = q := ⟨_, rfl⟩
      have c0 : wr.cell? ⟨b, o + k * 5, none⟩ = some (.string q) := by rw [← hq]; exact hcs 0 (by omega)
      have HK := Lib.hid hk
      have HQ := Lib.hid hq
      by_cases hx : q = p
      · have hE : Hid (R = (k : Int)) := Lib.hid (HAT.out k hkL (hq.trans hx) HJ.out)
        clear hq
        subst hx
        clear hcs hk hkL HQ
        go_wp2_with fail
        go_ret
        rw [hE.out]
        exact ⟨rfl, HB.out⟩
      · have HJ2 : Hid (∀ j, (h : j < L.length) → j < k + 1 → L[j].path ≠ p) := Lib.hid (fun j h hj => by
          by_cases hjk : j < k
          · exact HJ.out j h hjk
          · obtain rfl : j = k := by omega
            rw [HQ.out]
            exact hx)
        have hne := text_ne hx
        clear hcs hx hk hkL hq HQ
        go_wp2_with fail
        go_roundg g
        case measure => have := HK.out; omega
        case rel => exact ⟨k + 1, by have := HK.out; omega, by have := HM.out; rw [IntWalk.wrap64_in _ ⟨by omega, by omega⟩]; rfl, HJ2, HB⟩
end Go.Proofs.YtcabpidbdnlomaaGreatDoor
