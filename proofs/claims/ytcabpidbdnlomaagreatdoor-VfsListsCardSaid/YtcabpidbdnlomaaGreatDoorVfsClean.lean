/- Layer 3: the directory of a clean path; the path of a name in a directory; is a path clean? -/
import Derived.Test.YtcabpidbdnlomaaGreatDoorVfsText
import Derived.Test.YtcabpidbdnlomaaGreatDoorKit1
import Derived.Deep.LoopGhost
namespace Go.Proofs.YtcabpidbdnlomaaGreatDoor
open Go.RowKit
set_option linter.unusedVariables false
set_option linter.unusedSimpArgs false

/-- the directory in which a path lies -/
def parentF (s : ByteArray) : ByteArray := s.extract 0 (max 1 (Lib.lastIndexByte s 47)).toNat
theorem parent_any (s : ByteArray) (w : World) (h1 : 1 ≤ s.size) (hs : s.size ≤ 140737488355328) :
    Calls Tryz.prog 16 #[.string s] w fun e w' => e = .returned (.string (parentF s)) ∧ w = w' := by
  have HL := Lib.hid ((Tryz.strings_LastIndexByte s 47 (by omega) w).mono (fun e w' h => (⟨h.1, h.2.symm⟩ : _ ∧ w = w')))
  obtain ⟨R, hR⟩ : ∃ R, parentF s = R := ⟨_, rfl⟩
  rw [hR]
  obtain ⟨m, hm, hm1, hm2⟩ : ∃ m : Nat, max 1 (Lib.lastIndexByte s 47) = (m : Int) ∧ 1 ≤ m ∧ m ≤ s.size := by
    rcases Lib.lastIndexByte_spec s 47 with ⟨h2, -⟩ | ⟨i, hi, h2, -, -⟩
    · exact ⟨1, by rw [h2]; rfl, by omega, h1⟩
    · exact ⟨max 1 i, by rw [h2]; omega, by omega, by omega⟩
  have HR : Hid (R = s.extract 0 m) := Lib.hid (by rw [← hR]; unfold parentF; rw [hm]; rfl)
  have i0 : (0 : Int) ≤ (m : Int) := by omega
  have i1 : (m : Int) ≤ (s.size : Int) := by omega
  generalize Lib.lastIndexByte s 47 = li at *
  clear hR h1 hs hm1 hm2
  go_enter Tryz.func16, Tryz.ntmps16
  go_wp2_with fail
  refine HL.out.mono ?_
  rintro e w' ⟨rfl, rfl⟩
  go_wp2_with fail
  go_ret
  rw [HR.out]
  exact ⟨rfl, rfl⟩

/-- the path of a name in a directory -/
def joinF (dir name : ByteArray) : ByteArray := if dir = slash then slash ++ name else (dir ++ slash) ++ name
theorem join_any (dir name : ByteArray) (w : World) (h1 : dir.size ≤ 1048576) (h2 : name.size ≤ 1048576) :
    Calls Tryz.prog 32 #[.string dir, .string name] w fun e w' => e = .returned (.string (joinF dir name)) ∧ w = w' := by
  by_cases hd : dir = slash
  · unfold joinF
    rw [if_pos hd]
    subst hd
    unfold slash
    go_enter Tryz.func32, Tryz.ntmps32
    go_wp2_with fail
    go_ret
    exact ⟨rfl, rfl⟩
  · unfold joinF
    rw [if_neg hd]
    have hne : (dir.toList == [47]) = false := by
      have := text_ne hd
      rwa [show slash.toList = [47] by rw [ByteArray.toList_eq]; rfl] at this
    unfold slash at *
    have HD := Lib.hid hd
    clear hd
    go_enter Tryz.func32, Tryz.ntmps32
    go_wp2_with fail
    go_ret
    exact ⟨rfl, rfl⟩

/-- is a text a name? -/
def vnameF (n : ByteArray) : Bool := withinF n 255 && (!decide (n = ⟨#[46]⟩) && !decide (n = ⟨#[46, 46]⟩))
def restF (s : ByteArray) : ByteArray := s.extract 1 s.size
theorem first_bang (s : ByteArray) (h : 0 < s.size) : s.get! 0 = s[0] := by
  show (if h : 0 < s.size then s.data[0] else _) = _
  rw [dif_pos h]
  rfl
/-- is a path clean? -/
def cleanF (s : ByteArray) : Bool := withinF s 4096 && (decide (s.get! 0 = 47) && (slashF (restF s)).all vnameF)
theorem within_size {s : ByteArray} {m : Nat} (h : withinF s m = true) : 1 ≤ s.size ∧ s.size ≤ m := by
  unfold withinF at h
  simp only [Bool.and_eq_true, decide_eq_true_eq] at h
  exact ⟨h.1, h.2.1⟩

set_option maxRecDepth 100000 in
set_option maxHeartbeats 4000000 in
theorem clean_any (s : ByteArray) (w : World) (hs : s.size ≤ 140737488355328) :
    Calls Tryz.prog 62 #[.string s] w fun e w' => e = .returned (.bool (cleanF s)) ∧ Below w.heap.size w w' := by
  have HW : Hid _ := Lib.hid (within3_any s 4096 w (by omega))
  obtain ⟨wt, hwt⟩ : ∃ wt, withinF s 4096 = wt := ⟨_, rfl⟩
  rw [hwt] at HW
  cases wt with
  | false =>
    have hF : cleanF s = false := by unfold cleanF; rw [hwt]; rfl
    rw [hF]
    clear hF hwt
    go_enter Tryz.func62, Tryz.ntmps62
    go_wp2_with fail
    refine HW.out.mono ?_
    rintro e w' ⟨rfl, rfl⟩
    go_wp2_with fail
    go_ret
    exact ⟨rfl, Below.refl _ _⟩
  | true =>
    have hsz := within_size hwt
    by_cases h47 : s.get! 0 = 47
    · have hF : cleanF s = (slashF (restF s)).all vnameF := by unfold cleanF; rw [hwt, decide_eq_true h47]; rfl
      have HF := Lib.hid hF
      have hx := first_bang s (by omega)
      have h0 : (0 : Int) < (s.size : Int) := by omega
      have h1' : (1 : Int) ≤ (s.size : Int) := by omega
      have hb : (((s[0]'(by omega)).toNat : Int) != 47) = false := by rw [← hx, h47]; rfl
      have HSP : Hid _ := Lib.hid (split_slash (restF s) w (by unfold restF; rw [ByteArray.size_extract]; omega))
      have HSL : Hid ((slashF (restF s)).length ≤ 4096) := Lib.hid (by have := slashF_le (restF s); unfold restF at this ⊢; rw [ByteArray.size_extract] at this; omega)
      rw [HF.out]
      unfold restF at HSP HSL ⊢
      generalize slashF (s.extract 1 s.size) = L at *
      obtain ⟨R, hR⟩ : ∃ R, L.all vnameF = R := ⟨_, rfl⟩
      rw [hR]
      have HR0 : Hid ((L.drop 0).all vnameF = R) := Lib.hid hR
      clear hR
      have HB : Hid (Below w.heap.size w (w.alloc (.cells (L.map Value.string).toArray 9))) := Lib.hid ((Below.refl _ _).alloc (Nat.le_refl _) _)
      have HX : Hid ((w.alloc (.cells (L.map Value.string).toArray 9)).heap[w.heap.size]? = some (.cells (L.map Value.string).toArray 9)) := Lib.hid (heap_alloc_new _ _)
      clear hF hwt HF hx h47
      go_enter Tryz.func62, Tryz.ntmps62
      go_wp2_with fail
      refine HW.out.mono ?_
      rintro e w' ⟨rfl, rfl⟩
      go_wp2_with fail
      refine HSP.out.mono ?_
      rintro e w2 ⟨rfl, rfl⟩
      generalize w.alloc (.cells (L.map Value.string).toArray 9) = w1 at *
      obtain ⟨n, hn⟩ : ∃ n, L.length = n := ⟨_, rfl⟩
      rw [hn] at HSL ⊢
      have HN := Lib.hid hn
      clear hn hb
      go_wp2_with fail
      go_loopg [17] n (fun g iv wr => ∃ k : Nat, k + g = n ∧ iv = .int .i64 (k : Int) ∧ Hid ((L.drop k).all vnameF = R) ∧ w1 = wr)
      case atStart => exact ⟨0, by omega, rfl, HR0, rfl⟩
      case round =>
        obtain ⟨k, hk, rfl, HR, rfl⟩ := hrel
        clear HR0
        cases gk with
        | zero =>
          have HE : Hid (R = true) := Lib.hid (by rw [← HR.out, List.drop_of_length_le (by rw [HN.out]; omega)]; rfl)
          have hge : ¬ (k : Int) < (n : Int) := by omega
          clear hk
          go_wp2_with fail
          go_ret
          rw [HE.out]
          exact ⟨rfl, HB.out⟩
        | succ g =>
          have hkn : (k : Int) < (n : Int) := by omega
          have hk0 : (0 : Int) ≤ (k : Int) := by omega
          have hk1 : IntKind.i64.wrap ((k : Int) + 1) = ((k + 1 : Nat) : Int) := by have := HSL.out; rw [IntKind.wrap_i64]; omega
          have HKG := Lib.hid hk
          have hkl : k < L.length := by rw [HN.out]; omega
          have hc := cell_of_row _ _ k _ _ _ HX.out
          simp only [List.getElem?_toArray, List.getElem?_map, List.getElem?_eq_getElem hkl, Option.map_some] at hc
          have HD : Hid ((L.drop k).all vnameF = (vnameF L[k] && (L.drop (k + 1)).all vnameF)) := Lib.hid (by rw [List.drop_eq_getElem_cons hkl, List.all_cons])
          have HWN : Hid _ := Lib.hid (within3_any L[k] 255 w1 (by omega))
          generalize L[k] = nm at *
          rw [HD.out] at HR
          clear HD hkl hk
          cases hw : withinF nm 255 with
          | false =>
            have HE : Hid (R = false) := Lib.hid (by rw [← HR.out]; unfold vnameF; rw [hw]; rfl)
            rw [hw] at HWN
            clear HR hw
            go_wp2_with fail
            refine HWN.out.mono ?_
            rintro e w' ⟨rfl, rfl⟩
            go_wp2_with fail
            go_ret
            rw [HE.out]
            exact ⟨rfl, HB.out⟩
          | true =>
            rw [hw] at HWN
            by_cases hd1 : nm = ⟨#[46]⟩
            · have HE : Hid (R = false) := Lib.hid (by rw [← HR.out]; unfold vnameF; rw [decide_eq_true hd1]; simp)
              subst hd1
              clear HR hw
              go_wp2_with fail
              refine HWN.out.mono ?_
              rintro e w' ⟨rfl, rfl⟩
              go_wp2_with fail
              go_ret
              rw [HE.out]
              exact ⟨rfl, HB.out⟩
            · have hn1 : (nm.toList == [46]) = false := by
                have := text_ne hd1
                rwa [show (⟨#[46]⟩ : ByteArray).toList = [46] by rw [ByteArray.toList_eq]] at this
              by_cases hd2 : nm = ⟨#[46, 46]⟩
              · have HE : Hid (R = false) := Lib.hid (by rw [← HR.out]; unfold vnameF; rw [decide_eq_true hd2]; simp)
                subst hd2
                clear HR hw hn1 hd1
                go_wp2_with fail
                refine HWN.out.mono ?_
                rintro e w' ⟨rfl, rfl⟩
                go_wp2_with fail
                go_ret
                rw [HE.out]
                exact ⟨rfl, HB.out⟩
              · have hn2 : (nm.toList == [46, 46]) = false := by
                  have := text_ne hd2
                  rwa [show (⟨#[46, 46]⟩ : ByteArray).toList = [46, 46] by rw [ByteArray.toList_eq]] at this
                have HE : Hid ((L.drop (k + 1)).all vnameF = R) := Lib.hid (by rw [← HR.out]; unfold vnameF; rw [hw, decide_eq_false hd1, decide_eq_false hd2]; rfl)
                clear HR hw hd1 hd2
                go_wp2_with fail
                refine HWN.out.mono ?_
                rintro e w' ⟨rfl, rfl⟩
                go_wp2_with fail
                go_roundg g
                case measure => omega
                case rel => exact ⟨k + 1, by have := HKG.out; omega, by first | rfl | go_num, HE, rfl⟩
    · have hF : cleanF s = false := by unfold cleanF; rw [hwt, decide_eq_false h47]; rfl
      rw [hF]
      have hx := first_bang s (by omega)
      have h0 : (0 : Int) < (s.size : Int) := by omega
      have hb : (((s[0]'(by omega)).toNat : Int) != 47) = true := by
        rw [bne_iff_ne]
        intro e
        apply h47
        rw [hx]
        exact UInt8.toNat_inj.1 (by show _ = 47; omega)
      clear hF hwt hx h47
      go_enter Tryz.func62, Tryz.ntmps62
      go_wp2_with fail
      refine HW.out.mono ?_
      rintro e w' ⟨rfl, rfl⟩
      go_wp2_with fail
      go_ret
      exact ⟨rfl, Below.refl _ _⟩
end Go.Proofs.YtcabpidbdnlomaaGreatDoor
