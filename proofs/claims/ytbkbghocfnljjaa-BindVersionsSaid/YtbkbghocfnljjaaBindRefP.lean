/- Layer 17, the document's own answer: is a version there? -/
import Derived.Test.YtbkbghocfnljjaaBindVers
namespace Go.Proofs.Ytbkbghocfnljjaa
open Go.RowKit
set_option linter.unusedVariables false
set_option linter.unusedSimpArgs false

set_option maxRecDepth 100000 in
set_option maxHeartbeats 8000000 in
theorem provides_any (a : Option Addr) (cap n : Nat) (l : List BObj) (na : Option Addr) (nc : Nat) (names : List ByteArray) (file ver : ByteArray) (w : World) (hl : l.length = n) (hn : n ≤ 1099511627776) (h : ORow w a l) (hnr : TRow w na names) (hnl : names.length ≤ 140737488355328) :
    Calls Try.prog 13 #[.slice a n cap, .slice na names.length nc, .string file, .string ver] w fun e w' => e = .returned (.bool (provF names file ver 0 l)) ∧ w = w' := by
  have H := Lib.hid h
  have HL := Lib.hid hl
  have HNR := Lib.hid hnr
  clear h hl hnr
  obtain ⟨nn, hnn⟩ : ∃ nn, names.length = nn := ⟨_, rfl⟩
  have HNN := Lib.hid hnn
  rw [hnn] at hnl ⊢
  clear hnn
  go_enter Try.func13, Try.ntmps13
  go_wp2_with fail
  go_loopg [9] n (fun g i wr => ∃ k : Nat, k + g = n ∧ i = .int .i64 (k : Int) ∧ Hid (provF names file ver k (l.drop k) = provF names file ver 0 l) ∧ w = wr)
  case atStart => exact ⟨0, by omega, rfl, Lib.hid rfl, rfl⟩
  case round =>
    obtain ⟨k, hk, rfl, HR, rfl⟩ := hrel
    cases gk with
    | zero =>
      have hke : k = n := by omega
      have HF : Hid (provF names file ver 0 l = false) := Lib.hid (by rw [← HR.out, List.drop_of_length_le (by rw [HL.out, hke]; exact Nat.le_refl _)]; rfl)
      clear hk
      subst hke
      go_wp2_with fail
      go_ret
      exact ⟨by rw [HF.out]; rfl, rfl⟩
    | succ g =>
      have hkn : k < n := by omega
      have hkl : k < l.length := by rw [HL.out]; exact hkn
      obtain ⟨b, o, C, rfl, hlt, hrange, hC⟩ := H.out k hkl
      have HD : Hid (l.drop k = l[k] :: l.drop (k + 1)) := Lib.hid (drop_cons hkl)
      generalize l[k] = x at *
      rw [HD.out, provF_cons] at HR
      have c41 : w.cell? ⟨b, o + k * 54 + 41, none⟩ = some (.string x.soname) := hrange 41 _ (by rw [Array.getElem?_toList]; exact hC.soname)
      obtain ⟨da, dc, e48, hdr⟩ := hC.defs
      have c48 : w.cell? ⟨b, o + k * 54 + 48, none⟩ = some (.slice da x.defs.length dc) := hrange 48 _ (by rw [Array.getElem?_toList]; exact e48)
      have hdl := hC.dlen
      have HDR := Lib.hid hdr
      have HGF : Hid (goesF x k names file = decide (x.soname = file ∨ (k < nn ∧ names.getD k .empty = file))) := Lib.hid (by rw [← HNN.out]; rfl)
      generalize x.soname = sn at *
      generalize x.defs = T at *
      obtain ⟨dl, hdl2⟩ : ∃ dl, T.length = dl := ⟨_, rfl⟩
      have HDL := Lib.hid hdl2
      rw [hdl2] at c48 hdl HR
      have HE := Lib.hid (text_eq sn file)
      clear hrange hC e48 hdr hkl hdl2 hlt HD
      -- three ways to know whether the object goes by the name
      have HWAY : Hid ((goesF x k names file = true ∧ (sn.toList == file.toList) = true) ∨ (goesF x k names file = false ∧ (sn.toList == file.toList) = false ∧ ¬ k < nn) ∨ (∃ b2 o2 t, na = some ⟨b2, o2, none⟩ ∧ w.cell? ⟨b2, o2 + k, none⟩ = some (.string t) ∧ (sn.toList == file.toList) = false ∧ k < nn ∧ goesF x k names file = (t.toList == file.toList))) := Lib.hid (by
        by_cases hs : sn = file
        · left
          exact ⟨by rw [HGF.out]; exact decide_eq_true (.inl hs), by rw [HE.out]; exact decide_eq_true hs⟩
        · right
          by_cases hkn2 : k < nn
          · right
            obtain ⟨b2, o2, e, -, hc⟩ := HNR.out k (by rw [HNN.out]; exact hkn2)
            refine ⟨b2, o2, names.getD k .empty, e, hc, by rw [HE.out]; exact decide_eq_false hs, hkn2, ?_⟩
            rw [HGF.out, text_eq]
            by_cases ht : names.getD k .empty = file
            · rw [decide_eq_true ht]; exact decide_eq_true (.inr ⟨hkn2, ht⟩)
            · rw [decide_eq_false ht]; exact decide_eq_false (fun hh => hh.elim hs (fun q => ht q.2))
          · left
            exact ⟨by rw [HGF.out]; exact decide_eq_false (fun hh => hh.elim hs (fun q => hkn2 q.1)), by rw [HE.out]; exact decide_eq_false hs, hkn2⟩)
      clear HGF HE
      rcases HWAY.out with ⟨hg, he⟩ | ⟨hg, he, hkk⟩ | ⟨b2, o2, t, rfl, hc, he, hkk, hg⟩
      · clear HWAY
        rw [hg, if_pos rfl] at HR
        go_wp2_with fail
        go_loopg [11] dl (fun g2 i wr => ∃ j : Nat, j + g2 = dl ∧ i = .int .i64 (j : Int) ∧ Hid (∀ y ∈ T.take j, ¬ y = ver) ∧ w = wr)
        case atStart => exact ⟨0, by omega, rfl, Lib.hid (fun y hy => by simp at hy), rfl⟩
        case round =>
          obtain ⟨j, hj, rfl, HN, rfl⟩ := hrel
          cases gk with
          | zero =>
            have hje : j = dl := by omega
            have HF : Hid (provF names file ver 0 l = decide (dl = 0)) := Lib.hid (by
              rw [← HR.out, hasF_no (fun y hy => HN.out y (by rw [List.take_of_length_le (by rw [HDL.out, hje]; exact Nat.le_refl _)]; exact hy)), Bool.or_false])
            have hz : ((dl : Int) == 0) = decide (dl = 0) := by rw [Bool.eq_iff_iff, beq_iff_eq, decide_eq_true_eq]; omega
            clear hj
            subst hje
            go_wp2_with fail
            go_ret
            exact ⟨by rw [HF.out, ← hz]; rfl, rfl⟩
          | succ g2 =>
            have hjn : j < dl := by omega
            have hjT : j < T.length := by rw [HDL.out]; exact hjn
            obtain ⟨b5, o5, ix, bs, pa, pl, pc, rfl, -, -, -, c2, -⟩ := HDR.out j hjT
            have HM : Hid (T.getD j .empty ∈ T) := Lib.hid (by rw [List.getD, List.getElem?_eq_getElem hjT]; exact List.getElem_mem _)
            have HT : Hid (T.take (j + 1) = T.take j ++ [T.getD j .empty]) := Lib.hid (by rw [List.take_succ_eq_append_getElem hjT]; simp [List.getD, List.getElem?_eq_getElem hjT])
            generalize T.getD j .empty = nm at *
            clear hjT
            by_cases hq : nm = ver
            · have he2 : (nm.toList == ver.toList) = true := by rw [text_eq]; exact decide_eq_true hq
              have HF : Hid (provF names file ver 0 l = true) := Lib.hid (by
                rw [← HR.out, hasF_yes (by rw [← hq]; exact HM.out), Bool.or_true])
              clear hq
              go_wp2_with fail
              go_ret
              exact ⟨by rw [HF.out]; rfl, rfl⟩
            · have he2 : (nm.toList == ver.toList) = false := by rw [text_eq]; exact decide_eq_false hq
              have HN2 : Hid (∀ y ∈ T.take (j + 1), ¬ y = ver) := Lib.hid (fun y hy => by
                rw [HT.out] at hy
                rcases List.mem_append.1 hy with h | h
                · exact HN.out y h
                · rw [List.mem_singleton.1 h]; exact hq)
              clear hq
              go_wp2_with fail
              go_roundg g2
              case measure => omega
              case rel => exact ⟨j + 1, by omega, by go_num, HN2, rfl⟩
      · clear HWAY
        have hge : (k : Int) ≥ (nn : Int) := by omega
        clear hkk
        rw [hg, if_neg (by decide)] at HR
        go_wp2_with fail
        go_roundg g
        case measure => omega
        case rel => exact ⟨k + 1, by omega, by go_num, HR, rfl⟩
      · clear HWAY
        have hge : ¬ (k : Int) ≥ (nn : Int) := by omega
        cases hq : (t.toList == file.toList) with
        | true =>
          rw [hq] at hg
          rw [hg, if_pos rfl] at HR
          go_wp2_with fail
          go_loopg [11] dl (fun g2 i wr => ∃ j : Nat, j + g2 = dl ∧ i = .int .i64 (j : Int) ∧ Hid (∀ y ∈ T.take j, ¬ y = ver) ∧ w = wr)
          case atStart => exact ⟨0, by omega, rfl, Lib.hid (fun y hy => by simp at hy), rfl⟩
          case round =>
            obtain ⟨j, hj, rfl, HN, rfl⟩ := hrel
            cases gk with
            | zero =>
              have hje : j = dl := by omega
              have HF : Hid (provF names file ver 0 l = decide (dl = 0)) := Lib.hid (by
                rw [← HR.out, hasF_no (fun y hy => HN.out y (by rw [List.take_of_length_le (by rw [HDL.out, hje]; exact Nat.le_refl _)]; exact hy)), Bool.or_false])
              have hz : ((dl : Int) == 0) = decide (dl = 0) := by rw [Bool.eq_iff_iff, beq_iff_eq, decide_eq_true_eq]; omega
              clear hj
              subst hje
              go_wp2_with fail
              go_ret
              exact ⟨by rw [HF.out, ← hz]; rfl, rfl⟩
            | succ g2 =>
              have hjn : j < dl := by omega
              have hjT : j < T.length := by rw [HDL.out]; exact hjn
              obtain ⟨b5, o5, ix, bs, pa, pl, pc, rfl, -, -, -, c2, -⟩ := HDR.out j hjT
              have HM : Hid (T.getD j .empty ∈ T) := Lib.hid (by rw [List.getD, List.getElem?_eq_getElem hjT]; exact List.getElem_mem _)
              have HT : Hid (T.take (j + 1) = T.take j ++ [T.getD j .empty]) := Lib.hid (by rw [List.take_succ_eq_append_getElem hjT]; simp [List.getD, List.getElem?_eq_getElem hjT])
              generalize T.getD j .empty = nm at *
              clear hjT
              by_cases hq : nm = ver
              · have he2 : (nm.toList == ver.toList) = true := by rw [text_eq]; exact decide_eq_true hq
                have HF : Hid (provF names file ver 0 l = true) := Lib.hid (by
                  rw [← HR.out, hasF_yes (by rw [← hq]; exact HM.out), Bool.or_true])
                clear hq
                go_wp2_with fail
                go_ret
                exact ⟨by rw [HF.out]; rfl, rfl⟩
              · have he2 : (nm.toList == ver.toList) = false := by rw [text_eq]; exact decide_eq_false hq
                have HN2 : Hid (∀ y ∈ T.take (j + 1), ¬ y = ver) := Lib.hid (fun y hy => by
                  rw [HT.out] at hy
                  rcases List.mem_append.1 hy with h | h
                  · exact HN.out y h
                  · rw [List.mem_singleton.1 h]; exact hq)
                clear hq
                go_wp2_with fail
                go_roundg g2
                case measure => omega
                case rel => exact ⟨j + 1, by omega, by go_num, HN2, rfl⟩
        | false =>
          rw [hq] at hg
          rw [hg, if_neg (by decide)] at HR
          go_wp2_with fail
          go_roundg g
          case measure => omega
          case rel => exact ⟨k + 1, by omega, by go_num, HR, rfl⟩
end Go.Proofs.Ytbkbghocfnljjaa
