/- Layer 17: is a version there? -/
import Derived.Test.YtbkbghocfnljjaaBindIs
namespace Go.Proofs.Ytbkbghocfnljjaa
open Go.RowKit
set_option linter.unusedVariables false
set_option linter.unusedSimpArgs false

set_option maxRecDepth 100000 in
set_option maxHeartbeats 4000000 in
theorem goesBy_any (C : Array Value) (x : BObj) (i : Nat) (na : Option Addr) (nc : Nat) (names : List ByteArray) (name : ByteArray) (w : World) (hC : OCells w C x) (hn : TRow w na names) (hi : i < 140737488355328) (hnl : names.length ≤ 140737488355328) :
    Calls Try.prog 20 #[.agg C, .int .i64 (i : Int), .slice na names.length nc, .string name] w fun e w' => e = .returned (.bool (goesF x i names name)) ∧ Below w.heap.size w w' := by
  have h41 := hC.soname
  have h54 := hC.size
  have h1 := hC.one
  have HB : Hid (Below w.heap.size w (w.alloc (.cells C 58))) := Lib.hid ((Below.refl _ _).alloc (Nat.le_refl _) _)
  have HN := Lib.hid (hn.below HB.out)
  have hc41 : (w.alloc (.cells C 58)).cell? ⟨w.heap.size, 41, none⟩ = some (.string x.soname) := by rw [cell_of_row _ _ 41 _ _ _ (heap_alloc_new _ _)]; exact h41
  clear hC hn h41
  obtain ⟨nn, hnn⟩ : ∃ nn, names.length = nn := ⟨_, rfl⟩
  have HNN := Lib.hid hnn
  have HG : Hid (goesF x i names name = decide (x.soname = name ∨ (i < nn ∧ names.getD i .empty = name))) := Lib.hid (by rw [← hnn]; rfl)
  rw [hnn] at hnl ⊢
  clear hnn
  generalize x.soname = sn at *
  have HE := Lib.hid (text_eq sn name)
  by_cases hs : sn = name
  · have he : (sn.toList == name.toList) = true := by rw [HE.out]; exact decide_eq_true hs
    have HR : Hid (goesF x i names name = true) := Lib.hid (by rw [HG.out]; exact decide_eq_true (.inl hs))
    clear hs
    go_enter Try.func20, Try.ntmps20
    go_wp2_with fail
    go_ret
    exact ⟨by rw [HR.out]; rfl, HB.out⟩
  · have he : (sn.toList == name.toList) = false := by rw [HE.out]; exact decide_eq_false hs
    by_cases hin : i < nn
    · obtain ⟨b, o, rfl, -, c0⟩ := HN.out i (by rw [HNN.out]; exact hin)
      have HT := Lib.hid (text_eq (names.getD i .empty) name)
      have HR : Hid (goesF x i names name = decide (names.getD i .empty = name)) := Lib.hid (by
        rw [HG.out]
        by_cases h : names.getD i .empty = name
        · rw [decide_eq_true h]; exact decide_eq_true (.inr ⟨hin, h⟩)
        · rw [decide_eq_false h]; exact decide_eq_false (fun hh => hh.elim hs (fun q => h q.2)))
      generalize names.getD i .empty = t at *
      clear hs
      go_enter Try.func20, Try.ntmps20
      go_wp2_with fail
      go_ret
      exact ⟨by rw [HR.out, ← HT.out]; rfl, HB.out⟩
    · have HR : Hid (goesF x i names name = false) := Lib.hid (by rw [HG.out]; exact decide_eq_false (fun hh => hh.elim hs (fun q => hin q.1)))
      have hlt : ¬ (i : Int) < (nn : Int) := by omega
      clear hs hin
      go_enter Try.func20, Try.ntmps20
      go_wp2_with fail
      go_ret
      exact ⟨by rw [HR.out]; rfl, HB.out⟩

set_option maxRecDepth 100000 in
set_option maxHeartbeats 8000000 in
theorem provided_any (a : Option Addr) (cap n : Nat) (l : List BObj) (na : Option Addr) (nc : Nat) (names : List ByteArray) (file ver : ByteArray) (w : World) (hl : l.length = n) (hn : n ≤ 1099511627776) (h : ORow w a l) (hnr : TRow w na names) (hnl : names.length ≤ 140737488355328) :
    Calls Try.prog 12 #[.slice a n cap, .slice na names.length nc, .string file, .string ver] w fun e w' => e = .returned (.bool (provF names file ver 0 l)) ∧ Below w.heap.size w w' := by
  have H := Lib.hid h
  have HL := Lib.hid hl
  have HNR := Lib.hid hnr
  have B1 : Hid (Below w.heap.size w (w.alloc (.cells #[.string ver] 9))) := Lib.hid ((Below.refl _ _).alloc (Nat.le_refl _) _)
  have HV : Hid (∀ w1, Below (w.alloc (.cells #[.string ver] 9)).heap.size (w.alloc (.cells #[.string ver] 9)) w1 → w1.cell? ⟨w.heap.size, 0, none⟩ = some (.string ver)) := Lib.hid (fun w1 hb => by
    have e1 := (hb.block _ (by simp)).trans (heap_alloc_new w (.cells #[.string ver] 9))
    rw [cell_of_row _ _ 0 _ _ _ e1]; rfl)
  have HGO := Lib.hid (fun (C : Array Value) (x : BObj) (i : Nat) (w1 : World) (hC : OCells w1 C x) (hb : Below w.heap.size w w1) (hi : i < 140737488355328) => goesBy_any C x i na nc names file w1 hC (hnr.below hb) hi hnl)
  clear h hl hnr
  go_enter Try.func12, Try.ntmps12
  go_wp2_with fail
  generalize hw1 : (w.alloc (.cells #[.string ver] 9)) = w1 at *
  clear hw1
  generalize names.length = nl at *
  obtain ⟨vb, hvb⟩ : ∃ vb, w.heap.size = vb := ⟨_, rfl⟩
  have HVB := Lib.hid hvb
  rw [hvb] at HV ⊢
  clear hvb
  go_loopg [14] n (fun g i wr => ∃ k : Nat, k + g = n ∧ i = .int .i64 (k : Int) ∧ Hid (provF names file ver k (l.drop k) = provF names file ver 0 l) ∧ Hid (Below w1.heap.size w1 wr))
  case atStart => exact ⟨0, by omega, rfl, Lib.hid rfl, Lib.hid (Below.refl _ _)⟩
  case round =>
    obtain ⟨k, hk, rfl, HR, HB⟩ := hrel
    cases gk with
    | zero =>
      have hke : k = n := by omega
      have HF : Hid (provF names file ver 0 l = false) := Lib.hid (by rw [← HR.out, List.drop_of_length_le (by rw [HL.out, hke]; exact Nat.le_refl _)]; rfl)
      clear hk
      subst hke
      go_wp2_with fail
      go_ret
      exact ⟨by rw [HF.out]; rfl, bstep B1.out HB.out⟩
    | succ g =>
      have hkn : k < n := by omega
      have hkl : k < l.length := by rw [HL.out]; exact hkn
      have BW := Lib.hid (bstep B1.out HB.out)
      obtain ⟨b, o, C, rfl, hlt, hrange, hC⟩ := (H.out.below BW.out) k hkl
      have HRG := Lib.hid hrange
      have HC := Lib.hid hC
      have hI : (Try.prog.info? 58).map (·.size) = some C.size := by rw [hC.size]; kernel_rfl
      have HI := Lib.hid hI
      have HIL : Hid ((Try.prog.info? 58).map (·.size) = some C.toList.length) := Lib.hid (by rw [hI]; simp)
      have hsc : (storeCells ⟨wr.heap.size, 0, none⟩ C.toList).run Try.prog (wr.alloc (.cells #[.int .i64 0, .int .u64 0, .slice none 0 0, .bool false, .slice none 0 0, .int .u64 0, .int .u64 0, .int .u64 0, .int .u64 0, .int .u64 0, .int .u64 0, .int .u64 0, .int .u64 0, .int .u64 0, .int .u64 0, .int .u64 0, .int .u64 0, .int .u64 0, .bool false, .bool false, .bool false, .int .u64 0, .int .u64 0, .int .u64 0, .int .u64 0, .int .u64 0, .int .u64 0, .int .u64 0, .int .u64 0, .int .u64 0, .int .u64 0, .int .u64 0, .int .u64 0, .int .u64 0, .int .u64 0, .int .u64 0, .bool false, .bool false, .bool false, .bool false, .bool false, .string ⟨#[]⟩, .string ⟨#[]⟩, .string ⟨#[]⟩, .slice none 0 0, .slice none 0 0, .bool false, .slice none 0 0, .slice none 0 0, .slice none 0 0, .slice none 0 0, .slice none 0 0, .slice none 0 0, .slice none 0 0] 58)) = .ok () (wr.alloc (.cells C 58)) := run_storeCells_new wr 58 #[.int .i64 0, .int .u64 0, .slice none 0 0, .bool false, .slice none 0 0, .int .u64 0, .int .u64 0, .int .u64 0, .int .u64 0, .int .u64 0, .int .u64 0, .int .u64 0, .int .u64 0, .int .u64 0, .int .u64 0, .int .u64 0, .int .u64 0, .int .u64 0, .bool false, .bool false, .bool false, .int .u64 0, .int .u64 0, .int .u64 0, .int .u64 0, .int .u64 0, .int .u64 0, .int .u64 0, .int .u64 0, .int .u64 0, .int .u64 0, .int .u64 0, .int .u64 0, .int .u64 0, .int .u64 0, .int .u64 0, .bool false, .bool false, .bool false, .bool false, .bool false, .string ⟨#[]⟩, .string ⟨#[]⟩, .string ⟨#[]⟩, .slice none 0 0, .slice none 0 0, .bool false, .slice none 0 0, .slice none 0 0, .slice none 0 0, .slice none 0 0, .slice none 0 0, .slice none 0 0, .slice none 0 0] C hI (by rw [hC.size]; rfl) hC.one
      have h54 : C.size = 54 := hC.size
      have HBK : Hid ((wr.alloc (.cells C 58)).heap[wr.heap.size]? = some (.cells C 58)) := Lib.hid (heap_alloc_new _ _)
      have BA : Hid (Below w.heap.size w (wr.alloc (.cells C 58))) := Lib.hid (bstep BW.out ((Below.refl _ _).alloc (Nat.le_refl _) _))
      have BA1 : Hid (Below w1.heap.size w1 (wr.alloc (.cells C 58))) := Lib.hid (HB.out.alloc HB.out.size _)
      have HCA := Lib.hid (hC.below ((Below.refl wr.heap.size wr).alloc (Nat.le_refl _) (.cells C 58)))
      have HD : Hid (l.drop k = l[k] :: l.drop (k + 1)) := Lib.hid (drop_cons hkl)
      generalize l[k] = x at *
      rw [HD.out] at HR
      rw [provF_cons] at HR
      clear hrange hC hI hkl
      go_wp2_with (first
        | (refine wpList_load_mid rfl 58 _ rfl b (o + k * 54) (by rfl) C.toList _ HRG.out Try.underlying58 rfl HIL.out ?_; rw [Array.toArray_toList])
        | (refine wpList_load_row rfl 58 _ rfl wr.heap.size rfl 58 C (0, 0) _ HBK.out Try.underlying58 rfl HI.out ?_))
      refine (HGO.out C x k _ HCA.out BA.out (by omega)).mono ?_
      rintro e w4 ⟨rfl, hb4⟩
      have B4 := Lib.hid (bstep BA1.out hb4)
      have BW4 := Lib.hid (bstep B1.out B4.out)
      have hC4 := HCA.out.below hb4
      have hbk := (hb4.block _ (lt_of_block HBK.out)).trans HBK.out
      obtain ⟨da, dc, e48, hdr⟩ := hC4.defs
      have c48 : w4.cell? ⟨wr.heap.size, 48, none⟩ = some (.slice da x.defs.length dc) := by rw [cell_of_row _ _ 48 _ _ _ hbk]; exact e48
      have hdl := hC4.dlen
      have HCO := Lib.hid (contains_any da dc x.defs.length x.defs ver vb w4 rfl hdl hdr (HV.out _ B4.out))
      clear hb4 hC4 hbk e48 hdr hsc
      cases hg : goesF x k names file with
      | false =>
        rw [hg, if_neg (by decide)] at HR
        go_wp2_with fail
        go_roundg g
        case measure => omega
        case rel => exact ⟨k + 1, by omega, by go_num, HR, B4⟩
      | true =>
        rw [hg, if_pos rfl] at HR
        obtain ⟨dl, hdl2⟩ : ∃ dl, x.defs.length = dl := ⟨_, rfl⟩
        rw [hdl2] at c48 hdl HCO HR
        by_cases h0 : dl = 0
        · have q1 : ((dl : Int) == 0) = true := by rw [beq_iff_eq]; omega
          have HF : Hid (provF names file ver 0 l = true) := Lib.hid (by rw [← HR.out, decide_eq_true h0]; rfl)
          clear h0 hdl2
          go_wp2_with fail
          go_ret
          exact ⟨by rw [HF.out]; rfl, BW4.out⟩
        · have q1 : ((dl : Int) == 0) = false := by rw [beq_eq_false_iff_ne]; omega
          have HF : Hid (provF names file ver 0 l = hasF x.defs ver) := Lib.hid (by rw [← HR.out, decide_eq_false h0]; rfl)
          clear h0 hdl2
          go_wp2_with fail
          refine HCO.out.mono ?_
          rintro e w5 ⟨rfl, hb5⟩
          have B5 := Lib.hid (bstep BW4.out hb5)
          clear hb5
          go_wp2_with fail
          go_ret
          exact ⟨by rw [HF.out]; rfl, B5.out⟩
end Go.Proofs.Ytbkbghocfnljjaa
