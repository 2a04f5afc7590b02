/- Layer 3 as mathematics: what stands at the path of a node that was laid; what paths there are. -/
import Derived.Test.YtcabpidbdnlomaaGreatDoorVfsNewF
import Derived.Test.YtcabpidbdnlomaaGreatDoorRefNew
import Derived.Test.YtcabpidbdnlomaaGreatDoorVfsFolM
namespace Go.Proofs.YtcabpidbdnlomaaGreatDoor
open Go.RowKit
set_option linter.unusedVariables false
set_option linter.unusedSimpArgs false

theorem laid_here {L : List Nd} {es : List Ent} (h : Laid L es) : ∀ i, (h1 : i < es.length) → (h2 : i < L.length) → treeE L es L[i].path = some es[i] ∧ (0 ≤ L[i].kind ∧ L[i].kind ≤ 3) ∧ 1 ≤ L[i].path.size ∧ L[i].path.size ≤ 4096 ∧ cleanF L[i].path = true ∧ L[i].path ≠ slash ∧ (L[i].kind = 0 → es[i].kind = 0) ∧ (L[i].kind = 1 → es[i].kind = 1) ∧ (L[i].kind = 2 → es[i] = ⟨none, 2, L[i].tgt⟩) ∧ (L[i].kind = 3 → es[i].kind = 0 ∧ treeE L es L[i].tgt = some es[i]) := by
  induction h with
  | nil => intro i h1; cases h1
  | snoc es e h hl hc he ih =>
    intro i h1 h2
    obtain ⟨hkk, hn, hf, -, h3⟩ := check_zero hc
    have hin := h.treeIn
    rw [treeE_snoc L es e hl]
    have keep : ∀ q x, treeE L es q = some x → updE (treeE L es) L[es.length].path e q = some x := fun q x hq => by
      rw [updE_other, hq]
      intro hh
      rw [hh, hf] at hq
      cases hq
    by_cases hi : i < es.length
    · obtain ⟨a1, a2, a3, a4, a5, a6, a7, a8, a9, a10⟩ := ih i hi h2
      rw [List.getElem_append_left hi]
      exact ⟨keep _ _ a1, a2, a3, a4, a5, a6, a7, a8, a9, fun q => ⟨(a10 q).1, keep _ _ (a10 q).2⟩⟩
    · have hi0 : i = es.length := by rw [List.length_append, List.length_singleton] at h1; omega
      subst hi0
      have hel : (es ++ [e])[es.length]'h1 = e := by rw [List.getElem_append_right (Nat.le_refl _)]; simp
      rw [hel, updE_same]
      obtain ⟨e0, e1, e2, e3⟩ := he
      have hs := named_size hn
      have hcl : cleanF L[es.length].path = true := by
        unfold namedF at hn
        simp only [Bool.and_eq_true] at hn
        exact hn.1
      refine ⟨rfl, hkk, hs.1, hs.2, hcl, ?_, fun q => (e0 q).1, fun q => by rw [e1 q], e2, fun q => ?_⟩
      · intro hh
        obtain ⟨r, hr, -⟩ := hin.ok.root
        rw [hh, hr] at hf
        cases hf
      · obtain ⟨d, hd, hd0⟩ := h3 q
        have hed : e = d := by rw [e3 q, hd]; rfl
        exact ⟨by rw [hed]; exact hd0, by rw [keep _ _ hd, hed]⟩
/-- the root, and the paths of the nodes: nothing else is there -/
theorem laid_dom {L : List Nd} {es : List Ent} (h : Laid L es) : ∀ p x, treeE L es p = some x → p = slash ∨ ∃ i, ∃ (h1 : i < es.length) (h2 : i < L.length), L[i].path = p := by
  induction h with
  | nil =>
    intro p x hx
    rw [treeE_nil] at hx
    unfold rootF at hx
    by_cases hp : p = slash
    · exact .inl hp
    · rw [updE_other hp] at hx; cases hx
  | snoc es e h hl hc he ih =>
    intro p x hx
    rw [treeE_snoc L es e hl] at hx
    by_cases hp : p = L[es.length].path
    · exact .inr ⟨es.length, by rw [List.length_append]; exact Nat.lt_succ_self _, hl, hp.symm⟩
    · rw [updE_other hp] at hx
      rcases ih p x hx with h1 | ⟨i, h1, h2, h3⟩
      · exact .inl h1
      · exact .inr ⟨i, by rw [List.length_append]; omega, h2, h3⟩
end Go.Proofs.YtcabpidbdnlomaaGreatDoor
/- Layer 3 as mathematics: the document's list of nodes tells what the program's tree tells. -/
namespace Go.Proofs.YtcabpidbdnlomaaGreatDoor
open Go.RowKit
set_option linter.unusedVariables false
set_option linter.unusedSimpArgs false

structure RefIs (L : List Nd) (F : ByteArray → Option Ent) : Prop where
  root : ∃ e, F slash = some e ∧ e.kind = 1
  noroot : ∀ i, (h : i < L.length) → L[i].path ≠ slash
  lack : ∀ p, p ≠ slash → ¬ idxR L p < L.length → F p = none
  here : ∀ p, (h : idxR L p < L.length) → ∃ e, F p = some e ∧ (e.kind = 1 ↔ L[idxR L p].kind = 1) ∧ (e.kind = 2 ↔ L[idxR L p].kind = 2) ∧ (e.kind = 2 → e.to = L[idxR L p].tgt)
theorem idxR_path {L : List Nd} {p : ByteArray} (h : idxR L p < L.length) : L[idxR L p].path = p := by
  unfold idxR at *
  have := List.findIdx_getElem (w := h)
  simpa using this
theorem RefIs.dir {L : List Nd} {F : ByteArray → Option Ent} (h : RefIs L F) (p : ByteArray) : (dirR L p).1 = decide (((F p).getD Ent.zero).kind = 1) := by
  unfold dirR
  by_cases hs : p = slash
  · rw [if_pos hs, hs]
    obtain ⟨e, he, h1⟩ := h.root
    rw [he, Option.getD_some, h1]
    rfl
  · rw [if_neg hs]
    by_cases hi : idxR L p < L.length
    · rw [dif_pos hi]
      obtain ⟨e, he, h1, -⟩ := h.here p hi
      rw [he, Option.getD_some]
      exact decide_eq_decide.2 h1.symm
    · rw [dif_neg hi, h.lack p hs hi]
      rfl
theorem RefIs.lacks {L : List Nd} {F : ByteArray → Option Ent} (h : RefIs L F) {p : ByteArray} (hs : p ≠ slash) (hp : F p = none) : findR L p = -1 := by
  unfold findR
  rw [if_neg]
  intro hi
  obtain ⟨e, he, -⟩ := h.here p hi
  rw [hp] at he
  cases he
theorem RefIs.has {L : List Nd} {F : ByteArray → Option Ent} (h : RefIs L F) {p : ByteArray} {e : Ent} (hs : p ≠ slash) (hp : F p = some e) : ∃ i, ∃ (hi : i < L.length), findR L p = (i : Int) ∧ idxR L p = i ∧ L[i].path = p ∧ (e.kind = 1 ↔ L[i].kind = 1) ∧ (e.kind = 2 ↔ L[i].kind = 2) ∧ (e.kind = 2 → e.to = L[i].tgt) := by
  by_cases hi : idxR L p < L.length
  · obtain ⟨x, hx, h1, h2, h3⟩ := h.here p hi
    rw [hp] at hx
    obtain rfl := Option.some.inj hx
    exact ⟨idxR L p, hi, by unfold findR; rw [if_pos hi], rfl, idxR_path hi, h1, h2, h3⟩
  · rw [h.lack p hs hi] at hp
    cases hp
theorem refIs_laid {L L' : List Nd} {es : List Ent} (h : Laid L es) (he : es.length = L.length) (hl : L'.length = L.length) (ha : ∀ i, (h : i < L'.length) → (h2 : i < L.length) → Alike L'[i] L[i]) : RefIs L' (treeE L es) := by
  have at_ : ∀ i, (h1 : i < L'.length) → ∃ (h2 : i < L.length) (h3 : i < es.length), Alike L'[i] L[i] := fun i h1 => ⟨by omega, by omega, ha i h1 (by omega)⟩
  refine ⟨h.treeIn.ok.root, fun i hi => ?_, fun p hp hi => ?_, fun p hi => ?_⟩
  · obtain ⟨h2, h3, a⟩ := at_ i hi
    rw [a.path]
    exact (laid_here h i h3 h2).2.2.2.2.2.1
  · cases hx : treeE L es p with
    | none => rfl
    | some x =>
      rcases laid_dom h p x hx with h1 | ⟨i, h1, h2, h3⟩
      · exact absurd h1 hp
      · exfalso
        apply hi
        unfold idxR
        rw [List.findIdx_lt_length]
        exact ⟨L'[i]'(by omega), List.getElem_mem _, by rw [decide_eq_true_eq, (ha i (by omega) h2).path]; exact h3⟩
  · have hp := idxR_path hi
    generalize idxR L' p = i at hi hp ⊢
    obtain ⟨h2, h3, a⟩ := at_ i hi
    obtain ⟨b1, b2, -, -, -, -, b0, b3, b4, b5⟩ := laid_here h i h3 h2
    rw [← a.path, hp] at b1
    refine ⟨es[i], b1, ?_⟩
    rw [a.kind, a.tgt]
    rcases (show L[i].kind = 0 ∨ L[i].kind = 1 ∨ L[i].kind = 2 ∨ L[i].kind = 3 by omega) with q | q | q | q
    · have := b0 q; exact ⟨by omega, by omega, fun h => by omega⟩
    · have := b3 q; exact ⟨by omega, by omega, fun h => by omega⟩
    · have := b4 q; rw [this]; exact ⟨by simp [q], by simp [q], fun _ => rfl⟩
    · have := (b5 q).1; exact ⟨by omega, by omega, fun h => by omega⟩
/-- which file's node a node is -/
theorem file_laid {L L' : List Nd} {es : List Ent} (h : Laid L es) (he : es.length = L.length) (hl : L'.length = L.length) (ha : ∀ i, (h : i < L'.length) → (h2 : i < L.length) → Alike L'[i] L[i]) (hH : HardOk L') : ∀ (z i : Nat), i ≤ z → (hi : i < L.length) → es[i].kind = 0 → ∃ k, ∃ (hk : k < L.length), fileR L' (i + 1) i = (k : Int) ∧ L[k].kind = 0 ∧ es[i].sh = es[k].sh
  | z, i, hz, hi, h0 => by
    have hi' : i < L'.length := by omega
    obtain ⟨b1, b2, -, -, -, -, b0, b3, b4, b5⟩ := laid_here h i (by omega) hi
    have a := ha i hi' hi
    rcases (show L[i].kind = 0 ∨ L[i].kind = 1 ∨ L[i].kind = 2 ∨ L[i].kind = 3 by omega) with q | q | q | q
    · refine ⟨i, hi, ?_, q, rfl⟩
      unfold fileR
      rw [dif_pos hi', if_neg (by rw [a.kind, q]; decide), if_pos (by rw [a.kind, q])]
    · rw [b3 q] at h0; cases h0
    · rw [b4 q] at h0; cases h0
    · have hj := hH i hi' (by rw [a.kind, q])
      have hjl : idxR L' L'[i].tgt < L'.length := by omega
      have hp := idxR_path hjl
      obtain ⟨j, hjj⟩ : ∃ j, idxR L' L'[i].tgt = j := ⟨_, rfl⟩
      have hf : fileR L' (i + 1) i = fileR L' (j + 1) j := by
        rw [hjj] at hj
        rw [show fileR L' (i + 1) i = fileR L' i j by rw [fileR, dif_pos hi', if_pos (by rw [a.kind, q]), hjj]]
        exact fileR_fuel hH _ _ _ hj (by omega)
      simp only [hjj] at hj hjl hp
      obtain ⟨c1, -⟩ := laid_here h j (by omega) (by omega)
      rw [← (ha j hjl (by omega)).path, hp, a.tgt, (b5 q).2] at c1
      have hee := Option.some.inj c1
      match z, hz with
      | 0, hz => omega
      | z + 1, hz =>
        obtain ⟨k, hk, k1, k2, k3⟩ := file_laid h he hl ha hH z j (by omega) (by omega) (by rw [← hee]; exact h0)
        exact ⟨k, hk, by rw [hf]; exact k1, k2, by rw [hee]; exact k3⟩
/-- the directory, by the document -/
theorem upGo_parent {s : ByteArray} (h47 : s.get! 0 = 47) : ∀ k, k < s.size → (∀ j, k < j → j < s.size → s.get! j ≠ 47) → upGo s k = parentF s
  | 0, hk, h => by
    unfold upGo parentF
    rcases Lib.lastIndexByte_spec s 47 with ⟨hix, -⟩ | ⟨i, hi, hix, h1, h2⟩
    · rw [hix]
      have : (max 1 (-1 : Int)).toNat = 1 := rfl
      rw [this]
      obtain ⟨⟨l⟩⟩ := s
      cases l with
      | nil => simp [ByteArray.size] at hk
      | cons c l =>
        have hc : c = 47 := h47
        subst hc
        rw [extract_part]
        rfl
    · have hi0 : i = 0 := by
        by_cases hz : i = 0
        · exact hz
        · exfalso
          apply h i (by omega) hi
          exact UInt8.toNat_inj.1 (by
            have h1' : ((s.get! i).toNat : Int) = 47 := h1
            show _ = 47
            omega)
      rw [hix, hi0]
      have : (max 1 ((0 : Nat) : Int)).toNat = 1 := rfl
      rw [this]
      obtain ⟨⟨l⟩⟩ := s
      cases l with
      | nil => simp [ByteArray.size] at hk
      | cons c l =>
        have hc : c = 47 := h47
        subst hc
        rw [extract_part]
        rfl
  | k + 1, hk, h => by
    unfold upGo
    by_cases h7 : s.get! (k + 1) = 47
    · rw [if_pos h7]
      unfold parentF
      rcases Lib.lastIndexByte_spec s 47 with ⟨-, hno⟩ | ⟨i, hi, hix, h1, h2⟩
      · exfalso
        apply hno (k + 1) hk
        show ((s.get! (k + 1)).toNat : Int) = 47
        rw [h7]
        rfl
      · have : i = k + 1 := by
          by_cases hlt : i < k + 1
          · exfalso
            apply h2 (k + 1) hlt hk
            show ((s.get! (k + 1)).toNat : Int) = 47
            rw [h7]
            rfl
          · by_cases hgt : k + 1 < i
            · exfalso
              apply h i hgt hi
              exact UInt8.toNat_inj.1 (by
                have h1' : ((s.get! i).toNat : Int) = 47 := h1
                show _ = 47
                omega)
            · omega
        rw [hix, this]
        have : (max 1 ((k + 1 : Nat) : Int)).toNat = k + 1 := by omega
        rw [this]
    · rw [if_neg h7]
      exact upGo_parent h47 k (by omega) (fun j hj hjs => by
        by_cases e : j = k + 1
        · rw [e]; exact h7
        · exact h j (by omega) hjs)
theorem upR_parent {s : ByteArray} (h1 : 1 ≤ s.size) (h47 : s.get! 0 = 47) : upR s = parentF s := upGo_parent h47 _ (by omega) (fun j hj hjs => by omega)
end Go.Proofs.YtcabpidbdnlomaaGreatDoor
/- Layer 3 as mathematics: the document refuses what the program refuses, with the same number. -/
namespace Go.Proofs.YtcabpidbdnlomaaGreatDoor
open Go.RowKit
set_option linter.unusedVariables false
set_option linter.unusedSimpArgs false

theorem cut_noslash : ∀ (l cur x : List UInt8), x ∈ cutGo slashP cur l → (∀ c ∈ cur, c ≠ 47) → ∀ c ∈ x, c ≠ 47
  | [], cur, x, h, hc => by
    have : x = cur := by simpa [cutGo] using h
    subst this
    exact hc
  | c :: l, cur, x, h, hc => by
    rw [cutGo] at h
    split at h
    · rcases List.mem_cons.1 h with rfl | h
      · exact hc
      · exact cut_noslash l [] x h (fun c hc => by cases hc)
    · rename_i hs
      refine cut_noslash l _ x h (fun d hd => ?_)
      rcases List.mem_append.1 hd with h1 | h1
      · exact hc d h1
      · rw [List.mem_singleton] at h1
        subst h1
        rw [slashP_nat] at hs
        simpa using hs
theorem cleanR_F (s : ByteArray) : cleanR s = cleanF s := by
  unfold cleanR isPathR cleanF
  cases hw : withinF s 4096 with
  | false => simp
  | true =>
    by_cases h47 : s.get! 0 = 47
    · have hsz := within_size hw
      obtain ⟨⟨l⟩⟩ := s
      cases l with
      | nil => simp [ByteArray.size] at hsz
      | cons c l =>
        have hc : c = 47 := h47
        subst hc
        have hrest : restF ⟨(47 :: l).toArray⟩ = mkP l := by
          unfold restF
          rw [extract_part]
          show mkP ((l).take (List.length (47 :: l) - 1)) = _
          rw [List.length_cons, Nat.add_sub_cancel, List.take_length]
        have h1 : partsR ⟨(47 :: l).toArray⟩ = mkP [] :: (cutGo slashP [] l).map mkP := by
          unfold partsR cutF
          show (cutGo slashP [] (47 :: l)).map mkP = _
          rw [cutGo, if_pos (by decide), List.map_cons]
        have h2 : slashF (mkP l) = (cutGo slashP [] l).map mkP := by
          rw [slashF_cut _ _ (Nat.le_refl _)]
          rfl
        rw [hrest, h1, h2, decide_eq_true h47]
        simp only [Bool.true_and, List.drop_succ_cons, List.drop_zero]
        rw [Bool.eq_iff_iff, List.all_eq_true, List.all_eq_true]
        have key : ∀ x ∈ (cutGo slashP [] l).map mkP, nameR x = vnameF x := fun x hx => by
          obtain ⟨y, hy, rfl⟩ := List.mem_map.1 hx
          have hn := cut_noslash l [] y hy (fun c hc => by cases hc)
          unfold nameR
          rw [decide_eq_true, Bool.and_true]
          intro i hi e
          have hi' : i < y.length := hi
          exact hn (y[i]) (List.getElem_mem _) e
        constructor
        · intro h x hx
          rw [← key x hx]
          exact h x hx
        · intro h x hx
          rw [key x hx]
          exact h x hx
    · rw [decide_eq_false h47]
      simp
theorem named_R (n : Nd) : (cleanR n.path && toR n) = namedF n := by
  unfold toR namedF
  rw [cleanR_F, cleanR_F]
theorem zip_take {α β : Type} : ∀ (L : List α) (es : List β) (m : Nat), es.length ≤ m → (L.take m).zip es = L.zip es
  | [], es, m, h => by simp
  | x :: L, [], m, h => by simp
  | x :: L, e :: es, 0, h => by simp at h
  | x :: L, e :: es, m + 1, h => by
    rw [List.take_succ_cons, List.zip_cons_cons, List.zip_cons_cons, zip_take L es m (by simpa using h)]
theorem treeE_take {L : List Nd} {es : List Ent} (m : Nat) (h : es.length ≤ m) : treeE (L.take m) es = treeE L es := by
  unfold treeE
  rw [zip_take L es m h]
theorem laid_take {L : List Nd} {es : List Ent} (h : Laid L es) : ∀ m, es.length ≤ m → Laid (L.take m) es := by
  induction h with
  | nil => intro m _; exact .nil _
  | snoc es e h hl hc he ih =>
    intro m hm
    rw [List.length_append, List.length_singleton] at hm
    have hlm : es.length < (L.take m).length := by rw [List.length_take]; omega
    have hx : (L.take m)[es.length]'hlm = L[es.length] := by rw [List.getElem_take]
    refine .snoc _ es e (ih m (by omega)) hlm ?_ ?_
    · rw [treeE_take m (by omega), hx]; exact hc
    · rw [treeE_take m (by omega), hx]; exact he
/-- the document's number is the program's -/
theorem layR_check {L L' : List Nd} {es : List Ent} (h : Laid L es) (hl : L'.length = es.length) (ha : ∀ i, (h : i < L'.length) → (h2 : i < L.length) → Alike L'[i] L[i]) (hH : HardOk L') (n : Nd) : layR L' n = checkF (treeE L es) n := by
  have hle := h.le
  have ht := laid_take h es.length (Nat.le_refl _)
  have htl : (L.take es.length).length = es.length := by rw [List.length_take]; omega
  have ha' : ∀ i, (h : i < L'.length) → (h2 : i < (L.take es.length).length) → Alike L'[i] (L.take es.length)[i] := fun i h1 h2 => by
    rw [List.getElem_take]
    exact ha i h1 (by omega)
  have his := refIs_laid ht htl.symm (by rw [htl, hl]) ha'
  have hfile := file_laid ht htl.symm (by rw [htl, hl]) ha' hH
  have hhere := laid_here ht
  rw [treeE_take _ (Nat.le_refl _)] at his hhere
  generalize treeE L es = F at *
  unfold layR checkF
  by_cases hk : n.kind < 0 ∨ 3 < n.kind
  · rw [if_pos hk, if_pos hk]
  rw [if_neg hk, if_neg hk, named_R]
  by_cases hn : namedF n = false
  · rw [if_pos hn, if_pos hn]
  rw [if_neg hn, if_neg hn]
  have hcl : cleanF n.path = true := by
    have : namedF n = true := by simpa using hn
    unfold namedF at this
    simp only [Bool.and_eq_true] at this
    exact this.1
  have hsz := clean_size hcl
  have h47 : n.path.get! 0 = 47 := by
    unfold cleanF at hcl
    simp only [Bool.and_eq_true, decide_eq_true_eq] at hcl
    exact hcl.2.1
  have nslash : ∀ s, cleanF s = true → s ≠ slash := fun s hs e => by
    rw [e] at hs
    revert hs
    decide +kernel
  have find_iff : ∀ s, s ≠ slash → (0 ≤ findR L' s ↔ (F s).isSome = true) := fun s hs => by
    cases hx : F s with
    | none =>
      rw [his.lacks hs hx]
      simp
    | some e =>
      obtain ⟨i, hi, hf, -⟩ := his.has hs hx
      rw [hf]
      simp
  have hpath := find_iff n.path (nslash _ hcl)
  by_cases hf : 0 ≤ findR L' n.path
  · rw [if_pos hf, if_pos (hpath.1 hf)]
  rw [if_neg hf, if_neg (fun h => hf (hpath.2 h)), upR_parent hsz.1 h47]
  have hdir2 : ∀ p, (dirR L' p).2 = (F p).isSome := fun p => by
    unfold dirR
    by_cases hs : p = slash
    · rw [if_pos hs, hs]
      obtain ⟨r, hr, -⟩ := his.root
      rw [hr]
      rfl
    · rw [if_neg hs]
      by_cases hi : idxR L' p < L'.length
      · rw [dif_pos hi]
        obtain ⟨e, he, -⟩ := his.here p hi
        rw [he]
        rfl
      · rw [dif_neg hi, his.lack p hs hi]
        rfl
  rw [hdir2, his.dir]
  cases hx : F (parentF n.path) with
  | none =>
    have hm : mustF F (parentF n.path) 1 = 6 := by unfold mustF; rw [hx]
    rw [hm, if_pos (by decide)]
    rfl
  | some d =>
    by_cases hd : d.kind = 1
    · have hm : mustF F (parentF n.path) 1 = 0 := by unfold mustF; rw [hx]; simp only []; rw [if_pos hd]
      rw [hm]
      simp only [Option.isSome_some, Option.getD_some, hd, decide_true, Bool.true_eq_false, if_false, ne_eq, not_true_eq_false]
      by_cases h3 : n.kind = 3
      · rw [if_neg (by simp [h3]), if_pos h3]
        have hct : cleanF n.tgt = true := by
          have : namedF n = true := by simpa using hn
          unfold namedF at this
          simp only [Bool.and_eq_true] at this
          have h2 := this.2
          rw [if_neg (by omega), if_pos h3] at h2
          exact h2
        cases hxt : F n.tgt with
        | none =>
          rw [his.lacks (nslash _ hct) hxt, if_pos (by decide)]
          unfold mustF
          rw [hxt]
        | some e =>
          obtain ⟨i, hi, hfi, hix, hpath2, -⟩ := his.has (nslash _ hct) hxt
          rw [hfi, hix, if_neg (by omega)]
          have hiL : i < (L.take es.length).length := by rw [htl]; omega
          have al := ha' i hi hiL
          obtain ⟨b1, b2, -, -, -, -, b0, b3, b4, b5⟩ := hhere i (by omega) hiL
          rw [← al.path, hpath2, hxt] at b1
          have hee := Option.some.inj b1
          by_cases he0 : e.kind = 0
          · obtain ⟨k, hk2, hf2, -⟩ := hfile i i (Nat.le_refl _) hiL (by rw [← hee]; exact he0)
            rw [hf2, if_neg (by omega)]
            unfold mustF
            rw [hxt]
            simp only []
            rw [if_pos he0]
          · have hkk : L'[i].kind ≠ 0 ∧ L'[i].kind ≠ 3 := by
              rw [al.kind]
              refine ⟨fun q => he0 ?_, fun q => he0 ?_⟩
              · rw [hee]; exact b0 q
              · rw [hee]; exact (b5 q).1
            have hf2 : fileR L' (i + 1) i = -1 := by
              unfold fileR
              rw [dif_pos hi, if_neg hkk.2, if_neg hkk.1]
            rw [hf2, if_pos (by decide)]
            unfold mustF
            rw [hxt]
            simp only []
            rw [if_neg he0]
      · rw [if_pos h3, if_neg h3]
    · have hm : mustF F (parentF n.path) 1 = 16 := by unfold mustF; rw [hx]; simp only []; rw [if_neg hd]
      rw [hm]
      simp [hd]
end Go.Proofs.YtcabpidbdnlomaaGreatDoor
