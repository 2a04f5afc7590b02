/- Layer 3 as mathematics: what stands at the path of a node that was laid; what paths there are. -/
import Derived.Test.YtppeapafnnanbaaDoorVfsNewF
import Derived.Test.YtppeapafnnanbaaDoorRefNew
namespace Go.Proofs.YtppeapafnnanbaaDoor
open Go.RowKit
set_option linter.unusedVariables false
set_option linter.unusedSimpArgs false

theorem laid_here {L : List Nd} {es : List Ent} (h : Laid L es) : ∀ i, (h1 : i < es.length) → (h2 : i < L.length) → treeE L es L[i].path = some es[i] ∧ (0 ≤ L[i].kind ∧ L[i].kind ≤ 3) ∧ 1 ≤ L[i].path.size ∧ L[i].path.size ≤ 4096 ∧ cleanF L[i].path = true ∧ L[i].path ≠ slash ∧ (L[i].kind = 0 → es[i].kind = 0) ∧ (L[i].kind = 1 → es[i].kind = 1) ∧ (L[i].kind = 2 → es[i] = ⟨none, 2, L[i].tgt⟩) ∧ (L[i].kind = 3 → es[i].kind = 0 ∧ treeE L es L[i].tgt = some es[i]) := by
  induction h with
  | nil => intro i h1; cases h1
  | snoc es e h hl hc he ih =>
    intro i h1 h2
    obtain ⟨hkk, hn, hf, -, h3⟩ := check_zero hc
    have hin := h.treeIn
    rw [treeE_snoc L es e hl]
    have keep : ∀ q x, treeE L es q = some x → updE (treeE L es) L[es.length].path e q = some x := fun q x hq => by
      rw [updE_other, hq]
      intro hh
      rw [hh, hf] at hq
      cases hq
    by_cases hi : i < es.length
    · obtain ⟨a1, a2, a3, a4, a5, a6, a7, a8, a9, a10⟩ := ih i hi h2
      rw [List.getElem_append_left hi]
      exact ⟨keep _ _ a1, a2, a3, a4, a5, a6, a7, a8, a9, fun q => ⟨(a10 q).1, keep _ _ (a10 q).2⟩⟩
    · have hi0 : i = es.length := by rw [List.length_append, List.length_singleton] at h1; omega
      subst hi0
      have hel : (es ++ [e])[es.length]'h1 = e := by rw [List.getElem_append_right (Nat.le_refl _)]; simp
      rw [hel, updE_same]
      obtain ⟨e0, e1, e2, e3⟩ := he
      have hs := named_size hn
      have hcl : cleanF L[es.length].path = true := by
        unfold namedF at hn
        simp only [Bool.and_eq_true] at hn
        exact hn.1
      refine ⟨rfl, hkk, hs.1, hs.2, hcl, ?_, fun q => (e0 q).1, fun q => by rw [e1 q], e2, fun q => ?_⟩
      · intro hh
        obtain ⟨r, hr, -⟩ := hin.ok.root
        rw [hh, hr] at hf
        cases hf
      · obtain ⟨d, hd, hd0⟩ := h3 q
        have hed : e = d := by rw [e3 q, hd]; rfl
        exact ⟨by rw [hed]; exact hd0, by rw [keep _ _ hd, hed]⟩
/-- the root, and the paths of the nodes: nothing else is there -/
theorem laid_dom {L : List Nd} {es : List Ent} (h : Laid L es) : ∀ p x, treeE L es p = some x → p = slash ∨ ∃ i, ∃ (h1 : i < es.length) (h2 : i < L.length), L[i].path = p := by
  induction h with
  | nil =>
    intro p x hx
    rw [treeE_nil] at hx
    unfold rootF at hx
    by_cases hp : p = slash
    · exact .inl hp
    · rw [updE_other hp] at hx; cases hx
  | snoc es e h hl hc he ih =>
    intro p x hx
    rw [treeE_snoc L es e hl] at hx
    by_cases hp : p = L[es.length].path
    · exact .inr ⟨es.length, by rw [List.length_append]; exact Nat.lt_succ_self _, hl, hp.symm⟩
    · rw [updE_other hp] at hx
      rcases ih p x hx with h1 | ⟨i, h1, h2, h3⟩
      · exact .inl h1
      · exact .inr ⟨i, by rw [List.length_append]; omega, h2, h3⟩
end Go.Proofs.YtppeapafnnanbaaDoor
/- Layer 3 as mathematics: the document's list of nodes tells what the program's tree tells. -/
namespace Go.Proofs.YtppeapafnnanbaaDoor
open Go.RowKit
set_option linter.unusedVariables false
set_option linter.unusedSimpArgs false

structure RefIs (L : List Nd) (F : ByteArray → Option Ent) : Prop where
  root : ∃ e, F slash = some e ∧ e.kind = 1
  noroot : ∀ i, (h : i < L.length) → L[i].path ≠ slash
  lack : ∀ p, p ≠ slash → ¬ idxR L p < L.length → F p = none
  here : ∀ p, (h : idxR L p < L.length) → ∃ e, F p = some e ∧ (e.kind = 1 ↔ L[idxR L p].kind = 1) ∧ (e.kind = 2 ↔ L[idxR L p].kind = 2) ∧ (e.kind = 2 → e.to = L[idxR L p].tgt)
theorem idxR_path {L : List Nd} {p : ByteArray} (h : idxR L p < L.length) : L[idxR L p].path = p := by
  unfold idxR at *
  have := List.findIdx_getElem (w := h)
  simpa using this
theorem RefIs.dir {L : List Nd} {F : ByteArray → Option Ent} (h : RefIs L F) (p : ByteArray) : (dirR L p).1 = decide (((F p).getD Ent.zero).kind = 1) := by
  unfold dirR
  by_cases hs : p = slash
  · rw [if_pos hs, hs]
    obtain ⟨e, he, h1⟩ := h.root
    rw [he, Option.getD_some, h1]
    rfl
  · rw [if_neg hs]
    by_cases hi : idxR L p < L.length
    · rw [dif_pos hi]
      obtain ⟨e, he, h1, -⟩ := h.here p hi
      rw [he, Option.getD_some]
      exact decide_eq_decide.2 h1.symm
    · rw [dif_neg hi, h.lack p hs hi]
      rfl
theorem RefIs.lacks {L : List Nd} {F : ByteArray → Option Ent} (h : RefIs L F) {p : ByteArray} (hs : p ≠ slash) (hp : F p = none) : findR L p = -1 := by
  unfold findR
  rw [if_neg]
  intro hi
  obtain ⟨e, he, -⟩ := h.here p hi
  rw [hp] at he
  cases he
theorem RefIs.has {L : List Nd} {F : ByteArray → Option Ent} (h : RefIs L F) {p : ByteArray} {e : Ent} (hs : p ≠ slash) (hp : F p = some e) : ∃ i, ∃ (hi : i < L.length), findR L p = (i : Int) ∧ idxR L p = i ∧ L[i].path = p ∧ (e.kind = 1 ↔ L[i].kind = 1) ∧ (e.kind = 2 ↔ L[i].kind = 2) ∧ (e.kind = 2 → e.to = L[i].tgt) := by
  by_cases hi : idxR L p < L.length
  · obtain ⟨x, hx, h1, h2, h3⟩ := h.here p hi
    rw [hp] at hx
    obtain rfl := Option.some.inj hx
    exact ⟨idxR L p, hi, by unfold findR; rw [if_pos hi], rfl, idxR_path hi, h1, h2, h3⟩
  · rw [h.lack p hs hi] at hp
    cases hp
theorem refIs_laid {L L' : List Nd} {es : List Ent} (h : Laid L es) (he : es.length = L.length) (hl : L'.length = L.length) (ha : ∀ i, (h : i < L'.length) → (h2 : i < L.length) → Alike L'[i] L[i]) : RefIs L' (treeE L es) := by
  have at_ : ∀ i, (h1 : i < L'.length) → ∃ (h2 : i < L.length) (h3 : i < es.length), Alike L'[i] L[i] := fun i h1 => ⟨by omega, by omega, ha i h1 (by omega)⟩
  refine ⟨h.treeIn.ok.root, fun i hi => ?_, fun p hp hi => ?_, fun p hi => ?_⟩
  · obtain ⟨h2, h3, a⟩ := at_ i hi
    rw [a.path]
    exact (laid_here h i h3 h2).2.2.2.2.2.1
  · cases hx : treeE L es p with
    | none => rfl
    | some x =>
      rcases laid_dom h p x hx with h1 | ⟨i, h1, h2, h3⟩
      · exact absurd h1 hp
      · exfalso
        apply hi
        unfold idxR
        rw [List.findIdx_lt_length]
        exact ⟨L'[i]'(by omega), List.getElem_mem _, by rw [decide_eq_true_eq, (ha i (by omega) h2).path]; exact h3⟩
  · have hp := idxR_path hi
    generalize idxR L' p = i at hi hp ⊢
    obtain ⟨h2, h3, a⟩ := at_ i hi
    obtain ⟨b1, b2, -, -, -, -, b0, b3, b4, b5⟩ := laid_here h i h3 h2
    rw [← a.path, hp] at b1
    refine ⟨es[i], b1, ?_⟩
    rw [a.kind, a.tgt]
    rcases (show L[i].kind = 0 ∨ L[i].kind = 1 ∨ L[i].kind = 2 ∨ L[i].kind = 3 by omega) with q | q | q | q
    · have := b0 q; exact ⟨by omega, by omega, fun h => by omega⟩
    · have := b3 q; exact ⟨by omega, by omega, fun h => by omega⟩
    · have := b4 q; rw [this]; exact ⟨by simp [q], by simp [q], fun _ => rfl⟩
    · have := (b5 q).1; exact ⟨by omega, by omega, fun h => by omega⟩
/-- which file's node a node is -/
theorem file_laid {L L' : List Nd} {es : List Ent} (h : Laid L es) (he : es.length = L.length) (hl : L'.length = L.length) (ha : ∀ i, (h : i < L'.length) → (h2 : i < L.length) → Alike L'[i] L[i]) (hH : HardOk L') : ∀ (z i : Nat), i ≤ z → (hi : i < L.length) → es[i].kind = 0 → ∃ k, ∃ (hk : k < L.length), fileR L' (i + 1) i = (k : Int) ∧ L[k].kind = 0 ∧ es[i].sh = es[k].sh
  | z, i, hz, hi, h0 => by
    have hi' : i < L'.length := by omega
    obtain ⟨b1, b2, -, -, -, -, b0, b3, b4, b5⟩ := laid_here h i (by omega) hi
    have a := ha i hi' hi
    rcases (show L[i].kind = 0 ∨ L[i].kind = 1 ∨ L[i].kind = 2 ∨ L[i].kind = 3 by omega) with q | q | q | q
    · refine ⟨i, hi, ?_, q, rfl⟩
      unfold fileR
      rw [dif_pos hi', if_neg (by rw [a.kind, q]; decide), if_pos (by rw [a.kind, q])]
    · rw [b3 q] at h0; cases h0
    · rw [b4 q] at h0; cases h0
    · have hj := hH i hi' (by rw [a.kind, q])
      have hjl : idxR L' L'[i].tgt < L'.length := by omega
      have hp := idxR_path hjl
      obtain ⟨j, hjj⟩ : ∃ j, idxR L' L'[i].tgt = j := ⟨_, rfl⟩
      have hf : fileR L' (i + 1) i = fileR L' (j + 1) j := by
        rw [hjj] at hj
        rw [show fileR L' (i + 1) i = fileR L' i j by rw [fileR, dif_pos hi', if_pos (by rw [a.kind, q]), hjj]]
        exact fileR_fuel hH _ _ _ hj (by omega)
      simp only [hjj] at hj hjl hp
      obtain ⟨c1, -⟩ := laid_here h j (by omega) (by omega)
      rw [← (ha j hjl (by omega)).path, hp, a.tgt, (b5 q).2] at c1
      have hee := Option.some.inj c1
      match z, hz with
      | 0, hz => omega
      | z + 1, hz =>
        obtain ⟨k, hk, k1, k2, k3⟩ := file_laid h he hl ha hH z j (by omega) (by omega) (by rw [← hee]; exact h0)
        exact ⟨k, hk, by rw [hf]; exact k1, k2, by rw [hee]; exact k3⟩
/-- the directory, by the document -/
theorem upGo_parent {s : ByteArray} (h47 : s.get! 0 = 47) : ∀ k, k < s.size → (∀ j, k < j → j < s.size → s.get! j ≠ 47) → upGo s k = parentF s
  | 0, hk, h => by
    unfold upGo parentF
    rcases Lib.lastIndexByte_spec s 47 with ⟨hix, -⟩ | ⟨i, hi, hix, h1, h2⟩
    · rw [hix]
      have : (max 1 (-1 : Int)).toNat = 1 := rfl
      rw [this]
      obtain ⟨⟨l⟩⟩ := s
      cases l with
      | nil => simp [ByteArray.size] at hk
      | cons c l =>
        have hc : c = 47 := h47
        subst hc
        rw [extract_part]
        rfl
    · have hi0 : i = 0 := by
        by_cases hz : i = 0
        · exact hz
        · exfalso
          apply h i (by omega) hi
          exact UInt8.toNat_inj.1 (by
            have h1' : ((s.get! i).toNat : Int) = 47 := h1
            show _ = 47
            omega)
      rw [hix, hi0]
      have : (max 1 ((0 : Nat) : Int)).toNat = 1 := rfl
      rw [this]
      obtain ⟨⟨l⟩⟩ := s
      cases l with
      | nil => simp [ByteArray.size] at hk
      | cons c l =>
        have hc : c = 47 := h47
        subst hc
        rw [extract_part]
        rfl
  | k + 1, hk, h => by
    unfold upGo
    by_cases h7 : s.get! (k + 1) = 47
    · rw [if_pos h7]
      unfold parentF
      rcases Lib.lastIndexByte_spec s 47 with ⟨-, hno⟩ | ⟨i, hi, hix, h1, h2⟩
      · exfalso
        apply hno (k + 1) hk
        show ((s.get! (k + 1)).toNat : Int) = 47
        rw [h7]
        rfl
      · have : i = k + 1 := by
          by_cases hlt : i < k + 1
          · exfalso
            apply h2 (k + 1) hlt hk
            show ((s.get! (k + 1)).toNat : Int) = 47
            rw [h7]
            rfl
          · by_cases hgt : k + 1 < i
            · exfalso
              apply h i hgt hi
              exact UInt8.toNat_inj.1 (by
                have h1' : ((s.get! i).toNat : Int) = 47 := h1
                show _ = 47
                omega)
            · omega
        rw [hix, this]
        have : (max 1 ((k + 1 : Nat) : Int)).toNat = k + 1 := by omega
        rw [this]
    · rw [if_neg h7]
      exact upGo_parent h47 k (by omega) (fun j hj hjs => by
        by_cases e : j = k + 1
        · rw [e]; exact h7
        · exact h j (by omega) hjs)
theorem upR_parent {s : ByteArray} (h1 : 1 ≤ s.size) (h47 : s.get! 0 = 47) : upR s = parentF s := upGo_parent h47 _ (by omega) (fun j hj hjs => by omega)
end Go.Proofs.YtppeapafnnanbaaDoor
