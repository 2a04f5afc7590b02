/- Layer 3 as mathematics: what the paths of the nodes tell; what a path without links tells. -/
import Derived.Test.YtpblgbegdfdgdaaDoorVfsSelf
import Derived.Test.YtpblgbegdfdgdaaDoorVfsShownM
namespace Go.Proofs.YtpblgbegdfdgdaaDoor
open Go.RowKit
set_option linter.unusedVariables false
set_option linter.unusedSimpArgs false

/-- what stands at the path of a node -/
theorem laid_at {L : List Nd} {es : List Ent} (h : Laid L es) : ∀ i, (h1 : i < es.length) → (h2 : i < L.length) → treeE L es L[i].path = some es[i] ∧ (0 ≤ L[i].kind ∧ L[i].kind ≤ 3) ∧ L[i].path.size ≤ 4096 ∧ (L[i].kind = 0 → es[i].kind = 0) ∧ (L[i].kind = 1 → es[i].kind = 1) ∧ (L[i].kind = 3 → es[i].kind = 0) := by
  induction h with
  | nil => intro i h1; cases h1
  | snoc es e h hl hc he ih =>
    intro i h1 h2
    obtain ⟨hkk, hn, hf, -, h3⟩ := check_zero hc
    rw [treeE_snoc L es e hl]
    by_cases hi : i < es.length
    · obtain ⟨a1, a2⟩ := ih i hi h2
      rw [List.getElem_append_left hi]
      refine ⟨?_, a2⟩
      rw [updE_other, a1]
      intro hh
      rw [hh, hf] at a1
      cases a1
    · have hi0 : i = es.length := by rw [List.length_append, List.length_singleton] at h1; omega
      subst hi0
      have hel : (es ++ [e])[es.length]'h1 = e := by rw [List.getElem_append_right (Nat.le_refl _)]; simp
      rw [hel, updE_same]
      obtain ⟨e0, e1, e2, e3⟩ := he
      refine ⟨rfl, hkk, (named_size hn).2, fun q => (e0 q).1, fun q => by rw [e1 q], fun q => ?_⟩
      obtain ⟨d, hd, hd0⟩ := h3 q
      rw [e3 q, hd]
      exact hd0
/-- the file at a node's path -/
theorem node_open {w : World} {B : Nat} {L : List Nd} {es : List Ent} {D : Nat → List Nat} (hl : Laid L es) (he : es.length = L.length) (hs : ShL w B L es D) {i : Nat} (hi : i < L.length) :
    (0 ≤ L[i].kind ∧ L[i].kind ≤ 3) ∧ L[i].path.size ≤ 4096 ∧ (L[i].kind = 0 → openF (treeE L es) (sharesIn w D) L[i].path = .ok (L[i].path, (i : Int), L[i].su, D i)) ∧ (L[i].kind = 1 → openF (treeE L es) (sharesIn w D) L[i].path = .error 16) ∧ (L[i].kind = 3 → ∃ v, openF (treeE L es) (sharesIn w D) L[i].path = .ok v) := by
  have h1 : i < es.length := by omega
  obtain ⟨a1, a2, a3, a4, a5, a6⟩ := laid_at hl i h1 hi
  refine ⟨a2, a3, fun q => ?_, fun q => ?_, fun q => ?_⟩
  · obtain ⟨sb, b1, b2⟩ := sharesIn_of hs h1 hi q
    unfold openF
    rw [folF_self hl.treeIn a1 (by rw [a4 q]; decide)]
    simp only []
    rw [a1, Option.getD_some, if_neg (by rw [a4 q]; decide), b1, Option.getD_some, b2]
  · unfold openF
    rw [folF_self hl.treeIn a1 (by rw [a5 q]; decide)]
    simp only []
    rw [a1, Option.getD_some, if_pos (a5 q)]
  · refine ⟨(L[i].path, sharesIn w D (((treeE L es L[i].path).getD Ent.zero).sh.getD 0)), ?_⟩
    unfold openF
    rw [folF_self hl.treeIn a1 (by rw [a6 q]; decide)]
    simp only []
    rw [if_neg (by rw [a1, Option.getD_some, a6 q]; decide)]
/-- where a path ends, the path leads to itself; and the same file is opened -/
theorem real_self {F : ByteArray → Option Ent} (hF : TreeIn F) (S : Shares) {path p : ByteArray} (h : folF F path = .ok p) : folF F p = .ok p ∧ p.size ≤ 1048576 ∧ openF F S p = openF F S path ∧ (openF F S path = .error 16 ∨ ∃ i su bs, openF F S path = .ok (p, i, su, bs)) := by
  obtain ⟨x, hx, hk⟩ := folF_end hF h
  have hs : folF F p = .ok p := folF_self hF hx (by omega)
  refine ⟨hs, (by have := (hF.ok.keys _ _ hx); omega), ?_, ?_⟩
  · unfold openF
    rw [hs, h]
  · unfold openF
    rw [h]
    simp only []
    rw [hx, Option.getD_some]
    split
    · exact .inl rfl
    · obtain ⟨i, su, bs⟩ := S (x.sh.getD 0)
      exact .inr ⟨i, su, bs, rfl⟩
end Go.Proofs.YtpblgbegdfdgdaaDoor
