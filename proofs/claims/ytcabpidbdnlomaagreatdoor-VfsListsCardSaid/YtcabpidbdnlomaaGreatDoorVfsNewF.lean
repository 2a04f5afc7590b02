/- Layer 3 as mathematics: the tree of some nodes: what is laid, node by node; what holds of every tree. -/
import Derived.Test.YtcabpidbdnlomaaGreatDoorVfsCheck
namespace Go.Proofs.YtcabpidbdnlomaaGreatDoor
open Go.RowKit
set_option linter.unusedVariables false
set_option linter.unusedSimpArgs false

/-- the root alone -/
noncomputable def rootF : ByteArray → Option Ent := updE (fun _ => none) slash ⟨none, 1, ⟨#[]⟩⟩
/-- the tree of nodes and of what they leave -/
noncomputable def foldE : List (ByteArray × Ent) → (ByteArray → Option Ent) → ByteArray → Option Ent
  | [], F => F
  | p :: l, F => foldE l (updE F p.1 p.2)
theorem foldE_snoc : ∀ (l : List (ByteArray × Ent)) (F : ByteArray → Option Ent) (p : ByteArray × Ent), foldE (l ++ [p]) F = updE (foldE l F) p.1 p.2
  | [], F, p => rfl
  | q :: l, F, p => foldE_snoc l (updE F q.1 q.2) p
/-- what a node leaves -/
def Leaves (F : ByteArray → Option Ent) (n : Nd) (e : Ent) : Prop :=
  (n.kind = 0 → e.kind = 0 ∧ e.sh.isSome = true ∧ e.to = ⟨#[]⟩) ∧ (n.kind = 1 → e = ⟨none, 1, ⟨#[]⟩⟩) ∧ (n.kind = 2 → e = ⟨none, 2, n.tgt⟩) ∧ (n.kind = 3 → e = (F n.tgt).getD Ent.zero)
noncomputable def treeE (L : List Nd) (es : List Ent) : ByteArray → Option Ent := foldE ((L.zip es).map fun p => (p.1.path, p.2)) rootF
theorem treeE_nil (L : List Nd) : treeE L [] = rootF := by unfold treeE; rw [List.zip_nil_right]; rfl
theorem treeE_snoc (L : List Nd) (es : List Ent) (e : Ent) (h : es.length < L.length) : treeE L (es ++ [e]) = updE (treeE L es) L[es.length].path e := by
  unfold treeE
  have h1 : L.zip (es ++ [e]) = L.zip es ++ [(L[es.length], e)] := by
    have h2 : L = L.take es.length ++ L[es.length] :: L.drop (es.length + 1) := by
      rw [List.getElem_cons_drop, List.take_append_drop]
    have h3 : (L.take es.length).length = es.length := by rw [List.length_take]; omega
    have e1 : ∀ (x : Nd) (R : List Nd) (A : List Nd), A.length = es.length → (A ++ x :: R).zip (es ++ [e]) = (A ++ x :: R).zip es ++ [(x, e)] := by
      intro x R A hA
      rw [List.zip_append hA]
      have : (A ++ x :: R).zip es = A.zip es := by
        have := List.zip_append (l₁ := A) (r₁ := x :: R) (l₂ := es) (r₂ := []) hA
        rw [List.append_nil, List.zip_nil_right, List.append_nil] at this
        exact this
      rw [this]
      simp
    have := e1 L[es.length] (L.drop (es.length + 1)) (L.take es.length) h3
    rw [← h2] at this
    exact this
  rw [h1, List.map_append, List.map_cons, List.map_nil, foldE_snoc]
/-- so many nodes were laid -/
inductive Laid : List Nd → List Ent → Prop
  | nil (L : List Nd) : Laid L []
  | snoc (L : List Nd) (es : List Ent) (e : Ent) (h : Laid L es) (hl : es.length < L.length) (hc : checkF (treeE L es) L[es.length] = 0) (he : Leaves (treeE L es) L[es.length] e) : Laid L (es ++ [e])
theorem Laid.le {L : List Nd} {es : List Ent} (h : Laid L es) : es.length ≤ L.length := by
  cases h with
  | nil => exact Nat.zero_le _
  | snoc es e h hl hc he => rw [List.length_append]; exact hl
/-- what holds of every tree -/
structure TreeIn (F : ByteArray → Option Ent) : Prop where
  ok : TreeOk F
  kinds : ∀ k e, F k = some e → e.kind = 0 ∨ e.kind = 1 ∨ e.kind = 2
  up : ∀ k e, F k = some e → k ≠ slash → ∃ d, F (parentF k) = some d ∧ d.kind = 1
  cln : ∀ k e, F k = some e → k ≠ slash → cleanF k = true
  shared : ∀ k e, F k = some e → e.kind = 0 → e.sh.isSome = true
theorem check_zero {F : ByteArray → Option Ent} {n : Nd} (h : checkF F n = 0) : (0 ≤ n.kind ∧ n.kind ≤ 3) ∧ namedF n = true ∧ F n.path = none ∧ (∃ d, F (parentF n.path) = some d ∧ d.kind = 1) ∧ (n.kind = 3 → ∃ d, F n.tgt = some d ∧ d.kind = 0) := by
  unfold checkF at h
  split at h
  · omega
  · rename_i hk
    split at h
    · omega
    · rename_i hn
      split at h
      · omega
      · rename_i hf
        have must0 : ∀ p k, mustF F p k = 0 → ∃ d, F p = some d ∧ d.kind = k := by
          intro p k h
          unfold mustF at h
          split at h
          · omega
          · rename_i e he
            split at h
            · rename_i hh
              exact ⟨e, he, hh⟩
            · omega
        split at h
        · omega
        · rename_i hm
          have hm0 : mustF F (parentF n.path) 1 = 0 := by omega
          refine ⟨by omega, by simpa using hn, by simpa using hf, must0 _ _ hm0, fun h3 => ?_⟩
          rw [if_pos h3] at h
          exact must0 _ _ h
theorem root_in : TreeIn rootF := by
  have hr : ∀ k e, rootF k = some e → k = slash ∧ e = ⟨none, 1, ⟨#[]⟩⟩ := by
    intro k e h
    unfold rootF at h
    by_cases hk : k = slash
    · subst hk
      rw [updE_same] at h
      exact ⟨rfl, (Option.some.inj h).symm⟩
    · rw [updE_other hk] at h
      cases h
  refine ⟨⟨⟨_, updE_same _ _ _, rfl⟩, ?_, ?_⟩, ?_, ?_, ?_, ?_⟩
  · intro k e h
    obtain ⟨rfl, rfl⟩ := hr k e h
    rw [slash_one]
    omega
  · intro k e h h2
    obtain ⟨rfl, rfl⟩ := hr k e h
    cases h2
  · intro k e h
    obtain ⟨rfl, rfl⟩ := hr k e h
    exact .inr (.inl rfl)
  · intro k e h hk
    exact absurd (hr k e h).1 hk
  · intro k e h hk
    exact absurd (hr k e h).1 hk
  · intro k e h h0
    obtain ⟨rfl, rfl⟩ := hr k e h
    cases h0
theorem clean_size {s : ByteArray} (h : cleanF s = true) : 1 ≤ s.size ∧ s.size ≤ 4096 := by
  unfold cleanF at h
  simp only [Bool.and_eq_true] at h
  exact within_size h.1
theorem TreeIn.put {F : ByteArray → Option Ent} (h : TreeIn F) {n : Nd} {e : Ent} (hc : checkF F n = 0) (he : Leaves F n e) : TreeIn (updE F n.path e) := by
  obtain ⟨hk, hn, hf, ⟨d, hd, hd1⟩, h3⟩ := check_zero hc
  obtain ⟨e0, e1, e2, e3⟩ := he
  have hs : n.path ≠ slash := by
    intro hh
    obtain ⟨r, hr, -⟩ := h.ok.root
    rw [hh, hr] at hf
    cases hf
  have hcl : cleanF n.path = true := by
    unfold namedF at hn
    simp only [Bool.and_eq_true] at hn
    exact hn.1
  have hne : ∀ k x, F k = some x → k ≠ n.path := by
    intro k x hx hh
    rw [hh, hf] at hx
    cases hx
  have hkind : e.kind = 0 ∨ e.kind = 1 ∨ e.kind = 2 := by
    rcases (show n.kind = 0 ∨ n.kind = 1 ∨ n.kind = 2 ∨ n.kind = 3 by omega) with q | q | q | q
    · exact .inl (e0 q).1
    · rw [e1 q]; exact .inr (.inl rfl)
    · rw [e2 q]; exact .inr (.inr rfl)
    · obtain ⟨x, hx, hx0⟩ := h3 q
      rw [e3 q, hx]
      exact .inl hx0
  have hsh : e.kind = 0 → e.sh.isSome = true := by
    intro hz
    rcases (show n.kind = 0 ∨ n.kind = 1 ∨ n.kind = 2 ∨ n.kind = 3 by omega) with q | q | q | q
    · exact (e0 q).2.1
    · rw [e1 q] at hz; cases hz
    · rw [e2 q] at hz; cases hz
    · obtain ⟨x, hx, hx0⟩ := h3 q
      rw [e3 q, hx]
      exact h.shared _ _ hx hx0
  have hlk : e.kind = 2 → 1 ≤ e.to.size ∧ e.to.size ≤ 4096 := by
    intro hz
    rcases (show n.kind = 0 ∨ n.kind = 1 ∨ n.kind = 2 ∨ n.kind = 3 by omega) with q | q | q | q
    · rw [(e0 q).1] at hz; omega
    · rw [e1 q] at hz; cases hz
    · rw [e2 q]
      unfold namedF at hn
      rw [if_pos q, Bool.and_eq_true] at hn
      exact within_size hn.2
    · obtain ⟨x, hx, hx0⟩ := h3 q
      rw [e3 q, hx] at hz
      simp only [Option.getD_some] at hz
      omega
  have cases' : ∀ k x, updE F n.path e k = some x → (k = n.path ∧ x = e) ∨ (k ≠ n.path ∧ F k = some x) := by
    intro k x hx
    by_cases hh : k = n.path
    · rw [hh, updE_same] at hx
      exact .inl ⟨hh, (Option.some.inj hx).symm⟩
    · rw [updE_other hh] at hx
      exact .inr ⟨hh, hx⟩
  refine ⟨⟨?_, ?_, ?_⟩, ?_, ?_, ?_, ?_⟩
  · obtain ⟨r, hr, hr1⟩ := h.ok.root
    exact ⟨r, (updE_other (fun hh => hs hh.symm)).trans hr, hr1⟩
  · intro k x hx
    rcases cases' k x hx with ⟨rfl, rfl⟩ | ⟨-, h'⟩
    · exact clean_size hcl
    · exact h.ok.keys k x h'
  · intro k x hx h2
    rcases cases' k x hx with ⟨rfl, rfl⟩ | ⟨-, h'⟩
    · exact hlk h2
    · exact h.ok.links k x h' h2
  · intro k x hx
    rcases cases' k x hx with ⟨rfl, rfl⟩ | ⟨-, h'⟩
    · exact hkind
    · exact h.kinds k x h'
  · intro k x hx hks
    rcases cases' k x hx with ⟨rfl, rfl⟩ | ⟨-, h'⟩
    · exact ⟨d, (updE_other (hne _ _ hd)).trans hd, hd1⟩
    · obtain ⟨d', hd', h1⟩ := h.up k x h' hks
      exact ⟨d', (updE_other (hne _ _ hd')).trans hd', h1⟩
  · intro k x hx hks
    rcases cases' k x hx with ⟨rfl, rfl⟩ | ⟨-, h'⟩
    · exact hcl
    · exact h.cln k x h' hks
  · intro k x hx h0
    rcases cases' k x hx with ⟨rfl, rfl⟩ | ⟨-, h'⟩
    · exact hsh h0
    · exact h.shared k x h' h0
theorem Laid.treeIn {L : List Nd} {es : List Ent} (h : Laid L es) : TreeIn (treeE L es) := by
  induction h with
  | nil => rw [treeE_nil]; exact root_in
  | snoc es e h hl hc he ih => rw [treeE_snoc L es e hl]; exact ih.put hc he
/-- what is shared is that of a file's node -/
theorem Laid.shared {L : List Nd} {es : List Ent} (h : Laid L es) : ∀ k x, treeE L es k = some x → x.kind = 0 → ∃ i, ∃ (h1 : i < es.length) (h2 : i < L.length), L[i].kind = 0 ∧ es[i].sh = x.sh := by
  induction h with
  | nil =>
    intro k x hx h0
    rw [treeE_nil] at hx
    unfold rootF at hx
    by_cases hk : k = slash
    · rw [hk, updE_same] at hx
      obtain rfl := Option.some.inj hx
      cases h0
    · rw [updE_other hk] at hx
      cases hx
  | snoc es e h hl hc he ih =>
    intro k x hx h0
    have lift : (∃ i, ∃ (h1 : i < es.length) (h2 : i < L.length), L[i].kind = 0 ∧ es[i].sh = x.sh) → ∃ i, ∃ (h1 : i < (es ++ [e]).length) (h2 : i < L.length), L[i].kind = 0 ∧ (es ++ [e])[i].sh = x.sh := by
      rintro ⟨i, h1, h2, h3, h4⟩
      exact ⟨i, by rw [List.length_append]; omega, h2, h3, by rw [List.getElem_append_left h1]; exact h4⟩
    rw [treeE_snoc L es e hl] at hx
    by_cases hk : k = L[es.length].path
    · rw [hk, updE_same] at hx
      obtain rfl := Option.some.inj hx
      obtain ⟨hkk, hn, hf, -, h3⟩ := check_zero hc
      obtain ⟨e0, e1, e2, e3⟩ := he
      rcases (show L[es.length].kind = 0 ∨ L[es.length].kind = 1 ∨ L[es.length].kind = 2 ∨ L[es.length].kind = 3 by omega) with q | q | q | q
      · exact ⟨es.length, by rw [List.length_append]; exact Nat.lt_succ_self _, hl, q, by rw [List.getElem_append_right (Nat.le_refl _)]; simp⟩
      · rw [e1 q] at h0; cases h0
      · rw [e2 q] at h0; cases h0
      · obtain ⟨y, hy, hy0⟩ := h3 q
        have hey := e3 q
        rw [hy] at hey
        simp only [Option.getD_some] at hey
        subst hey
        exact lift (ih _ _ hy hy0)
    · rw [updE_other hk] at hx
      exact lift (ih k x hx h0)
end Go.Proofs.YtcabpidbdnlomaaGreatDoor
