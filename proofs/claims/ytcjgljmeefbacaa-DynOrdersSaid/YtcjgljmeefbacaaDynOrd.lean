/- Layer 5 as mathematics: the entries of a dynamic section tell the same in whatever order. Nothing of the program is named. -/
import Derived.Test.YtcjgljmeefbacaaBase
namespace Go.Proofs.Ytcjgljmeefbacaa
set_option linter.unusedVariables false
set_option linter.unusedSimpArgs false

/-- what some entries tell: the values of tag 1, and those of the others by their tags; none: one that is known stands twice -/
def scanF (kn : Nat → Bool) : List (Nat × Nat) → List Nat → (Nat → Option Nat) → Option (List Nat × (Nat → Option Nat))
  | [], n, m => some (n, m)
  | e :: r, n, m => if e.1 = 1 then scanF kn r (n ++ [e.2]) m else if (m e.1).isSome = true ∧ kn e.1 = true then none else scanF kn r n (fun j => if j = e.1 then some e.2 else m j)
/-- the entries of a tag -/
def ofTag (t : Nat) (l : List (Nat × Nat)) : List (Nat × Nat) := l.filter (fun e => e.1 == t)
theorem ofTag_cons (t : Nat) (e : Nat × Nat) (l : List (Nat × Nat)) : ofTag t (e :: l) = if e.1 = t then e :: ofTag t l else ofTag t l := by
  unfold ofTag
  rw [List.filter_cons]
  by_cases h : e.1 = t
  · rw [if_pos (by simpa using h), if_pos h]
  · rw [if_neg (by simpa using h), if_neg h]
theorem scan_some {kn : Nat → Bool} : ∀ {l : List (Nat × Nat)} {n : List Nat} {m : Nat → Option Nat} {n' : List Nat} {m' : Nat → Option Nat} (h : scanF kn l n m = some (n', m')),
    n'.length = n.length + (ofTag 1 l).length ∧ ∀ t, kn t = true → t ≠ 1 → ((m t).isSome = true → ofTag t l = []) ∧ (ofTag t l).length ≤ 1 ∧ m' t = (match (ofTag t l).head? with | some e => some e.2 | none => m t)
  | [], n, m, n', m', h => by
    simp only [scanF, Option.some.injEq, Prod.mk.injEq] at h
    obtain ⟨rfl, rfl⟩ := h
    exact ⟨rfl, fun t _ _ => ⟨fun _ => rfl, by simp [ofTag], rfl⟩⟩
  | e :: r, n, m, n', m', h => by
    unfold scanF at h
    by_cases h1 : e.1 = 1
    · rw [if_pos h1] at h
      obtain ⟨k1, k2⟩ := scan_some h
      refine ⟨?_, fun t ht ht1 => ?_⟩
      · rw [k1, ofTag_cons, if_pos h1, List.length_append]; simp; omega
      · rw [ofTag_cons, if_neg (by rw [h1]; exact fun e => ht1 e.symm)]
        exact k2 t ht ht1
    · rw [if_neg h1] at h
      by_cases h2 : (m e.1).isSome = true ∧ kn e.1 = true
      · rw [if_pos h2] at h; cases h
      · rw [if_neg h2] at h
        obtain ⟨k1, k2⟩ := scan_some h
        refine ⟨by rw [k1, ofTag_cons, if_neg h1], fun t ht ht1 => ?_⟩
        obtain ⟨j1, j2, j3⟩ := k2 t ht ht1
        by_cases he : e.1 = t
        · have hz : ofTag t r = [] := j1 (by rw [if_pos he.symm]; rfl)
          rw [hz] at j3
          rw [ofTag_cons, if_pos he, hz]
          refine ⟨fun hm => absurd ⟨he ▸ hm, he ▸ ht⟩ h2, by simp, ?_⟩
          rw [j3]
          show (if t = e.1 then some e.2 else m t) = some e.2
          rw [if_pos he.symm]
        · rw [ofTag_cons, if_neg he]
          rw [if_neg (fun h => he h.symm)] at j1 j3
          exact ⟨j1, j2, j3⟩
theorem scan_none {kn : Nat → Bool} : ∀ {l : List (Nat × Nat)} {n : List Nat} {m : Nat → Option Nat} (h : scanF kn l n m = none), ∃ t, kn t = true ∧ t ≠ 1 ∧ ¬ (((m t).isSome = true → ofTag t l = []) ∧ (ofTag t l).length ≤ 1)
  | [], n, m, h => by simp [scanF] at h
  | e :: r, n, m, h => by
    unfold scanF at h
    by_cases h1 : e.1 = 1
    · rw [if_pos h1] at h
      obtain ⟨t, k1, k2, k3⟩ := scan_none h
      exact ⟨t, k1, k2, by rw [ofTag_cons, if_neg (by rw [h1]; exact fun e => k2 e.symm)]; exact k3⟩
    · rw [if_neg h1] at h
      by_cases h2 : (m e.1).isSome = true ∧ kn e.1 = true
      · exact ⟨e.1, h2.2, h1, fun h => by have := h.1 h2.1; rw [ofTag_cons, if_pos rfl] at this; cases this⟩
      · rw [if_neg h2] at h
        obtain ⟨t, k1, k2, k3⟩ := scan_none h
        refine ⟨t, k1, k2, fun hh => k3 ?_⟩
        by_cases he : e.1 = t
        · have h3 := hh.2
          rw [ofTag_cons, if_pos he, List.length_cons] at h3
          have h4 : ofTag t r = [] := List.length_eq_zero_iff.1 (by omega)
          exact ⟨fun _ => h4, by rw [h4]; simp⟩
        · rw [ofTag_cons, if_neg he] at hh
          refine ⟨fun hm => hh.1 ?_, hh.2⟩
          rw [if_neg (fun h => he h.symm)] at hm
          exact hm
theorem ofTag_perm {l l' : List (Nat × Nat)} (h : l.Perm l') (t : Nat) : (ofTag t l).Perm (ofTag t l') := h.filter _
/-- in whatever order the entries stand, they tell the same -/
theorem scan_perm {kn : Nat → Bool} {l l' : List (Nat × Nat)} (h : l.Perm l') :
    (scanF kn l [] (fun _ => none) = none ∧ scanF kn l' [] (fun _ => none) = none) ∨
    ∃ n m n' m', scanF kn l [] (fun _ => none) = some (n, m) ∧ scanF kn l' [] (fun _ => none) = some (n', m') ∧ n.length = n'.length ∧ ∀ t, kn t = true → t ≠ 1 → m t = m' t := by
  have bad : ∀ {a b : List (Nat × Nat)}, a.Perm b → scanF kn a [] (fun _ => none) = none → scanF kn b [] (fun _ => none) = none := fun {a b} hp ha => by
    obtain ⟨t, k1, k2, k3⟩ := scan_none ha
    cases hb : scanF kn b [] (fun _ => none) with
    | none => rfl
    | some x =>
      obtain ⟨n', m'⟩ := x
      obtain ⟨-, j2, -⟩ := (scan_some hb).2 t k1 k2
      exact absurd ⟨(fun h => by simp at h), (by rw [(ofTag_perm hp t).length_eq]; exact j2)⟩ k3
  cases ha : scanF kn l [] (fun _ => none) with
  | none => exact .inl ⟨rfl, bad h ha⟩
  | some x =>
    obtain ⟨n, m⟩ := x
    cases hb : scanF kn l' [] (fun _ => none) with
    | none => rw [bad h.symm hb] at ha; cases ha
    | some y =>
      obtain ⟨n', m'⟩ := y
      refine .inr ⟨n, m, n', m', rfl, rfl, ?_, fun t ht ht1 => ?_⟩
      · rw [(scan_some ha).1, (scan_some hb).1, (ofTag_perm h 1).length_eq]
      · obtain ⟨-, p2, p3⟩ := (scan_some ha).2 t ht ht1
        obtain ⟨-, q2, q3⟩ := (scan_some hb).2 t ht ht1
        rw [p3, q3]
        have hp := ofTag_perm h t
        match ha2 : ofTag t l, hb2 : ofTag t l' with
        | [], [] => rfl
        | [], y :: s => rw [ha2, hb2] at hp; exact absurd hp.length_eq (by simp)
        | x :: r, [] => rw [ha2, hb2] at hp; exact absurd hp.length_eq (by simp)
        | x :: r, y :: s =>
          rw [ha2] at p2
          rw [hb2] at q2
          rw [ha2, hb2] at hp
          have hr : r = [] := List.length_eq_zero_iff.1 (by rw [List.length_cons] at p2; omega)
          have hs : s = [] := List.length_eq_zero_iff.1 (by rw [List.length_cons] at q2; omega)
          subst hr hs
          have : x = y := by
            have := hp.mem_iff (a := x)
            simpa using this
          rw [this]
end Go.Proofs.Ytcjgljmeefbacaa
