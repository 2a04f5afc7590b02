/- Layer 15 as mathematics: whether an object can be mapped, where its pages lie. -/
import Derived.Test.YtjiifaeehhpkcaaDynNum
namespace Go.Proofs.Ytjiifaeehhpkcaa
set_option linter.unusedVariables false
set_option linter.unusedSimpArgs false

def downF (a : Nat) : Nat := a / 4096 * 4096
def kindF (k : Nat) (ps : List PT) : List PT := ps.filter (fun p => p.ty == k)
def hasPages (p : PT) : Bool := decide (0 < p.memsz)
def pagedF (ps : List PT) : List PT := ps.filter hasPages
def endF (p : PT) : Nat := downF (p.vaddr + p.memsz + 4095)
/-- within the addresses that there are -/
def PT.low (p : PT) : Prop := p.vaddr < 140737488355328 ∧ p.memsz ≤ 140737488355328 - p.vaddr
def segF (n e : Nat) (p : PT) : Nat :=
  if p.memsz < p.filesz then 3 else if n < p.off ∨ n - p.off < p.filesz then 4 else if 140737488355328 ≤ p.vaddr ∨ 140737488355328 - p.vaddr < p.memsz then 4
  else if p.vaddr % 4096 ≠ p.off % 4096 then 9 else if 0 < p.memsz ∧ p.vaddr < e then 3 else 0
def nextE (e : Nat) (p : PT) : Nat := if 0 < p.memsz then endF p else e
def walkF (n : Nat) : Nat → List PT → Nat
  | _, [] => 0
  | e, p :: r => if segF n e p ≠ 0 then segF n e p else walkF n (nextE e p) r
def holdsF (s p : PT) : Bool := decide (downF p.vaddr ≤ s.vaddr ∧ s.vaddr ≤ endF p ∧ s.memsz ≤ endF p - s.vaddr)
def heldF (pg : List PT) (s : PT) : Bool := pg.any (holdsF s)
def headP (l : List PT) : PT := l.getD 0 PT.zero
def lastP (l : List PT) : PT := l.getD (l.length - 1) PT.zero
def beginF (l : List PT) : Nat := downF (headP l).vaddr
def spanN (l : List PT) : Nat := (endF (lastP l) - beginF l) / 4096
def placeF (ty : Int) (n : Nat) (ps : List PT) : Nat :=
  if (ty ≠ 2 ∧ ty ≠ 3) ∨ pagedF (kindF 1 ps) = [] then 3
  else if walkF n 0 (kindF 1 ps) ≠ 0 then walkF n 0 (kindF 1 ps)
  else if ty = 2 ∧ beginF (pagedF (kindF 1 ps)) < 4096 then 4
  else if 1 < (kindF 1685382482 ps).length ∨ 1 < (kindF 7 ps).length then 3
  else if (kindF 1685382482 ps).all (heldF (pagedF (kindF 1 ps))) then 0 else 3
def relroF (ty : Int) (n : Nat) (ps : List PT) : Nat × Nat :=
  if kindF 1685382482 ps = [] ∨ placeF ty n ps ≠ 0 then (0, 0)
  else if ((headP (kindF 1685382482 ps)).vaddr + (headP (kindF 1685382482 ps)).memsz - downF (headP (kindF 1685382482 ps)).vaddr) / 4096 = 0 then (0, 0)
  else (downF (headP (kindF 1685382482 ps)).vaddr, ((headP (kindF 1685382482 ps)).vaddr + (headP (kindF 1685382482 ps)).memsz - downF (headP (kindF 1685382482 ps)).vaddr) / 4096)

theorem segF_lt (n e : Nat) (p : PT) : segF n e p < 10 := by
  unfold segF
  repeat' split
  all_goals omega
theorem walkF_lt (n : Nat) : ∀ (l : List PT) (e : Nat), walkF n e l < 10
  | [], _ => by simp [walkF]
  | p :: r, e => by
    unfold walkF
    split
    · exact segF_lt n e p
    · exact walkF_lt n r _
theorem placeF_lt (ty : Int) (n : Nat) (ps : List PT) : placeF ty n ps < 10 := by
  unfold placeF
  repeat' split
  all_goals first | omega | exact walkF_lt _ _ _
theorem segF_zero {n e : Nat} {p : PT} (h : segF n e p = 0) : p.filesz ≤ p.memsz ∧ p.off ≤ n ∧ p.filesz ≤ n - p.off ∧ p.low ∧ p.vaddr % 4096 = p.off % 4096 ∧ (0 < p.memsz → e ≤ p.vaddr) := by
  unfold segF at h
  by_cases h1 : p.memsz < p.filesz
  · rw [if_pos h1] at h; cases h
  rw [if_neg h1] at h
  by_cases h2 : n < p.off ∨ n - p.off < p.filesz
  · rw [if_pos h2] at h; cases h
  rw [if_neg h2] at h
  by_cases h3 : 140737488355328 ≤ p.vaddr ∨ 140737488355328 - p.vaddr < p.memsz
  · rw [if_pos h3] at h; cases h
  rw [if_neg h3] at h
  by_cases h4 : p.vaddr % 4096 ≠ p.off % 4096
  · rw [if_pos h4] at h; cases h
  rw [if_neg h4] at h
  by_cases h5 : 0 < p.memsz ∧ p.vaddr < e
  · rw [if_pos h5] at h; cases h
  unfold PT.low
  omega
theorem walkF_zero {n : Nat} : ∀ {l : List PT} {e : Nat} (h : walkF n e l = 0) (p : PT) (hp : p ∈ l), ∃ e', segF n e' p = 0
  | [], _, _, p, hp => by cases hp
  | q :: r, e, h, p, hp => by
    unfold walkF at h
    by_cases h1 : segF n e q = 0
    · rw [if_neg (by simpa using h1)] at h
      rcases List.mem_cons.1 hp with rfl | hp
      · exact ⟨e, h1⟩
      · exact walkF_zero h p hp
    · rw [if_pos h1] at h
      exact absurd h h1
theorem walkF_low {n e : Nat} {l : List PT} (h : walkF n e l = 0) (p : PT) (hp : p ∈ l) : p.low := by
  obtain ⟨e', h1⟩ := walkF_zero h p hp
  exact (segF_zero h1).2.2.2.1
theorem end_low {p : PT} (h : p.low) : endF p ≤ 140737488355328 := by
  unfold PT.low at h; unfold endF downF; omega
theorem end_above {p : PT} (h : 0 < p.memsz) : p.vaddr < endF p := by unfold endF downF; omega
theorem walkF_above {n : Nat} : ∀ {l : List PT} {e : Nat} (h : walkF n e l = 0) (p : PT) (hp : p ∈ l) (hm : 0 < p.memsz), e ≤ p.vaddr
  | [], _, _, p, hp, _ => by cases hp
  | q :: r, e, h, p, hp, hm => by
    unfold walkF at h
    by_cases h1 : segF n e q = 0
    · rw [if_neg (by simpa using h1)] at h
      have h2 := (segF_zero h1).2.2.2.2.2
      rcases List.mem_cons.1 hp with rfl | hp
      · exact h2 hm
      · have h3 := walkF_above h p hp hm
        unfold nextE at h3
        split at h3
        · rename_i h4
          have := end_above h4
          have := h2 h4
          omega
        · exact h3
    · rw [if_pos h1] at h
      exact absurd h h1
/-- one behind another -/
theorem walkF_apart {n : Nat} : ∀ {l : List PT} {e : Nat} (h : walkF n e l = 0), (pagedF l).Pairwise (fun p q => endF p ≤ q.vaddr)
  | [], _, _ => List.Pairwise.nil
  | q :: r, e, h => by
    unfold walkF at h
    by_cases h1 : segF n e q = 0
    · rw [if_neg (by simpa using h1)] at h
      have ih := walkF_apart h
      unfold pagedF at ih ⊢
      rw [List.filter_cons]
      split
      · rename_i hq
        refine List.Pairwise.cons (fun p hp => ?_) ih
        rw [List.mem_filter] at hp
        have h2 := walkF_above h p hp.1 (by simpa [hasPages] using hp.2)
        unfold nextE at h2
        rw [if_pos (by simpa [hasPages] using hq)] at h2
        exact h2
      · exact ih
    · rw [if_pos h1] at h
      exact absurd h h1
theorem mem_paged {l : List PT} {p : PT} (h : p ∈ pagedF l) : p ∈ l ∧ 0 < p.memsz := by
  unfold pagedF at h
  rw [List.mem_filter] at h
  exact ⟨h.1, by simpa [hasPages] using h.2⟩
theorem mem_kind {l : List PT} {k : Nat} {p : PT} (h : p ∈ kindF k l) : p ∈ l ∧ p.ty = k := by
  unfold kindF at h
  rw [List.mem_filter] at h
  exact ⟨h.1, by simpa using h.2⟩
theorem headP_mem {l : List PT} (h : l ≠ []) : headP l ∈ l := by
  cases l with
  | nil => exact absurd rfl h
  | cons p r => exact List.mem_cons_self
theorem lastP_mem {l : List PT} (h : l ≠ []) : lastP l ∈ l := by
  have hl : 0 < l.length := List.length_pos_iff.2 h
  have : lastP l = l[l.length - 1] := by unfold lastP; simp [List.getD, List.getElem?_eq_getElem (show l.length - 1 < l.length by omega)]
  rw [this]; exact List.getElem_mem _
theorem apart_span {l : List PT} (h : l.Pairwise (fun p q => endF p ≤ q.vaddr)) (hm : ∀ p ∈ l, 0 < p.memsz) (hne : l ≠ []) : beginF l + 4096 ≤ endF (lastP l) := by
  cases l with
  | nil => exact absurd rfl hne
  | cons p r =>
    cases r with
    | nil => 
      have := hm p (by simp)
      show downF p.vaddr + 4096 ≤ endF p
      unfold endF downF; omega
    | cons q r =>
      have h1 := List.rel_of_pairwise_cons h (a' := lastP (p :: q :: r)) (by
        have : lastP (p :: q :: r) = (q :: r)[r.length] := by unfold lastP; simp [List.getD]
        rw [this]; exact List.getElem_mem _)
      have h2 := hm p (by simp)
      have h3 := hm _ (lastP_mem (l := p :: q :: r) (by simp))
      have h4 := end_above h3
      show downF p.vaddr + 4096 ≤ _
      have h5 : endF (lastP (p :: q :: r)) % 4096 = 0 := by unfold endF downF; omega
      have h6 : endF p % 4096 = 0 := by unfold endF downF; omega
      have h7 : downF p.vaddr + 4096 ≤ endF p := by unfold endF downF; omega
      omega

/-- what is so when an object can be mapped -/
structure Placed (ty : Int) (n : Nat) (ps : List PT) : Prop where
  kinds : ty = 2 ∨ ty = 3
  some : pagedF (kindF 1 ps) ≠ []
  walk : walkF n 0 (kindF 1 ps) = 0
  first : ty = 2 → 4096 ≤ beginF (pagedF (kindF 1 ps))
  one : (kindF 1685382482 ps).length ≤ 1
  held : ∀ s ∈ kindF 1685382482 ps, heldF (pagedF (kindF 1 ps)) s = true
theorem placed_of {ty : Int} {n : Nat} {ps : List PT} (h : placeF ty n ps = 0) : Placed ty n ps := by
  unfold placeF at h
  by_cases h1 : (ty ≠ 2 ∧ ty ≠ 3) ∨ pagedF (kindF 1 ps) = []
  · rw [if_pos h1] at h; cases h
  rw [if_neg h1] at h
  by_cases h2 : walkF n 0 (kindF 1 ps) = 0
  · rw [if_neg (by simpa using h2)] at h
    by_cases h3 : ty = 2 ∧ beginF (pagedF (kindF 1 ps)) < 4096
    · rw [if_pos h3] at h; cases h
    rw [if_neg h3] at h
    by_cases h4 : 1 < (kindF 1685382482 ps).length ∨ 1 < (kindF 7 ps).length
    · rw [if_pos h4] at h; cases h
    rw [if_neg h4] at h
    by_cases h5 : (kindF 1685382482 ps).all (heldF (pagedF (kindF 1 ps))) = true
    · exact ⟨by omega, fun e => h1 (.inr e), h2, fun e => by
        have : ¬ beginF (pagedF (kindF 1 ps)) < 4096 := fun h' => h3 ⟨e, h'⟩
        omega, by omega, fun s hs => List.all_eq_true.1 h5 s hs⟩
    · rw [if_neg h5] at h; cases h
  · rw [if_pos h2] at h
    exact absurd h h2
theorem Placed.low {ty : Int} {n : Nat} {ps : List PT} (h : Placed ty n ps) {p : PT} (hp : p ∈ kindF 1 ps) : p.low := walkF_low h.walk p hp
theorem Placed.span {ty : Int} {n : Nat} {ps : List PT} (h : Placed ty n ps) : beginF (pagedF (kindF 1 ps)) + 4096 ≤ endF (lastP (pagedF (kindF 1 ps))) ∧ endF (lastP (pagedF (kindF 1 ps))) ≤ 140737488355328 :=
  ⟨apart_span (walkF_apart h.walk) (fun p hp => (mem_paged hp).2) h.some, end_low (h.low (mem_paged (lastP_mem h.some)).1)⟩
theorem Placed.count {ty : Int} {n : Nat} {ps : List PT} (h : Placed ty n ps) : 1 ≤ spanN (pagedF (kindF 1 ps)) ∧ spanN (pagedF (kindF 1 ps)) ≤ 34359738368 := by
  have := h.span
  unfold spanN
  omega
theorem Placed.sealed {ty : Int} {n : Nat} {ps : List PT} (h : Placed ty n ps) {s : PT} (hs : s ∈ kindF 1685382482 ps) : s.vaddr + s.memsz ≤ 140737488355328 := by
  have h1 := h.held s hs
  unfold heldF at h1
  obtain ⟨p, hp, h2⟩ := List.any_eq_true.1 h1
  unfold holdsF at h2
  have h3 := of_decide_eq_true h2
  have h4 := end_low (h.low (mem_paged hp).1)
  omega
end Go.Proofs.Ytjiifaeehhpkcaa
