/- Layer 8, VersMade: what is read of tables that were laid (plain functions). -/
import Derived.Test.YtikpkblemegggaaMadeTab
import Derived.Test.YtikpkblemegggaaVersRead
namespace Go.Proofs.Ytikpkblemegggaa
open Go.RowKit
set_option linter.unusedVariables false
set_option linter.unusedSimpArgs false

/-- the whole file as one PtLoad -/
def PM (L : Nat) : List PT := [⟨1, 0, 0, 4096, L, 0, 0⟩]
theorem sliceM {b X Y Z : List Nat} (h : b = X ++ (Y ++ Z)) {L : Nat} (hL : b.length = L) {o : Nat} (ho : X.length = o) {n : Nat} (hn : Y.length = n) (hs : L < 1099511627776) : sliceF b (PM L) (4096 + o) n = (Y, 0) := by
  have hlen : L = o + (n + Z.length) := by rw [← hL, h, List.length_append, List.length_append, ho, hn]
  rw [sliceF_yes (o := o) (by
    unfold PM
    rw [offF, if_pos (show PT.hit ⟨1, 0, 0, 4096, L, 0, 0⟩ (4096 + o) n from ⟨rfl, by show 4096 ≤ 4096 + o; omega, by show 4096 + o - 4096 ≤ L; omega, by show n ≤ L - (4096 + o - 4096); omega⟩), if_pos (by show 0 + (4096 + o - 4096) < 18446744073709551616; omega)]
    show (0 + (4096 + o - 4096), 0) = (o, 0)
    rw [show 0 + (4096 + o - 4096) = o by omega]) (by omega) (by omega), h, ← ho, List.drop_left, ← hn, List.take_left]
theorem itemM {b X Y Z : List Nat} (h : b = X ++ (Y ++ Z)) {L : Nat} (hL : b.length = L) {o : Nat} (ho : X.length = o) {n : Nat} (hn : Y.length = n) (hs : L < 1099511627776) {fr step : Nat} (hf : fr + step = 4096 + o) : itemF b (PM L) fr step n = (Y, 4096 + o, 0) := by
  have hlen : L = o + (n + Z.length) := by rw [← hL, h, List.length_append, List.length_append, ho, hn]
  rw [itemF_in (by omega), hf, sliceM h hL ho hn hs]

/-- things of one size, one behind the other -/
def tabE (E : Nat → List Nat) (k : Nat) : List Nat := ((List.range k).map E).flatten
theorem tabE_zero (E : Nat → List Nat) : tabE E 0 = [] := rfl
theorem tabE_succ (E : Nat → List Nat) (k : Nat) : tabE E (k + 1) = tabE E k ++ E k := by simp [tabE, List.range_succ]
theorem tabE_length {E : Nat → List Nat} {c : Nat} (h : ∀ i, (E i).length = c) (k : Nat) : (tabE E k).length = c * k := by
  induction k with
  | zero => rfl
  | succ k ih => rw [tabE_succ, List.length_append, ih, h, Nat.mul_succ]
theorem tabE_split (E : Nat → List Nat) {i n : Nat} (h : i < n) : ∃ R, tabE E n = tabE E i ++ (E i ++ R) := by
  obtain ⟨d, rfl⟩ : ∃ d, n = i + 1 + d := ⟨n - (i + 1), by omega⟩
  induction d with
  | zero => exact ⟨[], by simp [tabE_succ]⟩
  | succ d ih =>
    obtain ⟨R, hR⟩ := ih (by omega)
    exact ⟨R ++ E (i + 1 + d), by rw [show i + 1 + (d + 1) = (i + 1 + d) + 1 by omega, tabE_succ, hR]; simp⟩

/-- a definition as it is laid -/
def defE (at_ : Nat → Nat) (sy : Nat → Nat) (n i : Nat) : List Nat :=
  (digs 1 2 ++ digs 0 2 ++ digs (i + 1) 2 ++ digs 1 2 ++ digs (sy i) 4 ++ digs 20 4 ++ digs (if i = n - 1 then 0 else 28) 4) ++ (digs (at_ (1 + i)) 4 ++ digs 0 4)
theorem defE_length (at_ sy : Nat → Nat) (n i : Nat) : (defE at_ sy n i).length = 28 := by simp [defE, digs_length]
/-- the head of what is needed, as it is laid -/
def headE (at_ : Nat → Nat) (m : Nat) : List Nat := digs 1 2 ++ digs m 2 ++ digs (at_ 0) 4 ++ digs 16 4 ++ digs 0 4
theorem headE_length (at_ : Nat → Nat) (m : Nat) : (headE at_ m).length = 16 := by simp [headE, digs_length]
/-- a version that is needed, as it is laid -/
def auxE (at_ : Nat → Nat) (sy : Nat → Nat) (n first m i : Nat) : List Nat :=
  digs (sy i) 4 ++ digs 0 2 ++ digs (first + i) 2 ++ digs (at_ (1 + n + i)) 4 ++ digs (if i = m - 1 then 0 else 16) 4
theorem auxE_length (at_ sy : Nat → Nat) (n first m i : Nat) : (auxE at_ sy n first m i).length = 16 := by simp [auxE, digs_length]

theorem num2 {v : Nat} (h : v < 65536) : numOf (digs v 2) = v := digs_num 2 v h
theorem num4 {v : Nat} (h : v < 4294967296) : numOf (digs v 4) = v := digs_num 4 v h

/-- what is told of the first k definitions -/
def defT (k : Nat) : List Nat := (List.range k).map (· + 1)
theorem defT_succ (k : Nat) : defT (k + 1) = defT k ++ [k + 1] := by simp [defT, List.range_succ]
theorem defT_mem (k x : Nat) : x ∈ defT k ↔ 1 ≤ x ∧ x ≤ k := by
  unfold defT
  rw [List.mem_map]
  constructor
  · rintro ⟨y, hy, rfl⟩
    have := List.mem_range.1 hy
    omega
  · rintro ⟨h1, h2⟩
    exact ⟨x - 1, List.mem_range.2 (by omega), by omega⟩
def defL (nm : Nat → ByteArray) (k : Nat) : List DefD := (List.range k).map fun j => ⟨j + 1, false, nm j, []⟩
theorem defL_succ (nm : Nat → ByteArray) (k : Nat) : defL nm (k + 1) = defL nm k ++ [⟨k + 1, false, nm k, []⟩] := by simp [defL, List.range_succ]

section
variable {b ss : List Nat} {L : Nat} {at_ sy : Nat → Nat} {nm : Nat → ByteArray} {n : Nat}
theorem defM (hL : b.length = L) (hs : L < 1099511627776) {X Z : List Nat} {o : Nat} {i : Nat} (hb : b = X ++ (defE at_ sy n i ++ Z)) (ho : X.length = o) (hi : i < 20) (hat : at_ (1 + i) < 4294967296) (hsy : sy i < 4294967296) (hsn : sysOf (nm i).data.toList = sy i) (ht : textF ss (at_ (1 + i)) = (nm i, 0)) :
    itemF b (PM L) 0 0 0 = itemF b (PM L) 0 0 0 ∧ (∀ fr step, fr + step = 4096 + o → itemF b (PM L) fr step 20 = ((defE at_ sy n i).take 20, 4096 + o, 0)) ∧
    defF b (PM L) ss (defT i) ((defE at_ sy n i).take 20) (4096 + o) = (defT i ++ [i + 1], ⟨i + 1, false, nm i, []⟩, 0) := by
  have e20 : (defE at_ sy n i).take 20 = digs 1 2 ++ digs 0 2 ++ digs (i + 1) 2 ++ digs 1 2 ++ digs (sy i) 4 ++ digs 20 4 ++ digs (if i = n - 1 then 0 else 28) 4 := by
    unfold defE
    exact List.take_left' (by simp [digs_length])
  refine ⟨rfl, ?_, ?_⟩
  · intro fr step hf
    have hsplit : b = X ++ ((defE at_ sy n i).take 20 ++ ((defE at_ sy n i).drop 20 ++ Z)) := by rw [hb, ← List.append_assoc (List.take _ _), List.take_append_drop]
    exact itemM hsplit hL ho (by rw [List.length_take, defE_length]; rfl) hs hf
  · have e8 : (defE at_ sy n i).drop 20 = digs (at_ (1 + i)) 4 ++ digs 0 4 := by
      unfold defE
      exact List.drop_left' (by simp [digs_length])
    have hitem : itemF b (PM L) (4096 + o) 20 8 = (digs (at_ (1 + i)) 4 ++ digs 0 4, 4096 + (o + 20), 0) := by
      refine itemM (X := X ++ (defE at_ sy n i).take 20) (Z := Z) ?_ hL ?_ (by simp [digs_length]) hs (by omega)
      · rw [hb, ← e8, List.append_assoc X, ← List.append_assoc (List.take _ _), List.take_append_drop]
      · rw [List.length_append, ho, List.length_take, defE_length]; rfl
    have hchain : chainV (nameStep ss) b (PM L) 8 1 (4096 + o) 20 [] = ([nm i], 0) := by
      rw [chainV_on (s' := [nm i]) hitem (by
        unfold nameStep
        rw [show (digs (at_ (1 + i)) 4 ++ digs 0 4).take 4 = digs (at_ (1 + i)) 4 from List.take_left' (by simp [digs_length]), num4 hat, ht]
        rfl) (by omega)]
      rfl
    rw [e20]
    have q1 : (digs 1 2 ++ digs 0 2 ++ digs (i + 1) 2 ++ digs 1 2 ++ digs (sy i) 4 ++ digs 20 4 ++ digs (if i = n - 1 then 0 else 28) 4).take 2 = digs 1 2 := rfl
    have q2 : ((digs 1 2 ++ digs 0 2 ++ digs (i + 1) 2 ++ digs 1 2 ++ digs (sy i) 4 ++ digs 20 4 ++ digs (if i = n - 1 then 0 else 28) 4).drop 4).take 2 = digs (i + 1) 2 := rfl
    have q3 : ((digs 1 2 ++ digs 0 2 ++ digs (i + 1) 2 ++ digs 1 2 ++ digs (sy i) 4 ++ digs 20 4 ++ digs (if i = n - 1 then 0 else 28) 4).drop 6).take 2 = digs 1 2 := rfl
    have q4 : ((digs 1 2 ++ digs 0 2 ++ digs (i + 1) 2 ++ digs 1 2 ++ digs (sy i) 4 ++ digs 20 4 ++ digs (if i = n - 1 then 0 else 28) 4).drop 12).take 4 = digs 20 4 := rfl
    have q5 : ((digs 1 2 ++ digs 0 2 ++ digs (i + 1) 2 ++ digs 1 2 ++ digs (sy i) 4 ++ digs 20 4 ++ digs (if i = n - 1 then 0 else 28) 4).drop 8).take 4 = digs (sy i) 4 := rfl
    have q6 : ((digs 1 2 ++ digs 0 2 ++ digs (i + 1) 2 ++ digs 1 2 ++ digs (sy i) 4 ++ digs 20 4 ++ digs (if i = n - 1 then 0 else 28) 4).drop 2).take 2 = digs 0 2 := rfl
    unfold defF
    rw [q1, q2, q3, q4, q5, q6, num2 (show 1 < 65536 by decide), num2 (show i + 1 < 65536 by omega), num2 (show 0 < 65536 by decide), num4 (show 20 < 4294967296 by decide), num4 hsy, hchain, Nat.mod_eq_of_lt (show i + 1 < 32768 by omega),
      if_neg (by omega), if_neg (by rw [defT_mem]; omega), if_neg (by omega), if_neg (by simp), if_neg (by simp only [List.getD_cons_zero]; rw [hsn]; simp)]
    rfl
theorem defsM (hL : b.length = L) (hs : L < 1099511627776) {Z : List Nat} (hb : b = tabE (defE at_ sy n) n ++ Z) (hn : n ≤ 20) (hat : ∀ i, i < n → at_ (1 + i) < 4294967296) (hsy : ∀ i, i < n → sy i < 4294967296) (hsn : ∀ i, i < n → sysOf (nm i).data.toList = sy i) (ht : ∀ i, i < n → textF ss (at_ (1 + i)) = (nm i, 0)) :
    ∀ (g i fr step : Nat), i + g = n → (0 < g → fr + step = 4096 + 28 * i) → chainV (defStep b (PM L) ss) b (PM L) 20 g fr step (defT i, defL nm i) = ((defT n, defL nm n), 0)
  | 0, i, fr, step, hg, _ => by
    obtain rfl : i = n := by omega
    rfl
  | g + 1, i, fr, step, hg, hf => by
    have hi : i < n := by omega
    obtain ⟨R, hR⟩ := tabE_split (defE at_ sy n) hi
    obtain ⟨-, h1, h2⟩ := defM (nm := nm) (ss := ss) (n := n) (i := i) (Z := R ++ Z) hL hs (by rw [hb, hR]; simp) (tabE_length (defE_length at_ sy n) i) (by omega) (hat i hi) (hsy i hi) (hsn i hi) (ht i hi)
    have hnx : numOf (((defE at_ sy n i).take 20).drop (20 - 4)) = if i = n - 1 then 0 else 28 := by
      have : ((defE at_ sy n i).take 20).drop 16 = digs (if i = n - 1 then 0 else 28) 4 := rfl
      rw [show 20 - 4 = 16 from rfl, this, num4 (by split <;> decide)]
    rw [chainV_on (s' := (defT (i + 1), defL nm (i + 1))) (h1 fr step (hf (by omega))) (by
      unfold defStep
      simp only
      rw [h2, defT_succ, defL_succ]) (by rw [hnx]; split <;> omega), hnx]
    exact defsM hL hs hb hn hat hsy hsn ht g (i + 1) _ _ (by omega) (fun hg0 => by rw [if_neg (by omega)]; omega)
end
end Go.Proofs.Ytikpkblemegggaa
