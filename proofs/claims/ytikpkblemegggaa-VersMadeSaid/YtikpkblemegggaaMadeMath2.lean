/- Layer 8, VersMade: what is read of tables that were laid: needs, words, all of it (plain functions). -/
import Derived.Test.YtikpkblemegggaaMadeMath
namespace Go.Proofs.Ytikpkblemegggaa
open Go.RowKit
set_option linter.unusedVariables false
set_option linter.unusedSimpArgs false

def auxT (told : List Nat) (first k : Nat) : List Nat := told ++ (List.range k).map (first + ·)
theorem auxT_succ (told : List Nat) (first k : Nat) : auxT told first (k + 1) = auxT told first k ++ [first + k] := by simp [auxT, List.range_succ]
def auxL (nm : Nat → ByteArray) (first k : Nat) : List AuxD := (List.range k).map fun j => ⟨first + j, false, nm j⟩
theorem auxL_succ (nm : Nat → ByteArray) (first k : Nat) : auxL nm first (k + 1) = auxL nm first k ++ [⟨first + k, false, nm k⟩] := by simp [auxL, List.range_succ]
theorem auxT_not (n first k : Nat) (h : n < first) : first + k ∉ auxT (defT n) first k := by
  unfold auxT
  rw [List.mem_append, defT_mem, List.mem_map]
  rintro (h1 | ⟨y, hy, he⟩)
  · omega
  · have := List.mem_range.1 hy
    omega

section
variable {b ss : List Nat} {L : Nat} {at_ sy : Nat → Nat} {nm : Nat → ByteArray} {n first m : Nat}
theorem auxM {i : Nat} (hi : i < 20) (hf2 : 2 ≤ first) (hf : first ≤ 21) (hn : n < first) (hat : at_ (1 + n + i) < 4294967296) (hsy : sy i < 4294967296) (hsn : sysOf (nm i).data.toList = sy i) (ht : textF ss (at_ (1 + n + i)) = (nm i, 0)) :
    auxF ss (auxT (defT n) first i) (auxE at_ sy n first m i) = (auxT (defT n) first i ++ [first + i], ⟨first + i, false, nm i⟩, 0) := by
  have q1 : (auxE at_ sy n first m i).take 4 = digs (sy i) 4 := rfl
  have q2 : ((auxE at_ sy n first m i).drop 8).take 4 = digs (at_ (1 + n + i)) 4 := rfl
  have q3 : ((auxE at_ sy n first m i).drop 6).take 2 = digs (first + i) 2 := rfl
  have q4 : ((auxE at_ sy n first m i).drop 4).take 2 = digs 0 2 := rfl
  unfold auxF
  rw [q1, q2, q3, q4, num4 hat, num4 hsy, num2 (show first + i < 65536 by omega), num2 (show 0 < 65536 by decide), ht, Nat.mod_eq_of_lt (show first + i < 32768 by omega)]
  rw [if_neg (by simp), if_neg (by simp only [hsn]; omega), if_neg (auxT_not n first i hn)]
  rfl
theorem auxsM (hL : b.length = L) (hs : L < 1099511627776) {X Z : List Nat} {o : Nat} (hb : b = X ++ (tabE (auxE at_ sy n first m) m ++ Z)) (ho : X.length = o) (hm : m ≤ 20) (hf2 : 2 ≤ first) (hf : first ≤ 21) (hn : n < first) (hat : ∀ i, i < m → at_ (1 + n + i) < 4294967296) (hsy : ∀ i, i < m → sy i < 4294967296) (hsn : ∀ i, i < m → sysOf (nm i).data.toList = sy i) (ht : ∀ i, i < m → textF ss (at_ (1 + n + i)) = (nm i, 0)) :
    ∀ (g i fr step : Nat), i + g = m → (0 < g → fr + step = 4096 + (o + 16 * i)) → chainV (auxStep ss) b (PM L) 16 g fr step (auxT (defT n) first i, auxL nm first i) = ((auxT (defT n) first m, auxL nm first m), 0)
  | 0, i, fr, step, hg, _ => by
    obtain rfl : i = m := by omega
    rfl
  | g + 1, i, fr, step, hg, hff => by
    have hi : i < m := by omega
    obtain ⟨R, hR⟩ := tabE_split (auxE at_ sy n first m) hi
    have h1 : itemF b (PM L) fr step 16 = (auxE at_ sy n first m i, 4096 + (o + 16 * i), 0) := itemM (X := X ++ tabE (auxE at_ sy n first m) i) (Z := R ++ Z) (by rw [hb, hR]; simp) hL (by rw [List.length_append, ho, tabE_length (auxE_length at_ sy n first m)]) (auxE_length at_ sy n first m i) hs (hff (by omega))
    have h2 := auxM (m := m) (nm := nm) (ss := ss) (n := n) (first := first) (i := i) (by omega) hf2 hf hn (hat i hi) (hsy i hi) (hsn i hi) (ht i hi)
    have hnx : numOf ((auxE at_ sy n first m i).drop (16 - 4)) = if i = m - 1 then 0 else 16 := by
      have : (auxE at_ sy n first m i).drop 12 = digs (if i = m - 1 then 0 else 16) 4 := rfl
      rw [show 16 - 4 = 12 from rfl, this, num4 (by split <;> decide)]
    rw [chainV_on (s' := (auxT (defT n) first (i + 1), auxL nm first (i + 1))) h1 (by
      unfold auxStep
      simp only
      rw [h2, auxT_succ, auxL_succ]) (by rw [hnx]; split <;> omega), hnx]
    exact auxsM hL hs hb ho hm hf2 hf hn hat hsy hsn ht g (i + 1) _ _ (by omega) (fun hg0 => by rw [if_neg (by omega)]; omega)
theorem needM (hL : b.length = L) (hs : L < 1099511627776) {X Z : List Nat} {o : Nat} {file : ByteArray} (hb : b = X ++ (headE at_ m ++ (tabE (auxE at_ sy n first m) m ++ Z))) (ho : X.length = o) (hm0 : 0 < m) (hm : m ≤ 20) (hf2 : 2 ≤ first) (hf : first ≤ 21) (hn : n < first) (hat : ∀ i, i < m → at_ (1 + n + i) < 4294967296) (hsy : ∀ i, i < m → sy i < 4294967296) (hsn : ∀ i, i < m → sysOf (nm i).data.toList = sy i) (ht : ∀ i, i < m → textF ss (at_ (1 + n + i)) = (nm i, 0))
    (hat0 : at_ 0 < 4294967296) (htf : textF ss (at_ 0) = (file, 0)) :
    chainV (needStep b (PM L) ss) b (PM L) 16 1 (4096 + o) 0 (defT n, []) = ((auxT (defT n) first m, [⟨file, auxL nm first m⟩]), 0) := by
  have h1 : itemF b (PM L) (4096 + o) 0 16 = (headE at_ m, 4096 + o, 0) := itemM hb hL ho (headE_length at_ m) hs rfl
  have h2 := auxsM (nm := nm) (ss := ss) (X := X ++ headE at_ m) (o := o + 16) (Z := Z) hL hs (by rw [hb]; simp) (by rw [List.length_append, ho, headE_length]) hm hf2 hf hn hat hsy hsn ht m 0 (4096 + o) 16 (by omega) (fun _ => by omega)
  rw [show auxT (defT n) first 0 = defT n by simp [auxT], show auxL nm first 0 = [] from rfl] at h2
  have q1 : (headE at_ m).take 2 = digs 1 2 := rfl
  have q2 : ((headE at_ m).drop 2).take 2 = digs m 2 := rfl
  have q3 : ((headE at_ m).drop 4).take 4 = digs (at_ 0) 4 := rfl
  have q4 : ((headE at_ m).drop 8).take 4 = digs 16 4 := rfl
  have hneed : needF b (PM L) ss (defT n) (headE at_ m) (4096 + o) = (auxT (defT n) first m, ⟨file, auxL nm first m⟩, 0) := by
    unfold needF
    rw [q1, q2, q3, q4, num2 (show 1 < 65536 by decide), num2 (show m < 65536 by omega), num4 hat0, num4 (show 16 < 4294967296 by decide), htf, h2]
    rw [if_neg (by omega), if_neg (by omega), if_neg (by simp)]
  rw [chainV_on (s' := (auxT (defT n) first m, [⟨file, auxL nm first m⟩])) h1 (by
    unfold needStep
    simp only
    rw [hneed]
    rfl) (by omega)]
  rfl
theorem wordM {W : Nat → Nat} (hW : ∀ i, W i < 65536) {p i : Nat} (hi : i < p) : wordAt (tabE (fun i => digs (W i) 2) p) i = W i := by
  obtain ⟨R, hR⟩ := tabE_split (fun i => digs (W i) 2) hi
  unfold wordAt
  rw [hR, List.drop_left' (tabE_length (fun i => digs_length 2 (W i)) i), List.take_left' (digs_length 2 (W i)), num2 (hW i)]
end

theorem versM {at_ syD syN : Nat → Nat} {nmD nmN : Nat → ByteArray} {file : ByteArray} {n m p first : Nat} {W : Nat → Nat} {S b : List Nat} {L o1 o2 o3 : Nat} {d : DT}
    (hb : b = tabE (defE at_ syD n) n ++ ((if m = 0 then [] else headE at_ m) ++ (tabE (auxE at_ syN n first m) m ++ (tabE (fun i => digs (W i) 2) p ++ S)))) (hL : b.length = L) (hs : L < 1099511627776)
    (h1 : o1 = 28 * n) (h2 : o2 = o1 + (if m = 0 then 0 else 16) + 16 * m) (h3 : o3 = o2 + 2 * p)
    (hn : n ≤ 20) (hm : m ≤ 20) (hp : p ≤ 60) (hf2 : 2 ≤ first) (hf : first ≤ 21) (hfn : n < first)
    (hat : ∀ i, i < 1 + n + m → at_ i < 4294967296) (hsD : ∀ i, i < n → syD i < 4294967296 ∧ sysOf (nmD i).data.toList = syD i) (hsN : ∀ i, i < m → syN i < 4294967296 ∧ sysOf (nmN i).data.toList = syN i)
    (ht0 : textF S (at_ 0) = (file, 0)) (htD : ∀ i, i < n → textF S (at_ (1 + i)) = (nmD i, 0)) (htN : ∀ i, i < m → textF S (at_ (1 + n + i)) = (nmN i, 0))
    (hW : ∀ i, W i < 65536) (hWo : ∀ i, i < p → wordOk (auxT (defT n) first m) (W i) = true)
    (hS0 : 0 < S.length) (hSl : S.length ≤ 1048576) (hSa : S.getD 0 0 = 0) (hSz : S.getD (S.length - 1) 0 = 0)
    (hd1 : d.strtab = 4096 + o3) (hd2 : d.strsz = S.length) (hd3 : d.versym = 4096 + o2) (hd4 : d.verdef = if n = 0 then 0 else 4096) (hd5 : n ≠ 0 → d.verdefnum = n) (hd6 : d.verneed = if m = 0 then 0 else 4096 + o1) (hd7 : m ≠ 0 → d.verneednum = 1) :
    versF b (PM L) d p = (⟨true, (List.range p).map W, defL nmD n, if m = 0 then [] else [⟨file, auxL nmN first m⟩]⟩, 0) := by
  have hlD := tabE_length (defE_length at_ syD n) n
  have hlN := tabE_length (auxE_length at_ syN n first m) m
  have hlW : (tabE (fun i => digs (W i) 2) p).length = 2 * p := tabE_length (fun i => digs_length 2 (W i)) p
  have hlH : (if m = 0 then [] else headE at_ m).length = if m = 0 then 0 else 16 := by
    split
    · rfl
    · exact headE_length at_ m
  have hstr : sliceF b (PM L) d.strtab d.strsz = (S, 0) := by
    rw [hd1, hd2]
    refine sliceM (X := tabE (defE at_ syD n) n ++ ((if m = 0 then [] else headE at_ m) ++ (tabE (auxE at_ syN n first m) m ++ tabE (fun i => digs (W i) 2) p))) (Z := []) (by rw [hb]; simp) hL ?_ rfl hs
    simp only [List.length_append, hlD, hlH, hlN, hlW]
    omega
  have hSF : strF b (PM L) d.strtab d.strsz = (S, 0) := by
    unfold strF
    rw [hstr]
    simp only
    rw [hd2, if_neg (by omega), if_neg (by simp), if_neg (by rw [hSa, hSz]; omega)]
  have hWF : sliceF b (PM L) d.versym (2 * p) = (tabE (fun i => digs (W i) 2) p, 0) := by
    rw [hd3]
    refine sliceM (X := tabE (defE at_ syD n) n ++ ((if m = 0 then [] else headE at_ m) ++ tabE (auxE at_ syN n first m) m)) (Z := S) (by rw [hb]; simp) hL ?_ hlW hs
    simp only [List.length_append, hlD, hlH, hlN]
    omega
  have hDF : defsF b (PM L) S [] d.verdef d.verdefnum = ((defT n, defL nmD n), 0) := by
    unfold defsF
    by_cases h0 : n = 0
    · subst h0
      rw [hd4]
      rfl
    · rw [hd4, if_neg h0, if_neg (by decide), hd5 h0, if_neg (by omega)]
      exact defsM (nm := nmD) (ss := S) hL hs hb (by omega) (fun i hi => hat _ (by omega)) (fun i hi => (hsD i hi).1) (fun i hi => (hsD i hi).2) htD n 0 4096 0 (by omega) (fun _ => rfl)
  have hNF : needsF b (PM L) S (defT n) d.verneed d.verneednum = ((auxT (defT n) first m, if m = 0 then [] else [⟨file, auxL nmN first m⟩]), 0) := by
    unfold needsF
    by_cases h0 : m = 0
    · subst h0
      rw [hd6]
      simp [auxT]
    · rw [hd6, if_neg h0, if_neg (by omega), hd7 h0, if_neg (by omega), if_neg h0]
      rw [if_neg h0] at hb
      exact needM (nm := nmN) (ss := S) (X := tabE (defE at_ syD n) n) hL hs hb (by rw [hlD, h1]) (by omega) hm hf2 hf hfn (fun i hi => hat _ (by omega)) (fun i hi => (hsN i hi).1) (fun i hi => (hsN i hi).2) htN (hat 0 (by omega)) ht0
  have hOF : ofF (auxT (defT n) first m) (tabE (fun i => digs (W i) 2) p) = ((List.range p).map W, 0) := by
    have hmap : (List.range p).map (wordAt (tabE (fun i => digs (W i) 2) p)) = (List.range p).map W := List.map_congr_left fun i hi => wordM hW (List.mem_range.1 hi)
    unfold ofF
    rw [hlW, show 2 * p / 2 = p by omega, if_pos, hmap]
    rw [List.all_eq_true]
    intro i hi
    rw [wordM hW (List.mem_range.1 hi)]
    exact hWo i (List.mem_range.1 hi)
  unfold versF
  rw [if_neg (by omega), if_neg (by omega), if_neg (by omega), Int.toNat_natCast, hSF, hWF]
  simp only
  rw [hDF]
  simp only
  rw [hNF]
  simp only
  rw [hOF]
  rw [if_neg (by simp), if_neg (by simp), if_neg (by simp), if_neg (by simp), if_neg (by simp)]
end Go.Proofs.Ytikpkblemegggaa
