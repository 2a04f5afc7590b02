/- Layer 8, VersMade: all that is read of what was made (plain functions). -/
import Derived.Test.YtikpkblemegggaaMadeKit
namespace Go.Proofs.Ytikpkblemegggaa
open Go.RowKit
set_option linter.unusedVariables false
set_option linter.unusedSimpArgs false

theorem tabE_lt {E : Nat → List Nat} (h : ∀ i, ∀ x ∈ E i, x < 256) (k : Nat) : ∀ x ∈ tabE E k, x < 256 := by
  intro x hx
  unfold tabE at hx
  obtain ⟨l, hl, hxl⟩ := List.mem_flatten.1 hx
  obtain ⟨i, -, rfl⟩ := List.mem_map.1 hl
  exact h i x hxl
theorem defE_lt (at_ sy : Nat → Nat) (n i : Nat) : ∀ x ∈ defE at_ sy n i, x < 256 := by
  intro x hx
  unfold defE at hx
  simp only [List.mem_append] at hx
  rcases hx with ((((((h | h) | h) | h) | h) | h) | h) | (h | h) <;> exact digs_lt _ _ x h
theorem headE_lt (at_ : Nat → Nat) (m : Nat) : ∀ x ∈ headE at_ m, x < 256 := by
  intro x hx
  unfold headE at hx
  simp only [List.mem_append] at hx
  rcases hx with (((h | h) | h) | h) | h <;> exact digs_lt _ _ x h
theorem auxE_lt (at_ sy : Nat → Nat) (n f m i : Nat) : ∀ x ∈ auxE at_ sy n f m i, x < 256 := by
  intro x hx
  unfold auxE at hx
  simp only [List.mem_append] at hx
  rcases hx with (((h | h) | h) | h) | h <;> exact digs_lt _ _ x h
theorem toI_lt {T : List ByteArray} {St : List Nat} (h : tabL T = toI St) : ∀ x ∈ St, x < 256 := by
  intro x hx
  have := (tabL_bytes T (x : Int) (by rw [h]; exact List.mem_map.2 ⟨x, hx, rfl⟩)).2
  omega
theorem tabL_last (T : List ByteArray) : (tabL T).getD ((tabL T).length - 1) 0 = 0 := by
  induction T using snocInd with
  | nil => rfl
  | snoc T t _ =>
    rw [tabL_snoc]
    simp [List.getD]
theorem tab_text {T : List ByteArray} {St : List Nat} (h : tabL T = toI St) {i : Nat} (hi : i < T.length) (hn : namedF (T.getD i .empty) = true) : textF St ((posL T T.length).getD i 0) = (T.getD i .empty, 0) := by
  rw [posL_getD T T.length i hi]
  obtain ⟨hz, hs, -⟩ := named_no hn
  rw [getDT hi] at hz hs ⊢
  obtain ⟨q1, q2, q3⟩ := tab_find T i T.length hi (Nat.le_refl _) hz
  rw [List.take_length] at q1 q2 q3
  rw [h] at q1 q2
  have hl : (tabL (T.take i)).length < St.length := by
    have := q3
    rw [h, toI_length] at this
    exact this
  unfold textF
  rw [if_pos hl, q1, if_neg (by omega), if_neg (by omega), Int.toNat_natCast, q2, bI_back]

theorem made_versF {file : ByteArray} {D N T : List ByteArray} {P : List Int} {St : List Nat} {n m p fs Q LB o3 : Nat} {at_ syD syN W : Nat → Nat} (hn : D.length = n) (hm : N.length = m) (hT : [file] ++ D ++ N = T) (hQ : T.length = Q) (hQ1 : Q = 1 + n + m)
    (k1 : n ≤ 20) (k2 : m ≤ 20) (k3 : p ≤ 60) (hnm : ∀ j, j < Q → namedF (T.getD j .empty) = true) (hSt : tabL T = toI St) (hSl : St.length ≤ 10497) (hS0 : 0 < St.length)
    (hat : at_ = fun i => (posL T Q).getD i 0) (hal : ∀ i, i < Q → at_ i < 10498) (hsD : syD = fun i => sysOf (D.getD i .empty).data.toList) (hsN : syN = fun i => sysOf (N.getD i .empty).data.toList) (hfs : fs = if n = 0 then 2 else n + 1) (hW : W = fun i => wF n fs m (P.getD i 0))
    (hLB : 28 * n + (if m = 0 then 0 else 16) + 16 * m = LB) (ho3 : LB + 2 * p = o3) :
    versF (tabE (defE at_ syD n) n ++ ((if m = 0 then [] else headE at_ m) ++ (tabE (auxE at_ syN n fs m) m ++ (tabE (fun i => digs (W i) 2) p ++ St)))) (PM (o3 + St.length)) (DTF (4096 + o3) St.length (4096 + LB) (if n = 0 then 0 else 4096) (if n = 0 then 0 else n) (if m = 0 then 0 else 4096 + 28 * n) (if m = 0 then 0 else 1)) p =
      (⟨true, (List.range p).map W, defL (fun i => D.getD i .empty) n, if m = 0 then [] else [⟨file, auxL (fun i => N.getD i .empty) fs m⟩]⟩, 0) := by
  have hT0 : T.getD 0 .empty = file := by rw [← hT]; rfl
  have hTD : ∀ i, i < n → T.getD (1 + i) .empty = D.getD i .empty := by
    intro i hi
    rw [← hT]
    simp only [List.getD]
    rw [List.append_assoc, List.getElem?_append_right (by simp), show 1 + i - [file].length = i by simp, List.getElem?_append_left (by omega)]
  have hTN : ∀ i, i < m → T.getD (1 + n + i) .empty = N.getD i .empty := by
    intro i hi
    rw [← hT]
    simp only [List.getD]
    rw [List.getElem?_append_right (by rw [List.length_append, hn]; simp), show 1 + n + i - ([file] ++ D).length = i by rw [List.length_append, hn]; simp]
  have htx : ∀ i, i < Q → textF St (at_ i) = (T.getD i .empty, 0) := by
    intro i hi
    rw [hat]
    simp only
    rw [← hQ]
    exact tab_text hSt (by rw [hQ]; exact hi) (hnm i hi)
  have hfs1 : 2 ≤ fs ∧ fs ≤ 21 ∧ n < fs := by rw [hfs]; split <;> omega
  have hif : (if m = 0 then 0 else 16) ≤ 16 := by split <;> omega
  refine versM (o1 := 28 * n) (o2 := LB) (o3 := o3) (syD := syD) (syN := syN) rfl ?_ (by omega) rfl hLB.symm ho3.symm k1 k2 k3 hfs1.1 hfs1.2.1 hfs1.2.2 (fun i hi => by have := hal i (by omega); omega) ?_ ?_ ?_ ?_ ?_ ?_ ?_ hS0 (by omega) ?_ ?_ rfl rfl rfl rfl (fun h => by show (if n = 0 then 0 else n) = n; rw [if_neg h]) rfl (fun h => by show (if m = 0 then 0 else 1) = 1; rw [if_neg h])
  · have h1 := tabE_length (defE_length at_ syD n) n
    have h2 := tabE_length (auxE_length at_ syN n fs m) m
    have h3 : (tabE (fun i => digs (W i) 2) p).length = 2 * p := tabE_length (fun i => digs_length 2 (W i)) p
    have h4 : (if m = 0 then [] else headE at_ m).length = if m = 0 then 0 else 16 := by
      split
      · rfl
      · exact headE_length at_ m
    simp only [List.length_append, h1, h2, h3, h4]
    omega
  · intro i hi
    have := sysOf_lt (D.getD i .empty).data.toList
    rw [hsD]
    exact ⟨by simp only; omega, rfl⟩
  · intro i hi
    have := sysOf_lt (N.getD i .empty).data.toList
    rw [hsN]
    exact ⟨by simp only; omega, rfl⟩
  · rw [htx 0 (by omega), hT0]
  · intro i hi
    rw [htx (1 + i) (by omega), hTD i hi]
  · intro i hi
    rw [htx (1 + n + i) (by omega), hTN i hi]
  · intro i
    rw [hW]
    exact wF_lt n fs m _ (by omega) (by omega) k2
  · intro i hi
    rw [hW]
    exact wF_ok n fs m _ hfs1.1 hfs1.2.1 k2 hfs
  · have h0 : (toI St).getD 0 0 = 0 := by rw [← hSt]; rfl
    rw [toI_getD] at h0
    omega
  · have h0 : (toI St).getD ((toI St).length - 1) 0 = 0 := by rw [← hSt]; exact tabL_last T
    rw [toI_getD, toI_length] at h0
    omega

theorem defL_cells {w : World} {B n dc : Nat} {da : Option Addr} {rows : List (List Value)} {nm : Nat → ByteArray} (h1 : OwnS w B 42 4 (.slice da n dc) rows) (h2 : DefRows w B (defL nm n) rows) {i : Nat} (hi : i < n) :
    ∃ b o pa pc, da = some ⟨b, o, none⟩ ∧ b < w.heap.size ∧ w.cell? ⟨b, o + i * 4, none⟩ = some (.int .i64 ((i : Int) + 1)) ∧ w.cell? ⟨b, o + i * 4 + 2, none⟩ = some (.string (nm i)) ∧ w.cell? ⟨b, o + i * 4 + 3, none⟩ = some (.slice pa 0 pc) := by
  have hl : (defL nm n).length = n := by simp [defL]
  have hr := h2.len
  obtain ⟨b, o, e, hlt, hc⟩ := h1.at.2.1 i (by omega)
  obtain ⟨pa, pc, eq, -⟩ := h2.at i (by omega) (by omega)
  have e1 : (defL nm n)[i]'(by omega) = ⟨i + 1, false, nm i, []⟩ := by simp [defL]
  rw [e1] at eq
  rw [eq] at hc
  exact ⟨b, o, pa, pc, e, hlt, hc 0 (by omega), hc 2 (by omega), hc 3 (by omega)⟩
theorem auxL_cells {w : World} {B nc fs m : Nat} {na : Option Addr} {rows : List (List Value)} {nm : Nat → ByteArray} {file : ByteArray} (h1 : OwnS w B 45 2 (.slice na 1 nc) rows) (h2 : NeedRows w B [⟨file, auxL nm fs m⟩] rows) :
    ∃ b o aa ac, na = some ⟨b, o, none⟩ ∧ b < w.heap.size ∧ w.cell? ⟨b, o, none⟩ = some (.string file) ∧ w.cell? ⟨b, o + 1, none⟩ = some (.slice aa m ac) ∧
      ∀ i, i < m → ∃ b' o', aa = some ⟨b', o', none⟩ ∧ b' < w.heap.size ∧ w.cell? ⟨b', o' + i * 3, none⟩ = some (.int .i64 ((fs : Int) + (i : Int))) ∧ w.cell? ⟨b', o' + i * 3 + 2, none⟩ = some (.string (nm i)) := by
  have hr := h2.len
  simp only [List.length_cons, List.length_nil] at hr
  obtain ⟨b, o, e, hlt, hc⟩ := h1.at.2.1 0 (by omega)
  obtain ⟨aa, ac, eq, ho⟩ := h2.at 0 (by simp) (by omega)
  have hl : (auxL nm fs m).length = m := by simp [auxL]
  rw [eq] at hc
  simp only [List.getElem_cons_zero] at hc ho
  rw [hl] at hc ho
  refine ⟨b, o, aa, ac, e, hlt, by simpa using hc 0 (by omega), by simpa using hc 1 (by omega), fun i hi => ?_⟩
  obtain ⟨b', o', e', hlt', hc'⟩ := ho.at.2.1 i (by rw [auxRows_length, hl]; exact hi)
  have e1 : (auxRows (auxL nm fs m))[i]'(by rw [auxRows_length, hl]; exact hi) = [.int .i64 ((fs : Int) + (i : Int)), .bool false, .string (nm i)] := by
    simp [auxRows, auxL, auxCells]
  rw [e1] at hc'
  exact ⟨b', o', e', hlt', hc' 0 (by omega), hc' 2 (by omega)⟩
end Go.Proofs.Ytikpkblemegggaa
