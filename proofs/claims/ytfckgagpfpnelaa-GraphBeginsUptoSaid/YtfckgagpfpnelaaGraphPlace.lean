/- Layer 16: where a number stands in a list; counts made of roots; the statement on what is begun. -/
import Derived.Test.YtfckgagpfpnelaaGraphLaws
namespace Go.Proofs.Ytfckgagpfpnelaa
open Go.RowKit
set_option linter.unusedVariables false
set_option linter.unusedSimpArgs false

def placeFrom (x : Int) : List Int → Nat → Int
  | [], _ => -1
  | y :: ys, k => if y = x then (k : Int) else placeFrom x ys (k + 1)
def placeF (l : List Nat) (x : Int) : Int := placeFrom x (toI l) 0
theorem placeFrom_no {x : Int} : ∀ {xs : List Int} {k : Nat}, x ∉ xs → placeFrom x xs k = -1
  | [], _, _ => rfl
  | y :: ys, k, h => by
    rw [placeFrom, if_neg (fun e => h (by simp [e])), placeFrom_no (fun hh => h (by simp [hh]))]
theorem placeFrom_yes {x : Int} : ∀ {xs : List Int} {k : Nat}, x ∈ xs → (k : Int) ≤ placeFrom x xs k ∧ placeFrom x xs k < (k : Int) + (xs.length : Int)
  | [], _, h => by cases h
  | y :: ys, k, h => by
    rw [placeFrom]
    by_cases hy : y = x
    · rw [if_pos hy]
      simp only [List.length_cons]
      omega
    · rw [if_neg hy]
      have := placeFrom_yes (xs := ys) (k := k + 1) (by
        rcases List.mem_cons.1 h with h | h
        · exact absurd h.symm hy
        · exact h)
      simp only [List.length_cons]
      omega
theorem placeFrom_cut {x : Int} : ∀ {a b : List Int} {k : Nat}, x ∉ a → placeFrom x (a ++ x :: b) k = (k : Int) + (a.length : Int)
  | [], b, k, _ => by simp [placeFrom]
  | y :: a, b, k, h => by
    rw [List.cons_append, placeFrom, if_neg (fun e => h (by simp [e])), placeFrom_cut (fun hh => h (by simp [hh]))]
    simp only [List.length_cons]
    omega
theorem placeFrom_in {x : Int} : ∀ {a b : List Int} {k : Nat}, x ∈ a → placeFrom x (a ++ b) k < (k : Int) + (a.length : Int)
  | [], _, _, h => by cases h
  | y :: a, b, k, h => by
    rw [List.cons_append, placeFrom]
    by_cases hy : y = x
    · rw [if_pos hy]
      simp only [List.length_cons]
      omega
    · rw [if_neg hy]
      have := placeFrom_in (a := a) (b := b) (k := k + 1) (by
        rcases List.mem_cons.1 h with h | h
        · exact absurd h.symm hy
        · exact h)
      simp only [List.length_cons]
      omega
theorem mem_toI' {l : List Nat} {k : Nat} : (k : Int) ∈ toI l ↔ k ∈ l := by
  constructor
  · intro h
    obtain ⟨y, hy, e⟩ := List.mem_map.1 h
    have : y = k := by omega
    rwa [← this]
  · intro h
    exact List.mem_map.2 ⟨k, h, rfl⟩
theorem placeF_no {l : List Nat} {k : Nat} (h : k ∉ l) : placeF l (k : Int) = -1 := placeFrom_no (fun hh => h (mem_toI'.1 hh))
theorem placeF_yes {l : List Nat} {k : Nat} (h : k ∈ l) : 0 ≤ placeF l (k : Int) ∧ placeF l (k : Int) < (l.length : Int) := by
  have := placeFrom_yes (k := 0) (mem_toI'.2 h)
  rw [toI_length] at this
  unfold placeF
  omega
theorem placeF_bound (l : List Nat) (x : Int) : -1 ≤ placeF l x ∧ placeF l x ≤ (l.length : Int) := by
  by_cases h : x ∈ toI l
  · have := placeFrom_yes (k := 0) h
    rw [toI_length] at this
    unfold placeF
    omega
  · unfold placeF
    rw [placeFrom_no h]
    omega
/-- without a ring, what an object needs stands ahead of it -/
theorem place_ahead {deps : List (List Int)} {roots : List Int} (hr : loopB deps = false) {i : Nat} (hi : i ∈ beginF deps roots) {j : Nat} (hj : j < (deps.getD i []).length) : placeF (beginF deps roots) ((deps.getD i []).getD j 0) < placeF (beginF deps roots) (i : Int) := by
  have hnr : ¬ ∃ c, Path deps c c := by
    unfold loopB at hr
    rw [decide_eq_false_iff_not] at hr
    exact hr
  obtain ⟨a, b, e⟩ := List.append_of_mem hi
  have hnd := (beginF_good deps roots).1
  rw [e, List.nodup_append] at hnd
  have hia : i ∉ a := fun h => hnd.2.2 i h i (by simp) rfl
  have he : toI (beginF deps roots) = toI a ++ (i : Int) :: toI b := by rw [e]; simp [toI]
  have h1 : placeF (beginF deps roots) (i : Int) = (a.length : Int) := by
    unfold placeF
    rw [he, placeFrom_cut (fun h => hia (mem_toI'.1 h)), toI_length]
    omega
  rw [h1]
  have hm : (deps.getD i []).getD j 0 ∈ deps.getD i [] := by
    rw [getD_at hj]
    exact List.getElem_mem hj
  generalize (deps.getD i []).getD j 0 = z at *
  cases ho : isObj deps.length z with
  | false =>
    have : z ∉ toI (beginF deps roots) := fun h => by
      obtain ⟨y, hy, rfl⟩ := List.mem_map.1 h
      have h2 := (beginF_good deps roots).2 y hy
      rw [isObj_iff.2 ⟨by omega, by simpa using h2⟩] at ho
      cases ho
    unfold placeF
    rw [placeFrom_no this]
    omega
  | true =>
    obtain ⟨h0, hz⟩ := isObj_iff.1 ho
    obtain ⟨y, rfl⟩ := Int.eq_ofNat_of_zero_le h0
    have hya := begin_ahead hnr e ⟨hm, by simpa using hz⟩
    have := placeFrom_in (b := (i : Int) :: toI b) (k := 0) (mem_toI'.2 hya)
    rw [toI_length] at this
    unfold placeF
    rw [he]
    omega

def cnt (n : Nat) (rs : List Int) : List Int := (List.range n).map fun (j : Nat) => if (j : Int) ∈ rs then 1 else 0
theorem cnt_length (n : Nat) (rs : List Int) : (cnt n rs).length = n := by simp [cnt]
theorem cnt_at {n j : Nat} (rs : List Int) (h : j < n) : (cnt n rs)[j]? = some (if (j : Int) ∈ rs then 1 else 0) := by simp [cnt, h]
theorem cnt_nil (n : Nat) : cnt n [] = List.replicate n 0 := by
  apply List.ext_getElem?
  intro j
  by_cases hj : j < n
  · rw [cnt_at _ hj]; simp [hj]
  · rw [List.getElem?_eq_none (by rw [cnt_length]; omega), List.getElem?_eq_none (by simp; omega)]
theorem cnt_set {n y : Nat} (rs : List Int) (h : y < n) : (cnt n rs).set y 1 = cnt n (rs ++ [(y : Int)]) := by
  apply List.ext_getElem?
  intro j
  rw [List.getElem?_set]
  by_cases hj : j < n
  · rw [cnt_at _ hj]
    by_cases hyj : y = j
    · subst hyj
      rw [if_pos rfl, if_pos (by rw [cnt_length]; exact hj), cnt_at _ hj, if_pos (List.mem_append_right _ (List.mem_singleton.2 rfl))]
    · rw [if_neg hyj, cnt_at _ hj]
      have : ((j : Int) ∈ rs ++ [(y : Int)]) ↔ (j : Int) ∈ rs := by
        rw [List.mem_append, List.mem_singleton]
        constructor
        · rintro (h | h)
          · exact h
          · omega
        · exact .inl
      by_cases hm : (j : Int) ∈ rs
      · rw [if_pos hm, if_pos (this.2 hm)]
      · rw [if_neg hm, if_neg (fun h => hm (this.1 h))]
  · have : y ≠ j := by omega
    rw [if_neg this, List.getElem?_eq_none (by rw [cnt_length]; omega), List.getElem?_eq_none (by rw [cnt_length]; omega)]
theorem cnt_pass {n : Nat} (rs : List Int) {x : Int} (h : isObj n x = false) : cnt n (rs ++ [x]) = cnt n rs := by
  unfold cnt
  apply List.map_congr_left
  intro j hj
  have hjn := List.mem_range.1 hj
  have hne : ¬ (j : Int) = x := fun e => by
    subst e
    rw [isObj_iff.2 ⟨by omega, by simpa using hjn⟩] at h
    cases h
  have this : ((j : Int) ∈ rs ++ [x]) ↔ (j : Int) ∈ rs := by
    rw [List.mem_append, List.mem_singleton]
    constructor
    · rintro (h | h)
      · exact h
      · exact absurd h hne
    · exact .inl
  by_cases hm : (j : Int) ∈ rs
  · rw [if_pos hm, if_pos (this.2 hm)]
  · rw [if_neg hm, if_neg (fun h => hm (this.1 h))]
theorem cnt_i64 (n : Nat) (rs : List Int) : I64s (cnt n rs) := by
  intro x hx
  obtain ⟨j, -, rfl⟩ := List.mem_map.1 hx
  split <;> omega
theorem mem_counted {deps : List (List Int)} {roots : List Int} {x : Nat} : x ∈ scopeF deps (asked (cnt deps.length roots)) ↔ Reach deps roots x := by
  have key : ∀ y : Nat, (y : Int) ∈ asked (cnt deps.length roots) ↔ y < deps.length ∧ (y : Int) ∈ roots := by
    intro y
    rw [mem_asked, cnt_length]
    constructor
    · rintro ⟨h1, h2⟩
      refine ⟨h1, ?_⟩
      rw [List.getD, cnt_at _ h1] at h2
      by_cases h : (y : Int) ∈ roots
      · exact h
      · simp [h] at h2
    · rintro ⟨h1, h2⟩
      refine ⟨h1, ?_⟩
      rw [List.getD, cnt_at _ h1]
      simp [h2]
  rw [mem_scopeF]
  constructor
  · intro h
    induction h with
    | root h1 h2 => exact .root ((key _).1 h1).2 h2
    | step _ h2 ih => exact .step ih h2
  · intro h
    induction h with
    | root h1 h2 => exact .root ((key _).2 ⟨h2, h1⟩) h2
    | step _ h2 ih => exact .step ih h2
theorem same_len {n : Nat} {A B : List Nat} (hA : Good n A) (hB : Good n B) (h : ∀ x, x ∈ A ↔ x ∈ B) : A.length = B.length := by
  have h1 : A.length ≤ B.length := hA.1.length_le_of_subset (fun x hx => (h x).1 hx)
  have h2 : B.length ≤ A.length := hB.1.length_le_of_subset (fun x hx => (h x).2 hx)
  omega
def liveTo (S : List Nat) (k : Nat) : Nat := ((List.range k).filter (fun i => decide (i ∈ S))).length
theorem liveTo_yes {S : List Nat} {k : Nat} (h : k ∈ S) : liveTo S (k + 1) = liveTo S k + 1 := by
  unfold liveTo
  rw [List.range_succ, List.filter_append, List.length_append]
  simp [h]
theorem liveTo_no {S : List Nat} {k : Nat} (h : k ∉ S) : liveTo S (k + 1) = liveTo S k := by
  unfold liveTo
  rw [List.range_succ, List.filter_append, List.length_append]
  simp [h]
theorem liveTo_le (S : List Nat) (k : Nat) : liveTo S k ≤ k := by
  unfold liveTo
  have := List.length_filter_le (fun i => decide (i ∈ S)) (List.range k)
  simpa using this
theorem liveTo_all {n : Nat} {S : List Nat} (h : Good n S) : liveTo S n = S.length := by
  unfold liveTo
  refine same_len (n := n) ⟨List.nodup_range.filter _, fun x hx => List.mem_range.1 (List.mem_filter.1 hx).1⟩ h (fun x => ?_)
  rw [List.mem_filter, List.mem_range]
  constructor
  · rintro ⟨-, h2⟩
    simpa using h2
  · intro hx
    exact ⟨h.2 x hx, by simpa using hx⟩

set_option maxRecDepth 100000 in
theorem place_any (a : Option Addr) (c m : Nat) (l : List Nat) (x : Int) (w : World) (hm : l.length = m) (h : Row .i64 w a (toI l)) (hl : m ≤ 1048576) :
    Calls Try.prog 18 #[.slice a m c, .int .i64 x] w fun e w' => e = .returned (.int .i64 (placeF l x)) ∧ w = w' := by
  have hml : (toI l).length = m := by rw [toI_length]; exact hm
  unfold placeF
  generalize toI l = xs at *
  have H := Lib.hid h
  have HM := Lib.hid hml
  clear h hm
  obtain ⟨r, hr⟩ : ∃ r, placeFrom x xs 0 = r := ⟨_, rfl⟩
  rw [hr]
  have HR : Hid (placeFrom x (xs.drop 0) 0 = r) := Lib.hid (by simpa using hr)
  clear hr hml
  go_enter Try.func18, Try.ntmps18
  go_wp2
  go_loopg [5] m (fun g i wr => ∃ k : Nat, k + g = m ∧ i = .int .i64 (k : Int) ∧ w = wr ∧ Hid (placeFrom x (xs.drop k) k = r))
  case atStart => exact ⟨0, by omega, rfl, rfl, HR⟩
  case round =>
    obtain ⟨k, hk, rfl, rfl, hrun⟩ := hrel
    cases gk with
    | zero =>
      obtain rfl : k = m := by omega
      have hr1 : Hid ((-1 : Int) = r) := Lib.hid (by
        have := hrun.out
        rw [List.drop_of_length_le (by rw [HM.out]; omega)] at this
        exact this)
      go_wp2
      go_ret
      exact ⟨by rw [← hr1.out]; rfl, rfl⟩
    | succ g =>
      have hlt : k < m := by omega
      obtain ⟨b, o, rfl, hc⟩ := H.out k (by rw [HM.out]; omega)
      have hd : xs.drop k = xs.getD k 0 :: xs.drop (k + 1) := by rw [List.drop_eq_getElem_cons (by rw [HM.out]; omega), getD_at (by rw [HM.out]; omega)]
      have HD := Lib.hid hd
      clear hd
      generalize xs.getD k 0 = y at *
      by_cases hxy : y = x
      · have hr1 : Hid ((k : Int) = r) := Lib.hid (by
          have := hrun.out
          rw [HD.out, placeFrom, if_pos hxy] at this
          exact this)
        subst hxy
        go_wp2
        go_ret
        exact ⟨by rw [← hr1.out]; rfl, by trivial⟩
      · have hr1 : Hid (placeFrom x (xs.drop (k + 1)) (k + 1) = r) := Lib.hid (by
          have := hrun.out
          rw [HD.out, placeFrom, if_neg hxy] at this
          exact this)
        go_wp2
        go_roundg g
        case measure => omega
        case rel => exact ⟨k + 1, by omega, by go_num, rfl, hr1⟩
end Go.Proofs.Ytfckgagpfpnelaa
