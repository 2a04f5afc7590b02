/- Layer 16: objects that depend on others: what is reached by breadth, in which order they are told in depth, rings. Plain lists: nothing of the program is named. -/
import Derived.Test.YtfckgagpfpnelaaProg
namespace Go.Proofs.Ytfckgagpfpnelaa
set_option linter.unusedVariables false
set_option linter.unusedSimpArgs false
/-- objects and what each depends on; numbers that are none are passed over -/
def isObj (n : Nat) (x : Int) : Bool := decide (0 ≤ x) && decide (x < (n : Int))
/-- those of more that are objects and not there, behind a list -/
def layF (n : Nat) : List Nat → List Int → List Nat
  | l, [] => l
  | l, x :: xs => if isObj n x = true ∧ x.toNat ∉ l then layF n (l ++ [x.toNat]) xs else layF n l xs

def Good (n : Nat) (l : List Nat) : Prop := l.Nodup ∧ ∀ x ∈ l, x < n

theorem isObj_iff {n : Nat} {x : Int} : isObj n x = true ↔ 0 ≤ x ∧ x.toNat < n := by
  unfold isObj
  rw [Bool.and_eq_true, decide_eq_true_eq, decide_eq_true_eq]
  omega

theorem layF_append (n : Nat) : ∀ (xs ys : List Int) (l : List Nat), layF n l (xs ++ ys) = layF n (layF n l xs) ys
  | [], _, _ => rfl
  | x :: xs, ys, l => by
    simp only [List.cons_append, layF]
    split
    · exact layF_append n xs ys _
    · exact layF_append n xs ys _
theorem layF_prefix (n : Nat) : ∀ (xs : List Int) (l : List Nat), ∃ r, layF n l xs = l ++ r
  | [], l => ⟨[], by simp [layF]⟩
  | x :: xs, l => by
    simp only [layF]
    split
    · obtain ⟨r, hr⟩ := layF_prefix n xs (l ++ [x.toNat])
      exact ⟨x.toNat :: r, by rw [hr]; simp⟩
    · exact layF_prefix n xs l
theorem layF_good {n : Nat} : ∀ (xs : List Int) (l : List Nat), Good n l → Good n (layF n l xs)
  | [], l, h => h
  | x :: xs, l, h => by
    simp only [layF]
    split
    · rename_i hx
      obtain ⟨h1, h2⟩ := hx
      refine layF_good xs _ ⟨?_, ?_⟩
      · rw [List.nodup_append]
        refine ⟨h.1, by simp, ?_⟩
        intro a ha b hb
        simp only [List.mem_singleton] at hb
        subst hb
        intro e
        exact h2 (e ▸ ha)
      · intro y hy
        rcases List.mem_append.1 hy with hy | hy
        · exact h.2 y hy
        · simp only [List.mem_singleton] at hy
          subst hy
          exact (isObj_iff.1 h1).2
    · exact layF_good xs l h
theorem mem_layF {n : Nat} {y : Nat} : ∀ (xs : List Int) (l : List Nat), y ∈ layF n l xs ↔ y ∈ l ∨ ((y : Int) ∈ xs ∧ y < n)
  | [], l => by simp [layF]
  | x :: xs, l => by
    simp only [layF]
    split
    · rename_i hx
      rw [mem_layF xs]
      have h0 := isObj_iff.1 hx.1
      simp only [List.mem_append, List.mem_cons, List.not_mem_nil, or_false]
      constructor
      · rintro ((h | h) | h)
        · exact .inl h
        · subst h; right; exact ⟨.inl (by omega), by omega⟩
        · right; exact ⟨.inr h.1, h.2⟩
      · rintro (h | ⟨h | h, h2⟩)
        · exact .inl (.inl h)
        · left; right; omega
        · right; exact ⟨h, h2⟩
    · rename_i hx
      rw [mem_layF xs]
      simp only [List.mem_cons]
      constructor
      · rintro (h | h)
        · exact .inl h
        · right; exact ⟨.inr h.1, h.2⟩
      · rintro (h | ⟨h | h, h2⟩)
        · exact .inl h
        · left
          by_cases hy : x.toNat ∈ l
          · have : x.toNat = y := by omega
            rwa [this] at hy
          · exact absurd ⟨isObj_iff.2 ⟨by omega, by omega⟩, hy⟩ hx
        · right; exact ⟨h, h2⟩
theorem nodup_le {n : Nat} : ∀ {l : List Nat}, Good n l → l.length ≤ n := by
  intro l h
  have h1 : l.length ≤ (List.range n).length := by
    have : l ⊆ List.range n := fun x hx => List.mem_range.2 (h.2 x hx)
    exact h.1.length_le_of_subset this
  simpa using h1

/-- what is reached, by breadth -/
def scopeGo (deps : List (List Int)) : Nat → Nat → List Nat → List Nat
  | 0, _, l => l
  | f + 1, k, l => if k < l.length then scopeGo deps f (k + 1) (layF deps.length l (deps.getD (l.getD k 0) [])) else l
def scopeF (deps : List (List Int)) (roots : List Int) : List Nat := scopeGo deps (deps.length + 1) 0 (layF deps.length [] roots)

/-- a step along a dependency -/
def Edge (deps : List (List Int)) (x y : Nat) : Prop := (y : Int) ∈ deps.getD x [] ∧ y < deps.length
inductive Reach (deps : List (List Int)) (roots : List Int) : Nat → Prop
  | root {x : Nat} : (x : Int) ∈ roots → x < deps.length → Reach deps roots x
  | step {x y : Nat} : Reach deps roots x → Edge deps x y → Reach deps roots y

theorem scopeGo_good {deps : List (List Int)} : ∀ (f k : Nat) (l : List Nat), Good deps.length l → Good deps.length (scopeGo deps f k l)
  | 0, _, _, h => h
  | f + 1, k, l, h => by
    unfold scopeGo
    split
    · exact scopeGo_good f (k + 1) _ (layF_good _ _ h)
    · exact h
theorem good_nil (n : Nat) : Good n [] := ⟨List.nodup_nil, fun x hx => by cases hx⟩
theorem scopeF_good (deps : List (List Int)) (roots : List Int) : Good deps.length (scopeF deps roots) := scopeGo_good _ _ _ (layF_good _ _ (good_nil _))

/-- all that lies ahead of a place has its dependencies in the list -/
def Closed (deps : List (List Int)) (k : Nat) (l : List Nat) : Prop := ∀ i, i < k → i < l.length → ∀ y, Edge deps (l.getD i 0) y → y ∈ l
theorem getD_prefix {l r : List Nat} {i : Nat} (h : i < l.length) : (l ++ r).getD i 0 = l.getD i 0 := by
  simp [List.getD, List.getElem?_append_left h]
theorem scopeGo_inv {deps : List (List Int)} {roots : List Int} : ∀ (f k : Nat) (l : List Nat), Good deps.length l → k ≤ l.length → deps.length + 1 ≤ k + f → Closed deps k l → (∀ x ∈ l, Reach deps roots x) →
    (∀ x ∈ l, x ∈ scopeGo deps f k l) ∧ Closed deps (scopeGo deps f k l).length (scopeGo deps f k l) ∧ (∀ x ∈ scopeGo deps f k l, Reach deps roots x)
  | 0, k, l, hg, hk, hf, hc, hr => by
    have := nodup_le hg
    omega
  | f + 1, k, l, hg, hk, hf, hc, hr => by
    unfold scopeGo
    split
    · rename_i hlt
      obtain ⟨r, hr'⟩ := layF_prefix deps.length (deps.getD (l.getD k 0) []) l
      have hg' := layF_good (n := deps.length) (deps.getD (l.getD k 0) []) l hg
      have hm : ∀ y, y ∈ layF deps.length l (deps.getD (l.getD k 0) []) ↔ y ∈ l ∨ Edge deps (l.getD k 0) y := fun y => mem_layF _ _
      have h1 := scopeGo_inv (roots := roots) f (k + 1) (layF deps.length l (deps.getD (l.getD k 0) [])) hg' (by rw [hr']; simp; omega) (by omega) (by
        intro i hi hil y hy
        have hil' : i < l.length := by omega
        have e : (layF deps.length l (deps.getD (l.getD k 0) [])).getD i 0 = l.getD i 0 := by rw [hr']; exact getD_prefix hil'
        rw [e] at hy
        rw [hm]
        by_cases hik : i = k
        · subst hik; exact .inr hy
        · exact .inl (hc i (by omega) hil' y hy)) (by
        intro x hx
        rcases (hm x).1 hx with hx | hx
        · exact hr x hx
        · refine Reach.step (hr (l.getD k 0) ?_) hx
          simp [List.getD, List.getElem?_eq_getElem hlt])
      refine ⟨fun x hx => h1.1 x ((hm x).2 (.inl hx)), h1.2⟩
    · rename_i hlt
      have : k = l.length := by omega
      subst this
      exact ⟨fun x hx => hx, hc, hr⟩
theorem mem_scopeF {deps : List (List Int)} {roots : List Int} {x : Nat} : x ∈ scopeF deps roots ↔ Reach deps roots x := by
  have h := scopeGo_inv (deps := deps) (roots := roots) (deps.length + 1) 0 (layF deps.length [] roots) (layF_good _ _ (good_nil _)) (Nat.zero_le _) (by omega) (by intro i hi; omega) (by
    intro y hy
    rcases (mem_layF _ _).1 hy with hy | hy
    · cases hy
    · exact .root hy.1 hy.2)
  constructor
  · exact h.2.2 x
  · intro hx
    induction hx with
    | root h1 h2 => exact h.1 _ ((mem_layF _ _).2 (.inr ⟨h1, h2⟩))
    | @step a b h1 h2 ih =>
      obtain ⟨i, hi, he⟩ := List.getElem_of_mem ih
      have e : (scopeGo deps (deps.length + 1) 0 (layF deps.length [] roots)).getD i 0 = a := by
        have : (scopeF deps roots).getD i 0 = a := by rw [List.getD, List.getElem?_eq_getElem hi]; exact he
        exact this
      refine h.2.1 i hi hi _ ?_
      rw [e]
      exact h2

/-! ### In depth -/
structure St where
  had : List Nat
  out : List Nat
  ring : Bool

def visit (deps : List (List Int)) : Nat → St → Int → St
  | 0, s, _ => s
  | f + 1, s, x =>
    if isObj deps.length x = true then
      (if x.toNat ∉ s.had then
        { (List.foldl (visit deps f) { s with had := x.toNat :: s.had } (deps.getD x.toNat [])) with
          out := (List.foldl (visit deps f) { s with had := x.toNat :: s.had } (deps.getD x.toNat [])).out ++ [x.toNat] }
      else if x.toNat ∉ s.out then { s with ring := true } else s)
    else s

/-- what a visit leaves, of what was there -/
structure Grown (deps : List (List Int)) (s s' : St) : Prop where
  good : Good deps.length s'.had
  had : ∃ r, s'.had = r ++ s.had
  out : ∃ r, s'.out = s.out ++ r
  ring : s.ring = true → s'.ring = true
  gray : ∀ g, (g ∈ s'.had ∧ g ∉ s'.out) ↔ (g ∈ s.had ∧ g ∉ s.out)
  sub : ∀ g ∈ s'.out, g ∈ s.out ∨ (g ∈ s'.had ∧ g ∉ s.had)

theorem Grown.refl {deps : List (List Int)} {s : St} (h : Good deps.length s.had) : Grown deps s s :=
  ⟨h, ⟨[], rfl⟩, ⟨[], by simp⟩, fun h => h, fun _ => Iff.rfl, fun g hg => .inl hg⟩
theorem Grown.trans {deps : List (List Int)} {a b c : St} (h : Grown deps a b) (k : Grown deps b c) : Grown deps a c := by
  obtain ⟨r1, e1⟩ := h.had
  obtain ⟨r2, e2⟩ := k.had
  obtain ⟨o1, f1⟩ := h.out
  obtain ⟨o2, f2⟩ := k.out
  refine ⟨k.good, ⟨r2 ++ r1, by rw [e2, e1]; simp⟩, ⟨o1 ++ o2, by rw [f2, f1]; simp⟩, fun hh => k.ring (h.ring hh), fun g => (k.gray g).trans (h.gray g), ?_⟩
  intro g hg
  rcases k.sub g hg with h1 | ⟨h1, h2⟩
  · rcases h.sub g h1 with h3 | ⟨h3, h4⟩
    · exact .inl h3
    · exact .inr ⟨by rw [e2]; simp [h3], h4⟩
  · exact .inr ⟨h1, fun h3 => h2 (by rw [e1]; simp [h3])⟩
theorem Grown.len {deps : List (List Int)} {a b : St} (h : Grown deps a b) : a.had.length ≤ b.had.length := by
  obtain ⟨r, e⟩ := h.had
  rw [e]
  simp

theorem fold_grown {deps : List (List Int)} {f : St → Int → St} {xs : List Int} (h : ∀ s x, Good deps.length s.had → Grown deps s (f s x)) : ∀ s, Good deps.length s.had → Grown deps s (xs.foldl f s) := by
  induction xs with
  | nil => exact fun s hs => Grown.refl hs
  | cons x xs ih => exact fun s hs => (h s x hs).trans (ih _ (h s x hs).good)

theorem visit_grown {deps : List (List Int)} : ∀ (f : Nat) (s : St) (x : Int), Good deps.length s.had → Grown deps s (visit deps f s x)
  | 0, s, x, hs => Grown.refl hs
  | f + 1, s, x, hs => by
    unfold visit
    split
    · rename_i hx
      obtain ⟨hx0, hxn⟩ := isObj_iff.1 hx
      split
      · rename_i hn
        have hg : Good deps.length (x.toNat :: s.had) := ⟨List.nodup_cons.2 ⟨hn, hs.1⟩, fun y hy => by
          rcases List.mem_cons.1 hy with rfl | hy
          · exact hxn
          · exact hs.2 y hy⟩
        have h1 := fold_grown (deps := deps) (f := visit deps f) (xs := deps.getD x.toNat []) (fun s x hs => visit_grown f s x hs) { s with had := x.toNat :: s.had } hg
        generalize List.foldl (visit deps f) { s with had := x.toNat :: s.had } (deps.getD x.toNat []) = s' at *
        obtain ⟨r, e⟩ := h1.had
        obtain ⟨o, e2⟩ := h1.out
        simp only at e e2
        refine ⟨h1.good, ⟨r ++ [x.toNat], by simp [e]⟩, ⟨o ++ [x.toNat], by simp [e2]⟩, h1.ring, fun g => ?_, fun g hg => ?_⟩
        · have h2 := h1.gray g
          simp only [List.mem_cons] at h2
          simp only [List.mem_append, List.mem_singleton, not_or]
          by_cases hgx : g = x.toNat
          · subst hgx
            constructor
            · rintro ⟨-, -, h⟩; exact absurd rfl h
            · rintro ⟨h, -⟩; exact absurd h hn
          · constructor
            · rintro ⟨h3, h4, -⟩
              rcases h2.1 ⟨h3, h4⟩ with ⟨h5 | h5, h6⟩
              · exact absurd h5 hgx
              · exact ⟨h5, h6⟩
            · rintro ⟨h3, h4⟩
              obtain ⟨h5, h6⟩ := h2.2 ⟨.inr h3, h4⟩
              exact ⟨h5, h6, hgx⟩
        · rcases List.mem_append.1 hg with hg | hg
          · rcases h1.sub g hg with h3 | ⟨h3, h4⟩
            · exact .inl h3
            · exact .inr ⟨h3, fun h5 => h4 (by simp [h5])⟩
          · simp only [List.mem_singleton] at hg
            subst hg
            exact .inr ⟨by simp [e], hn⟩
      · split
        · exact ⟨hs, ⟨[], rfl⟩, ⟨[], by simp⟩, fun _ => rfl, fun _ => Iff.rfl, fun g hg => .inl hg⟩
        · exact Grown.refl hs
    · exact Grown.refl hs

theorem visit_enough {deps : List (List Int)} : ∀ (f g : Nat) (s : St) (x : Int), Good deps.length s.had → deps.length - s.had.length < f → deps.length - s.had.length < g → visit deps f s x = visit deps g s x
  | 0, _, s, x, _, h, _ => by omega
  | _, 0, s, x, _, _, h => by omega
  | f + 1, g + 1, s, x, hs, hf, hg => by
    unfold visit
    split
    · rename_i hx
      obtain ⟨hx0, hxn⟩ := isObj_iff.1 hx
      split
      · rename_i hn
        have hgd : Good deps.length (x.toNat :: s.had) := ⟨List.nodup_cons.2 ⟨hn, hs.1⟩, fun y hy => by
          rcases List.mem_cons.1 hy with rfl | hy
          · exact hxn
          · exact hs.2 y hy⟩
        have hlen := nodup_le hgd
        simp only [List.length_cons] at hlen
        have key : ∀ (xs : List Int) (t : St), Good deps.length t.had → s.had.length + 1 ≤ t.had.length → xs.foldl (visit deps f) t = xs.foldl (visit deps g) t := by
          intro xs
          induction xs with
          | nil => intro t _ _; rfl
          | cons y ys ih =>
            intro t ht htl
            simp only [List.foldl_cons]
            rw [visit_enough f g t y ht (by omega) (by omega)]
            have := visit_grown (deps := deps) g t y ht
            exact ih _ this.good (Nat.le_trans htl this.len)
        rw [key _ _ hgd (by simp)]
      · rfl
    · rfl

/-- a visit -/
def dfs (deps : List (List Int)) (s : St) (x : Int) : St := visit deps (deps.length + 1) s x
theorem dfs_grown {deps : List (List Int)} {s : St} {x : Int} (hs : Good deps.length s.had) : Grown deps s (dfs deps s x) := visit_grown _ _ _ hs
theorem dfs_eq {deps : List (List Int)} {s : St} {x : Int} (hs : Good deps.length s.had) : dfs deps s x =
    if isObj deps.length x = true then
      (if x.toNat ∉ s.had then
        { (List.foldl (dfs deps) { s with had := x.toNat :: s.had } (deps.getD x.toNat [])) with
          out := (List.foldl (dfs deps) { s with had := x.toNat :: s.had } (deps.getD x.toNat [])).out ++ [x.toNat] }
      else if x.toNat ∉ s.out then { s with ring := true } else s)
    else s := by
  by_cases hx : isObj deps.length x = true
  · obtain ⟨hx0, hxn⟩ := isObj_iff.1 hx
    by_cases hn : x.toNat ∉ s.had
    · have hgd : Good deps.length (x.toNat :: s.had) := ⟨List.nodup_cons.2 ⟨hn, hs.1⟩, fun y hy => by
        rcases List.mem_cons.1 hy with rfl | hy
        · exact hxn
        · exact hs.2 y hy⟩
      have hlen := nodup_le hgd
      simp only [List.length_cons] at hlen
      have key : ∀ (xs : List Int) (t : St), Good deps.length t.had → s.had.length + 1 ≤ t.had.length → xs.foldl (visit deps deps.length) t = xs.foldl (dfs deps) t := by
        intro xs
        induction xs with
        | nil => intro t _ _; rfl
        | cons y ys ih =>
          intro t ht htl
          simp only [List.foldl_cons]
          rw [show dfs deps t y = visit deps deps.length t y from visit_enough _ _ t y ht (by omega) (by omega)]
          have := visit_grown (deps := deps) deps.length t y ht
          exact ih _ this.good (Nat.le_trans htl this.len)
      rw [← key _ _ hgd (by simp)]
      rfl
    · unfold dfs visit
      rw [if_pos hx, if_neg hn, if_pos hx, if_neg hn]
  · unfold dfs visit
    rw [if_neg hx, if_neg hx]

/-- a walk of at least one step -/
inductive Path (deps : List (List Int)) : Nat → Nat → Prop
  | one {x y : Nat} : Edge deps x y → Path deps x y
  | more {x y z : Nat} : Path deps x y → Edge deps y z → Path deps x z

theorem toNat_edge {deps : List (List Int)} {x : Nat} {y : Int} (h : y ∈ deps.getD x []) (hy : isObj deps.length y = true) : Edge deps x y.toNat := by
  obtain ⟨h0, hn⟩ := isObj_iff.1 hy
  exact ⟨by rwa [show ((y.toNat : Nat) : Int) = y from by omega], hn⟩

/-- a ring that is met is one -/
theorem dfs_ring {deps : List (List Int)} : ∀ (m : Nat) (s : St) (x : Int), Good deps.length s.had → deps.length - s.had.length ≤ m →
    (∀ g, g ∈ s.had → g ∉ s.out → isObj deps.length x = true → Path deps g x.toNat) → (dfs deps s x).ring = true → s.ring = true ∨ ∃ c, Path deps c c := by
  intro m
  induction m using Nat.strongRecOn with
  | _ m ih =>
    intro s x hs hm hp hr
    rw [dfs_eq hs] at hr
    by_cases hx : isObj deps.length x = true
    · rw [if_pos hx] at hr
      obtain ⟨hx0, hxn⟩ := isObj_iff.1 hx
      by_cases hn : x.toNat ∉ s.had
      · rw [if_pos hn] at hr
        simp only at hr
        have hgd : Good deps.length (x.toNat :: s.had) := ⟨List.nodup_cons.2 ⟨hn, hs.1⟩, fun y hy => by
          rcases List.mem_cons.1 hy with rfl | hy
          · exact hxn
          · exact hs.2 y hy⟩
        have hlen := nodup_le hgd
        simp only [List.length_cons] at hlen
        have key : ∀ (xs : List Int), (∀ y ∈ xs, y ∈ deps.getD x.toNat []) → ∀ t : St, Grown deps { s with had := x.toNat :: s.had } t → (xs.foldl (dfs deps) t).ring = true → t.ring = true ∨ ∃ c, Path deps c c := by
          intro xs
          induction xs with
          | nil => intro _ t _ h; exact .inl h
          | cons y ys ihy =>
            intro hys t ht h
            simp only [List.foldl_cons] at h
            have hg := dfs_grown (x := y) ht.good
            rcases ihy (fun z hz => hys z (by simp [hz])) _ (ht.trans hg) h with h1 | h1
            · have htl := ht.len
              simp only [List.length_cons] at htl
              refine ih (deps.length - t.had.length) (by omega) t y ht.good (Nat.le_refl _) ?_ h1
              intro g hgh hgo hy
              have hE := toNat_edge (hys y (by simp)) hy
              obtain ⟨h2, h3⟩ := (ht.gray g).1 ⟨hgh, hgo⟩
              rcases List.mem_cons.1 h2 with rfl | h2
              · exact .one hE
              · exact .more (hp g h2 h3 hx) hE
            · exact .inr h1
        rcases key _ (fun y hy => hy) _ (Grown.refl hgd) hr with h | h
        · exact .inl h
        · exact .inr h
      · rw [if_neg hn] at hr
        by_cases ho : x.toNat ∉ s.out
        · exact .inr ⟨_, hp x.toNat (by simpa using hn) ho hx⟩
        · rw [if_neg ho] at hr
          exact .inl hr
    · rw [if_neg hx] at hr
      exact .inl hr

/-- whatever is visited is had, and told unless a ring is met -/
theorem dfs_had {deps : List (List Int)} {s : St} {x : Int} (hs : Good deps.length s.had) (hx : isObj deps.length x = true) : x.toNat ∈ (dfs deps s x).had ∧ ((dfs deps s x).ring = false → x.toNat ∈ (dfs deps s x).out) := by
  rw [dfs_eq hs, if_pos hx]
  obtain ⟨hx0, hxn⟩ := isObj_iff.1 hx
  by_cases hn : x.toNat ∉ s.had
  · rw [if_pos hn]
    have hgd : Good deps.length (x.toNat :: s.had) := ⟨List.nodup_cons.2 ⟨hn, hs.1⟩, fun y hy => by
      rcases List.mem_cons.1 hy with rfl | hy
      · exact hxn
      · exact hs.2 y hy⟩
    have h1 := fold_grown (deps := deps) (f := dfs deps) (xs := deps.getD x.toNat []) (fun s x hs => dfs_grown hs) { s with had := x.toNat :: s.had } hgd
    obtain ⟨r, e⟩ := h1.had
    exact ⟨by rw [e]; simp, fun _ => by simp⟩
  · rw [if_neg hn]
    have hh : x.toNat ∈ s.had := by simpa using hn
    by_cases ho : x.toNat ∉ s.out
    · rw [if_pos ho]
      exact ⟨hh, fun h => by simp at h⟩
    · rw [if_neg ho]
      exact ⟨hh, fun _ => by simpa using ho⟩

/-- what is told: had, each once, its dependencies had; without a ring they are told ahead of it -/
structure Told (deps : List (List Int)) (s : St) : Prop where
  good : Good deps.length s.had
  nodup : s.out.Nodup
  sub : ∀ x ∈ s.out, x ∈ s.had
  edges : ∀ x ∈ s.out, ∀ y, Edge deps x y → y ∈ s.had
  topo : s.ring = false → ∀ a x b, s.out = a ++ x :: b → ∀ y, Edge deps x y → y ∈ a

theorem fold_told {deps : List (List Int)} {f : St → Int → St} (h : ∀ s x, Told deps s → Told deps (f s x)) : ∀ (xs : List Int) (s : St), Told deps s → Told deps (xs.foldl f s)
  | [], _, hs => hs
  | x :: xs, s, hs => fold_told h xs _ (h s x hs)

theorem edge_dep {deps : List (List Int)} {x y : Nat} (h : Edge deps x y) : ∃ z ∈ deps.getD x [], isObj deps.length z = true ∧ z.toNat = y := by
  exact ⟨(y : Int), h.1, isObj_iff.2 ⟨by omega, by have := h.2; omega⟩, by omega⟩

theorem ring_false {deps : List (List Int)} {s s' : St} (h : Grown deps s s') (hr : s'.ring = false) : s.ring = false := by
  cases hs : s.ring with
  | false => rfl
  | true => rw [h.ring hs] at hr; cases hr

theorem dfs_told {deps : List (List Int)} : ∀ (m : Nat) (s : St) (x : Int), Told deps s → deps.length - s.had.length ≤ m → Told deps (dfs deps s x) := by
  intro m
  induction m using Nat.strongRecOn with
  | _ m ih =>
    intro s x hs hm
    rw [dfs_eq hs.good]
    by_cases hx : isObj deps.length x = true
    · rw [if_pos hx]
      obtain ⟨hx0, hxn⟩ := isObj_iff.1 hx
      by_cases hn : x.toNat ∉ s.had
      · rw [if_pos hn]
        have hgd : Good deps.length (x.toNat :: s.had) := ⟨List.nodup_cons.2 ⟨hn, hs.good.1⟩, fun y hy => by
          rcases List.mem_cons.1 hy with rfl | hy
          · exact hxn
          · exact hs.good.2 y hy⟩
        have hlen := nodup_le hgd
        simp only [List.length_cons] at hlen
        have h0 : Told deps { s with had := x.toNat :: s.had } := ⟨hgd, hs.nodup, fun y hy => by simp [hs.sub y hy], fun y hy z hz => by simp [hs.edges y hy z hz], hs.topo⟩
        -- the fold, and that each of its numbers is had, and told unless a ring is met
        have key : ∀ (xs : List Int) (t : St), Told deps t → s.had.length + 1 ≤ t.had.length → Told deps (xs.foldl (dfs deps) t) ∧ Grown deps t (xs.foldl (dfs deps) t) ∧
            ∀ y ∈ xs, isObj deps.length y = true → y.toNat ∈ (xs.foldl (dfs deps) t).had ∧ ((xs.foldl (dfs deps) t).ring = false → y.toNat ∈ (xs.foldl (dfs deps) t).out) := by
          intro xs
          induction xs with
          | nil => intro t ht _; exact ⟨ht, Grown.refl ht.good, fun y hy => by cases hy⟩
          | cons y ys ihy =>
            intro t ht htl
            simp only [List.foldl_cons]
            have h1 := ih (deps.length - t.had.length) (by omega) t y ht (Nat.le_refl _)
            have g1 := dfs_grown (x := y) ht.good
            obtain ⟨h2, g2, h3⟩ := ihy _ h1 (Nat.le_trans htl g1.len)
            refine ⟨h2, g1.trans g2, fun z hz hzo => ?_⟩
            rcases List.mem_cons.1 hz with rfl | hz
            · obtain ⟨h4, h5⟩ := dfs_had (x := z) ht.good hzo
              obtain ⟨r, e⟩ := g2.had
              obtain ⟨o, e2⟩ := g2.out
              exact ⟨by rw [e]; simp [h4], fun hr => by rw [e2]; simp [h5 (ring_false g2 hr)]⟩
            · exact h3 z hz hzo
        obtain ⟨h1, g1, h2⟩ := key (deps.getD x.toNat []) _ h0 (by simp)
        generalize List.foldl (dfs deps) { s with had := x.toNat :: s.had } (deps.getD x.toNat []) = s' at *
        have hxh : x.toNat ∈ s'.had := by obtain ⟨r, e⟩ := g1.had; rw [e]; simp
        have hxo : x.toNat ∉ s'.out := by
          have hg := (g1.gray x.toNat).2 ⟨by simp, fun h => hn (hs.sub _ h)⟩
          exact hg.2
        refine ⟨h1.good, ?_, ?_, ?_, ?_⟩
        · rw [List.nodup_append]
          refine ⟨h1.nodup, by simp, ?_⟩
          intro a ha b hb
          simp only [List.mem_singleton] at hb
          subst hb
          exact fun e => hxo (e ▸ ha)
        · intro y hy
          rcases List.mem_append.1 hy with hy | hy
          · exact h1.sub y hy
          · simp only [List.mem_singleton] at hy
            subst hy
            exact hxh
        · intro y hy z hz
          rcases List.mem_append.1 hy with hy | hy
          · exact h1.edges y hy z hz
          · simp only [List.mem_singleton] at hy
            subst hy
            obtain ⟨q, hq, hqo, rfl⟩ := edge_dep hz
            exact (h2 q hq hqo).1
        · intro hr a y b he z hz
          simp only at hr he
          rcases List.eq_nil_or_concat b with rfl | ⟨b', l, rfl⟩
          · obtain ⟨e1, e2⟩ := List.append_inj' he rfl
            simp only [List.cons.injEq, and_true] at e2
            subst e1
            rw [← e2] at hz
            obtain ⟨q, hq, hqo, rfl⟩ := edge_dep hz
            exact (h2 q hq hqo).2 hr
          · rw [show a ++ y :: b'.concat l = (a ++ y :: b') ++ [l] from by simp] at he
            obtain ⟨e1, -⟩ := List.append_inj' he rfl
            exact h1.topo hr a y b' e1 z hz
      · rw [if_neg hn]
        by_cases ho : x.toNat ∉ s.out
        · rw [if_pos ho]
          exact ⟨hs.good, hs.nodup, hs.sub, hs.edges, fun h => by simp at h⟩
        · rw [if_neg ho]
          exact hs
    · rw [if_neg hx]
      exact hs

def start : St := ⟨[], [], false⟩
/-- all visits from some numbers on -/
def walkF (deps : List (List Int)) (roots : List Int) : St := roots.foldl (dfs deps) start
def beginF (deps : List (List Int)) (roots : List Int) : List Nat := (walkF deps roots).out
theorem start_told (deps : List (List Int)) : Told deps start := ⟨good_nil _, List.nodup_nil, (fun x hx => by cases hx), (fun x hx => by cases hx), fun _ a x b h => by simp [start] at h⟩
theorem walkF_told (deps : List (List Int)) (roots : List Int) : Told deps (walkF deps roots) := fold_told (fun s x hs => dfs_told _ s x hs (Nat.le_refl _)) _ _ (start_told deps)
theorem walkF_grown (deps : List (List Int)) : ∀ (roots : List Int) (s : St), Good deps.length s.had → Grown deps s (roots.foldl (dfs deps) s) := fun _ s hs => fold_grown (fun _ _ hs => dfs_grown hs) s hs
/-- nothing is being walked any more -/
theorem walkF_done (deps : List (List Int)) (roots : List Int) {x : Nat} (h : x ∈ (walkF deps roots).had) : x ∈ beginF deps roots := by
  by_cases ho : x ∈ (walkF deps roots).out
  · exact ho
  · have := ((walkF_grown deps roots start (good_nil _)).gray x).1 ⟨h, ho⟩
    cases this.1

theorem fold_roots {deps : List (List Int)} : ∀ (xs : List Int) (s : St), Good deps.length s.had → ∀ y ∈ xs, isObj deps.length y = true → y.toNat ∈ (xs.foldl (dfs deps) s).had
  | x :: xs, s, hs, y, hy, ho => by
    simp only [List.foldl_cons]
    have g1 := dfs_grown (x := x) hs
    rcases List.mem_cons.1 hy with rfl | hy
    · obtain ⟨h1, -⟩ := dfs_had hs ho
      obtain ⟨r, e⟩ := (walkF_grown deps xs _ g1.good).had
      rw [e]
      simp [h1]
    · exact fold_roots xs _ g1.good y hy ho

/-- whatever is had is reached -/
theorem dfs_reach {deps : List (List Int)} {P : Nat → Prop} (hP : ∀ x y, P x → Edge deps x y → P y) : ∀ (m : Nat) (s : St) (x : Int), Good deps.length s.had → deps.length - s.had.length ≤ m →
    (∀ y ∈ s.had, P y) → (isObj deps.length x = true → P x.toNat) → ∀ y ∈ (dfs deps s x).had, P y := by
  intro m
  induction m using Nat.strongRecOn with
  | _ m ih =>
    intro s x hs hm hh hx0
    rw [dfs_eq hs]
    by_cases hx : isObj deps.length x = true
    · rw [if_pos hx]
      obtain ⟨-, hxn⟩ := isObj_iff.1 hx
      by_cases hn : x.toNat ∉ s.had
      · rw [if_pos hn]
        have hgd : Good deps.length (x.toNat :: s.had) := ⟨List.nodup_cons.2 ⟨hn, hs.1⟩, fun y hy => by
          rcases List.mem_cons.1 hy with rfl | hy
          · exact hxn
          · exact hs.2 y hy⟩
        have hlen := nodup_le hgd
        simp only [List.length_cons] at hlen
        have key : ∀ (xs : List Int), (∀ y ∈ xs, y ∈ deps.getD x.toNat []) → ∀ t : St, Good deps.length t.had → s.had.length + 1 ≤ t.had.length → (∀ y ∈ t.had, P y) → ∀ y ∈ (xs.foldl (dfs deps) t).had, P y := by
          intro xs
          induction xs with
          | nil => intro _ t _ _ h; exact h
          | cons y ys ihy =>
            intro hys t ht htl h
            simp only [List.foldl_cons]
            have g1 := dfs_grown (x := y) ht
            exact ihy (fun z hz => hys z (by simp [hz])) _ g1.good (Nat.le_trans htl g1.len) (ih (deps.length - t.had.length) (by omega) t y ht (Nat.le_refl _) h (fun ho => hP _ _ (hx0 hx) (toNat_edge (hys y (by simp)) ho)))
        exact key _ (fun y hy => hy) _ hgd (by simp) (fun y hy => by
          rcases List.mem_cons.1 hy with rfl | hy
          · exact hx0 hx
          · exact hh y hy)
      · rw [if_neg hn]
        split <;> exact hh
    · rw [if_neg hx]
      exact hh
theorem fold_reach {deps : List (List Int)} {roots : List Int} : ∀ (xs : List Int) (s : St), (∀ y ∈ xs, y ∈ roots) → Good deps.length s.had → (∀ y ∈ s.had, Reach deps roots y) → ∀ y ∈ (xs.foldl (dfs deps) s).had, Reach deps roots y
  | [], _, _, _, h => h
  | x :: xs, s, hx, hs, h => by
    simp only [List.foldl_cons]
    refine fold_reach xs _ (fun y hy => hx y (by simp [hy])) (dfs_grown hs).good (dfs_reach (fun a b ha hb => .step ha hb) _ s x hs (Nat.le_refl _) h (fun ho => ?_))
    obtain ⟨h0, hn⟩ := isObj_iff.1 ho
    exact .root (by rw [show ((x.toNat : Nat) : Int) = x from by omega]; exact hx x (by simp)) hn
theorem mem_beginF {deps : List (List Int)} {roots : List Int} {x : Nat} : x ∈ beginF deps roots ↔ Reach deps roots x := by
  constructor
  · intro h
    exact fold_reach roots start (fun y hy => hy) (good_nil _) (fun y hy => by cases hy) x ((walkF_told deps roots).sub x h)
  · intro h
    induction h with
    | @root a h1 h2 =>
      refine walkF_done deps roots ?_
      have := fold_roots (deps := deps) roots start (good_nil _) (a : Int) h1 (isObj_iff.2 ⟨by omega, by omega⟩)
      simpa [walkF] using this
    | @step a b h1 h2 ih => exact walkF_done deps roots ((walkF_told deps roots).edges a ih b h2)
theorem beginF_good (deps : List (List Int)) (roots : List Int) : Good deps.length (beginF deps roots) := ⟨(walkF_told deps roots).nodup, fun x hx => (walkF_told deps roots).good.2 x ((walkF_told deps roots).sub x hx)⟩

theorem walkF_ring {deps : List (List Int)} : ∀ (xs : List Int) (s : St), Good deps.length s.had → (∀ g, g ∈ s.had → g ∈ s.out) → (xs.foldl (dfs deps) s).ring = true → s.ring = true ∨ ∃ c, Path deps c c
  | [], _, _, _, h => .inl h
  | x :: xs, s, hs, hg, h => by
    simp only [List.foldl_cons] at h
    have g1 := dfs_grown (x := x) hs
    rcases walkF_ring xs _ g1.good (fun g hgh => by
      by_cases ho : g ∈ (dfs deps s x).out
      · exact ho
      · obtain ⟨h1, h2⟩ := (g1.gray g).1 ⟨hgh, ho⟩
        exact absurd (hg g h1) h2) h with h1 | h1
    · exact dfs_ring _ s x hs (Nat.le_refl _) (fun g h2 h3 => absurd (hg g h2) h3) h1
    · exact .inr h1

/-- without a ring what is told is told behind all that it depends on, so that there is none -/
theorem topo_path {deps : List (List Int)} {s : St} (ht : Told deps s) (hr : s.ring = false) {x y : Nat} (h : Path deps x y) : ∀ a b, s.out = a ++ x :: b → y ∈ a := by
  induction h with
  | one h => intro a b e; exact ht.topo hr a _ b e _ h
  | @more y z _ h2 ih =>
    intro a b e
    have hy := ih a b e
    obtain ⟨a1, a2, rfl⟩ := List.append_of_mem hy
    have := ht.topo hr a1 y (a2 ++ x :: b) (by rw [e]; simp) z h2
    simp [this]
theorem ring_iff (deps : List (List Int)) : (walkF deps ((List.range deps.length).map fun (i : Nat) => (i : Int))).ring = true ↔ ∃ c, Path deps c c := by
  constructor
  · intro h
    rcases walkF_ring _ start (good_nil _) (fun g hg => by cases hg) h with h | h
    · cases h
    · exact h
  · rintro ⟨c, hc⟩
    cases hr : (walkF deps ((List.range deps.length).map fun (i : Nat) => (i : Int))).ring with
    | true => rfl
    | false =>
      have hcn : c < deps.length := by
        cases hc with
        | one h => exact h.2
        | more _ h => exact h.2
      have hm : c ∈ beginF deps ((List.range deps.length).map fun (i : Nat) => (i : Int)) := mem_beginF.2 (.root (List.mem_map.2 ⟨c, List.mem_range.2 hcn, rfl⟩) hcn)
      obtain ⟨a, b, e⟩ := List.append_of_mem hm
      have h1 := topo_path (walkF_told _ _) hr hc a b e
      have h2 : (beginF deps ((List.range deps.length).map fun (i : Nat) => (i : Int))).Nodup := (beginF_good _ _).1
      rw [e, List.nodup_append] at h2
      exact absurd rfl (h2.2.2 c h1 c (by simp))
theorem reach_path {deps : List (List Int)} {i x : Nat} : Reach deps (deps.getD i []) x ↔ Path deps i x := by
  constructor
  · intro h
    induction h with
    | root h1 h2 => exact .one ⟨h1, h2⟩
    | step _ h2 ih => exact .more ih h2
  · intro h
    induction h with
    | one h => exact .root h.1 h.2
    | more _ h2 ih => exact .step ih h2
theorem begin_ahead {deps : List (List Int)} {roots : List Int} (hr : ¬ ∃ c, Path deps c c) {a b : List Nat} {x y : Nat} (e : beginF deps roots = a ++ x :: b) (h : Edge deps x y) : y ∈ a := by
  refine (walkF_told deps roots).topo ?_ a x b e y h
  cases hh : (walkF deps roots).ring with
  | false => rfl
  | true =>
    rcases walkF_ring _ start (good_nil _) (fun g hg => by cases hg) hh with h | h
    · cases h
    · exact absurd h hr

/-! ### The same walk with a list of what is being walked -/
/-- what is left to be done of what is being walked -/
def resume (deps : List (List Int)) : List (Nat × Nat) → St → St
  | [], s => s
  | (o, k) :: st, s => resume deps st { (((deps.getD o []).drop k).foldl (dfs deps) s) with out := (((deps.getD o []).drop k).foldl (dfs deps) s).out ++ [o] }

theorem getD_at {xs : List Int} {k : Nat} (h : k < xs.length) : xs.getD k 0 = xs[k] := by rw [List.getD, List.getElem?_eq_getElem h]; rfl
theorem resume_next {deps : List (List Int)} {o k : Nat} {st : List (Nat × Nat)} {s : St} (hk : k < (deps.getD o []).length) :
    resume deps ((o, k) :: st) s = resume deps ((o, k + 1) :: st) (dfs deps s ((deps.getD o []).getD k 0)) := by
  unfold resume
  rw [List.drop_eq_getElem_cons hk, List.foldl_cons, getD_at hk]
theorem resume_pop {deps : List (List Int)} {o k : Nat} {st : List (Nat × Nat)} {s : St} (hk : ¬ k < (deps.getD o []).length) :
    resume deps ((o, k) :: st) s = resume deps st { s with out := s.out ++ [o] } := by
  conv => lhs; unfold resume
  rw [List.drop_eq_nil_of_le (by omega)]
  rfl
theorem dfs_no {deps : List (List Int)} {s : St} {x : Int} (h : isObj deps.length x = false) : dfs deps s x = s := by
  unfold dfs visit
  rw [if_neg (by rw [h]; decide)]
theorem dfs_new {deps : List (List Int)} {s : St} {x : Nat} (hs : Good deps.length s.had) (hx : x < deps.length) (hn : x ∉ s.had) (st : List (Nat × Nat)) :
    resume deps st (dfs deps s (x : Int)) = resume deps ((x, 0) :: st) { s with had := x :: s.had } := by
  rw [dfs_eq hs, if_pos (isObj_iff.2 ⟨by omega, by omega⟩), if_pos (by simpa using hn)]
  simp [resume]
theorem dfs_again {deps : List (List Int)} {s : St} {x : Nat} (hs : Good deps.length s.had) (hx : x < deps.length) (hn : x ∈ s.had) (ho : x ∉ s.out) : dfs deps s (x : Int) = { s with ring := true } := by
  rw [dfs_eq hs, if_pos (isObj_iff.2 ⟨by omega, by omega⟩), if_neg (by simpa using hn), if_pos (by simpa using ho)]
theorem dfs_had_out {deps : List (List Int)} {s : St} {x : Nat} (hs : Good deps.length s.had) (hx : x < deps.length) (hn : x ∈ s.had) (ho : x ∈ s.out) : dfs deps s (x : Int) = s := by
  rw [dfs_eq hs, if_pos (isObj_iff.2 ⟨by omega, by omega⟩), if_neg (by simpa using hn), if_neg (by simpa using ho)]

/-- how many steps are left -/
def unseen (deps : List (List Int)) (had : List Nat) : List Nat → Nat
  | [] => 0
  | o :: os => (if o ∈ had then 0 else (deps.getD o []).length + 1) + unseen deps had os
def pending (deps : List (List Int)) : List (Nat × Nat) → Nat
  | [] => 0
  | (o, k) :: st => ((deps.getD o []).length - k + 1) + pending deps st
theorem unseen_out {deps : List (List Int)} {had : List Nat} {x : Nat} : ∀ (os : List Nat), x ∉ os → unseen deps (x :: had) os = unseen deps had os
  | [], _ => rfl
  | o :: os, h => by
    have h1 : o ≠ x := fun e => h (by simp [e])
    simp only [unseen, List.mem_cons, h1, false_or]
    rw [unseen_out os (fun h2 => h (by simp [h2]))]
theorem unseen_in {deps : List (List Int)} {had : List Nat} {x : Nat} (hx : x ∉ had) : ∀ (os : List Nat), os.Nodup → x ∈ os → unseen deps (x :: had) os + ((deps.getD x []).length + 1) = unseen deps had os
  | o :: os, hn, h => by
    obtain ⟨h1, h2⟩ := List.nodup_cons.1 hn
    by_cases ho : o = x
    · subst ho
      simp only [unseen, List.mem_cons, true_or, if_true, if_neg hx]
      rw [unseen_out os h1]
      omega
    · have h3 : x ∈ os := by
        rcases List.mem_cons.1 h with h | h
        · exact absurd h.symm ho
        · exact h
      have := unseen_in (deps := deps) hx os h2 h3
      simp only [unseen, List.mem_cons, ho, false_or]
      omega
def left (deps : List (List Int)) (st : List (Nat × Nat)) (s : St) : Nat := unseen deps s.had (List.range deps.length) + pending deps st
theorem left_new {deps : List (List Int)} {s : St} {x : Nat} (hx : x < deps.length) (hn : x ∉ s.had) (st : List (Nat × Nat)) : left deps ((x, 0) :: st) { s with had := x :: s.had } = left deps st s := by
  have := unseen_in (deps := deps) hn (List.range deps.length) List.nodup_range (List.mem_range.2 hx)
  simp only [left, pending]
  omega
theorem left_next {deps : List (List Int)} {o k : Nat} {st : List (Nat × Nat)} {s : St} (hk : k < (deps.getD o []).length) : left deps ((o, k) :: st) s = left deps ((o, k + 1) :: st) s + 1 := by
  simp only [left, pending]
  omega
theorem left_pop {deps : List (List Int)} {o k : Nat} {st : List (Nat × Nat)} {s s' : St} (h : s'.had = s.had) (hk : ¬ k < (deps.getD o []).length) : left deps ((o, k) :: st) s = left deps st s' + 1 := by
  simp only [left, pending, h]
  omega
end Go.Proofs.Ytfckgagpfpnelaa
