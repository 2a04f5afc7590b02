/- Layer 3 as mathematics: a path without links leads where it says. -/
import Derived.Test.YtcabpidbdnlomaaGreatDoorVfsFolM
import Derived.Test.YtcabpidbdnlomaaGreatDoorVfsCutM
namespace Go.Proofs.YtcabpidbdnlomaaGreatDoor
open Go.RowKit
set_option linter.unusedVariables false
set_option linter.unusedSimpArgs false

theorem bang_list (s : ByteArray) (i : Nat) (h : i < s.size) : s.data[i]! = s.data.toList[i]'(by simpa using h) := by
  have h' : i < s.data.size := h
  rw [getElem!_pos s.data i h']
  simp
/-- names that lead from a directory, through directories -/
inductive Walks (F : ByteArray → Option Ent) : ByteArray → List ByteArray → ByteArray → Prop
  | nil (a : ByteArray) : Walks F a [] a
  | snoc {a p n : ByteArray} {l : List ByteArray} {d e : Ent} (h : Walks F a l p) (hd : F p = some d) (h1 : d.kind = 1) (hn : n ≠ ⟨#[]⟩ ∧ n ≠ ⟨#[46]⟩ ∧ n ≠ ⟨#[46, 46]⟩) (he : F (joinF p n) = some e) (h2 : e.kind ≠ 2) : Walks F a (l ++ [n]) (joinF p n)
theorem goFol_walk {F : ByteArray → Option Ent} {a p : ByteArray} {l : List ByteArray} (h : Walks F a l p) : ∀ (g : Nat) (B : List ByteArray) (hops : Nat), goFol F (l.length + g) a (l ++ B) hops = goFol F g p B hops := by
  induction h with
  | nil => intro g B hops; rw [List.nil_append, List.length_nil, Nat.zero_add]
  | snoc h hd h1 hn he h2 ih =>
    intro g B hops
    rw [List.length_append, List.append_assoc, List.length_singleton, Nat.add_assoc, ih, Nat.add_comm 1 g, List.singleton_append, goFol_cons, if_neg (by rw [hd]; simp [h1]), if_neg (by rintro (e | e); exact hn.1 e; exact hn.2.1 e), if_neg hn.2.2]
    rw [he]
    simp only []
    rw [if_pos h2]
theorem vname_ne {n : ByteArray} (h : vnameF n = true) : n ≠ ⟨#[]⟩ ∧ n ≠ ⟨#[46]⟩ ∧ n ≠ ⟨#[46, 46]⟩ := by
  unfold vnameF at h
  simp only [Bool.and_eq_true, Bool.not_eq_true', decide_eq_false_iff_not] at h
  refine ⟨fun e => ?_, h.2.1, h.2.2⟩
  have := within_size h.1
  rw [e] at this
  simp [ByteArray.size] at this
/-- a clean path: its directory and its last name -/
theorem clean_parts {k : ByteArray} (hk : cleanF k = true) : ∃ n : ByteArray, vnameF n = true ∧ joinF (parentF k) n = k ∧ slashF (restF k) = (if parentF k = slash then [] else slashF (restF (parentF k))) ++ [n] ∧ (parentF k).size < k.size := by
  unfold cleanF at hk
  simp only [Bool.and_eq_true, decide_eq_true_eq] at hk
  obtain ⟨hw, h47, hall⟩ := hk
  have hsz := within_size hw
  rw [first_bang k (by omega)] at h47
  obtain ⟨⟨l⟩⟩ := k
  cases l with
  | nil => simp [ByteArray.size] at hsz
  | cons c l =>
    have hc : c = 47 := h47
    subst hc
    have hrest : restF ⟨(47 :: l).toArray⟩ = mkP l := by
      unfold restF
      rw [extract_part]
      show mkP ((l).take (List.length (47 :: l) - 1)) = _
      rw [List.length_cons, Nat.add_sub_cancel, List.take_length]
    have hcutl : ∀ x : List UInt8, slashF (mkP x) = (cutGo slashP [] x).map mkP := fun x => by
      rw [slashF_cut _ _ (Nat.le_refl _)]
      rfl
    rw [hrest, hcutl] at hall
    have e47 : (UInt8.toNat 47 : Int) = 47 := rfl
    rcases Lib.lastIndexByte_spec ⟨(47 :: l).toArray⟩ 47 with ⟨-, hno⟩ | ⟨i, hi, hix, h1, h2⟩
    · exact absurd rfl (hno 0 (by show 0 < (47 :: l).length; simp))
    · have hlen : (⟨(47 :: l).toArray⟩ : ByteArray).size = l.length + 1 := rfl
      rw [hlen] at hi h2
      have hgt : ∀ j, i < j → (hj : j < l.length + 1) → (47 :: l)[j]'(by simpa using hj) ≠ 47 := fun j hij hj e => by
        apply h2 j hij hj
        have := bang_list ⟨(47 :: l).toArray⟩ j hj
        rw [this]
        show (((47 :: l)[j]'_).toNat : Int) = 47
        rw [e]
        rfl
      by_cases h0 : i = 0
      · subst h0
        have hp : parentF ⟨(47 :: l).toArray⟩ = slash := by
          unfold parentF
          rw [hix, extract_part]
          rfl
        have hnl : ∀ c ∈ l, c ≠ 47 := fun c hc e => by
          obtain ⟨j, hj, hh⟩ := List.getElem_of_mem hc
          exact hgt (j + 1) (by omega) (by omega) (by rw [List.getElem_cons_succ, hh, e])
        have hs1 : slashF (mkP l) = [mkP l] := by rw [hcutl, cut_none hnl, List.nil_append]; rfl
        have hv : vnameF (mkP l) = true := by
          rw [cut_none hnl, List.nil_append] at hall
          simpa using hall
        refine ⟨mkP l, hv, ?_, ?_, ?_⟩
        · rw [hp]
          unfold joinF
          rw [if_pos rfl]
          rfl
        · rw [hp, if_pos rfl, hrest, hs1]
          rfl
        · rw [hp, slash_one, hlen]
          have := vname_ne hv
          cases l with
          | nil => exact absurd rfl this.1
          | cons _ _ => simp
      · have h47i : (47 :: l)[i]'(by simpa using hi) = 47 := by
          have := bang_list ⟨(47 :: l).toArray⟩ i hi
          rw [this] at h1
          exact UInt8.toNat_inj.1 (by
            have h1' : (((47 :: l)[i]'(by simpa using hi)).toNat : Int) = 47 := h1
            show _ = 47
            omega)
        obtain ⟨m, rfl⟩ : ∃ m, i = m + 1 := ⟨i - 1, by omega⟩
        rw [List.getElem_cons_succ] at h47i
        have hml : m < l.length := by omega
        have hl : l = l.take m ++ 47 :: l.drop (m + 1) := by
          conv => lhs; rw [← List.take_append_drop m l, List.drop_eq_getElem_cons hml, h47i]
        have hnl : ∀ c ∈ l.drop (m + 1), c ≠ 47 := fun c hc e => by
          obtain ⟨j, hj, hh⟩ := List.getElem_of_mem hc
          rw [List.length_drop] at hj
          rw [List.getElem_drop] at hh
          exact hgt (m + 1 + 1 + j) (by omega) (by omega) (by
            have h8 : (47 :: l)[m + 1 + 1 + j]? = l[m + 1 + j]? := by rw [show m + 1 + 1 + j = (m + 1 + j) + 1 by omega, List.getElem?_cons_succ]
            rw [List.getElem?_eq_getElem (by simp; omega), List.getElem?_eq_getElem (by omega)] at h8
            rw [Option.some.inj h8, hh, e])
        have hp : parentF ⟨(47 :: l).toArray⟩ = mkP (47 :: l.take m) := by
          unfold parentF
          rw [hix, extract_part]
          have : (max 1 ((m + 1 : Nat) : Int)).toNat = m + 1 := by omega
          rw [this]
          show mkP ((47 :: l).take (m + 1)) = _
          rw [List.take_succ_cons]
        have hcut := cut_snoc hnl (l.take m) []
        rw [← hl] at hcut
        rw [hcut, List.map_append, List.all_append, Bool.and_eq_true] at hall
        have hv : vnameF (mkP (l.drop (m + 1))) = true := by simpa using hall.2
        have hm0 : m ≠ 0 := by
          intro e
          subst e
          have h3 := hall.1
          simp only [List.take_zero, cutGo, List.map_cons, List.map_nil, List.all_cons, List.all_nil, Bool.and_true] at h3
          exact (vname_ne h3).1 rfl
        have hps : parentF ⟨(47 :: l).toArray⟩ ≠ slash := by
          rw [hp]
          intro e
          have h4 := congrArg ByteArray.size e
          rw [slash_one] at h4
          have h5 : (mkP (47 :: l.take m)).size = (l.take m).length + 1 := rfl
          rw [h5, List.length_take] at h4
          omega
        refine ⟨mkP (l.drop (m + 1)), hv, ?_, ?_, ?_⟩
        · unfold joinF
          rw [if_neg hps, hp]
          apply ByteArray.ext
          apply Array.ext'
          rw [ByteArray.data_append, ByteArray.data_append]
          show ((47 :: l.take m).toArray ++ #[47] ++ (l.drop (m + 1)).toArray).toList = 47 :: l
          simp only [List.append_toArray, List.toList_toArray, List.cons_append, List.append_assoc]
          conv => rhs; rw [hl]
          simp
        · rw [if_neg hps, hp, hrest, hcutl, hcut, List.map_append]
          have hr2 : restF (mkP (47 :: l.take m)) = mkP (l.take m) := by
            unfold restF
            rw [extract_part]
            show mkP ((l.take m).take (List.length (47 :: l.take m) - 1)) = _
            rw [List.length_cons, Nat.add_sub_cancel, List.take_length]
          rw [hr2, hcutl]
          rfl
        · rw [hp, hlen]
          show (l.take m).length + 1 < _
          rw [List.length_take]
          omega
theorem walks_self {F : ByteArray → Option Ent} (hF : TreeIn F) : ∀ (z : Nat) (k : ByteArray) (e : Ent), k.size ≤ z → F k = some e → e.kind ≠ 2 → k ≠ slash → Walks F slash (slashF (restF k)) k
  | 0, k, e, hz, he, h2, hk => by
    have := (hF.ok.keys _ _ he).1
    omega
  | z + 1, k, e, hz, he, h2, hk => by
    obtain ⟨n, hv, hj, hs, hlt⟩ := clean_parts (hF.cln _ _ he hk)
    obtain ⟨d, hd, h1⟩ := hF.up _ _ he hk
    have key : Walks F slash ((if parentF k = slash then [] else slashF (restF (parentF k))) ++ [n]) (joinF (parentF k) n) := by
      refine .snoc ?_ hd h1 (vname_ne hv) (by rw [hj]; exact he) h2
      by_cases hps : parentF k = slash
      · rw [if_pos hps, hps]
        exact .nil _
      · rw [if_neg hps]
        exact walks_self hF z _ d (by omega) hd (by omega) hps
    rw [hj, ← hs] at key
    exact key
/-- what is there and is no link leads to itself -/
theorem folF_self {F : ByteArray → Option Ent} (hF : TreeIn F) {k : ByteArray} {e : Ent} (he : F k = some e) (h2 : e.kind ≠ 2) : folF F k = .ok k := by
  by_cases hk : k = slash
  · subst hk
    obtain ⟨r, hr, hr1⟩ := hF.ok.root
    unfold folF
    rw [if_pos ⟨by decide +kernel, by decide +kernel⟩]
    have : slashF (restF slash) = [⟨#[]⟩] := by decide +kernel
    rw [this, goFol_cons, if_neg (by rw [hr]; simp [hr1]), if_pos (.inl rfl), goFol_nil]
  · have hc := hF.cln _ _ he hk
    have hw := walks_self hF _ k e (Nat.le_refl _) he h2 hk
    unfold cleanF at hc
    simp only [Bool.and_eq_true, decide_eq_true_eq] at hc
    unfold folF
    rw [if_pos ⟨hc.1, hc.2.1⟩]
    have hlen : (slashF (restF k)).length ≤ 4097 := by
      have h1 := slashF_le (restF k)
      have h2 := restF_size k
      have h3 := within_size hc.1
      omega
    obtain ⟨g, hg⟩ : ∃ g, 50000 = (slashF (restF k)).length + g := ⟨50000 - (slashF (restF k)).length, by omega⟩
    have := goFol_walk hw g [] 0
    rw [List.append_nil, ← hg, goFol_nil] at this
    exact this
end Go.Proofs.YtcabpidbdnlomaaGreatDoor
