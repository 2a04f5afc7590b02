/- tls.Drop. -/
import Derived.Test.YtbppajfpjhmcgaaTlsPush
import Derived.Test.YtbppajfpjhmcgaaOwnPut
namespace Go.Proofs.Ytbppajfpjhmcgaa
open Go.RowKit
set_option linter.unusedVariables false
set_option linter.unusedSimpArgs false

theorem set_rows {sz : Nat} (rows : List (List Value)) (h : ∀ r ∈ rows, r.length = sz) (k j : Nat) (hk : k < rows.length) (hj : j < sz) (v : Value) : rows.flatten.set (k * sz + j) v = (rows.set k (rows[k].set j v)).flatten := by
  have hs : 0 < sz := by omega
  have hrk := h _ (List.getElem_mem hk)
  have h' : ∀ q ∈ rows.set k (rows[k].set j v), q.length = sz := fun q hq => by
    rcases List.mem_or_eq_of_mem_set hq with h1 | h1
    · exact h q h1
    · rw [h1, List.length_set]; exact hrk
  apply List.ext_getElem?
  intro m
  by_cases hm : m < rows.length * sz
  · obtain ⟨hi, hj', e⟩ := flatten_get hs rows h m hm
    obtain ⟨hi', -, e'⟩ := flatten_get hs _ h' m (by simpa using hm)
    rw [e', List.getElem?_set, e, flatten_len rows h]
    have hd := Nat.div_add_mod m sz
    by_cases hmk : m / sz = k
    · have hz : (rows.set k (rows[k].set j v))[m / sz] = rows[k].set j v := by
        rw [List.getElem_set]
        simp [hmk]
      have hz2 : rows[m / sz] = rows[k] := by simp [hmk]
      rw [hz, hz2, List.getElem?_set]
      rw [hmk, Nat.mul_comm] at hd
      by_cases hmj : m % sz = j
      · rw [if_pos (by omega), if_pos (by omega), if_pos hmj.symm, if_pos (by omega)]
      · rw [if_neg (by omega), if_neg (fun h => hmj h.symm)]
    · have hz : (rows.set k (rows[k].set j v))[m / sz] = rows[m / sz] := by
        rw [List.getElem_set]
        simp [Ne.symm hmk]
      rw [hz, if_neg (by
        intro hh
        apply hmk
        rw [← hh]
        refine Nat.div_eq_of_lt_le (by omega) ?_
        rw [Nat.add_mul]
        omega)]
  · rw [List.getElem?_eq_none (by rw [List.length_set, flatten_len rows h]; omega), List.getElem?_eq_none (by rw [flatten_len _ h']; simpa using hm)]
theorem OwnS.putCell {w : World} {B : Nat} {e : TypeId} {sz g n cap : Nat} {rows : List (List Value)} (h : OwnS w B e sz (.slice (some ⟨g, 0, none⟩) n cap) rows) (k j : Nat) (hk : k < rows.length) (hj : j < sz) (v : Value) :
    OwnS (w.setCell ⟨g, k * sz + j, none⟩ v) B e sz (.slice (some ⟨g, 0, none⟩) n cap) (rows.set k (rows[k].set j v)) := by
  have hn := h.at.1
  obtain ⟨h1, h2⟩ := h
  rw [← hn] at h1
  have h3 := (World.ownsRow.stored h1 (k * sz + j) v).1
  refine ⟨?_, fun q hq => ?_⟩
  · rw [List.length_set, ← hn, ← set_rows rows h2 k j hk hj v]
    exact h3
  · rcases List.mem_or_eq_of_mem_set hq with h5 | h5
    · exact h2 q h5
    · rw [h5, List.length_set]; exact h2 _ (List.getElem_mem hk)

section
variable {sb st last gr n i : Nat} {ms : List TM} {ts : List (Nat × Nat)} {ma ta : Option Addr} {mc tc : Nat} {w : World}
theorem StAt.drop {g : Nat} (H : StAt w sb st last gr ms ts (some ⟨g, 0, none⟩) mc ta tc) {m : TM} (hi : ms[i]? = some m) :
    StAt (w.setCell ⟨g, i * 5 + 4, none⟩ (.bool true)) sb st last gr (ms.set i { m with dr := true }) ts (some ⟨g, 0, none⟩) mc ta tc := by
  have hlt : i < ms.length := (List.getElem?_eq_some_iff.1 hi).1
  have he : ms[i] = m := (List.getElem?_eq_some_iff.1 hi).2
  have hg : (Value.slice (some ⟨g, 0, none⟩) ms.length mc).ownBlock = some g := rfl
  have hgs := (World.ownsRow.lt H.mods.1 g hg).1
  refine ⟨?_, ?_, ?_⟩
  · rw [heap_setCell_other _ _ _ _ (by show sb ≠ g; omega), List.length_set]
    exact H.box
  · have := H.mods.putCell i 4 (by simpa using hlt) (by omega) (.bool true)
    rw [List.length_set]
    have e2 : (ms.set i { m with dr := true }).map TM.row = (ms.map TM.row).set i (((ms.map TM.row)[i]'(by simpa using hlt)).set 4 (.bool true)) := by
      rw [List.map_set]
      congr 1
      simp only [List.getElem_map, he]
      rfl
    rw [e2]
    exact this
  · exact H.thr.setO (a := ⟨g, i * 5 + 4, none⟩) (own_ne_own H.mods H.thr (by decide) hg) _

theorem drop_arg (i : Nat) (h : StAt w sb st last gr ms ts ma mc ta tc) (hi : i ≤ st) (hst : st ≤ 1048576) :
    Calls Try.prog 17 #[.pointer (some ⟨sb, 0, none⟩), .int .i64 (i : Int)] w fun e w' => e = .returned (errV 1) ∧ w = w' := by
  have c1 := h.c1
  clear h
  have i0 : (i : Int) ≤ (st : Int) := by omega
  go_enter Try.func17, Try.ntmps17
  go_wp2_with fail
  go_ret
  exact ⟨rfl, rfl⟩
theorem drop_gone (m : TM) (h : StAt w sb st last gr ms ts ma mc ta tc) (hi : ms[i]? = some m) (hs : st ≤ i) (hd : m.dr = true) (hn : ms.length = n) (hn1 : n ≤ 1048576) :
    Calls Try.prog 17 #[.pointer (some ⟨sb, 0, none⟩), .int .i64 ((i + 1 : Nat) : Int)] w fun e w' => e = .returned (errV 6) ∧ w = w' := by
  have c1 := h.c1
  have c0 := h.c0
  obtain ⟨b, o, rfl, hb, hc⟩ := h.mod_at hi
  have c4 := hc 4 (by omega)
  simp only [TM.row, hd] at c4
  replace c4 : w.cell? ⟨b, o + i * 5 + 4, none⟩ = some (.bool true) := c4
  have hlt : i < ms.length := (List.getElem?_eq_some_iff.1 hi).1
  rw [hn] at c0 hlt
  have i0 : ¬ (i : Int) + 1 ≤ (st : Int) := by omega
  have i1 : ¬ (n : Int) < (i : Int) + 1 := by omega
  have i2 : (i : Int) < (n : Int) := by omega
  have hnb : (n : Int) ≤ 1048576 := by omega
  clear h hc hb hi hs hd hn hn1
  push_cast
  go_enter Try.func17, Try.ntmps17
  go_wp2_with fail
  go_ret
  exact ⟨rfl, rfl⟩
theorem drop_live {g : Nat} (m : TM) (h : StAt w sb st last gr ms ts (some ⟨g, 0, none⟩) mc ta tc) (hi : ms[i]? = some m) (hs : st ≤ i) (hd : m.dr = false) (hn : ms.length = n) (hn1 : n ≤ 1048576) :
    Calls Try.prog 17 #[.pointer (some ⟨sb, 0, none⟩), .int .i64 ((i + 1 : Nat) : Int)] w fun e w' => e = .returned .nilIface ∧ w' = w.setCell ⟨g, i * 5 + 4, none⟩ (.bool true) := by
  have c1 := h.c1
  have c0 := h.c0
  obtain ⟨b, o, e, hb, hc⟩ := h.mod_at hi
  simp only [Option.some.injEq, Addr.mk.injEq, and_true] at e
  obtain ⟨rfl, rfl⟩ := e
  have c4 := hc 4 (by omega)
  simp only [TM.row, hd] at c4
  replace c4 : w.cell? ⟨g, i * 5 + 4, none⟩ = some (.bool false) := by rw [Nat.zero_add] at c4; exact c4
  have hf : w.frozen? ⟨g, i * 5 + 4, none⟩ = false := by
    have hm := h.mods.1
    rw [List.length_map] at hm
    exact World.ownsRow.frozenAt hm (i * 5 + 4)
  have hlt : i < ms.length := (List.getElem?_eq_some_iff.1 hi).1
  rw [hn] at c0 hlt
  have i0 : ¬ (i : Int) + 1 ≤ (st : Int) := by omega
  have i1 : ¬ (n : Int) < (i : Int) + 1 := by omega
  have i2 : (i : Int) < (n : Int) := by omega
  have hnb : (n : Int) ≤ 1048576 := by omega
  clear h hc hb hi hs hd hn hn1
  push_cast
  go_enter Try.func17, Try.ntmps17
  go_wp2_with fail
  go_ret
  exact ⟨rfl, rfl⟩
end
end Go.Proofs.Ytbppajfpjhmcgaa
