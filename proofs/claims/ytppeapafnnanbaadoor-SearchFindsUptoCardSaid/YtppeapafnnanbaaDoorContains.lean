/- Layer 14: is a text among others? append of one text that tells the block. -/
import Derived.Test.YtppeapafnnanbaaDoorCut
import Derived.Test.YtppeapafnnanbaaDoorKit1
import Derived.Deep.AppendLies
namespace Go.Proofs.YtppeapafnnanbaaDoor
open Go.RowKit
set_option linter.unusedVariables false
set_option linter.unusedSimpArgs false

/-- where a text is first; -1: nowhere -/
def inB (T : List ByteArray) (x : ByteArray) : Bool := T.any fun t => t.data.toList == x.data.toList
theorem inB_yes {T : List ByteArray} {x : ByteArray} (h : x ∈ T) : inB T x = true := List.any_eq_true.2 ⟨x, h, by simp⟩
theorem inB_no {T : List ByteArray} {x : ByteArray} (h : ∀ t ∈ T, t ≠ x) : inB T x = false := by
  unfold inB
  rw [List.any_eq_false]
  intro t ht
  rw [beq_iff_eq]
  intro e
  exact h t ht (ByteArray.ext (Array.ext' e))
theorem getD_mem {T : List ByteArray} {k : Nat} (h : k < T.length) : T.getD k .empty ∈ T := by
  rw [List.getD, List.getElem?_eq_getElem h]
  exact List.getElem_mem _
theorem index_any (a : Option Addr) (cap : Nat) (T : List ByteArray) (x : ByteArray) (w : World) (h : TRow w a T) (hl : T.length ≤ 140737488351232) :
    Calls Tryd.prog 49 #[.slice a T.length cap, .string x] w fun e w' => (∃ i : Int, e = .returned (.int .i64 i) ∧ decide (0 ≤ i) = inB T x ∧ -1 ≤ i ∧ i < 140737488351232) ∧ w = w' := by
  have H := Lib.hid h
  have HM : Hid (∀ k, k < T.length → T.getD k .empty ∈ T) := Lib.hid (fun k hk => getD_mem hk)
  obtain ⟨R, hR⟩ : ∃ R : Int → Prop, (fun i => decide (0 ≤ i) = inB T x ∧ -1 ≤ i ∧ i < 140737488351232) = R := ⟨_, rfl⟩
  have HR : Hid (∀ i, R i ↔ (decide (0 ≤ i) = inB T x ∧ -1 ≤ i ∧ i < 140737488351232)) := Lib.hid (fun i => by rw [← hR])
  have hpost : (fun e w' => (∃ i : Int, e = Ending.returned (.int .i64 i) ∧ decide (0 ≤ i) = inB T x ∧ -1 ≤ i ∧ i < 140737488351232) ∧ w = w') = fun e w' => (∃ i : Int, e = Ending.returned (.int .i64 i) ∧ R i) ∧ w = w' := by rw [← hR]
  rw [hpost]
  clear h hR hpost
  have HL := Lib.hid hl
  go_enter Tryd.func49, Tryd.ntmps49
  go_wp2
  go_loopg [8] T.length (fun g i wr => ∃ k : Nat, k + g = T.length ∧ i = .int .i64 (k : Int) ∧ Hid (∀ j, j < k → T.getD j .empty ≠ x) ∧ w = wr)
  case atStart => exact ⟨0, by omega, rfl, Lib.hid (fun j hj => by omega), rfl⟩
  case round =>
    obtain ⟨k, hk, rfl, HN, rfl⟩ := hrel
    cases gk with
    | zero =>
      have hke : k = T.length := by omega
      have hno : inB T x = false := inB_no (fun t ht e0 => by
        obtain ⟨j, hj, e⟩ := List.mem_iff_getElem.1 ht
        exact HN.out j (by omega) (by rw [List.getD, List.getElem?_eq_getElem hj]; exact e.trans e0))
      have HNO := Lib.hid hno
      clear hk hno
      subst hke
      go_wp2
      go_ret
      exact ⟨⟨-1, rfl, (HR.out _).2 ⟨by rw [HNO.out]; decide, by omega, by omega⟩⟩, rfl⟩
    | succ g =>
      have hlt : k < T.length := by omega
      obtain ⟨b, o, rfl, -, hc⟩ := H.out k hlt
      have HMK := Lib.hid (HM.out k hlt)
      have HNK := Lib.hid (fun (h : ¬ T.getD k .empty = x) => (fun j hj => (by
        rcases Nat.lt_or_ge j k with h1 | h1
        · exact HN.out j h1
        · obtain rfl : j = k := by omega
          exact h) : ∀ j, j < k + 1 → T.getD j .empty ≠ x))
      generalize T.getD k .empty = y at *
      by_cases hy : y = x
      · subst hy
        have HY : Hid (inB T y = true) := Lib.hid (inB_yes HMK.out)
        have hkb : k < 140737488351232 := by omega
        go_wp2
        go_ret
        exact ⟨⟨(k : Int), rfl, (HR.out _).2 ⟨by rw [HY.out]; exact decide_eq_true (by omega), by omega, by omega⟩⟩, rfl⟩
      · have hy2 := text_ne hy
        have hy3 : (x.toList == y.toList) = false := text_ne (fun e => hy e.symm)
        have HNX := Lib.hid (HNK.out hy)
        clear HNK hy
        go_wp2_with fail
        go_roundg g
        case measure => omega
        case rel => exact ⟨k + 1, by omega, by go_num, HNX, rfl⟩
theorem contains_any (a : Option Addr) (cap : Nat) (T : List ByteArray) (x : ByteArray) (w : World) (h : TRow w a T) (hl : T.length ≤ 140737488351232) :
    Calls Tryd.prog 27 #[.slice a T.length cap, .string x] w fun e w' => e = .returned (.bool (inB T x)) ∧ w = w' := by
  have HI := Lib.hid (index_any a cap T x w h hl)
  clear h
  go_enter Tryd.func27, Tryd.ntmps27
  go_wp2_with fail
  refine HI.out.mono ?_
  rintro e w' ⟨⟨i, rfl, hi, -, -⟩, rfl⟩
  have HII := Lib.hid hi
  clear hi
  go_wp2_with fail
  go_ret
  exact ⟨by rw [← HII.out]; rfl, rfl⟩

/-- out = append(out, t): and where it lies -/
theorem wpList_text_g {P : Program} {w : World} {ops : Array Oper} {rest : List Oper} {o : Oper} {a : Act} {Q : Exit → Act → World → Prop} (hgd : o.guard = none) (s x : Operand) {t e : TypeId} (ht : P.underlying t = some (.slice e)) (hinfo : (P.info? e).map (fun i => (i.zero, i.size, i.bytes)) = some (some (.string .empty), 1, 16))
    (ho : o.op = .call { callee := .builtin .append, args := #[s, x], argTypes := #[t, t] })
    (B : Nat) (v : Value) (T : List ByteArray) (n : Nat) (ad : Addr) (c : Nat) (y : ByteArray) (hs : a.eval s = v) (hx : a.eval x = .slice (some ad) 1 c) (hnew : w.cell? ad = some (.string y)) (hn0 : T.length = n)
    (hown : OwnT w B e v T) (h63 : n + 1 ≤ maxLen) (hlen : (n + 1) * 16 ≤ 140737488355328) (hb : B ≤ w.heap.size) (H : Nat) (hH : w.heap.size = H)
    (h : ∀ g cap w', OwnT w' B e (.slice (some ⟨g, 0, none⟩) (n + 1) cap) (T ++ [y]) → w.grownBy w' v.ownBlock → (v.ownBlock = some g ∨ g = H) → wpList P ops Q rest (a.put o.dst (.slice (some ⟨g, 0, none⟩) (n + 1) cap)) w') : wpList P ops Q (o :: rest) a w := by
  subst hn0
  obtain ⟨i, hi, hz0, hz1, hz2⟩ := info_parts hinfo
  refine wpList_append_lies _ hgd s x t ho B e i (.string .empty) 1 16 ht hi hz0 hz1 hz2 rfl (by decide) v T.length (T.map Value.string) hs hown ad 1 c [.string y] hx rfl ?_ (by intro u hu; simp only [List.mem_cons, List.not_mem_nil, or_false] at hu; subst hu; rfl) (by omega) h63 hlen hb H hH ?_
  · intro j u hj
    match j, hj with
    | 0, hj =>
      simp only [List.getElem?_cons_zero, Option.some.injEq] at hj
      subst hj
      have : ad.add 0 = ad := by cases ad; rfl
      rw [this]
      exact hnew
  · intro g cap w1 hown' hgr hor _
    refine h g cap w1 ?_ hgr hor
    unfold OwnT
    rw [List.length_append, List.map_append]
    exact hown'
end Go.Proofs.YtppeapafnnanbaaDoor
