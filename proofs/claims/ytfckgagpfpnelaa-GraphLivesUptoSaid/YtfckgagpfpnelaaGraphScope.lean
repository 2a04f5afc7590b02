/- Layer 16: dependencies in memory; what is reached by breadth, the document's answer and the program's. -/
import Derived.Test.YtfckgagpfpnelaaGraphRef
namespace Go.Proofs.Ytfckgagpfpnelaa
open Go.RowKit
set_option linter.unusedVariables false
set_option linter.unusedSimpArgs false

/-- dependencies that can be read -/
def DRow (w : World) (a : Option Addr) (L : List (List Int)) : Prop := ∀ i, i < L.length → ∃ b o ai ci, a = some ⟨b, o, none⟩ ∧ b < w.heap.size ∧ w.cell? ⟨b, o + i, none⟩ = some (.slice ai (L.getD i []).length ci) ∧ Row .i64 w ai (L.getD i []) ∧ I64s (L.getD i []) ∧ (L.getD i []).length ≤ 1048576
theorem DRow.below {w w' : World} {a : Option Addr} {L : List (List Int)} (h : DRow w a L) (hb : Below w.heap.size w w') : DRow w' a L := by
  intro i hi
  obtain ⟨b, o, ai, ci, e, hlt, hc, hr, hx, hl⟩ := h i hi
  exact ⟨b, o, ai, ci, e, Nat.lt_of_lt_of_le hlt hb.size, by rw [hb.cell (p := ⟨b, o + i, none⟩) hlt]; exact hc, hr.below hb, hx, hl⟩

/-- a list of objects that is answered -/
def ListAns (R : List Nat) (w : World) (e : Ending) (w' : World) : Prop :=
  ∃ ad c, e = .returned (.slice ad R.length c) ∧ OwnI w' w.heap.size 3 .i64 (.slice ad R.length c) (toI R) ∧ Below w.heap.size w w'

set_option maxRecDepth 100000 in
set_option maxHeartbeats 4000000 in
theorem refScope_any (w : World) (da : Option Addr) (dc : Nat) (deps : List (List Int)) (ra : Option Addr) (rc : Nat) (roots : List Int) (hn : deps.length ≤ 1048576) (hd : DRow w da deps) (hr : Row .i64 w ra roots) (hx : I64s roots) (hxl : roots.length ≤ 140737488351232) :
    Calls Try.prog 11 #[.slice da deps.length dc, .slice ra roots.length rc] w (ListAns (scopeF deps roots) w) := by
  have HL := Lib.hid (fun (w1 : World) (l : List Nat) (al : Option Addr) (cl : Nat) (am : Option Addr) (cm : Nat) (xs : List Int) => refLay_any w w1 deps.length l al cl am cm xs hn)
  have HD := Lib.hid hd
  have HR := Lib.hid hr
  have HX := Lib.hid hx
  obtain ⟨n, hnn⟩ : ∃ n, deps.length = n := ⟨_, rfl⟩
  have HR0 : Hid (scopeGo deps (n + 1) 0 (layF n [] roots) = scopeF deps roots) := Lib.hid (by rw [← hnn]; rfl)
  obtain ⟨R, hRR⟩ : ∃ R, scopeF deps roots = R := ⟨_, rfl⟩
  rw [hRR] at HR0 ⊢
  rw [hnn] at HL hn ⊢
  have HN := Lib.hid hnn
  clear hd hr hx hRR hnn
  go_enter Try.func11, Try.ntmps11
  go_wp2_with fail
  refine (HL.out w [] none 0 ra rc roots (good_nil _) (Below.refl _ _) (OwnI.nil _ _ _ _) HR.out HX.out hxl).mono ?_
  rintro e w1 ⟨a1, c1, rfl, ho, hb⟩
  have HO := Lib.hid ho; have HB := Lib.hid hb
  have HG := Lib.hid (layF_good (n := n) roots [] (good_nil _))
  clear ho hb
  generalize layF n [] roots = l0 at *
  go_wp2
  go_loopg [5, 6] (n + 1) (fun g v i wr => ∃ (k : Nat) (ad : Option Addr) (c : Nat) (l : List Nat), k + g = n + 1 ∧ v = .slice ad l.length c ∧ i = .int .i64 (k : Int) ∧ k ≤ l.length ∧ Hid (scopeGo deps g k l = R) ∧ Hid (Good n l) ∧ Hid (OwnI wr w.heap.size 3 .i64 (.slice ad l.length c) (toI l)) ∧ Hid (Below w.heap.size w wr))
  case atStart => exact ⟨0, a1, c1, l0, by omega, rfl, rfl, Nat.zero_le _, HR0, HG, HO, HB⟩
  case round =>
    obtain ⟨k, ad, c, l, hk, rfl, rfl, hkl, HS, HGL, OW, BW⟩ := hrel
    have hll := nodup_le HGL.out
    obtain ⟨g, rfl⟩ : ∃ g, gk = g + 1 := ⟨gk - 1, by omega⟩
    by_cases hlt : k < l.length
    · obtain ⟨b, o, rfl, hc⟩ := OW.out.at.2.1 k (by rw [toI_length]; exact hlt)
      rw [toI_getD] at hc
      have hlk : l.getD k 0 < n := HGL.out.2 _ (by simp [List.getD, List.getElem?_eq_getElem hlt])
      have HS' : Hid (scopeGo deps g (k + 1) (layF n l (deps.getD (l.getD k 0) [])) = R) := Lib.hid (by
        have := HS.out
        unfold scopeGo at this
        rw [if_pos hlt, HN.out] at this
        exact this)
      obtain ⟨b2, o2, ai, ci, rfl, -, hcd, hri, hxi, hli⟩ := (HD.out.below BW.out) (l.getD k 0) (by rw [HN.out]; exact hlk)
      have HRI := Lib.hid (show Row .i64 w ai (deps.getD (l.getD k 0) []) by
        obtain ⟨b3, o3, ai3, ci3, e3, hlt3, hcd3, hri3, -⟩ := HD.out (l.getD k 0) (by rw [HN.out]; exact hlk)
        simp only [Option.some.injEq, Addr.mk.injEq, and_true] at e3
        obtain ⟨rfl, rfl⟩ := e3
        have e4 := BW.out.cell (p := ⟨b2, o2 + l.getD k 0, none⟩) hlt3
        rw [hcd, hcd3] at e4
        simp only [Option.some.injEq, Value.slice.injEq] at e4
        obtain ⟨rfl, -⟩ := e4
        exact hri3)
      have HXI := Lib.hid hxi
      have HPF := Lib.hid (layF_prefix n (deps.getD (l.getD k 0) []) l)
      have HGD := Lib.hid (layF_good (n := n) (deps.getD (l.getD k 0) []) l HGL.out)
      clear hri hxi HS
      generalize deps.getD (l.getD k 0) [] = xs at *
      generalize l.getD k 0 = y at *
      have hlt' : k < l.length := hlt
      go_wp2_with fail
      refine (HL.out wr l _ c ai ci xs HGL.out BW.out OW.out HRI.out HXI.out (by omega)).mono ?_
      rintro e w5 ⟨a5, c5, rfl, ho5, hb5⟩
      have O5 := Lib.hid ho5; have B5 := Lib.hid hb5
      have hpl : k + 1 ≤ (layF n l xs).length := by obtain ⟨r, hr⟩ := HPF.out; rw [hr]; simp; omega
      clear ho5 hb5 HRI HXI HPF hc hcd
      generalize layF n l xs = l5 at *
      go_wp2
      go_roundg g
      case measure => omega
      case rel => exact ⟨k + 1, a5, c5, l5, by omega, rfl, by go_num, hpl, HS', HGD, O5, B5⟩
    · have HE : Hid (l = R) := Lib.hid (by
        have := HS.out
        unfold scopeGo at this
        rwa [if_neg hlt] at this)
      go_wp2
      go_ret
      have := HE.out
      subst this
      exact ⟨ad, c, rfl, OW.out, BW.out⟩
end Go.Proofs.Ytfckgagpfpnelaa
