/- Layer 17: the test of In's search, of whatever object and want. -/
import Derived.Test.YtpilccalgegadaaBindSuitG
import Derived.Test.YtpilccalgegadaaBindMay
namespace Go.Proofs.Ytpilccalgegadaa
open Go.RowKit
set_option linter.unusedVariables false
set_option linter.unusedSimpArgs false

/-- a symbol -/
structure GSym where
  name : ByteArray
  bi : Int
  ty : Int
  vi : Int
  se : Int
  va : Int
  sz : Int
def GSRow (w : World) (a : Option Addr) (l : List GSym) : Prop := ∀ i (h : i < l.length), ∃ b o, a = some ⟨b, o, none⟩ ∧ b < w.heap.size ∧ w.cell? ⟨b, o + i * 7, none⟩ = some (.string l[i].name) ∧ w.cell? ⟨b, o + i * 7 + 1, none⟩ = some (.int .i64 l[i].bi) ∧ w.cell? ⟨b, o + i * 7 + 2, none⟩ = some (.int .i64 l[i].ty) ∧ w.cell? ⟨b, o + i * 7 + 3, none⟩ = some (.int .i64 l[i].vi) ∧ w.cell? ⟨b, o + i * 7 + 4, none⟩ = some (.int .i64 l[i].se) ∧ w.cell? ⟨b, o + i * 7 + 5, none⟩ = some (.int .u64 l[i].va) ∧ w.cell? ⟨b, o + i * 7 + 6, none⟩ = some (.int .u64 l[i].sz)
theorem GSRow.below {w w' : World} {a : Option Addr} {l : List GSym} (h : GSRow w a l) (hb : Below w.heap.size w w') : GSRow w' a l := by
  intro i hi
  obtain ⟨b, o, e, hlt, h0, h1, h2, h3, h4, h5, h6⟩ := h i hi
  exact ⟨b, o, e, Nat.lt_of_lt_of_le hlt hb.size, by rw [hb.cell (p := ⟨b, _, none⟩) hlt]; exact h0, by rw [hb.cell (p := ⟨b, _, none⟩) hlt]; exact h1, by rw [hb.cell (p := ⟨b, _, none⟩) hlt]; exact h2, by rw [hb.cell (p := ⟨b, _, none⟩) hlt]; exact h3, by rw [hb.cell (p := ⟨b, _, none⟩) hlt]; exact h4, by rw [hb.cell (p := ⟨b, _, none⟩) hlt]; exact h5, by rw [hb.cell (p := ⟨b, _, none⟩) hlt]; exact h6⟩

set_option maxRecDepth 100000 in
set_option maxHeartbeats 8000000 in
theorem fits_any (C : Array Value) (h54 : C.size = 54) (S : List GSym) (sa : Option Addr) (sl sc : Nat) (hsl : S.length = sl) (k : Nat) (hk : k < S.length) (R : Bool) (nm ver fl : ByteArray) (o : Nat) (w : World)
    (c45 : C[45]? = some (.slice sa sl sc)) (hs : GSRow w sa S) (ho : w.heap[o]? = some (.cells C 55)) (hw : w.heap[o + 1]? = some (.cells #[.string nm, .string ver, .string fl] 25))
    (SU : ∀ wx, Below w.heap.size w wx → Calls Try.prog 13 #[.agg C, .int .i64 (k : Int), .agg #[.string nm, .string ver, .string fl]] wx fun e w' => e = .returned (.bool R) ∧ Below wx.heap.size wx w') :
    Calls Try.prog 11 #[.int .i64 (k : Int), .pointer (some ⟨o, 0, none⟩), .pointer (some ⟨o + 1, 0, none⟩)] w fun e w' => e = .returned (.bool (bindF S[k].bi S[k].ty S[k].vi S[k].se S[k].va && R)) ∧ Below w.heap.size w w' := by
  have HSU := Lib.hid SU
  have HI : Hid ((Try.prog.info? 55).map (·.size) = some C.size) := Lib.hid (by rw [h54]; kernel_rfl)
  obtain ⟨b, of, rfl, hlt, s0, s1, s2, s3, s4, s5, s6⟩ := hs k hk
  have hkl : (k : Int) < (sl : Int) := by omega
  generalize S[k] = y at *
  have HM := Lib.hid (mayBind_any y.name y.bi y.ty y.vi y.se y.va y.sz w)
  generalize bindF y.bi y.ty y.vi y.se y.va = bf at *
  generalize y.name = yn at *
  generalize y.bi = ybi at *
  generalize y.ty = yty at *
  generalize y.vi = yvi at *
  generalize y.se = yse at *
  generalize y.va = yva at *
  generalize y.sz = ysz at *
  have k45 : w.cell? ⟨o, 45, none⟩ = some (.slice (some ⟨b, of, none⟩) sl sc) := by rw [cell_of_row _ _ 45 _ _ _ ho]; exact c45
  have HO := Lib.hid ho
  have HW := Lib.hid hw
  clear SU ho hw hs hk hsl c45 hlt
  go_enter Try.func11, Try.ntmps11
  go_wp2_with fail
  refine HM.out.mono ?_
  rintro e w2 ⟨rfl, hb2⟩
  have HO2 := Lib.hid ((hb2.block _ (lt_of_block HO.out)).trans HO.out)
  have hw2 := (hb2.block _ (lt_of_block HW.out)).trans HW.out
  have q0 : w2.cell? ⟨o + 1, 0, none⟩ = some (.string nm) := by rw [cell_of_row _ _ 0 _ _ _ hw2]; rfl
  have q1 : w2.cell? ⟨o + 1, 1, none⟩ = some (.string ver) := by rw [cell_of_row _ _ 1 _ _ _ hw2]; rfl
  have q2 : w2.cell? ⟨o + 1, 2, none⟩ = some (.string fl) := by rw [cell_of_row _ _ 2 _ _ _ hw2]; rfl
  have B2 := Lib.hid hb2
  have HRG : Hid (w2.rangeAt o 0 C.toList) := Lib.hid (fun j v hj => by
    rw [Nat.zero_add, cell_of_row _ _ j _ _ _ HO2.out]
    simpa using hj)
  have HI2 : Hid ((Try.prog.info? 55).map (·.size) = some C.toList.length) := Lib.hid (by rw [HI.out]; simp)
  clear hb2 hw2 k45 s0 s1 s2 s3 s4 s5 s6
  cases bf with
  | false =>
    go_wp2_with fail
    go_ret
    exact ⟨by simp, B2.out⟩
  | true =>
    go_wp2_with (refine BigFrame.wpList_want rfl fun _ hK => wp_load_mid 55 _ rfl o 0 (by rfl) C.toList _ HRG.out Try.underlying55 rfl HI2.out (hK _ _ ?_); rw [Array.toArray_toList])
    refine (HSU.out _ B2.out).mono ?_
    rintro e w3 ⟨rfl, hb3⟩
    have B3 := Lib.hid (bstep B2.out hb3)
    clear hb3 q0 q1 q2
    go_wp2_with fail
    go_ret
    exact ⟨by simp, B3.out⟩
end Go.Proofs.Ytpilccalgegadaa
