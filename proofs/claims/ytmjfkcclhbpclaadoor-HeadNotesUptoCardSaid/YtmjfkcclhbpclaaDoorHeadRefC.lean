/- Layer 4: the document's own cut of bytes. -/
import Derived.Test.YtmjfkcclhbpclaaDoorHeadInterp
namespace Go.Proofs.YtmjfkcclhbpclaaDoor
open Go.RowKit
set_option linter.unusedVariables false
set_option linter.unusedSimpArgs false

theorem toI_snoc (l : List Nat) (k : Nat) (hk : k < l.length) : toI (l.take k) ++ [((l.getD k 0 : Nat) : Int)] = toI (l.take (k + 1)) := by
  unfold toI
  rw [List.take_add_one, List.map_append]
  simp [List.getD, hk]
def RCutPost (bs : List Nat) (off n : Nat) (w : World) (e : Ending) (w' : World) : Prop := (if inB bs.length off n = true then ∃ ad c, e = .returned (.tuple #[.slice ad n c, .bool true]) ∧ Row .u8 w' ad (toI ((bs.drop off).take n)) ∧ n ≤ c else e = .returned (.tuple #[.slice none 0 0, .bool false])) ∧ Below w.heap.size w w'
set_option maxRecDepth 100000
set_option maxHeartbeats 8000000 in
theorem rcut_any (a : Option Addr) (m cap off n : Nat) (bs : List Nat) (w : World) (h : BAny w a m cap bs) (ho : off < 18446744073709551616) (hn : n < 18446744073709551616) :
    Calls Tryd.prog 31 #[.slice a m cap, .int .u64 (off : Int), .int .u64 (n : Int)] w (RCutPost bs off n w) := by
  have hm := h.len
  have hml := h.most
  have HIN := Lib.hid (refIn m off n w (by omega) ho hn)
  have hmw : IntKind.u64.wrap (m : Int) = (m : Int) := by rw [IntKind.wrap_u64]; omega
  by_cases hi : off ≤ bs.length ∧ n ≤ bs.length - off
  · have HIE := inB_yes hi.1 hi.2
    have HPO : Hid (∀ ad c w', Row .u8 w' ad (toI ((bs.drop off).take n)) → n ≤ c → Below w.heap.size w w' → RCutPost bs off n w (.returned (.tuple #[.slice ad n c, .bool true])) w') := Lib.hid (fun ad c w' hr hc hb => ⟨by rw [if_pos HIE]; exact ⟨ad, c, rfl, hr, hc⟩, hb⟩)
    rw [← hm, HIE] at HIN
    rw [hm] at HIN
    generalize RCutPost bs off n w = P at *
    obtain ⟨DS, hDS⟩ : ∃ DS, bs.drop off = DS := ⟨_, rfl⟩
    rw [hDS] at HPO
    have HDL : Hid (n ≤ DS.length ∧ off + n ≤ m) := Lib.hid (by rw [← hDS, List.length_drop]; omega)
    have HC : Hid (∀ k, k < n → ∃ b o, a = some ⟨b, o, none⟩ ∧ b < w.heap.size ∧ w.cell? ⟨b, o + (off + k), none⟩ = some (.int .u8 ((DS.getD k 0 : Nat) : Int))) := Lib.hid (fun k hk => by
      obtain ⟨b, o, e, hlt, hc⟩ := h.row.at (i := off + k) (by omega)
      refine ⟨b, o, e, hlt, ?_⟩
      rw [hc.1, ← hDS]
      simp [List.getD])
    have hnl : n ≤ 140737488351232 := by omega
    have hol : off ≤ 140737488351232 := by omega
    clear h hm hi HIE hDS ho hn
    go_enter Tryd.func31, Tryd.ntmps31
    go_wp2_with fail
    refine HIN.out.mono ?_
    rintro e w2 ⟨rfl, rfl⟩
    clear HIN hmw
    go_wp2_with fail
    go_loopg [9, 10] n (fun g v iv wr => ∃ (k : Nat) (ad : Option Addr) (c : Nat), k + g = n ∧ v = .slice ad k c ∧ iv = .int .u64 (k : Int) ∧ Hid (OwnI wr w.heap.size 5 .u8 (.slice ad k c) (toI (DS.take k))) ∧ Hid (Below w.heap.size w wr))
    case atStart => exact ⟨0, none, 0, by omega, rfl, rfl, Lib.hid (OwnI.nil _ _ _ _), Lib.hid (Below.refl _ _)⟩
    case round =>
      obtain ⟨k, ad, c, hk, rfl, rfl, HO, HB⟩ := hrel
      cases gk with
      | zero =>
        have hkn : k = n := by omega
        subst hkn
        clear hk
        obtain ⟨hlen, hrow, -⟩ := OwnI.at HO.out
        have hfit := OwnI.fit HO.out
        have HR : Hid (Row .u8 wr ad (toI (DS.take k)) ∧ k ≤ c) := Lib.hid ⟨hrow, hfit.1⟩
        clear hlen hrow hfit
        go_wp2_with fail
        exact HPO.out ad c wr HR.out.1 HR.out.2 HB.out
      | succ g2 =>
        have hlt : k < n := by omega
        obtain ⟨b0, o0, rfl, hb0, hck⟩ := HC.out k hlt
        have hcr : wr.cell? ⟨b0, o0 + (off + k), none⟩ = some (.int .u8 ((DS.getD k 0 : Nat) : Int)) := by rw [HB.out.cell (p := ⟨b0, o0 + (off + k), none⟩) hb0]; exact hck
        have HSN : Hid (toI (DS.take k) ++ [((DS.getD k 0 : Nat) : Int)] = toI (DS.take (k + 1))) := Lib.hid (toI_snoc DS k (by have := HDL.out; omega))
        obtain ⟨x, hx⟩ : ∃ x : Int, ((DS.getD k 0 : Nat) : Int) = x := ⟨_, rfl⟩
        rw [hx] at hcr HSN
        have HK := Lib.hid hk
        have HLE : Hid ((toI (DS.take k)).length = k) := Lib.hid (by unfold toI; rw [List.length_map, List.length_take]; have := HDL.out; omega)
        have q1 : IntKind.u64.wrap ((off : Int) + (k : Int)) = (off : Int) + (k : Int) := by rw [IntKind.wrap_u64]; omega
        have i0 : (0 : Int) ≤ (off : Int) + (k : Int) := by omega
        have i1 : (off : Int) + (k : Int) < (m : Int) := by have := HDL.out; omega
        have i2 : (k : Int) < (n : Int) := by omega
        have i3 : (k : Int) < 140737488351232 := by omega
        clear hck hk hx hlt
        go_wp2_with (at_builtin; go_loud (refine wpList_push rfl (.tmp 24) (.tmp 31) slice8w rfl w.heap.size w (.slice ad k c) (toI (DS.take k)) k x rfl (by rfl) HLE.out HO.out (by unfold maxLen; omega) (by omega) HB.out HB.out.size ?_); intro ad6 c6 w6 hown6 hbe6; have O6 := Lib.hid hown6; have HB6 := Lib.hid hbe6; clear hown6 hbe6)
        go_roundg g2
        case measure => have := HK.out; omega
        case rel => exact ⟨k + 1, ad6, c6, by have := HK.out; omega, rfl, by go_num, Lib.hid (by rw [← HSN.out]; exact O6.out), HB6⟩
  · have HIE := inB_no hi
    have HPO : Hid (RCutPost bs off n w (.returned (.tuple #[.slice none 0 0, .bool false])) w) := Lib.hid ⟨by rw [HIE, if_neg (by decide)], Below.refl _ _⟩
    rw [← hm, HIE] at HIN
    rw [hm] at HIN
    generalize RCutPost bs off n w = P at *
    clear h hm hi HIE ho hn
    go_enter Tryd.func31, Tryd.ntmps31
    go_wp2_with fail
    refine HIN.out.mono ?_
    rintro e w2 ⟨rfl, rfl⟩
    go_wp2_with fail
    exact HPO.out
set_option maxHeartbeats 8000000 in
theorem rat_any (c : Int) (pl : Nat) (w : World) : Calls Tryd.prog 32 #[.int .i64 c, .int .u64 (pl : Int)] w fun e w' => e = .returned (.agg #[.int .i64 c, .bool true, .int .u64 (pl : Int)]) ∧ Below w.heap.size w w' := by
  go_enter Tryd.func32, Tryd.ntmps32
  go_wp2_with fail
  go_returns
  exact ⟨rfl, ballo (Below.refl _ _) _⟩
end Go.Proofs.YtmjfkcclhbpclaaDoor
