/- Layer 4: the document's own cut of bytes is its own. -/
import Derived.Test.YtmjfkcclhbpclaaDoorHeadRefC
import Derived.Test.YtmjfkcclhbpclaaDoorHeadRight
import Derived.Test.YtmjfkcclhbpclaaDoorHeadNotes
import Derived.Deep.DeepCutAuto
namespace Go.Proofs.YtmjfkcclhbpclaaDoor
open Go.RowKit
set_option linter.unusedVariables false
set_option linter.unusedSimpArgs false

def RCutOwn (bs : List Nat) (off n : Nat) (w : World) (e : Ending) (w' : World) : Prop := (if inB bs.length off n = true then ∃ ad c, e = .returned (.tuple #[.slice ad n c, .bool true]) ∧ OwnI w' w.heap.size 5 .u8 (.slice ad n c) (toI ((bs.drop off).take n)) else e = .returned (.tuple #[.slice none 0 0, .bool false])) ∧ Below w.heap.size w w'
set_option maxRecDepth 100000
set_option maxHeartbeats 8000000 in
theorem rcut_own (a : Option Addr) (m cap off n : Nat) (bs : List Nat) (w : World) (h : BAny w a m cap bs) (ho : off < 18446744073709551616) (hn : n < 18446744073709551616) :
    Calls Tryd.prog 31 #[.slice a m cap, .int .u64 (off : Int), .int .u64 (n : Int)] w (RCutOwn bs off n w) := by
  have hm := h.len
  have hml := h.most
  have HIN := Lib.hid (refIn m off n w (by omega) ho hn)
  have hmw : IntKind.u64.wrap (m : Int) = (m : Int) := by rw [IntKind.wrap_u64]; omega
  by_cases hi : off ≤ bs.length ∧ n ≤ bs.length - off
  · have HIE := inB_yes hi.1 hi.2
    have HPO : Hid (∀ ad c w', OwnI w' w.heap.size 5 .u8 (.slice ad n c) (toI ((bs.drop off).take n)) → Below w.heap.size w w' → RCutOwn bs off n w (.returned (.tuple #[.slice ad n c, .bool true])) w') := Lib.hid (fun ad c w' hr hb => ⟨by rw [if_pos HIE]; exact ⟨ad, c, rfl, hr⟩, hb⟩)
    rw [← hm, HIE] at HIN
    rw [hm] at HIN
    generalize RCutOwn bs off n w = P at *
    obtain ⟨DS, hDS⟩ : ∃ DS, bs.drop off = DS := ⟨_, rfl⟩
    rw [hDS] at HPO
    have HDL : Hid (n ≤ DS.length ∧ off + n ≤ m) := Lib.hid (by rw [← hDS, List.length_drop]; omega)
    have HC : Hid (∀ k, k < n → ∃ b o, a = some ⟨b, o, none⟩ ∧ b < w.heap.size ∧ w.cell? ⟨b, o + (off + k), none⟩ = some (.int .u8 ((DS.getD k 0 : Nat) : Int))) := Lib.hid (fun k hk => by
      obtain ⟨b, o, e, hlt, hc⟩ := h.row.at (i := off + k) (by omega)
      refine ⟨b, o, e, hlt, ?_⟩
      rw [hc.1, ← hDS]
      simp [List.getD])
    have hnl : n ≤ 140737488351232 := by omega
    have hol : off ≤ 140737488351232 := by omega
    clear h hm hi HIE hDS ho hn
    go_enter Tryd.func31, Tryd.ntmps31
    go_wp2_with fail
    refine HIN.out.mono ?_
    rintro e w2 ⟨rfl, rfl⟩
    clear HIN hmw
    go_wp2_with fail
    go_loopg [9, 10] n (fun g v iv wr => ∃ (k : Nat) (ad : Option Addr) (c : Nat), k + g = n ∧ v = .slice ad k c ∧ iv = .int .u64 (k : Int) ∧ Hid (OwnI wr w.heap.size 5 .u8 (.slice ad k c) (toI (DS.take k))) ∧ Hid (Below w.heap.size w wr))
    case atStart => exact ⟨0, none, 0, by omega, rfl, rfl, Lib.hid (OwnI.nil _ _ _ _), Lib.hid (Below.refl _ _)⟩
    case round =>
      obtain ⟨k, ad, c, hk, rfl, rfl, HO, HB⟩ := hrel
      cases gk with
      | zero =>
        have hkn : k = n := by omega
        subst hkn
        clear hk
        go_wp2_with fail
        exact HPO.out ad c wr HO.out HB.out
      | succ g2 =>
        have hlt : k < n := by omega
        obtain ⟨b0, o0, rfl, hb0, hck⟩ := HC.out k hlt
        have hcr : wr.cell? ⟨b0, o0 + (off + k), none⟩ = some (.int .u8 ((DS.getD k 0 : Nat) : Int)) := by rw [HB.out.cell (p := ⟨b0, o0 + (off + k), none⟩) hb0]; exact hck
        have HSN : Hid (toI (DS.take k) ++ [((DS.getD k 0 : Nat) : Int)] = toI (DS.take (k + 1))) := Lib.hid (toI_snoc DS k (by have := HDL.out; omega))
        obtain ⟨x, hx⟩ : ∃ x : Int, ((DS.getD k 0 : Nat) : Int) = x := ⟨_, rfl⟩
        rw [hx] at hcr HSN
        have HK := Lib.hid hk
        have HLE : Hid ((toI (DS.take k)).length = k) := Lib.hid (by unfold toI; rw [List.length_map, List.length_take]; have := HDL.out; omega)
        have q1 : IntKind.u64.wrap ((off : Int) + (k : Int)) = (off : Int) + (k : Int) := by rw [IntKind.wrap_u64]; omega
        have i0 : (0 : Int) ≤ (off : Int) + (k : Int) := by omega
        have i1 : (off : Int) + (k : Int) < (m : Int) := by have := HDL.out; omega
        have i2 : (k : Int) < (n : Int) := by omega
        have i3 : (k : Int) < 140737488351232 := by omega
        clear hck hk hx hlt
        go_wp2_with (at_builtin; go_loud (refine wpList_push rfl (.tmp 24) (.tmp 31) slice8w rfl w.heap.size w (.slice ad k c) (toI (DS.take k)) k x rfl (by rfl) HLE.out HO.out (by unfold maxLen; omega) (by omega) HB.out HB.out.size ?_); intro ad6 c6 w6 hown6 hbe6; have O6 := Lib.hid hown6; have HB6 := Lib.hid hbe6; clear hown6 hbe6)
        go_roundg g2
        case measure => have := HK.out; omega
        case rel => exact ⟨k + 1, ad6, c6, by have := HK.out; omega, rfl, by go_num, Lib.hid (by rw [← HSN.out]; exact O6.out), HB6⟩
  · have HIE := inB_no hi
    have HPO : Hid (RCutOwn bs off n w (.returned (.tuple #[.slice none 0 0, .bool false])) w) := Lib.hid ⟨by rw [HIE, if_neg (by decide)], Below.refl _ _⟩
    rw [← hm, HIE] at HIN
    rw [hm] at HIN
    generalize RCutOwn bs off n w = P at *
    clear h hm hi HIE ho hn
    go_enter Tryd.func31, Tryd.ntmps31
    go_wp2_with fail
    refine HIN.out.mono ?_
    rintro e w2 ⟨rfl, rfl⟩
    go_wp2_with fail
    exact HPO.out
end Go.Proofs.YtmjfkcclhbpclaaDoor
/- Layer 4: the document's own numbers in bytes. -/
namespace Go.Proofs.YtmjfkcclhbpclaaDoor
open Go.RowKit
set_option linter.unusedVariables false
set_option linter.unusedSimpArgs false

theorem rnum_drop {bs : List Nat} {i : Nat} (h : i < bs.length) : numOf (bs.drop i) = bs.getD i 0 + 256 * numOf (bs.drop (i + 1)) := by
  rw [List.drop_eq_getElem_cons h, numOf, getD_getElem h]
theorem rnum_drop_lt {bs : List Nat} (hb : ∀ b ∈ bs, b < 256) (hl : bs.length ≤ 8) (i : Nat) (hi : i < bs.length) : 256 * numOf (bs.drop (i + 1)) + bs.getD i 0 < 18446744073709551616 := by
  have h1 := numOf_lt (bs.drop i) (fun x hx => hb x (List.mem_of_mem_drop hx))
  rw [rnum_drop hi] at h1
  have h2 : (256 : Nat) ^ (bs.drop i).length ≤ 256 ^ 8 := Nat.pow_le_pow_right (by omega) (by simp; omega)
  have h5 : (256 : Nat) ^ 8 = 18446744073709551616 := by decide
  omega
def RGetPost (bs : List Nat) (off n : Nat) (w : World) (e : Ending) (w' : World) : Prop := (∃ c : Int, e = .returned (.tuple #[.int .u64 (numF bs off n : Int), .int .i64 c])) ∧ Below w.heap.size w w'
set_option maxRecDepth 100000
set_option maxHeartbeats 8000000 in
theorem rget_any (a : Option Addr) (m cap off n : Nat) (bs : List Nat) (w : World) (h : BAny w a m cap bs) (ho : off < 18446744073709551616) (hw : wide n = true) :
    Calls Tryd.prog 58 #[.slice a m cap, .int .u64 (off : Int), .int .i64 (n : Int)] w (RGetPost bs off n w) := by
  have hn8 : n ≤ 8 := by simp [wide] at hw; omega
  have HWD := Lib.hid (widths_any (n : Int) w)
  rw [hw] at HWD
  have HCU := Lib.hid (rcut_any a m cap off n bs w h ho (by omega))
  unfold RCutPost at HCU
  have hnw : IntKind.u64.wrap (n : Int) = (n : Int) := by rw [IntKind.wrap_u64]; omega
  have hn8' : (n : Int) ≤ 8 := by omega
  by_cases hi : inB bs.length off n = true
  · have HPO : Hid (∀ v w', v = numF bs off n → Below w.heap.size w w' → RGetPost bs off n w (.returned (.tuple #[.int .u64 ((v : Nat) : Int), .int .i64 0])) w') := Lib.hid (fun v w' hv hb => ⟨⟨0, by rw [hv]⟩, hb⟩)
    simp only [if_pos hi] at HCU
    obtain ⟨part, hpart⟩ : ∃ part, (bs.drop off).take n = part := ⟨_, rfl⟩
    have HPL : Hid (part.length = n ∧ ∀ x ∈ part, x < 256) := Lib.hid (by
      unfold inB at hi
      have := of_decide_eq_true hi
      rw [← hpart]
      exact ⟨by rw [List.length_take, List.length_drop]; omega, fun x hx => h.row.2 x (List.mem_of_mem_drop (List.mem_of_mem_take hx))⟩)
    have HNF : Hid (numOf part = numF bs off n) := Lib.hid (by unfold numF; rw [if_pos hi, hpart])
    rw [hpart] at HCU
    have HL := Lib.hid (rnum_drop_lt HPL.out.2 (by rw [HPL.out.1]; exact hn8))
    generalize RGetPost bs off n w = P at *
    clear h hi hw hpart
    go_enter Tryd.func58, Tryd.ntmps58
    go_wp2_with fail
    refine HWD.out.mono ?_
    rintro e w2 ⟨rfl, rfl⟩
    go_wp2_with fail
    refine HCU.out.mono ?_
    rintro e w3 ⟨⟨ad, c, rfl, hr, hcc⟩, b3⟩
    have HR : Hid (BRow w3 ad part) := Lib.hid ⟨hr, HPL.out.2⟩
    have B3 := Lib.hid b3
    clear hr b3 hnw
    go_wp2_with fail
    go_loopg [11, 12] n (fun g v i wr => g ≤ n ∧ i = .int .i64 ((g : Int) - 1) ∧ v = .int .u64 ((numOf (part.drop g) : Nat) : Int) ∧ w3 = wr)
    case atStart => exact ⟨Nat.le_refl _, rfl, by rw [List.drop_eq_nil_of_le (by have := HPL.out.1; omega)]; rfl, rfl⟩
    case round =>
      obtain ⟨hg, rfl, rfl, rfl⟩ := hrel
      cases gk with
      | zero =>
        rw [List.drop_zero]
        go_wp2_with fail
        exact HPO.out _ _ HNF.out B3.out
      | succ g =>
        obtain ⟨b, o, rfl, -, hc, hb⟩ := HR.out.at (i := g) (by have := HPL.out.1; omega)
        have hlt := HL.out g (by have := HPL.out.1; omega)
        have HE := Lib.hid (rnum_drop (bs := part) (i := g) (by have := HPL.out.1; omega))
        have e0 : ((g + 1 : Nat) : Int) - 1 = (g : Int) := by omega
        rw [e0]
        generalize part.getD g 0 = x at *
        generalize numOf (part.drop (g + 1)) = v at *
        have hlt2 : (256 : Int) * (v : Int) + (x : Int) < 18446744073709551616 := by omega
        have hlt3 : (256 : Int) * (v : Int) < 18446744073709551616 := by omega
        have i1 : (g : Int) < (n : Int) := by omega
        clear hlt
        go_wp2_with fail
        go_roundg g
        case measure => omega
        case rel => exact ⟨by omega, by go_num, by rw [HE.out]; exact vint (by omega), rfl⟩
  · have HPO : Hid (∀ w', Below w.heap.size w w' → RGetPost bs off n w (.returned (.tuple #[.int .u64 0, .int .i64 4])) w') := Lib.hid (fun w' hb => ⟨⟨4, by unfold numF; rw [if_neg hi]; rfl⟩, hb⟩)
    simp only [if_neg hi] at HCU
    generalize RGetPost bs off n w = P at *
    clear h hi hw
    go_enter Tryd.func58, Tryd.ntmps58
    go_wp2_with fail
    refine HWD.out.mono ?_
    rintro e w2 ⟨rfl, rfl⟩
    go_wp2_with fail
    refine HCU.out.mono ?_
    rintro e w3 ⟨rfl, b3⟩
    have B3 := Lib.hid b3
    clear b3
    go_wp2_with fail
    exact HPO.out _ B3.out
set_option maxHeartbeats 8000000 in
theorem rnum_any (a : Option Addr) (m cap off n : Nat) (bs : List Nat) (w : World) (h : BAny w a m cap bs) (ho : off < 18446744073709551616) (hw : wide n = true) :
    Calls Tryd.prog 38 #[.slice a m cap, .int .u64 (off : Int), .int .i64 (n : Int)] w fun e w' => e = .returned (.int .u64 (numF bs off n : Int)) ∧ Below w.heap.size w w' := by
  have HG := Lib.hid (rget_any a m cap off n bs w h ho hw)
  unfold RGetPost at HG
  generalize numF bs off n = V at *
  clear h ho hw
  go_enter Tryd.func38, Tryd.ntmps38
  go_wp2_with fail
  refine HG.out.mono ?_
  rintro e w2 ⟨⟨c, rfl⟩, b2⟩
  have B2 := Lib.hid b2
  clear b2
  go_wp2_with fail
  go_ret
  exact ⟨rfl, B2.out⟩
set_option maxHeartbeats 8000000 in
theorem ramong_any (x : Nat) (sb n cap : Nat) (l : List Nat) (w : World) (h : URow w sb l) (hn : l.length = n) (hnl : n ≤ 1048576) :
    Calls Tryd.prog 60 #[.int .u32 (x : Int), .slice (some ⟨sb, 0, none⟩) n cap] w fun e w' => e = .returned (.bool (l.contains x)) ∧ w = w' := by
  have H := Lib.hid h
  have HL := Lib.hid hn
  have hnn : (n : Int) ≤ 1048576 := by omega
  have HC : Hid (∀ R, l.contains x = R → R = l.contains x) := Lib.hid (fun R h => h.symm)
  have HY : Hid (∀ k, (hk : k < l.length) → l[k] = x → l.contains x = true) := Lib.hid (fun k hk e => by rw [← e]; simp)
  have HN : Hid ((∀ k, (hk : k < l.length) → l[k] ≠ x) → l.contains x = false) := Lib.hid (fun hall => by
    cases hc : l.contains x with
    | false => rfl
    | true =>
      have hm : x ∈ l := by simpa using hc
      obtain ⟨k, hk, e⟩ := List.getElem_of_mem hm
      exact absurd e (hall k hk))
  generalize l.contains x = R at *
  clear h hn hnl
  go_enter Tryd.func60, Tryd.ntmps60
  go_wp2_with fail
  go_loopg [5] n (fun g i wr => ∃ k : Nat, k + g = n ∧ i = .int .i64 (k : Int) ∧ w = wr ∧ Hid (∀ j, (hj : j < l.length) → j < k → l[j] ≠ x))
  case atStart => exact ⟨0, by omega, rfl, rfl, Lib.hid (fun j _ h => by omega)⟩
  case round =>
    obtain ⟨k, hk, rfl, rfl, HJ⟩ := hrel
    cases gk with
    | zero =>
      have hkn : k = n := by omega
      have HE : Hid (R = false) := Lib.hid (HN.out (fun j hj => HJ.out j hj (by have := HL.out; omega)))
      subst hkn
      clear hk
      go_wp2_with fail
      go_ret
      exact ⟨by rw [HE.out]; rfl, rfl⟩
    | succ g =>
      have hkl : k < l.length := by have := HL.out; omega
      have c0 := H.out.2 k hkl
      obtain ⟨y, hy⟩ : ∃ y, l[k] = y := ⟨_, rfl⟩
      rw [hy] at c0
      have HK := Lib.hid hk
      have i0 : (0 : Int) ≤ (k : Int) := by omega
      have i1 : (k : Int) < (n : Int) := by omega
      by_cases hxy : y = x
      · have HE : Hid (R = true) := Lib.hid (HY.out k hkl (hy.trans hxy))
        have t : ((y : Int) == (x : Int)) = true := beq_iff_eq.2 (by omega)
        clear hk hkl hy hxy
        go_wp2_with fail
        go_ret
        exact ⟨by rw [HE.out]; first | rfl | rw [t], rfl⟩
      · have HJ2 : Hid (∀ j, (hj : j < l.length) → j < k + 1 → l[j] ≠ x) := Lib.hid (fun j hj hjk => by
          by_cases h : j < k
          · exact HJ.out j hj h
          · obtain rfl : j = k := by omega
            rw [hy]; exact hxy)
        have t : ((y : Int) == (x : Int)) = false := beq_eq_false_iff_ne.2 (by omega)
        clear hk hkl hy hxy
        go_wp2_with fail
        go_roundg g
        case measure => have := HK.out; omega
        case rel => exact ⟨k + 1, by have := HK.out; omega, by go_num, rfl, HJ2⟩
end Go.Proofs.YtmjfkcclhbpclaaDoor
/- Layer 4: the document's own Notes. -/

namespace Go.Proofs.YtmjfkcclhbpclaaDoor
open Go.RowKit
set_option linter.unusedVariables false
set_option linter.unusedSimpArgs false
set_option maxRecDepth 100000

theorem set_selfN {w : World} {b j : Nat} {cs : Array Value} {T : TypeId} {v : Value} (h : w.heap[b]? = some (.cells cs T)) (hv : cs.setIfInBounds j v = cs) : w.setCell ⟨b, j, none⟩ v = w := by
  rw [setCell_eq_setRow _ _ _ _ _ _ _ h, hv]
  exact setRow_self _ _ _ _ _ h
/-- notes in memory, beside the head's box and the answer's -/
structure RNt (w0 : World) (hbk rb : Nat) (hv : Array Value) (D : List ND) (la : Option Addr) (n lc : Nat) (wr : World) : Prop where
  st : NSt w0 D la n lc wr
  h : wr.heap[hbk]? = some (.cells hv 25)
  r : wr.heap[rb]? = some (.cells #[.int .i64 0, .bool false, .int .u64 0] 43)
theorem RNt.below {w0 wr w' : World} {hbk rb : Nat} {hv : Array Value} {D : List ND} {la : Option Addr} {n lc : Nat} (s : RNt w0 hbk rb hv D la n lc wr) (b : Below wr.heap.size wr w') : RNt w0 hbk rb hv D la n lc w' :=
  ⟨s.st.below b, (b.block _ (lt_of_block s.h)).trans s.h, (b.block _ (lt_of_block s.r)).trans s.r⟩
theorem RNt.next {w0 wz w8 : World} {hbk rb : Nat} {hv : Array Value} {D : List ND} {la : Option Addr} {n lc : Nat} (s : RNt w0 hbk rb hv D la n lc wz) (d : ND) (hd : OwnI wz w0.heap.size 5 .u8 (.slice d.ad d.nt.data.length d.cap) (toI d.nt.data)) {ad8 : Option Addr} {c8 : Nat}
    (ho8 : OwnS w8 w0.heap.size 55 3 (.slice ad8 (n + 1) c8) (D.map ND.cells ++ [d.cells])) (hg8 : wz.grownBy w8 (Value.slice la n lc).ownBlock) : RNt w0 hbk rb hv (D ++ [d]) ad8 (n + 1) c8 w8 := by
  have keep : ∀ (b : Nat) (cs : Array Value) (T : TypeId), wz.heap[b]? = some (.cells cs T) → 55 ≠ T → w8.heap[b]? = some (.cells cs T) := fun b cs T hb hT =>
    (hg8.block _ (lt_of_block hb) (fun e => own_ne s.st.own.1 hb hT e.symm)).trans hb
  exact ⟨s.st.next d hd ho8 hg8, keep _ _ _ s.h (by decide), keep _ _ _ s.r (by decide)⟩
theorem RNt.setX {w0 wr : World} {hbk rb : Nat} {hv : Array Value} {D : List ND} {la : Option Addr} {n lc : Nat} {xb j : Nat} {cs : Array Value} (s : RNt w0 hbk rb hv D la n lc wr) (X : wr.heap[xb]? = some (.cells cs 55)) (hx : w0.heap.size ≤ xb) (hne : (Value.slice la n lc).ownBlock ≠ some xb) (v : Value) : RNt w0 hbk rb hv D la n lc (wr.setCell ⟨xb, j, none⟩ v) := by
  have other : ∀ (b : Nat) (cs' : Array Value) (T : TypeId), wr.heap[b]? = some (.cells cs' T) → 55 ≠ T → (wr.setCell ⟨xb, j, none⟩ v).heap[b]? = some (.cells cs' T) := fun b cs' T hb hT => by
    refine (heap_setCell_other _ _ _ _ (fun e => ?_)).trans hb
    have e : b = xb := e
    rw [e, X] at hb
    simp only [Option.some.injEq, Obj.cells.injEq] at hb
    exact hT hb.2.1
  exact ⟨⟨s.st.own.setO (a := ⟨xb, j, none⟩) hne v, s.st.len, fun d hd => (s.st.data d hd).setO (a := ⟨xb, j, none⟩) (own_ne (s.st.data d hd) X (by decide)) v, s.st.blw.setCell (p := ⟨xb, j, none⟩) hx v⟩, other _ _ _ s.h (by decide), other _ _ _ s.r (by decide)⟩
def RNotesPost (bs : List Nat) (ps : List PT) (w : World) (e : Ending) (w' : World) : Prop := (match notesF bs ps [] with
  | .error x => e = .returned (.tuple #[.slice none 0 0, .agg #[.int .i64 (x.2 : Int), .bool true, .int .u64 (x.1 : Int)]])
  | .ok l => ∃ la lc D, e = .returned (.tuple #[.slice la l.length lc, .agg #[.int .i64 0, .bool false, .int .u64 0]]) ∧ D.map ND.nt = l ∧ NSt w D la l.length lc w') ∧ Below w.heap.size w w'
set_option maxHeartbeats 64000000 in
theorem rnotes_any (K : Int) (E : Nat) (pa : Option Addr) (pn pc : Nat) (ps : List PT) (a : Option Addr) (m cap : Nat) (bs : List Nat) (w : World) (h : BAny w a m cap bs) (hp : PRow w pa ps) (hl : ps.length = pn) (hpn : pn ≤ 1048576) (hm : m ≤ 1048576) :
    Calls Tryd.prog 15 #[.slice a m cap, .agg #[.int .i64 K, .int .u64 (E : Int), .slice pa pn pc]] w (RNotesPost bs ps w) := by
  have HPE : Hid (∀ (p c : Nat) w', notesF bs ps [] = .error (p, c) → Below w.heap.size w w' → RNotesPost bs ps w (.returned (.tuple #[.slice none 0 0, .agg #[.int .i64 (c : Int), .bool true, .int .u64 (p : Int)]])) w') := Lib.hid (fun p c w' e1 hb => ⟨by rw [e1], hb⟩)
  have HPO : Hid (∀ D la n lc w', notesF bs ps [] = .ok (D.map ND.nt) → NSt w D la n lc w' → RNotesPost bs ps w (.returned (.tuple #[.slice la n lc, .agg #[.int .i64 0, .bool false, .int .u64 0]])) w') := Lib.hid (fun D la n lc w' e1 hs => by
    have hn : n = (D.map ND.nt).length := by rw [List.length_map]; exact hs.len.symm
    subst hn
    exact ⟨by rw [e1]; exact ⟨la, lc, D, rfl, rfl, hs⟩, hs.blw⟩)
  generalize RNotesPost bs ps w = P at *
  obtain ⟨R, hR⟩ : ∃ R, notesF bs ps [] = R := ⟨_, rfl⟩
  rw [hR] at HPE HPO
  have HR : Hid (notesF bs (ps.drop 0) (([] : List ND).map ND.nt) = R) := Lib.hid hR
  obtain ⟨hvr, hhv⟩ : ∃ hvr : Array Value, #[.int .i64 K, .int .u64 (E : Int), .slice pa pn pc] = hvr := ⟨_, rfl⟩
  have HH2 : Hid (hvr[2]? = some (.slice pa pn pc)) := Lib.hid (by rw [← hhv]; rfl)
  obtain ⟨w1, hw1⟩ : ∃ w1, w.alloc (.cells #[.int .i64 K, .int .u64 (E : Int), .slice pa pn pc] 25) = w1 := ⟨_, rfl⟩
  obtain ⟨hbk, hhbk⟩ : ∃ hbk, w.heap.size = hbk := ⟨_, rfl⟩
  obtain ⟨w2, hw2⟩ : ∃ w2, w1.alloc (.cells #[.int .i64 0, .bool false, .int .u64 0] 43) = w2 := ⟨_, rfl⟩
  obtain ⟨rb, hrb⟩ : ∃ rb, w1.heap.size = rb := ⟨_, rfl⟩
  have B1 : Hid (Below w.heap.size w w1) := Lib.hid (by rw [← hw1]; exact ballo (Below.refl _ _) _)
  have B12 : Hid (Below w1.heap.size w1 w2) := Lib.hid (by rw [← hw2]; exact ballo (Below.refl _ _) _)
  have H1 : Hid (w1.heap[hbk]? = some (.cells hvr 25)) := Lib.hid (by rw [← hhv, ← hw1, ← hhbk]; exact heap_alloc_new _ _)
  have R2 : Hid (w2.heap[rb]? = some (.cells #[.int .i64 0, .bool false, .int .u64 0] 43)) := Lib.hid (by rw [← hw2, ← hrb]; exact heap_alloc_new _ _)
  have HRB : Hid (w.heap.size ≤ rb) := Lib.hid (by have := B1.out.size; omega)
  have HBY := Lib.hid h
  have HPR := Lib.hid hp
  have HPL : Hid (ps.length = pn ∧ pn ≤ 1048576 ∧ m ≤ 1048576 ∧ bs.length = m) := Lib.hid ⟨hl, hpn, hm, h.len⟩
  have hml : (m : Int) ≤ 1048576 := by omega
  have hpl : (pn : Int) ≤ 1048576 := by omega
  have S2 : Hid (RNt w hbk rb hvr [] none 0 0 w2) := Lib.hid ⟨((NSt.nil w).below B1.out).below B12.out, (B12.out.block _ (lt_of_block H1.out)).trans H1.out, R2.out⟩
  clear h hp hl hpn hm hR hhv
  go_enter Tryd.func15, Tryd.ntmps15
  go_wp2_with fail
  clear hw1 hhbk hw2 hrb
  go_loopg [6, 7] pn (fun g lv iv wr => ∃ (k : Nat) (D : List ND) (la : Option Addr) (n lc : Nat), k + g = pn ∧ iv = .int .i64 (k : Int) ∧ lv = .slice la n lc ∧ Hid (RNt w hbk rb hvr D la n lc wr) ∧ Hid (notesF bs (ps.drop k) (D.map ND.nt) = R) ∧ Hid (n ≤ k * 1048576))
  case atStart => exact ⟨0, [], none, 0, 0, by omega, rfl, rfl, S2, HR, Lib.hid (Nat.zero_le _)⟩
  case round =>
    obtain ⟨k, D, la, n, lc, hk, rfl, rfl, HS, HG, HNK⟩ := hrel
    have hh2 : wr.cell? ⟨hbk, 2, none⟩ = some (.slice pa pn pc) := by rw [cell_of_row _ _ 2 _ _ _ HS.out.h]; exact HH2.out
    cases gk with
    | zero =>
      have hkn : k = pn := by omega
      subst hkn
      have HE : Hid (R = .ok (D.map ND.nt)) := Lib.hid (by
        have h := HG.out
        rw [List.drop_of_length_le (by have := HPL.out; omega)] at h
        exact h.symm)
      clear hk
      have g0 : wr.cell? ⟨rb, 0, none⟩ = some (.int .i64 0) := by rw [cell_of_row _ _ 0 _ _ _ HS.out.r]; rfl
      have f0 : wr.frozen? ⟨rb, 0, none⟩ = false := frozen_of_row _ _ _ _ _ HS.out.r
      have g1 : wr.cell? ⟨rb, 1, none⟩ = some (.bool false) := by rw [cell_of_row _ _ 1 _ _ _ HS.out.r]; rfl
      have f1 : wr.frozen? ⟨rb, 1, none⟩ = false := frozen_of_row _ _ _ _ _ HS.out.r
      have g2 : wr.cell? ⟨rb, 2, none⟩ = some (.int .u64 0) := by rw [cell_of_row _ _ 2 _ _ _ HS.out.r]; rfl
      have f2 : wr.frozen? ⟨rb, 2, none⟩ = false := frozen_of_row _ _ _ _ _ HS.out.r
      have k0 : wr.setCell ⟨rb, 0, none⟩ (.int .i64 0) = wr := set_selfN HS.out.r rfl
      have k1 : wr.setCell ⟨rb, 1, none⟩ (.bool false) = wr := set_selfN HS.out.r rfl
      have k2 : wr.setCell ⟨rb, 2, none⟩ (.int .u64 0) = wr := set_selfN HS.out.r rfl
      go_wp2_with fail
      refine bodyPost_ret (by simp [results, Tryd.results15, go_sem, g0, g1, g2]; try rfl) rfl ?_
      exact HPO.out D la n lc _ HE.out HS.out.st
    | succ g =>
      have hkl : k < ps.length := by have := HPL.out; omega
      obtain ⟨q, hq⟩ : ∃ q, ps[k] = q := ⟨_, rfl⟩
      obtain ⟨hqw, ba, oa, hpa, -, hca⟩ := (HPR.out.below HS.out.st.blw) k hkl
      rw [hq] at hqw hca
      have PSD : Hid (ps.drop k = q :: ps.drop (k + 1)) := Lib.hid (by rw [List.drop_eq_getElem_cons hkl, hq])
      have c0 := hca 0 (by omega)
      have c1 := hca 1 (by omega)
      have c2 := hca 2 (by omega)
      have c3 := hca 3 (by omega)
      have c4 := hca 4 (by omega)
      have c5 := hca 5 (by omega)
      have c6 := hca 6 (by omega)
      simp only [PT.cells, List.getElem?_cons_zero, List.getElem?_cons_succ, Nat.add_zero] at c0 c1 c2 c3 c4 c5 c6
      have HKK := Lib.hid hk
      have HQW := Lib.hid hqw
      have i0 : (0 : Int) ≤ (k : Int) := by omega
      have i1 : (k : Int) < (pn : Int) := by omega
      have HG2 := Lib.hid HG.out
      rw [PSD.out, notesF] at HG2
      clear hca hq hqw hkl hk
      obtain ⟨a0, a1, a2, a3, a4, a5, a6⟩ := q
      simp only [] at c0 c1 c2 c3 c4 c5 c6 HG2
      subst hpa
      obtain ⟨wx, hwx⟩ : ∃ wx, wr.alloc (.cells #[.int .u32 (a0 : Int), .int .u32 (a1 : Int), .int .u64 (a2 : Int), .int .u64 (a3 : Int), .int .u64 (a4 : Int), .int .u64 (a5 : Int), .int .u64 (a6 : Int)] 37) = wx := ⟨_, rfl⟩
      obtain ⟨xq, hxq⟩ : ∃ xq, wr.heap.size = xq := ⟨_, rfl⟩
      have BX : Hid (Below wr.heap.size wr wx) := Lib.hid (by rw [← hwx]; exact ballo (Below.refl _ _) _)
      have XX : Hid (wx.heap[xq]? = some (.cells #[.int .u32 (a0 : Int), .int .u32 (a1 : Int), .int .u64 (a2 : Int), .int .u64 (a3 : Int), .int .u64 (a4 : Int), .int .u64 (a5 : Int), .int .u64 (a6 : Int)] 37)) := Lib.hid (by rw [← hwx, ← hxq]; exact heap_alloc_new _ _)
      have SX := Lib.hid (HS.out.below BX.out)
      obtain ⟨x0, x1, x2, x3, x4, x5, x6⟩ := out_cells XX.out
      by_cases h4 : a0 = 4
      · have t1 : ((a0 : Int) != 4) = false := by rw [h4]; rfl
        rw [if_neg (by omega)] at HG2
        have HIN := Lib.hid (fun wz => refIn m a2 a4 wz (by omega) HQW.out.2.2.1 HQW.out.2.2.2.2.1)
        have HMW : Hid (IntKind.u64.wrap (m : Int) = (m : Int)) := Lib.hid (by rw [IntKind.wrap_u64]; omega)
        rw [HPL.out.2.2.2] at HG2
        have hmw := HMW.out
        clear h4
        go_wp2_with fail
        refine (HIN.out _).mono ?_
        rintro e2 w2 ⟨rfl, rfl⟩
        clear hwx hxq c0 c1 c2 c3 c4 c5 c6 hmw hh2
        cases hin : inB m a2 a4 with
        | false =>
          rw [hin] at HG2
          have HE : Hid (R = .error (a2, 4)) := Lib.hid HG2.out.symm
          have HA4 : Hid (∀ wz, Calls Tryd.prog 32 #[.int .i64 4, .int .u64 (a2 : Int)] wz fun e w' => e = .returned (.agg #[.int .i64 4, .bool true, .int .u64 (a2 : Int)]) ∧ Below wz.heap.size wz w') := Lib.hid (fun wz => rat_any 4 a2 wz)
          clear hin HIN
          go_wp2_with fail
          refine (HA4.out _).mono ?_
          rintro ez wz ⟨rfl, bz⟩
          have SZ := Lib.hid (SX.out.below bz)
          clear bz
          have g0 : wz.cell? ⟨rb, 0, none⟩ = some (.int .i64 0) := by rw [cell_of_row _ _ 0 _ _ _ SZ.out.r]; rfl
          have f0 : wz.frozen? ⟨rb, 0, none⟩ = false := frozen_of_row _ _ _ _ _ SZ.out.r
          have g1 : wz.cell? ⟨rb, 1, none⟩ = some (.bool false) := by rw [cell_of_row _ _ 1 _ _ _ SZ.out.r]; rfl
          have f1 : wz.frozen? ⟨rb, 1, none⟩ = false := frozen_of_row _ _ _ _ _ SZ.out.r
          have g2 : wz.cell? ⟨rb, 2, none⟩ = some (.int .u64 0) := by rw [cell_of_row _ _ 2 _ _ _ SZ.out.r]; rfl
          have f2 : wz.frozen? ⟨rb, 2, none⟩ = false := frozen_of_row _ _ _ _ _ SZ.out.r
          obtain ⟨wf, hwf, z0, z1, z2, ez⟩ := set3_cells SZ.out.r (.int .i64 4) (.bool true) (.int .u64 (a2 : Int))
          have EB : Hid (Below w.heap.size w wf) := Lib.hid (by rw [← ez]; exact below_set3 SZ.out.st.blw HRB.out _ _ _)
          clear ez 
          go_wp2_with fail
          refine bodyPost_ret (by simp [results, Tryd.results15, go_sem, z0, z1, z2]; try rfl) rfl ?_
          exact HPE.out a2 _ wf HE.out EB.out
        | true =>
          rw [hin] at HG2
          simp only [if_true] at HG2
          have HIM : Hid (a2 ≤ m ∧ a4 ≤ m - a2) := Lib.hid (by unfold inB at hin; exact of_decide_eq_true hin)
          obtain ⟨EE, hEE⟩ : ∃ EE, a2 + a4 = EE := ⟨_, rfl⟩
          rw [hEE] at HG2
          have HEM : Hid (EE ≤ m ∧ a2 ≤ EE ∧ EE - a2 = a4) := Lib.hid (by have := HIM.out; omega)
          have HEW : Hid (IntKind.u64.wrap ((a2 : Int) + (a4 : Int)) = (EE : Int)) := Lib.hid (by have := HEM.out; rw [IntKind.wrap_u64]; omega)
          have hew := HEW.out
          clear hin hEE HIN
          go_wp2_with fail
          clear hew x0 x1 x2 x3 x4 x5 x6
          go_loopg [6, 11] a4 (fun g2 lv av wy => ∃ (p : Nat) (D2 : List ND) (l2 : Option Addr) (n2 lc2 : Nat), av = .int .u64 (p : Int) ∧ lv = .slice l2 n2 lc2 ∧ Hid (RNt w hbk rb hvr D2 l2 n2 lc2 wy) ∧ Hid ((match notesG bs EE g2 p (D2.map ND.nt) with | .error x => Except.error x | .ok l => notesF bs (ps.drop (k + 1)) l) = R) ∧ Hid (p ≤ 1099511627776 ∧ EE - p ≤ g2 ∧ n2 + (EE - p) ≤ k * 1048576 + a4))
          case atStart => exact ⟨a2, D, la, n, lc, rfl, rfl, SX, HG2, Lib.hid (by have := HEM.out; have := HNK.out; have := HPL.out; omega)⟩
          case round =>
            clear HG HG2 HS SX HNK
            obtain ⟨p, D2, l2, n2, lc2, rfl, rfl, HS2, HG3, HPB⟩ := hrel
            by_cases hpe : p < EE
            · cases gk with
              | zero => exact absurd HPB.out.2.1 (by omega)
              | succ g2 =>
                have t2 : decide (p < EE) = true := decide_eq_true hpe
                obtain ⟨bb, oo, hra, -⟩ := HBY.out.row.at (i := p) (by have := HBY.out.len; have := HEM.out; omega)
                subst hra
                obtain ⟨M, hM⟩ : ∃ M, EE - p = M := ⟨_, rfl⟩
                have HMB : Hid (EE - p = M ∧ M ≤ 1048576 ∧ p + M = EE ∧ p ≤ 1048576) := Lib.hid (by have := HEM.out; have := HPL.out; omega)
                have HG4 : Hid ((match (match noteF bs p EE with | .error c => Except.error (p, c) | .ok (t, s) => notesG bs EE g2 (p + s) (D2.map ND.nt ++ [t])) with | .error x => Except.error x | .ok l => notesF bs (ps.drop (k + 1)) l) = R) := Lib.hid (by
                  have h := HG3.out
                  rw [notesG, if_neg (by omega)] at h
                  exact h)
                have HNT : Hid (noteF bs p EE = if M < 12 then .error 4
                    else if ¬ (up4F (numF bs p 4) ≤ M - 12 ∧ numF bs (p + 4) 4 ≤ M - 12 - up4F (numF bs p 4)) then .error 4
                    else if 0 < numF bs p 4 ∧ bs.getD (p + 12 + numF bs p 4 - 1) 0 ≠ 0 then .error 29
                    else .ok (⟨nameF ((bs.drop (p + 12)).take (numF bs p 4 - 1)), numF bs (p + 8) 4, (bs.drop (p + 12 + up4F (numF bs p 4))).take (numF bs (p + 4) 4)⟩, 12 + up4F (numF bs p 4) + up4F (numF bs (p + 4) 4))) := Lib.hid (by unfold noteF; rw [hM])
                generalize noteF bs p EE = NF at *
                have HER : Hid (∀ c, NF = .error c → R = .error (p, c)) := Lib.hid (fun c hc => by have h := HG4.out; rw [hc] at h; exact h.symm)
                have HOKR : Hid (∀ t s, NF = .ok (t, s) → (match notesG bs EE g2 (p + s) (D2.map ND.nt ++ [t]) with | .error x => Except.error x | .ok l => notesF bs (ps.drop (k + 1)) l) = R) := Lib.hid (fun t s hc => by have h := HG4.out; rw [hc] at h; exact h)
                have HPE2 : Hid (p < EE) := Lib.hid hpe
                have HA4 : Hid (∀ wz, Calls Tryd.prog 32 #[.int .i64 4, .int .u64 (p : Int)] wz fun e w' => e = .returned (.agg #[.int .i64 4, .bool true, .int .u64 (p : Int)]) ∧ Below wz.heap.size wz w') := Lib.hid (fun wz => rat_any 4 p wz)
                have HA9 : Hid (∀ wz, Calls Tryd.prog 32 #[.int .i64 29, .int .u64 (p : Int)] wz fun e w' => e = .returned (.agg #[.int .i64 29, .bool true, .int .u64 (p : Int)]) ∧ Below wz.heap.size wz w') := Lib.hid (fun wz => rat_any 29 p wz)
                have HMW1 : Hid (IntKind.u64.wrap ((EE : Int) - (p : Int)) = (M : Int)) := Lib.hid (by have := HMB.out; rw [IntKind.wrap_u64]; omega)
                clear HG3 hpe hM
                by_cases h12 : M < 12
                · have t3 : M < 12 := h12
                  have t3d : decide ((M : Int) < 12) = true := decide_eq_true (by omega)
                  have HE : Hid (R = .error (p, 4)) := Lib.hid (HER.out 4 (by rw [HNT.out, if_pos h12]))
                  clear h12
                  have hmw1 := HMW1.out
                  go_wp2_with fail
                  refine (HA4.out _).mono ?_
                  rintro ez wz ⟨rfl, bz⟩
                  have SZ := Lib.hid (HS2.out.below bz)
                  clear bz
                  have g0 : wz.cell? ⟨rb, 0, none⟩ = some (.int .i64 0) := by rw [cell_of_row _ _ 0 _ _ _ SZ.out.r]; rfl
                  have f0 : wz.frozen? ⟨rb, 0, none⟩ = false := frozen_of_row _ _ _ _ _ SZ.out.r
                  have g1 : wz.cell? ⟨rb, 1, none⟩ = some (.bool false) := by rw [cell_of_row _ _ 1 _ _ _ SZ.out.r]; rfl
                  have f1 : wz.frozen? ⟨rb, 1, none⟩ = false := frozen_of_row _ _ _ _ _ SZ.out.r
                  have g2 : wz.cell? ⟨rb, 2, none⟩ = some (.int .u64 0) := by rw [cell_of_row _ _ 2 _ _ _ SZ.out.r]; rfl
                  have f2 : wz.frozen? ⟨rb, 2, none⟩ = false := frozen_of_row _ _ _ _ _ SZ.out.r
                  obtain ⟨wf, hwf, z0, z1, z2, ez⟩ := set3_cells SZ.out.r (.int .i64 4) (.bool true) (.int .u64 (p : Int))
                  have EB : Hid (Below w.heap.size w wf) := Lib.hid (by rw [← ez]; exact below_set3 SZ.out.st.blw HRB.out _ _ _)
                  clear ez
                  go_wp2_with fail
                  refine bodyPost_ret (by simp [results, Tryd.results15, go_sem, z0, z1, z2]; try rfl) rfl ?_
                  exact HPE.out p _ wf HE.out EB.out
                · have t3 : ¬ M < 12 := h12
                  have t3d : decide ((M : Int) < 12) = false := decide_eq_false (by omega)
                  have H12 : Hid (12 ≤ M) := Lib.hid (by omega)
                  have HNT1 : Hid (NF = _) := Lib.hid (HNT.out.trans (if_neg h12))
                  obtain ⟨N, hN⟩ : ∃ N, numF bs p 4 = N := ⟨_, rfl⟩
                  obtain ⟨Dn, hD⟩ : ∃ Dn, numF bs (p + 4) 4 = Dn := ⟨_, rfl⟩
                  obtain ⟨T, hT⟩ : ∃ T, numF bs (p + 8) 4 = T := ⟨_, rfl⟩
                  have HN32 : Hid (N < 4294967296 ∧ Dn < 4294967296 ∧ T < 4294967296) := Lib.hid ⟨by rw [← hN]; exact numF_lt HBY.out.row.2 _ 4, by rw [← hD]; exact numF_lt HBY.out.row.2 _ 4, by rw [← hT]; exact numF_lt HBY.out.row.2 _ 4⟩
                  rw [hN, hD, hT] at HNT1
                  have HN0 : Hid (∀ wz, Below w.heap.size w wz → Calls Tryd.prog 38 #[.slice (some ⟨bb, oo, none⟩) m cap, .int .u64 (p : Int), .int .i64 4] wz fun e w' => e = .returned (.int .u64 (N : Int)) ∧ Below wz.heap.size wz w') := Lib.hid (fun wz hb => by
                    have := rnum_any (some ⟨bb, oo, none⟩) m cap p 4 bs wz (HBY.out.below hb) (by have := HMB.out; omega) (by decide)
                    rw [hN] at this
                    exact this)
                  obtain ⟨P4, hP4⟩ : ∃ P4, p + 4 = P4 := ⟨_, rfl⟩
                  obtain ⟨P8, hP8⟩ : ∃ P8, p + 8 = P8 := ⟨_, rfl⟩
                  obtain ⟨P12, hP12⟩ : ∃ P12, p + 12 = P12 := ⟨_, rfl⟩
                  have HN4 : Hid (∀ wz, Below w.heap.size w wz → Calls Tryd.prog 38 #[.slice (some ⟨bb, oo, none⟩) m cap, .int .u64 (P4 : Int), .int .i64 4] wz fun e w' => e = .returned (.int .u64 (Dn : Int)) ∧ Below wz.heap.size wz w') := Lib.hid (fun wz hb => by
                    have := rnum_any (some ⟨bb, oo, none⟩) m cap P4 4 bs wz (HBY.out.below hb) (by have := HMB.out; omega) (by decide)
                    rw [← hP4, hD, hP4] at this
                    exact this)
                  have HN8 : Hid (∀ wz, Below w.heap.size w wz → Calls Tryd.prog 38 #[.slice (some ⟨bb, oo, none⟩) m cap, .int .u64 (P8 : Int), .int .i64 4] wz fun e w' => e = .returned (.int .u64 (T : Int)) ∧ Below wz.heap.size wz w') := Lib.hid (fun wz hb => by
                    have := rnum_any (some ⟨bb, oo, none⟩) m cap P8 4 bs wz (HBY.out.below hb) (by have := HMB.out; omega) (by decide)
                    rw [← hP8, hT, hP8] at this
                    exact this)
                  obtain ⟨U, hU⟩ : ∃ U, up4F N = U := ⟨_, rfl⟩
                  obtain ⟨UD, hUD⟩ : ∃ UD, up4F Dn = UD := ⟨_, rfl⟩
                  have HU : Hid (∀ wz, Calls Tryd.prog 39 #[.int .u64 (N : Int)] wz fun e w' => e = .returned (.int .u64 (U : Int)) ∧ wz = w') := Lib.hid (fun wz => by have := four_any4 N HN32.out.1 wz; rwa [hU] at this)
                  have HUD : Hid (∀ wz, Calls Tryd.prog 39 #[.int .u64 (Dn : Int)] wz fun e w' => e = .returned (.int .u64 (UD : Int)) ∧ wz = w') := Lib.hid (fun wz => by have := four_any4 Dn HN32.out.2.1 wz; rwa [hUD] at this)
                  have HUL : Hid (N ≤ U ∧ U ≤ N + 3 ∧ Dn ≤ UD ∧ UD ≤ Dn + 3) := Lib.hid (by have h1 := up4F_le N; have h2 := up4F_le Dn; omega)
                  rw [hU, hUD, hP12] at HNT1
                  obtain ⟨M12, hM12⟩ : ∃ M12, M - 12 = M12 := ⟨_, rfl⟩
                  rw [hM12] at HNT1
                  have HPP : Hid (p + 4 = P4 ∧ p + 8 = P8 ∧ p + 12 = P12 ∧ M12 + 12 = M ∧ P12 + M12 = EE) := Lib.hid (by have := HMB.out; have := H12.out; omega)
                  have QW1 : Hid (IntKind.u64.wrap ((p : Int) + 4) = (P4 : Int)) := Lib.hid (by have := HMB.out; rw [IntKind.wrap_u64]; omega)
                  have QW2 : Hid (IntKind.u64.wrap ((M : Int) - 12) = (M12 : Int)) := Lib.hid (by have := HMB.out; have := H12.out; rw [IntKind.wrap_u64]; omega)
                  clear hN hD hT hU hUD hP4 hP8 hP12 hM12 h12 HNT
                  have hmw1 := HMW1.out
                  go_wp2_with fail
                  refine (HN0.out _ HS2.out.st.blw).mono ?_
                  rintro e2 w2 ⟨rfl, b2⟩
                  have S2 := Lib.hid (HS2.out.below b2)
                  clear b2 t3 t3d t2 hmw1
                  have q1 := QW1.out
                  go_wp2_with fail
                  refine (HN4.out _ S2.out.st.blw).mono ?_
                  rintro e3 w3 ⟨rfl, b3⟩
                  have S3 := Lib.hid (S2.out.below b3)
                  clear b3 q1
                  by_cases hu1 : M12 < U
                  · have u1 : decide (M12 < U) = true := decide_eq_true hu1
                    have HE : Hid (R = .error (p, 4)) := Lib.hid (HER.out 4 (by rw [HNT1.out, if_pos (fun hc => by omega)]))
                    have hmw1 := HMW1.out
                    have q2 := QW2.out
                    go_wp2_with fail
                    refine (HU.out _).mono ?_
                    rintro e4 w4 ⟨rfl, rfl⟩
                    go_wp2_with fail
                    refine (HA4.out _).mono ?_
                    rintro ez wz ⟨rfl, bz⟩
                    have SZ := Lib.hid (S3.out.below bz)
                    clear bz
                    have g0 : wz.cell? ⟨rb, 0, none⟩ = some (.int .i64 0) := by rw [cell_of_row _ _ 0 _ _ _ SZ.out.r]; rfl
                    have f0 : wz.frozen? ⟨rb, 0, none⟩ = false := frozen_of_row _ _ _ _ _ SZ.out.r
                    have g1 : wz.cell? ⟨rb, 1, none⟩ = some (.bool false) := by rw [cell_of_row _ _ 1 _ _ _ SZ.out.r]; rfl
                    have f1 : wz.frozen? ⟨rb, 1, none⟩ = false := frozen_of_row _ _ _ _ _ SZ.out.r
                    have g2 : wz.cell? ⟨rb, 2, none⟩ = some (.int .u64 0) := by rw [cell_of_row _ _ 2 _ _ _ SZ.out.r]; rfl
                    have f2 : wz.frozen? ⟨rb, 2, none⟩ = false := frozen_of_row _ _ _ _ _ SZ.out.r
                    obtain ⟨wf, hwf, z0, z1, z2, ez⟩ := set3_cells SZ.out.r (.int .i64 4) (.bool true) (.int .u64 (p : Int))
                    have EB : Hid (Below w.heap.size w wf) := Lib.hid (by rw [← ez]; exact below_set3 SZ.out.st.blw HRB.out _ _ _)
                    clear ez 
                    go_wp2_with fail
                    refine bodyPost_ret (by simp [results, Tryd.results15, go_sem, z0, z1, z2]; try rfl) rfl ?_
                    exact HPE.out p _ wf HE.out EB.out
                  · have u1 : decide (M12 < U) = false := decide_eq_false hu1
                    obtain ⟨MU, hMU⟩ : ∃ MU, M12 - U = MU := ⟨_, rfl⟩
                    have HMU : Hid (U + MU = M12) := Lib.hid (by omega)
                    have QW3 : Hid (IntKind.u64.wrap ((M12 : Int) - (U : Int)) = (MU : Int)) := Lib.hid (by have := HMB.out; have := HPP.out; rw [IntKind.wrap_u64]; omega)
                    rw [hMU] at HNT1
                    clear hMU
                    by_cases hu2 : MU < Dn
                    · have u2 : decide (MU < Dn) = true := decide_eq_true hu2
                      have HE : Hid (R = .error (p, 4)) := Lib.hid (HER.out 4 (by rw [HNT1.out, if_pos (fun hc => by omega)]))
                      have q3 := QW3.out
                      have hmw1 := HMW1.out
                      have q2 := QW2.out
                      go_wp2_with fail
                      refine (HU.out _).mono ?_
                      rintro e4 w4 ⟨rfl, rfl⟩
                      go_wp2_with fail
                      refine (HU.out _).mono ?_
                      rintro e5 w5 ⟨rfl, rfl⟩
                      go_wp2_with fail
                      refine (HA4.out _).mono ?_
                      rintro ez wz ⟨rfl, bz⟩
                      have SZ := Lib.hid (S3.out.below bz)
                      clear bz
                      have g0 : wz.cell? ⟨rb, 0, none⟩ = some (.int .i64 0) := by rw [cell_of_row _ _ 0 _ _ _ SZ.out.r]; rfl
                      have f0 : wz.frozen? ⟨rb, 0, none⟩ = false := frozen_of_row _ _ _ _ _ SZ.out.r
                      have g1 : wz.cell? ⟨rb, 1, none⟩ = some (.bool false) := by rw [cell_of_row _ _ 1 _ _ _ SZ.out.r]; rfl
                      have f1 : wz.frozen? ⟨rb, 1, none⟩ = false := frozen_of_row _ _ _ _ _ SZ.out.r
                      have g2 : wz.cell? ⟨rb, 2, none⟩ = some (.int .u64 0) := by rw [cell_of_row _ _ 2 _ _ _ SZ.out.r]; rfl
                      have f2 : wz.frozen? ⟨rb, 2, none⟩ = false := frozen_of_row _ _ _ _ _ SZ.out.r
                      obtain ⟨wf, hwf, z0, z1, z2, ez⟩ := set3_cells SZ.out.r (.int .i64 4) (.bool true) (.int .u64 (p : Int))
                      have EB : Hid (Below w.heap.size w wf) := Lib.hid (by rw [← ez]; exact below_set3 SZ.out.st.blw HRB.out _ _ _)
                      clear ez 
                      go_wp2_with fail
                      refine bodyPost_ret (by simp [results, Tryd.results15, go_sem, z0, z1, z2]; try rfl) rfl ?_
                      exact HPE.out p _ wf HE.out EB.out
                    · have u2 : decide (MU < Dn) = false := decide_eq_false hu2
                      have HNT2 : Hid (NF = _) := Lib.hid (HNT1.out.trans (if_neg (fun hc => hc ⟨by omega, by omega⟩)))
                      have HDM : Hid (Dn ≤ MU ∧ U ≤ M12) := Lib.hid (by omega)
                      obtain ⟨H12E, hH12E⟩ : ∃ H12E, P12 + N = H12E := ⟨_, rfl⟩
                      have HHE : Hid (P12 + N = H12E ∧ P12 ≤ H12E ∧ H12E ≤ EE) := Lib.hid (by have := HPP.out; have := HUL.out; have := HDM.out; omega)
                      have QW4 : Hid (IntKind.u64.wrap ((p : Int) + 12) = (P12 : Int)) := Lib.hid (by have := HMB.out; have := HPP.out; rw [IntKind.wrap_u64]; omega)
                      have QW5 : Hid (IntKind.u64.wrap ((P12 : Int) + (N : Int)) = (H12E : Int)) := Lib.hid (by have := HMB.out; have := HPP.out; have := HN32.out; rw [IntKind.wrap_u64]; omega)
                      have QW6 : Hid (IntKind.u64.wrap ((p : Int) + 8) = (P8 : Int)) := Lib.hid (by have := HMB.out; have := HPP.out; rw [IntKind.wrap_u64]; omega)
                      have HTW : Hid (IntKind.u32.wrap (T : Int) = (T : Int)) := Lib.hid (by have := HN32.out; rw [IntKind.wrap_u32]; omega)
                      obtain ⟨CU, hCU⟩ : ∃ CU, P12 + U = CU := ⟨_, rfl⟩
                      obtain ⟨PN1, hPN1⟩ : ∃ PN, CU + UD = PN := ⟨_, rfl⟩
                      have HCU : Hid (CU ≤ 1048576 ∧ inB bs.length CU Dn = true) := Lib.hid (by
                        have := HPP.out; have := HDM.out; have := HMU.out; have := HEM.out; have := HPL.out; have := HBY.out.len
                        exact ⟨by omega, inB_yes (by omega) (by omega)⟩)
                      have CW1 := QW4
                      have CW2 : Hid (IntKind.u64.wrap ((P12 : Int) + (U : Int)) = (CU : Int)) := Lib.hid (by have := HCU.out; rw [IntKind.wrap_u64]; omega)
                      obtain ⟨DL, hDL⟩ : ∃ DL, (bs.drop CU).take Dn = DL := ⟨_, rfl⟩
                      have HDL : Hid (DL.length = Dn) := Lib.hid (by
                        have := HCU.out.2
                        unfold inB at this
                        have := of_decide_eq_true this
                        rw [← hDL, List.length_take, List.length_drop]; omega)
                      have PW3 : Hid (IntKind.u64.wrap ((CU : Int) + (UD : Int)) = (PN1 : Int)) := Lib.hid (by have := HCU.out; have := HUL.out; have := HN32.out; rw [IntKind.wrap_u64]; omega)
                      have HPN : Hid (p + 12 ≤ PN1 ∧ PN1 ≤ 1099511627776) := Lib.hid (by have := HCU.out; have := HUL.out; have := HN32.out; have := HPP.out; omega)
                      have HPS : Hid (p + (12 + U + UD) = PN1) := Lib.hid (by have := HPP.out; omega)
                      rw [hCU, hDL] at HNT2
                      have HDLE := Lib.hid hDL
                      clear hu1 hu2 hH12E hCU hPN1 hDL
                      have hmw1 := HMW1.out
                      have q2 := QW2.out
                      have q3 := QW3.out
                      go_wp2_with fail
                      refine (HU.out _).mono ?_
                      rintro e4 w4 ⟨rfl, rfl⟩
                      go_wp2_with fail
                      refine (HU.out _).mono ?_
                      rintro e5 w5 ⟨rfl, rfl⟩
                      go_upto_region 19 with fail
                      clear hmw1 q2 q3 u1 u2
                      go_cut [14] (fun v wz => w3 = wz ∧ (0 < N → v = .slice (some ⟨bb, oo + P12, none⟩) N (cap - P12)) ∧ ∃ av cv, v = .slice av N cv)
                      case first =>
                        have j0 : (0 : Int) ≤ (P12 : Int) := by omega
                        have j1 : (P12 : Int) ≤ (H12E : Int) := by have := HHE.out; omega
                        have j2 : (H12E : Int) ≤ (cap : Int) := by have := HHE.out; have := HBY.out.cap; have := HEM.out; omega
                        have j3 : ((H12E : Int) - (P12 : Int)).toNat = N := by have := HHE.out; omega
                        have j4 : H12E - P12 = N := by have := HHE.out; omega
                        have j5 : P12 ≤ H12E := by have := HHE.out; omega
                        have j6 : H12E ≤ cap := by have := HHE.out; have := HBY.out.cap; have := HEM.out; omega
                        by_cases hcap : cap = P12
                        · have HN0' : Hid (¬ 0 < N) := Lib.hid (by omega)
                          subst hcap
                          have q4 := QW4.out
                          have q5 := QW5.out
                          go_wp2_with fail
                          go_meet
                          case rel => exact ⟨rfl, fun h => absurd h HN0'.out, _, _, rfl⟩
                        · have q4 := QW4.out
                          have q5 := QW5.out
                          go_wp2_with fail
                          go_meet
                          case rel => exact ⟨rfl, fun _ => rfl, _, _, rfl⟩
                      case rest =>
                        obtain ⟨rfl, hv, av, cv, rfl⟩ := hcut
                        by_cases h0 : 0 < N
                        · have hv2 := hv h0
                          simp only [Value.slice.injEq, true_and] at hv2
                          obtain ⟨rfl, rfl⟩ := hv2
                          obtain ⟨N1, hN1⟩ : ∃ N1, N - 1 = N1 := ⟨_, rfl⟩
                          have QN1 : Hid (IntKind.u64.wrap ((N : Int) - 1) = (N1 : Int)) := Lib.hid (by have := HN32.out; rw [IntKind.wrap_u64]; omega)
                          have HNN : Hid (N1 < N ∧ P12 + N1 < m ∧ p + 12 + N - 1 = P12 + N1 ∧ P12 + N - 1 = P12 + N1) := Lib.hid (by have := HPP.out; have := HHE.out; have := HEM.out; omega)
                          obtain ⟨b0, o0, e0, -, hcl, -⟩ := (HBY.out.row.below S3.out.st.blw).at (i := P12 + N1) (by rw [HBY.out.len]; exact HNN.out.2.1)
                          simp only [Option.some.injEq, Addr.mk.injEq, and_true] at e0
                          obtain ⟨rfl, rfl⟩ := e0
                          obtain ⟨BY, hBY⟩ : ∃ BY, bs.getD (P12 + N1) 0 = BY := ⟨_, rfl⟩
                          rw [hBY, ← Nat.add_assoc] at hcl
                          have HNT4 := HNT2.out
                          rw [HNN.out.2.2.2, hBY, hN1] at HNT4
                          have HNT5 := Lib.hid HNT4
                          clear HNT4 hv
                          have d0 : decide (0 < N) = true := decide_eq_true h0
                          have i2 : (0 : Int) ≤ (N1 : Int) := by omega
                          have i3 : (N1 : Int) < (N : Int) := by have := HNN.out; omega
                          have i4 : (N1 : Int) ≤ ((cap - P12 : Nat) : Int) := by have := HNN.out; have := HBY.out.cap; omega
                          have i5 : N1 ≤ cap - P12 := by have := HNN.out; have := HBY.out.cap; omega
                          by_cases hz : BY = 0
                          · have t3 : ((BY : Int) != 0) = false := by rw [hz]; rfl
                            obtain ⟨NL, hNL⟩ : ∃ NL, (bs.drop P12).take N1 = NL := ⟨_, rfl⟩
                            obtain ⟨nm, hnm⟩ : ∃ nm, nameF NL = nm := ⟨_, rfl⟩
                            have HOK := HNT5.out.trans (if_neg (fun hc => hc.2 hz))
                            rw [hNL, hnm] at HOK
                            have HG5 : Hid ((match notesG bs EE g2 PN1 (D2.map ND.nt ++ [⟨nm, T, DL⟩]) with | .error x => Except.error x | .ok l => notesF bs (ps.drop (k + 1)) l) = R) := Lib.hid (by
                              have := HOKR.out _ _ HOK
                              rwa [HPS.out] at this)
                            have HCV : Hid (∀ wz, Below w3.heap.size w3 wz → (convert 26 9 (.slice (some ⟨bb, oo + P12, none⟩) N1 (cap - P12))).run Tryd.prog wz = .ok (.string nm) wz) := Lib.hid (fun wz hb => by
                              have hrw := ((HBY.out.row.below S3.out.st.blw).below hb).1.cut P12 N1
                              rw [cut_toI, hNL] at hrw
                              have hnl : NL.length = N1 := by rw [← hNL, List.length_take, List.length_drop]; have := HNN.out; have := HBY.out.len; omega
                              rw [← hnm]
                              refine conv_bytes wz bb (oo + P12) (cap - P12) (toI NL) N1 (by rw [toI_length, hnl]) (fun i hi => ?_)
                              obtain ⟨b', o', e', hc'⟩ := hrw i (by rw [toI_length, hnl]; exact hi)
                              simp only [Option.map_some, Option.some.injEq, WideShapes.add_plain, Addr.mk.injEq, and_true] at e'
                              obtain ⟨rfl, rfl⟩ := e'
                              exact hc')
                            clear hz hNL hnm HOK hN1 hBY h0
                            have q1 := QN1.out
                            have q6 := QW6.out
                            go_wp2_with fail
                            refine (HN8.out _ S3.out.st.blw).mono ?_
                            rintro e5 wA ⟨rfl, bA⟩
                            have SA := Lib.hid (S3.out.below bA)
                            have hcv := HCV.out (wA.alloc (.cells #[.string ⟨#[]⟩, .int .u32 (T : Int), .slice none 0 0] 55)) (ballo bA _)
                            clear bA q6 hcl
                            have htw := HTW.out
                            obtain ⟨wb, hwb⟩ : ∃ wb, wA.alloc (.cells #[.string nm, .int .u32 (T : Int), .slice none 0 0] 55) = wb := ⟨_, rfl⟩
                            obtain ⟨xb, hxb⟩ : ∃ xb, wA.heap.size = xb := ⟨_, rfl⟩
                            have BAB : Hid (Below wA.heap.size wA wb) := Lib.hid (by rw [← hwb]; exact ballo (Below.refl _ _) _)
                            have XB : Hid (wb.heap[xb]? = some (.cells #[.string nm, .int .u32 (T : Int), .slice none 0 0] 55)) := Lib.hid (by rw [← hwb, ← hxb]; exact heap_alloc_new _ _)
                            have HXB : Hid (w.heap.size ≤ xb ∧ (Value.slice l2 n2 lc2).ownBlock ≠ some xb) := Lib.hid ⟨by rw [← hxb]; exact SA.out.st.blw.size, fun e => by have := (World.ownsRow.lt SA.out.st.own.1 _ e).2; omega⟩
                            have SB := Lib.hid (SA.out.below BAB.out)
                            have HCT : Hid (Calls Tryd.prog 31 #[.slice (some ⟨bb, oo, none⟩) m cap, .int .u64 (CU : Int), .int .u64 (Dn : Int)] wb (RCutOwn bs CU Dn wb)) := Lib.hid (rcut_own (some ⟨bb, oo, none⟩) m cap CU Dn bs wb (HBY.out.below SB.out.st.blw) (by have := HCU.out; have := HPL.out; omega) (by have := HN32.out; omega))
                            have hcu1 := CW1.out
                            have hcu2 := CW2.out
                            clear HNT2
                            go_wp2_with (go_at_call 39; refine (HU.out _).mono ?_; rintro e9 w9 ⟨rfl, rfl⟩)
                            refine HCT.out.mono ?_
                            rintro e5 w5 ⟨hans, b5⟩
                            rw [if_pos HCU.out.2] at hans
                            obtain ⟨ad, c, rfl, ho⟩ := hans
                            rw [HDLE.out] at ho
                            have S5 := Lib.hid (SB.out.below b5)
                            have X5 := Lib.hid ((b5.block _ (lt_of_block XB.out)).trans XB.out)
                            have HO5 : Hid (OwnI w5 w.heap.size 5 .u8 (.slice ad Dn c) (toI DL)) := Lib.hid (OwnI.mono ho SB.out.st.blw.size)
                            have v2 : w5.cell? ⟨xb, 2, none⟩ = some (.slice none 0 0) := by rw [cell_of_row _ _ 2 _ _ _ X5.out]; rfl
                            have v2f : w5.frozen? ⟨xb, 2, none⟩ = false := frozen_of_row _ _ _ _ _ X5.out
                            obtain ⟨w6, hw6⟩ : ∃ w6, w5.setCell ⟨xb, 2, none⟩ (.slice ad Dn c) = w6 := ⟨_, rfl⟩
                            have X6 : Hid (w6.heap[xb]? = some (.cells #[.string nm, .int .u32 (T : Int), .slice ad Dn c] 55)) := Lib.hid (by rw [← hw6]; exact heap_setCell_same w5 xb 2 _ _ _ X5.out)
                            have S6 : Hid (RNt w hbk rb hvr D2 l2 n2 lc2 w6) := Lib.hid (by rw [← hw6]; exact S5.out.setX X5.out HXB.out.1 (HXB.out.2) _)
                            have O6 : Hid (OwnI w6 w.heap.size 5 .u8 (.slice ad Dn c) (toI DL)) := Lib.hid (by rw [← hw6]; exact HO5.out.setO (a := ⟨xb, 2, none⟩) (own_ne HO5.out X5.out (by decide)) _)
                            have y0 : w6.cell? ⟨xb, 0, none⟩ = some (.string nm) := by rw [cell_of_row _ _ 0 _ _ _ X6.out]; rfl
                            have y1 : w6.cell? ⟨xb, 1, none⟩ = some (.int .u32 (T : Int)) := by rw [cell_of_row _ _ 1 _ _ _ X6.out]; rfl
                            have y2 : w6.cell? ⟨xb, 2, none⟩ = some (.slice ad Dn c) := by rw [cell_of_row _ _ 2 _ _ _ X6.out]; rfl
                            have HLEN : Hid ((D2.map ND.cells).length = n2) := Lib.hid (by rw [List.length_map]; exact S6.out.st.len)
                            have HKM : Hid (n2 + 1 ≤ maxLen ∧ (n2 + 1) * 48 ≤ 140737488355328) := Lib.hid (by have := HPB.out; have := HEM.out; have := HPL.out; have := HKK.out; unfold maxLen; omega)
                            have HSZ : Hid (w.heap.size ≤ w6.heap.size) := Lib.hid S6.out.st.blw.size
                            have HFIN : Hid (∀ ad8 c8 w8, OwnS w8 w.heap.size 55 3 (.slice ad8 (n2 + 1) c8) (D2.map ND.cells ++ [[.string nm, .int .u32 (T : Int), .slice ad Dn c]]) → (w6.alloc (.cells #[.string nm, .int .u32 (T : Int), .slice ad Dn c] 55)).grownBy w8 (Value.slice l2 n2 lc2).ownBlock → RNt w hbk rb hvr (D2 ++ [⟨⟨nm, T, DL⟩, ad, c⟩]) ad8 (n2 + 1) c8 w8) := Lib.hid (fun ad8 c8 w8 ho8 hg8 => by
                              have hb := ballo (Below.refl w6.heap.size w6) (.cells #[.string nm, .int .u32 (T : Int), .slice ad Dn c] 55)
                              obtain rfl := HDL.out
                              exact RNt.next (S6.out.below hb) ⟨⟨nm, T, DL⟩, ad, c⟩ (O6.out.below hb) ho8 hg8)
                            have hpn1 := QW4.out
                            have hpn2 := CW2.out
                            have hpn3 := PW3.out
                            clear ho b5
                            go_wp2_with (first
                              | (at_builtin; go_loud (refine wpList_grow_row rfl (.tmp 133) (.tmp 135) nRow rfl w.heap.size (.slice l2 n2 lc2) (D2.map ND.cells) n2 [.string nm, .int .u32 (T : Int), .slice ad Dn c] rfl rfl HLEN.out rfl (by intro u hu; simp only [List.mem_cons, List.not_mem_nil, or_false] at hu; rcases hu with rfl | rfl | rfl <;> rfl) S6.out.st.own HKM.out.1 HKM.out.2 HSZ.out ?_); intro ad8 c8 w8 ho8 hg8; have HN8 := Lib.hid (HFIN.out _ _ _ ho8 hg8); clear ho8 hg8)
                              | fail)
                            refine (HU.out _).mono ?_
                            rintro e9 w9 ⟨rfl, rfl⟩
                            go_wp2_with fail
                            refine (HUD.out _).mono ?_
                            rintro e9 w9 ⟨rfl, rfl⟩
                            go_wp2_with fail
                            go_roundg g2
                            case measure => omega
                            case rel => exact ⟨PN1, _, ad8, n2 + 1, c8, rfl, rfl, HN8, Lib.hid (by rw [nt_snoc]; exact HG5.out), Lib.hid (by have := HPB.out; have := HMB.out; have := HPN.out; have := H12.out; omega)⟩
                          · have t3 : ((BY : Int) != 0) = true := bne_iff_ne.2 (by omega)
                            have HE : Hid (R = .error (p, 29)) := Lib.hid (HER.out 29 (HNT5.out.trans (if_pos ⟨h0, hz⟩)))
                            clear hz hN1 hBY h0
                            have q1 := QN1.out
                            go_wp2_with fail
                            refine (HA9.out _).mono ?_
                            rintro ez wz ⟨rfl, bz⟩
                            have SZ := Lib.hid (S3.out.below bz)
                            clear bz
                            have g0 : wz.cell? ⟨rb, 0, none⟩ = some (.int .i64 0) := by rw [cell_of_row _ _ 0 _ _ _ SZ.out.r]; rfl
                            have f0 : wz.frozen? ⟨rb, 0, none⟩ = false := frozen_of_row _ _ _ _ _ SZ.out.r
                            have g1 : wz.cell? ⟨rb, 1, none⟩ = some (.bool false) := by rw [cell_of_row _ _ 1 _ _ _ SZ.out.r]; rfl
                            have f1 : wz.frozen? ⟨rb, 1, none⟩ = false := frozen_of_row _ _ _ _ _ SZ.out.r
                            have g2 : wz.cell? ⟨rb, 2, none⟩ = some (.int .u64 0) := by rw [cell_of_row _ _ 2 _ _ _ SZ.out.r]; rfl
                            have f2 : wz.frozen? ⟨rb, 2, none⟩ = false := frozen_of_row _ _ _ _ _ SZ.out.r
                            obtain ⟨wf, hwf, z0, z1, z2, ez⟩ := set3_cells SZ.out.r (.int .i64 29) (.bool true) (.int .u64 (p : Int))
                            have EB : Hid (Below w.heap.size w wf) := Lib.hid (by rw [← ez]; exact below_set3 SZ.out.st.blw HRB.out _ _ _)
                            clear ez 
                            go_wp2_with fail
                            refine bodyPost_ret (by simp [results, Tryd.results15, go_sem, z0, z1, z2]; try rfl) rfl ?_
                            exact HPE.out p _ wf HE.out EB.out
                        · obtain rfl : N = 0 := by omega
                          obtain ⟨nm, hnm⟩ : ∃ nm : ByteArray, ⟨#[]⟩ = nm := ⟨_, rfl⟩
                          have HG5 : Hid ((match notesG bs EE g2 PN1 (D2.map ND.nt ++ [⟨nm, T, DL⟩]) with | .error x => Except.error x | .ok l => notesF bs (ps.drop (k + 1)) l) = R) := Lib.hid (by
                            have h1 := HNT2.out.trans (if_neg (fun hc => h0 hc.1))
                            have := HOKR.out _ _ h1
                            rw [HPS.out] at this
                            rw [← hnm]
                            exact this)
                          have q6 := QW6.out
                          clear h0 hv
                          go_wp2_with fail
                          refine (HN8.out _ S3.out.st.blw).mono ?_
                          rintro e5 wA ⟨rfl, bA⟩
                          have SA := Lib.hid (S3.out.below bA)
                          clear bA q6
                          have htw := HTW.out
                          obtain ⟨wb, hwb⟩ : ∃ wb, wA.alloc (.cells #[.string nm, .int .u32 (T : Int), .slice none 0 0] 55) = wb := ⟨_, rfl⟩
                          obtain ⟨xb, hxb⟩ : ∃ xb, wA.heap.size = xb := ⟨_, rfl⟩
                          have BAB : Hid (Below wA.heap.size wA wb) := Lib.hid (by rw [← hwb]; exact ballo (Below.refl _ _) _)
                          have XB : Hid (wb.heap[xb]? = some (.cells #[.string nm, .int .u32 (T : Int), .slice none 0 0] 55)) := Lib.hid (by rw [← hwb, ← hxb]; exact heap_alloc_new _ _)
                          have HXB : Hid (w.heap.size ≤ xb ∧ (Value.slice l2 n2 lc2).ownBlock ≠ some xb) := Lib.hid ⟨by rw [← hxb]; exact SA.out.st.blw.size, fun e => by have := (World.ownsRow.lt SA.out.st.own.1 _ e).2; omega⟩
                          have kb0 : wb.cell? ⟨xb, 2, none⟩ = some (.slice none 0 0) := by rw [cell_of_row _ _ 2 _ _ _ XB.out]; rfl
                          have kb1 : wb.frozen? ⟨xb, 2, none⟩ = false := frozen_of_row _ _ _ _ _ XB.out
                          have kb2 : wb.setCell ⟨xb, 2, none⟩ (.slice none 0 0) = wb := set_selfN XB.out rfl
                          have SB := Lib.hid (SA.out.below BAB.out)
                          have HCT : Hid (Calls Tryd.prog 31 #[.slice (some ⟨bb, oo, none⟩) m cap, .int .u64 (CU : Int), .int .u64 (Dn : Int)] wb (RCutOwn bs CU Dn wb)) := Lib.hid (rcut_own (some ⟨bb, oo, none⟩) m cap CU Dn bs wb (HBY.out.below SB.out.st.blw) (by have := HCU.out; have := HPL.out; omega) (by have := HN32.out; omega))
                          have hcu1 := CW1.out
                          have hcu2 := CW2.out
                          clear HNT2
                          go_wp2_with (go_at_call 39; refine (HU.out _).mono ?_; rintro e9 w9 ⟨rfl, rfl⟩)
                          refine HCT.out.mono ?_
                          rintro e5 w5 ⟨hans, b5⟩
                          rw [if_pos HCU.out.2] at hans
                          obtain ⟨ad, c, rfl, ho⟩ := hans
                          rw [HDLE.out] at ho
                          have S5 := Lib.hid (SB.out.below b5)
                          have X5 := Lib.hid ((b5.block _ (lt_of_block XB.out)).trans XB.out)
                          have HO5 : Hid (OwnI w5 w.heap.size 5 .u8 (.slice ad Dn c) (toI DL)) := Lib.hid (OwnI.mono ho SB.out.st.blw.size)
                          have v2 : w5.cell? ⟨xb, 2, none⟩ = some (.slice none 0 0) := by rw [cell_of_row _ _ 2 _ _ _ X5.out]; rfl
                          have v2f : w5.frozen? ⟨xb, 2, none⟩ = false := frozen_of_row _ _ _ _ _ X5.out
                          obtain ⟨w6, hw6⟩ : ∃ w6, w5.setCell ⟨xb, 2, none⟩ (.slice ad Dn c) = w6 := ⟨_, rfl⟩
                          have X6 : Hid (w6.heap[xb]? = some (.cells #[.string nm, .int .u32 (T : Int), .slice ad Dn c] 55)) := Lib.hid (by rw [← hw6]; exact heap_setCell_same w5 xb 2 _ _ _ X5.out)
                          have S6 : Hid (RNt w hbk rb hvr D2 l2 n2 lc2 w6) := Lib.hid (by rw [← hw6]; exact S5.out.setX X5.out HXB.out.1 (HXB.out.2) _)
                          have O6 : Hid (OwnI w6 w.heap.size 5 .u8 (.slice ad Dn c) (toI DL)) := Lib.hid (by rw [← hw6]; exact HO5.out.setO (a := ⟨xb, 2, none⟩) (own_ne HO5.out X5.out (by decide)) _)
                          have y0 : w6.cell? ⟨xb, 0, none⟩ = some (.string nm) := by rw [cell_of_row _ _ 0 _ _ _ X6.out]; rfl
                          have y1 : w6.cell? ⟨xb, 1, none⟩ = some (.int .u32 (T : Int)) := by rw [cell_of_row _ _ 1 _ _ _ X6.out]; rfl
                          have y2 : w6.cell? ⟨xb, 2, none⟩ = some (.slice ad Dn c) := by rw [cell_of_row _ _ 2 _ _ _ X6.out]; rfl
                          have HLEN : Hid ((D2.map ND.cells).length = n2) := Lib.hid (by rw [List.length_map]; exact S6.out.st.len)
                          have HKM : Hid (n2 + 1 ≤ maxLen ∧ (n2 + 1) * 48 ≤ 140737488355328) := Lib.hid (by have := HPB.out; have := HEM.out; have := HPL.out; have := HKK.out; unfold maxLen; omega)
                          have HSZ : Hid (w.heap.size ≤ w6.heap.size) := Lib.hid S6.out.st.blw.size
                          have HFIN : Hid (∀ ad8 c8 w8, OwnS w8 w.heap.size 55 3 (.slice ad8 (n2 + 1) c8) (D2.map ND.cells ++ [[.string nm, .int .u32 (T : Int), .slice ad Dn c]]) → (w6.alloc (.cells #[.string nm, .int .u32 (T : Int), .slice ad Dn c] 55)).grownBy w8 (Value.slice l2 n2 lc2).ownBlock → RNt w hbk rb hvr (D2 ++ [⟨⟨nm, T, DL⟩, ad, c⟩]) ad8 (n2 + 1) c8 w8) := Lib.hid (fun ad8 c8 w8 ho8 hg8 => by
                            have hb := ballo (Below.refl w6.heap.size w6) (.cells #[.string nm, .int .u32 (T : Int), .slice ad Dn c] 55)
                            obtain rfl := HDL.out
                            exact RNt.next (S6.out.below hb) ⟨⟨nm, T, DL⟩, ad, c⟩ (O6.out.below hb) ho8 hg8)
                          have hpn1 := QW4.out
                          have hpn2 := CW2.out
                          have hpn3 := PW3.out
                          clear ho b5
                          go_wp2_with (first
                            | (at_builtin; go_loud (refine wpList_grow_row rfl (.tmp 133) (.tmp 135) nRow rfl w.heap.size (.slice l2 n2 lc2) (D2.map ND.cells) n2 [.string nm, .int .u32 (T : Int), .slice ad Dn c] rfl rfl HLEN.out rfl (by intro u hu; simp only [List.mem_cons, List.not_mem_nil, or_false] at hu; rcases hu with rfl | rfl | rfl <;> rfl) S6.out.st.own HKM.out.1 HKM.out.2 HSZ.out ?_); intro ad8 c8 w8 ho8 hg8; have HN8 := Lib.hid (HFIN.out _ _ _ ho8 hg8); clear ho8 hg8)
                            | fail)
                          refine (HU.out _).mono ?_
                          rintro e9 w9 ⟨rfl, rfl⟩
                          go_wp2_with fail
                          refine (HUD.out _).mono ?_
                          rintro e9 w9 ⟨rfl, rfl⟩
                          go_wp2_with fail
                          go_roundg g2
                          case measure => omega
                          case rel => exact ⟨PN1, _, ad8, n2 + 1, c8, rfl, rfl, HN8, Lib.hid (by rw [nt_snoc]; exact HG5.out), Lib.hid (by have := HPB.out; have := HMB.out; have := HPN.out; have := H12.out; omega)⟩
            · have t2 : decide (p < EE) = false := decide_eq_false hpe
              have HG4 : Hid (notesF bs (ps.drop (k + 1)) (D2.map ND.nt) = R) := Lib.hid (by
                have h := HG3.out
                rw [notesG_end _ _ _ _ _ (by omega)] at h
                exact h)
              have HN2 : Hid (n2 ≤ (k + 1) * 1048576) := Lib.hid (by have := HPB.out; have := HEM.out; have := HPL.out; omega)
              go_wp2_with fail
              go_roundg g
              case measure => have := HKK.out; omega
              case rel => exact ⟨k + 1, D2, l2, n2, lc2, by have := HKK.out; omega, (by first | (refine congrArg (Value.int .i64) ?_; omega) | (refine congrArg (Value.int .i64) ?_; rw [IntKind.wrap_i64]; omega)), rfl, HS2, HG4, HN2⟩
      · have t1 : ((a0 : Int) != 4) = true := bne_iff_ne.2 (by omega)
        have HG4 : Hid (notesF bs (ps.drop (k + 1)) (D.map ND.nt) = R) := Lib.hid (by have h := HG2.out; rw [if_pos h4] at h; exact h)
        have HN2 : Hid (n ≤ (k + 1) * 1048576) := Lib.hid (Nat.le_trans HNK.out (Nat.mul_le_mul_right _ (Nat.le_succ k)))
        clear h4
        go_wp2_with fail
        go_roundg g
        case measure => have := HKK.out; omega
        case rel => exact ⟨k + 1, D, la, n, lc, by have := HKK.out; omega, (by first | (refine congrArg (Value.int .i64) ?_; omega) | (refine congrArg (Value.int .i64) ?_; rw [IntKind.wrap_i64]; omega)), rfl, SX, HG4, HN2⟩
end Go.Proofs.YtmjfkcclhbpclaaDoor
