/- Layer 7: a chain word, the greatest bucket, how many symbols a table of the second kind tells. -/
import Derived.Test.YtpilccalgegadaaBloomW
namespace Go.Proofs.Ytpilccalgegadaa
open Go.RowKit
set_option linter.unusedVariables false
set_option linter.unusedSimpArgs false

/-- a table of the second kind as a value -/
def bloomV (a : Option Addr) (len cap : Nat) (ty en : Int) (p : Option Addr) (n pc : Nat) (t : BT) (ba : Option Addr) (bc : Nat) (ua : Option Addr) (uc : Nat) : Value :=
  .agg #[.slice a len cap, .int .i64 ty, .int .u64 en, .slice p n pc, .int .u32 (t.first : Int), .int .u32 (t.shift : Int), .slice ba t.bloom.length bc, .slice ua t.buckets.length uc, .int .u64 (t.base : Int)]

theorem link_num (base first i : Nat) (hb : base < 18446744073709551616) (hf : first < 4294967296) (hi : i < 4294967296) :
    IntKind.u32.wrap ((i : Int) - (first : Int)) = (((i + 4294967296 - first) % 4294967296 : Nat) : Int) := by
  rw [IntKind.wrap_u32]
  omega
theorem link_num2 (base d : Nat) : IntKind.u64.wrap ((base : Int) + 4 * (d : Int)) = (((base + 4 * d) % 18446744073709551616 : Nat) : Int) := by
  rw [IntKind.wrap_u64]
  omega

set_option maxRecDepth 100000 in
set_option maxHeartbeats 4000000 in
theorem chain_any (a : Option Addr) (cap : Nat) (bs : List Nat) (ty en : Int) (p : Option Addr) (pc : Nat) (ps : List PT) (t : BT) (ba : Option Addr) (bc : Nat) (ua : Option Addr) (uc : Nat) (i : Nat) (w : World) (hb : BRow w a bs) (hbl : bs.length ≤ 140737488351232) (hbc : bs.length ≤ cap)
    (h : PRow w p ps) (hl : ps.length ≤ 140737488351232) (hf : t.first < 4294967296) (hbase : t.base < 18446744073709551616) (hi : i < 4294967296) :
    Calls Try.prog 31 #[bloomV a bs.length cap ty en p ps.length pc t ba bc ua uc, .int .u32 (i : Int)] w (NumErr (linkF bs ps t i) .u32 w) := by
  have HW := Lib.hid (fun (w1 : World) (addr : Nat) (hb1 : Below w.heap.size w w1) (ha : addr < 18446744073709551616) => word_any a cap bs ty en p pc ps addr w1 (hb.below hb1) hbl hbc (h.below hb1) hl ha)
  clear hb h
  unfold linkF linkAt
  have e1 := link_num t.base t.first i hbase hf hi
  have hd : (i + 4294967296 - t.first) % 4294967296 < 4294967296 := Nat.mod_lt _ (by omega)
  obtain ⟨fi, hfi⟩ : ∃ fi, t.first = fi := ⟨_, rfl⟩
  obtain ⟨bl, hbl0⟩ : ∃ bl, t.bloom.length = bl := ⟨_, rfl⟩
  obtain ⟨ul, hul0⟩ : ∃ ul, t.buckets.length = ul := ⟨_, rfl⟩
  obtain ⟨ba0, hba0⟩ : ∃ ba0, t.base = ba0 := ⟨_, rfl⟩
  obtain ⟨sh, hsh⟩ : ∃ sh, t.shift = sh := ⟨_, rfl⟩
  unfold bloomV fileV at *
  rw [hfi, hbl0, hul0, hba0, hsh]
  rw [hfi] at e1 hd
  clear hfi hbl0 hul0 hsh hf
  rw [hba0] at hbase
  generalize (i + 4294967296 - fi) % 4294967296 = d at *
  have e2 := link_num2 ba0 d
  have hL : (ba0 + 4 * d) % 18446744073709551616 < 18446744073709551616 := Nat.mod_lt _ (by omega)
  generalize (ba0 + 4 * d) % 18446744073709551616 = L at *
  have hwd : wrap64 (d : Int) = (d : Int) := wrap_word hd
  have B1 : Hid (Below w.heap.size w (w.alloc (.cells #[.slice a bs.length cap, .int .i64 ty, .int .u64 en, .slice p ps.length pc, .int .u32 (fi : Int), .int .u32 (sh : Int), .slice ba bl bc, .slice ua ul uc, .int .u64 (ba0 : Int)] 78))) := Lib.hid ((Below.refl _ _).alloc (Nat.le_refl _) _)
  have HWL := Lib.hid (HW.out _ L B1.out hL)
  clear HW hL hba0 hbase
  generalize wordF bs ps L = F at *
  go_enter Try.func31, Try.ntmps31
  go_wp2_with fail
  refine HWL.out.mono ?_
  rintro e w2 ⟨rfl, hb2⟩
  have B2 := Lib.hid (bstep B1.out hb2)
  clear hb2 HWL B1
  go_wp2_with fail
  go_ret2
  exact ⟨rfl, B2.out⟩

set_option maxRecDepth 100000 in
set_option maxHeartbeats 4000000 in
theorem max_any (a : Option Addr) (cap : Nat) (l : List Nat) (w : World) (h : Row .u32 w a (toI l)) (h0 : 0 < l.length) (hl : l.length ≤ 1048576) :
    Calls Try.prog 30 #[.slice a l.length cap] w fun e w' => e = .returned (.int .u32 ((maxF l : Nat) : Int)) ∧ w = w' := by
  have H := Lib.hid h
  obtain ⟨b0, o0, rfl, hc0⟩ := h 0 (by rw [toI_length]; exact h0)
  rw [toI_getD] at hc0
  have HS : Hid (∀ k, k < l.length → maxF (l.take (k + 1)) = Nat.max (maxF (l.take k)) (l.getD k 0)) := Lib.hid (fun k hk => by
    rw [List.take_succ_eq_append_getElem hk, maxF_snoc, List.getD, List.getElem?_eq_getElem hk]; rfl)
  have H1 : Hid (l.getD 0 0 = maxF (l.take 1)) := Lib.hid (by
    rw [HS.out 0 h0]
    simp [maxF])
  have HE : Hid (maxF (l.take l.length) = maxF l) := Lib.hid (by rw [List.take_length])
  rw [Nat.add_zero] at hc0
  generalize l.getD 0 0 = x0 at *
  clear h
  go_enter Try.func30, Try.ntmps30
  go_wp2
  go_loopg [3, 4] (l.length - 1) (fun g m i wr => ∃ (k : Nat) (x : Nat), k + g = l.length ∧ 0 < k ∧ i = .int .i64 (k : Int) ∧ m = .int .u32 (x : Int) ∧ Hid (x = maxF (l.take k)) ∧ w = wr)
  case atStart => exact ⟨1, x0, by omega, by omega, rfl, rfl, H1, rfl⟩
  case round =>
    obtain ⟨k, x, hk, hk0, rfl, rfl, HX, rfl⟩ := hrel
    cases gk with
    | zero =>
      have hke : k = l.length := by omega
      have HF : Hid (x = maxF l) := Lib.hid (by rw [HX.out, hke, HE.out])
      clear hk hk0
      subst hke
      go_wp2
      go_ret
      exact ⟨by rw [← HF.out]; rfl, rfl⟩
    | succ g =>
      have hlk : k < l.length := by omega
      obtain ⟨b, o, e, hc⟩ := H.out k (by rw [toI_length]; exact hlk)
      cases e
      rw [toI_getD] at hc
      have HN := HS.out k hlk
      generalize l.getD k 0 = y at *
      have HY : Hid (maxF (l.take (k + 1)) = Nat.max x y) := Lib.hid (by rw [HN, HX.out])
      clear HN
      have hmx : max (x : Int) (y : Int) = ((Nat.max x y : Nat) : Int) := by
        show max (x : Int) (y : Int) = ((max x y : Nat) : Int)
        omega
      have HMX := Lib.hid hmx
      clear hmx
      go_wp2_with fail
      go_roundg g
      case measure => omega
      case rel => exact ⟨k + 1, Nat.max x y, by omega, by omega, by go_num, by rw [HMX.out], by rw [HY.out]; exact Lib.hid rfl, rfl⟩
end Go.Proofs.Ytpilccalgegadaa
