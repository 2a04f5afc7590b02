/- Layer 14: the examples at the head of the statements. -/
import Derived.Test.YtppeapafnnanbaaDoorDirs
namespace Go.Proofs.YtppeapafnnanbaaDoor
open Go.RowKit
set_option linter.unusedVariables false
set_option linter.unusedSimpArgs false

set_option maxRecDepth 100000 in
set_option maxHeartbeats 4000000 in
theorem same_texts (a b : Option Addr) (c d m : Nat) (T : List ByteArray) (w : World) (hm : T.length = m) (hml : m ≤ 1048576) (ha : TRow w a T) (hb : TRow w b T) :
    Calls Tryd.prog 11 #[.slice a m c, .slice b m d] w fun e w' => e = .returned (.bool true) ∧ Below w.heap.size w w' := by
  have HA := Lib.hid ha; clear ha
  have HB := Lib.hid hb; clear hb
  have HM := Lib.hid hm; clear hm
  go_enter Tryd.func11, Tryd.ntmps11
  go_wp2
  go_loopg [5] m (fun g i wr => ∃ k : Nat, k + g = m ∧ i = .int .i64 k ∧ Hid (Below w.heap.size w wr))
  case atStart => exact ⟨0, by omega, rfl, Lib.hid (Below.refl _ _)⟩
  case round =>
    obtain ⟨k, hk, rfl, hdr⟩ := hrel
    cases gk with
    | zero =>
      have hk' : k = m := by omega
      clear hk
      subst hk'
      go_wp2
      go_ret
      exact ⟨rfl, hdr.out⟩
    | succ g =>
      have hlt : k < m := by omega
      obtain ⟨b1, o1, rfl, -, p0⟩ := (HA.out.below hdr.out) k (by rw [HM.out]; exact hlt)
      obtain ⟨b2, o2, rfl, -, q0⟩ := (HB.out.below hdr.out) k (by rw [HM.out]; exact hlt)
      generalize T.getD k .empty = x at *
      go_wp2
      go_quiet (fail)
      go_wp2
      go_roundg g
      case measure => omega
      case rel => exact ⟨k + 1, by omega, by go_num, Lib.hid (below_drewN hdr.out _)⟩

def upO : OT := ⟨⟨#[47, 98, 105, 110, 47, 112]⟩, ⟨#[47, 114, 58, 36, 79, 82, 73, 71, 73, 78]⟩, ⟨#[]⟩, true, false⟩
def upEnv : ByteArray := ⟨#[47, 101, 59, 47, 102]⟩
def upL : List ByteArray := [⟨#[47, 114]⟩, ⟨#[47, 98, 105, 110]⟩, ⟨#[47, 101]⟩, ⟨#[47, 102]⟩, ⟨#[47, 108, 105, 98, 54, 52]⟩, ⟨#[47, 117, 115, 114, 47, 108, 105, 98, 54, 52]⟩]
theorem up_dirs : dirsA [upO] upEnv upO.path = upL := by decide +kernel
theorem up_ok (hk : Nat) : chainF false [] = [] := rfl
theorem ok0 : AddOK colonP upO.rpath upO.path [] := ⟨by decide, by decide, by decide +kernel, by decide +kernel⟩
theorem ok1 : AddOK bothP upEnv upO.path (chainF false [upO]) := ⟨by decide, by decide, by decide +kernel, by decide +kernel⟩
theorem ok2 : AddOK colonP defaultsF ⟨#[]⟩ (addF false upO.path (chainF false [upO]) (cutF bothP upEnv.data.toList)) := ⟨by decide, by decide, by decide +kernel, by decide +kernel⟩
theorem up_e1 : expF ⟨#[36, 79, 82, 73, 71, 73, 78, 47, 46, 46, 47, 36, 123, 76, 73, 66, 125, 58, 36, 88]⟩ ⟨#[47, 111, 112, 116, 47, 97, 47, 112, 114, 111, 103]⟩ = ([47, 111, 112, 116, 47, 97, 47, 46, 46, 47, 108, 105, 98, 54, 52, 58, 36, 88], true) := by decide +kernel
theorem up_e2 : expF ⟨#[36, 79, 82, 73, 71, 73, 78, 65, 76]⟩ ⟨#[47, 97]⟩ = ([36, 79, 82, 73, 71, 73, 78, 65, 76], false) := by decide +kernel
theorem upO_row {w : World} {b : Nat} {T : TypeId} (h : w.heap[b]? = some (.cells #[.string ⟨#[47, 98, 105, 110, 47, 112]⟩, .string ⟨#[47, 114, 58, 36, 79, 82, 73, 71, 73, 78]⟩, .string ⟨#[]⟩, .bool true, .bool false] T)) : CRow w (some ⟨b, 0, none⟩) [upO] := by
  intro i hi
  have hi0 : i = 0 := by simpa using hi
  subst hi0
  refine ⟨b, 0, rfl, lt_of_block h, fun j hj => ?_⟩
  rw [Nat.zero_mul, Nat.zero_add, cell_of_row _ _ _ _ _ _ h]
  match j, hj with
  | 0, _ => rfl
  | 1, _ => rfl
  | 2, _ => rfl
  | 3, _ => rfl
  | 4, _ => rfl
theorem up_dirs_any (b : Nat) (w : World) (h : CRow w (some ⟨b, 0, none⟩) [upO]) :
    Calls Tryd.prog 10 #[.agg #[.string ⟨#[]⟩, .slice (some ⟨b, 0, none⟩) 1 1, .string ⟨#[47, 101, 59, 47, 102]⟩, .bool false]] w fun e w' => (∃ ad c, e = .returned (.slice ad 6 c) ∧ TRow w' ad upL) ∧ Below w.heap.size w w' := by
  have h1 := dirs_a ⟨#[]⟩ upEnv 47 [101, 59, 47, 102] b 0 0 1 [upO] w rfl h rfl (by omega) (by omega) rfl (fun k hk h2 h3 => by
    have hk0 : k = 0 := by simpa using hk
    subst hk0
    exact ok0) ok1 ok2
  refine h1.mono ?_
  rintro e w' ⟨⟨ad, c, he, ht⟩, hb⟩
  have e1 : dirsA [upO] upEnv ([upO][0]'(by decide)).path = upL := up_dirs
  rw [e1] at he ht
  exact ⟨⟨ad, c, he, ht⟩, hb⟩

set_option maxRecDepth 100000 in
set_option maxHeartbeats 4000000 in
theorem up_true (w : World) : Calls Tryd.prog 4 #[] w fun e w' => e = .returned (.bool true) ∧ Below w.heap.size w w' := by
  have HE1 := Lib.hid (fun (w1 : World) => expand_any ⟨#[36, 79, 82, 73, 71, 73, 78, 47, 46, 46, 47, 36, 123, 76, 73, 66, 125, 58, 36, 88]⟩ ⟨#[47, 111, 112, 116, 47, 97, 47, 112, 114, 111, 103]⟩ w1 (by decide) (by decide) (by rw [up_e1]; decide))
  have HE2 := Lib.hid (fun (w1 : World) => expand_any ⟨#[36, 79, 82, 73, 71, 73, 78, 65, 76]⟩ ⟨#[47, 97]⟩ w1 (by decide) (by decide) (by rw [up_e2]; decide))
  rw [up_e1] at HE1
  rw [up_e2] at HE2
  go_enter Tryd.func4, Tryd.ntmps4
  go_wp2_with fail
  refine (HE1.out w).mono ?_
  rintro e w1 ⟨rfl, hb1⟩
  have B1 := Lib.hid hb1; clear hb1
  go_wp2_with fail
  refine (HE2.out w1).mono ?_
  rintro e w2 ⟨rfl, hb2⟩
  have B2 := Lib.hid (bstep B1.out hb2); clear hb2
  have HRW : Hid (CRow (w2.alloc (.cells #[.string ⟨#[47, 98, 105, 110, 47, 112]⟩, .string ⟨#[47, 114, 58, 36, 79, 82, 73, 71, 73, 78]⟩, .string ⟨#[]⟩, .bool true, .bool false] 48)) (some ⟨w2.heap.size, 0, none⟩) [upO]) := Lib.hid (upO_row (heap_alloc_new _ _))
  have B3 : Hid (Below w.heap.size w (w2.alloc (.cells #[.string ⟨#[47, 98, 105, 110, 47, 112]⟩, .string ⟨#[47, 114, 58, 36, 79, 82, 73, 71, 73, 78]⟩, .string ⟨#[]⟩, .bool true, .bool false] 48))) := Lib.hid (B2.out.alloc B2.out.size _)
  have HDR := Lib.hid (up_dirs_any w2.heap.size _ HRW.out)
  go_wp2_with fail
  refine HDR.out.mono ?_
  rintro e w4 ⟨⟨ad, c, rfl, ht⟩, hb4⟩
  have B4 := Lib.hid (B3.out.trans (hb4.mono B3.out.size))
  have HT := Lib.hid ht
  clear ht hb4
  have OL := Lib.hid (OwnT.lit w4 w4.heap.size 9 upL #[.string ⟨#[47, 114]⟩, .string ⟨#[47, 98, 105, 110]⟩, .string ⟨#[47, 101]⟩, .string ⟨#[47, 102]⟩, .string ⟨#[47, 108, 105, 98, 54, 52]⟩, .string ⟨#[47, 117, 115, 114, 47, 108, 105, 98, 54, 52]⟩] rfl (Nat.le_refl _) (by unfold maxLen; simp [upL]))
  have HSM := Lib.hid (same_texts ad (some ⟨w4.heap.size, 0, none⟩) c 6 6 upL _ rfl (by omega) (HT.out.below ((Below.refl w4.heap.size w4).alloc (Nat.le_refl _) _)) OL.out.row.1)
  go_wp2_with fail
  refine HSM.out.mono ?_
  rintro e w5 ⟨rfl, hb5⟩
  have B5 := Lib.hid (B4.out.trans (((Below.refl _ _).alloc (Nat.le_refl _) _ |>.trans (hb5.mono (by simp))).mono B4.out.size))
  clear hb5
  go_wp2_with fail
  go_ret
  exact ⟨rfl, B5.out⟩
end Go.Proofs.YtppeapafnnanbaaDoor
