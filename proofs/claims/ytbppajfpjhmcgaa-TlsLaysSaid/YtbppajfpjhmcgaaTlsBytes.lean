/- little.Bytes: a number in so many bytes, the lowest first. -/
import Derived.Test.YtbppajfpjhmcgaaMakeN
import Derived.Test.YtbppajfpjhmcgaaLittle
import Derived.Deep.LoopGhost
import Derived.WalkMore
namespace Go.Proofs.Ytbppajfpjhmcgaa
open Go.RowKit
set_option linter.unusedVariables false
set_option linter.unusedSimpArgs false

theorem slice8t : IntSlice Try.prog 35 5 .u8 1 := ⟨Try.underlying35, by kernel_rfl⟩
/-- a number's byte -/
def bytF (v k : Nat) : Nat := v / 2 ^ (8 * k) % 256
def leL (v n : Nat) : List Nat := (List.range n).map (bytF v)
theorem byt_wrap (v k : Nat) : IntKind.u8.wrap ((v : Int) / 2 ^ (8 * k)) = (bytF v k : Int) := by
  have hd1 : (v : Int) / 2 ^ (8 * k) = ((v / 2 ^ (8 * k) : Nat) : Int) := by rw [Int.natCast_ediv, Int.natCast_pow]; rfl
  rw [hd1, IntKind.wrap_u8]
  unfold bytF
  omega
theorem leL_length (v n : Nat) : (leL v n).length = n := by simp [leL]
theorem leL_lt (v n : Nat) : ∀ b ∈ leL v n, b < 256 := by
  intro b hb
  obtain ⟨i, -, rfl⟩ := List.mem_map.1 hb
  exact Nat.mod_lt _ (by omega)

set_option maxRecDepth 100000 in
set_option maxHeartbeats 4000000 in
theorem bytes_any (v n : Nat) (w : World) (hv : v < 18446744073709551616) (hn : n ≤ 8) :
    Calls Try.prog 24 #[.int .u64 (v : Int), .int .i64 (n : Int)] w fun e w' => ∃ g, e = .returned (.slice (some ⟨g, 0, none⟩) n n) ∧ w.heap.size ≤ g ∧ BRow w' (some ⟨g, 0, none⟩) (leL v n) ∧ Below w.heap.size w w' := by
  have HN := Lib.hid hn
  have HV := Lib.hid hv
  clear hn hv
  go_enter Try.func24, Try.ntmps24
  go_wp2_with (at_make; go_loud (refine wpList_make_nums rfl (.tmp 7) (.tmp 7) slice8t rfl w.heap.size w n .i64 .i64 (n : Int) (n : Int) rfl rfl rfl rfl (by have := HN.out; omega) (by have := HN.out; unfold maxLen; omega) (Below.refl _ _) (Nat.le_refl _) ?_); intro g w4 ho hge hb hb2; have O4 := Lib.hid ho; have B4 := Lib.hid hb; have HGE := Lib.hid hge; clear ho hge hb hb2)
  go_loopg [6, 11] n (fun gg s6 i wr => ∃ k : Nat, k + gg = n ∧ i = .int .i64 (k : Int) ∧ Hid (OwnI wr w.heap.size 5 .u8 (.slice (some ⟨g, 0, none⟩) n n) (laidTo (bytF v) n k)) ∧ Hid (Below w.heap.size w wr))
  case atStart => exact ⟨0, by omega, rfl, by rw [laidTo_zero]; exact O4, B4⟩
  case round =>
    obtain ⟨k, hk, rfl, OW, BW⟩ := hrel
    cases gk with
    | zero =>
      have hke : k = n := by omega
      subst hke
      go_wp2
      go_ret
      have ho := OW.out
      rw [laidTo_all] at ho
      exact ⟨g, rfl, HGE.out, ⟨(ho.at).2.1, leL_lt v k⟩, BW.out⟩
    | succ gg =>
      have hlk : k < n := by omega
      have hkn : (k : Int) < (n : Int) := by omega
      have hc0 := OW.out.get2 k 0 (laidTo_get hlk)
      have hf0 := OW.out.free2 k
      have HSET := Lib.hid (laidTo_set (f := bytF v) hlk)
      have HPUT := Lib.hid (OW.out.put2 (laidTo_length _ _ _) k (bytF v k : Int))
      rw [HSET.out] at HPUT
      have hn8 : n ≤ 8 := HN.out
      have hd2 := byt_wrap v k
      have HBL : Hid (bytF v k < 256) := Lib.hid (Nat.mod_lt _ (by omega))
      generalize bytF v k = y at *
      go_wp2_with fail
      go_roundg gg
      case measure => omega
      case rel => exact ⟨k + 1, by omega, by go_num, HPUT, Lib.hid (BW.out.setCell OW.out.ge2.1 _)⟩
end Go.Proofs.Ytbppajfpjhmcgaa
