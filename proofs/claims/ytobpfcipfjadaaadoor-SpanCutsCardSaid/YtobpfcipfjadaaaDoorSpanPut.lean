/- Layer 1: a number written into bytes. -/
import Derived.Test.YtobpfcipfjadaaaDoorSpanGet
import Derived.Maps.AppendAt
namespace Go.Proofs.YtobpfcipfjadaaaDoor
open Go.RowKit
set_option linter.unusedVariables false
set_option linter.unusedSimpArgs false

theorem info8 : (Tryd.prog.info? 5).map (fun i => (i.zero, i.size, i.bytes)) = some (some (.int .u8 0), 1, 1) := by kernel_rfl

/-- the n lowest bytes of a number, the lowest first -/
def le : Nat → Nat → List Int
  | 0, _ => []
  | n + 1, v => ((v % 256 : Nat) : Int) :: le n (v / 256)
theorem le_length (n v : Nat) : (le n v).length = n := by induction n generalizing v with
  | zero => rfl
  | succ n ih => simp [le, ih]
theorem le_snoc (n v : Nat) : le (n + 1) v = le n v ++ [((v / 256 ^ n % 256 : Nat) : Int)] := by
  induction n generalizing v with
  | zero => simp [le]
  | succ n ih =>
    rw [le, ih (v / 256)]
    simp only [le, List.cons_append, Nat.div_div_eq_div_mul]
    rw [Nat.pow_succ, Nat.mul_comm 256]
theorem le_bytes (n v : Nat) : Bytes (le n v) := by
  induction n generalizing v with
  | zero => intro x hx; simp only [le, List.not_mem_nil] at hx
  | succ n ih =>
    intro x hx
    simp only [le, List.mem_cons] at hx
    rcases hx with rfl | hx
    · omega
    · exact ih _ x hx
theorem leval_le (n v : Nat) : leval (le n v) = ((v % 256 ^ n : Nat) : Int) := by
  induction n generalizing v with
  | zero => simp [le, leval, Nat.mod_one]
  | succ n ih =>
    show ((v % 256 : Nat) : Int) + 256 * leval (le n (v / 256)) = _
    rw [ih, Nat.pow_succ, Nat.mul_comm (256 ^ n), Nat.mod_mul]
    generalize v / 256 % 256 ^ n = q
    omega

/-- bytes with others laid over them from a place on -/
def putAt (xs : List Int) (o : Nat) (ys : List Int) : List Int := xs.take o ++ ys ++ xs.drop (o + ys.length)
theorem putAt_length {xs ys : List Int} {o : Nat} (h : o + ys.length ≤ xs.length) : (putAt xs o ys).length = xs.length := by simp [putAt]; omega
theorem putAt_nil (xs : List Int) (o : Nat) : putAt xs o [] = xs := by simp [putAt]
theorem putAt_snoc {xs ys : List Int} {o : Nat} (b : Int) (h : o + ys.length < xs.length) : (putAt xs o ys).set (o + ys.length) b = putAt xs o (ys ++ [b]) := by
  simp only [putAt, List.length_append, List.length_cons, List.length_nil]
  have h1 : (xs.take o ++ ys).length = o + ys.length := by simp; omega
  rw [List.set_append_right _ _ (by omega), h1, Nat.sub_self]
  have h2 : xs.drop (o + ys.length) = xs[o + ys.length] :: xs.drop (o + ys.length + 1) := List.drop_eq_getElem_cons h
  rw [h2, List.set_cons_zero]
  simp [Nat.add_assoc]

set_option maxHeartbeats 1000000 in
theorem lay_any (g o m cap c B : Nat) (xs : List Int) (n v : Nat) (w : World) (hown : w.ownsRow B 5 1 (.slice (some ⟨g, 0, none⟩) m cap) m (xs.map (Value.int .u8))) (hn : n ≤ 8) (hv : v < 18446744073709551616) (hm : m ≤ 140737488355328) (ho : o + n ≤ m) :
    Calls Tryd.prog 27 #[.slice (some ⟨g, o, none⟩) (m - o) c, .int .i64 n, .int .u64 v] w fun e w' => e = .returned (.tuple #[]) ∧ w'.ownsRow B 5 1 (.slice (some ⟨g, 0, none⟩) m cap) m ((putAt xs o (le n v)).map (Value.int .u8)) ∧ w.grownBy w' (some g) := by
  have HO := Lib.hid hown; clear hown
  go_enter Tryd.func27, Tryd.ntmps27
  go_wp2
  go_loopw [8] (fun i wr => ∃ k : Nat, k ≤ n ∧ i = .int .i64 k ∧ Hid (wr.ownsRow B 5 1 (.slice (some ⟨g, 0, none⟩) m cap) m ((putAt xs o (le k v)).map (Value.int .u8))) ∧ Hid (w.grownBy wr (some g))) (fun i _ => n - (intOf i).toNat)
  case atStart => exact ⟨0, Nat.zero_le _, rfl, Lib.hid (by rw [le, putAt_nil]; exact HO.out), Lib.hid (World.grownBy.refl _ _)⟩
  case round =>
    obtain ⟨k, hk, rfl, hown, hgr⟩ := hrel
    by_cases hlt : k < n
    · have hfz := hown.out.frozenAt (o + k)
      have hxl : xs.length = m := by have := HO.out.1; simp at this; omega
      have hpl : (putAt xs o (le k v)).length = m := by rw [putAt_length (by rw [le_length]; omega)]; exact hxl
      obtain ⟨u, hcell⟩ : ∃ u, wr.cell? ⟨g, o + k, none⟩ = some u := by
        have h := hown.out.cellAt (o + k) (by omega)
        rw [List.getElem?_map, List.getElem?_eq_getElem (by omega)] at h
        exact ⟨_, h⟩
      have HL := Lib.hid hxl; clear hxl
      have HP := Lib.hid hpl; clear hpl
      have hbyte : (v : Int) / 2 ^ (8 * k) % 256 = ((v / 256 ^ k % 256 : Nat) : Int) := by
        have e : (2 : Int) ^ (8 * k) = ((256 ^ k : Nat) : Int) := by rw [show (256 : Nat) = 2 ^ 8 from rfl, ← Nat.pow_mul]; simp
        rw [e, Int.natCast_emod, Int.natCast_ediv]; rfl
      have HBY := Lib.hid hbyte; clear hbyte
      go_wp2
      go_roundw
      case rel =>
        refine ⟨k + 1, by omega, by go_num, Lib.hid ?_, Lib.hid ?_⟩
        · have h := (hown.out.stored (o + k) (.int .u8 (v / 2 ^ (8 * k) % 256))).1
          rw [HBY.out, ← List.map_set] at h
          have e := putAt_snoc (xs := xs) (ys := le k v) (o := o) ((v / 256 ^ k % 256 : Nat) : Int) (by rw [le_length, HL.out]; omega)
          rw [le_length] at e
          rw [e, ← le_snoc] at h
          rw [HBY.out]
          exact h
        · exact World.grownBy.trans hgr.out (hown.out.stored (o + k) _).2
      case measure => simp [intOf]; omega
    · have hk' : k = n := by omega
      have HK := Lib.hid hk'; clear hk'
      go_wp2
      go_end0
      exact ⟨rfl, by have := hown.out; rw [HK.out] at this; exact this, hgr.out⟩

/-- the shape of an owned row that isn't empty -/
theorem own_shape {w : World} {B : Nat} {T : TypeId} {v : Value} {n : Nat} {xs : List Value} (h : w.ownsRow B T 1 v n xs) (hn : 0 < n) :
    ∃ g cap, v = .slice (some ⟨g, 0, none⟩) n cap ∧ B ≤ g ∧ g < w.heap.size ∧ n ≤ cap := by
  rcases h.2 with ⟨-, h0⟩ | ⟨g, cap, cur, rfl, hB, hg, hc, -⟩
  · omega
  · exact ⟨g, cap, rfl, hB, lt_of_block hg, hc⟩

theorem own_below {w w' : World} {B : Nat} {T : TypeId} {size : Nat} {v : Value} {n : Nat} {xs : List Value} (h : w.ownsRow B T size v n xs) (hb : Below w.heap.size w w') : w'.ownsRow B T size v n xs := by
  obtain ⟨h1, h2⟩ := h
  refine ⟨h1, ?_⟩
  rcases h2 with h2 | ⟨g, cap, cur, hv, hB, hg, r⟩
  · exact .inl h2
  · exact .inr ⟨g, cap, cur, hv, hB, by rw [hb.block g (lt_of_block hg)]; exact hg, r⟩

theorem most_wide {n : Nat} (h : wide (n : Int) = true) : most (n : Int) = ((256 ^ n - 1 : Nat) : Int) ∧ 1 ≤ n ∧ n ≤ 8 := by
  have : n = 1 ∨ n = 2 ∨ n = 4 ∨ n = 8 := by simp [wide] at h; omega
  rcases this with rfl | rfl | rfl | rfl <;> decide

set_option maxHeartbeats 1000000 in
theorem put_yes (a : Option Addr) (cap : Nat) (xs : List Int) (off n v : Nat) (w : World) (h : Row .u8 w a xs) (hl : xs.length ≤ 140737488351232) (hn : a = none → xs.length = 0 ∧ cap = 0)
    (hw : wide n = true) (h1 : off ≤ xs.length) (h2 : n ≤ xs.length - off) (hv : v < 256 ^ n) (hv64 : v < 18446744073709551616) :
    Calls Tryd.prog 14 #[.slice a xs.length cap, .int .u64 off, .int .i64 n, .int .u64 v] w fun e w' => ∃ r, e = .returned (.tuple #[r, .nilIface]) ∧ w'.ownsRow w.heap.size 5 1 r xs.length ((putAt xs off (le n v)).map (Value.int .u8)) ∧ Below w.heap.size w w' := by
  obtain ⟨hm, hn1, hn8⟩ := most_wide hw
  have hg := Lib.hid (greatest_any (n : Int) w)
  rw [hw, hm] at hg
  have hin := Lib.hid (in_any xs.length off n w (by omega) (by omega) (by omega))
  rw [inB_yes h1 h2] at hin
  have hcl := Lib.hid (clone_any a xs.length cap xs w rfl h (by omega) hn)
  have hle : (v : Int) ≤ ((256 ^ n - 1 : Nat) : Int) := by omega
  have hlay := Lib.hid (fun (g c cp : Nat) (w1 : World) (ho : w1.ownsRow w.heap.size 5 1 (.slice (some ⟨g, 0, none⟩) xs.length cp) xs.length (xs.map (Value.int .u8))) =>
    lay_any g off xs.length cp c w.heap.size xs n v w1 ho hn8 hv64 (by omega) (by omega))
  generalize ((256 ^ n - 1 : Nat) : Int) = q at *
  clear hw hm hv h hn
  have hb1 : (off : Int) + (n : Int) ≤ (xs.length : Int) := by omega
  go_enter Tryd.func14, Tryd.ntmps14
  go_wp2_with (first
    | (go_at_call 25; refine (Hid.out hg).mono ?_; rintro e w' ⟨rfl, rfl⟩)
    | (go_at_call 7; refine (Hid.out hin).mono ?_; rintro e w' ⟨rfl, rfl⟩)
    | (go_at_call 21; refine (Hid.out hcl).mono ?_; rintro e w1 ⟨r, rfl, ho, hb⟩; obtain ⟨g, cp, rfl, hB, hgs, hcp⟩ := own_shape ho (by omega); have HO := Lib.hid ho; clear ho; have hne : ¬ cp = off := by omega)
    | (go_at_call 27; refine (Hid.out hlay g (cp - off) cp _ HO.out).mono ?_; rintro e w2 ⟨rfl, ho2, hgr⟩; have HO2 := Lib.hid ho2; clear ho2; have HG := Lib.hid hgr; clear hgr))
  go_ret2
  exact ⟨_, rfl, HO2.out, hb.grown HG.out hb.size (fun k hk => by cases hk; exact hB)⟩

theorem put_width (a : Option Addr) (cap len : Nat) (off n v : Int) (w : World) (hw : wide n = false) :
    Calls Tryd.prog 14 #[.slice a len cap, .int .u64 off, .int .i64 n, .int .u64 v] w fun e w' => e = .returned (.tuple #[.slice none 0 0, errV 1]) ∧ w = w' := by
  have hg := Lib.hid (greatest_any n w)
  rw [hw] at hg
  clear hw
  go_enter Tryd.func14, Tryd.ntmps14
  go_wp2_with (first
    | (go_at_call 25; refine (Hid.out hg).mono ?_; rintro e w' ⟨rfl, rfl⟩))
  go_ret2
  exact ⟨ret2 rfl rfl, rfl⟩

theorem put_range (a : Option Addr) (cap : Nat) (xs : List Int) (off n : Nat) (v : Int) (w : World) (hl : xs.length ≤ 140737488351232) (ho : off < 18446744073709551616)
    (hw : wide n = true) (h1 : ¬ (off ≤ xs.length ∧ n ≤ xs.length - off)) :
    Calls Tryd.prog 14 #[.slice a xs.length cap, .int .u64 off, .int .i64 n, .int .u64 v] w fun e w' => e = .returned (.tuple #[.slice none 0 0, spotV w]) ∧ spotW w off 4 = w' := by
  have hg := Lib.hid (greatest_any (n : Int) w)
  rw [hw] at hg
  have hn8 : n ≤ 8 := by simp [wide] at hw; omega
  have hin := Lib.hid (in_any xs.length off n w (by omega) (by omega) (by omega))
  rw [inB_no h1] at hin
  clear hw h1
  go_enter Tryd.func14, Tryd.ntmps14
  go_wp2_with (first
    | (go_at_call 25; refine (Hid.out hg).mono ?_; rintro e w' ⟨rfl, rfl⟩)
    | (go_at_call 7; refine (Hid.out hin).mono ?_; rintro e w' ⟨rfl, rfl⟩))
  go_ret2
  exact ⟨ret2 rfl rfl, rfl⟩

theorem put_over (a : Option Addr) (cap : Nat) (xs : List Int) (off n v : Nat) (w : World) (hl : xs.length ≤ 140737488351232) (ho : off < 18446744073709551616)
    (hw : wide n = true) (h1 : off ≤ xs.length) (h2 : n ≤ xs.length - off) (hv : ¬ v < 256 ^ n) :
    Calls Tryd.prog 14 #[.slice a xs.length cap, .int .u64 off, .int .i64 n, .int .u64 v] w fun e w' => e = .returned (.tuple #[.slice none 0 0, errV 28]) ∧ w = w' := by
  obtain ⟨hm, hn1, hn8⟩ := most_wide hw
  have hg := Lib.hid (greatest_any (n : Int) w)
  rw [hw, hm] at hg
  have hin := Lib.hid (in_any xs.length off n w (by omega) (by omega) (by omega))
  rw [inB_yes h1 h2] at hin
  have hp : 1 ≤ 256 ^ n := Nat.one_le_pow _ _ (by omega)
  have hle : ((256 ^ n - 1 : Nat) : Int) < (v : Int) := by omega
  generalize ((256 ^ n - 1 : Nat) : Int) = q at *
  clear hw hm hv hp
  go_enter Tryd.func14, Tryd.ntmps14
  go_wp2_with (first
    | (go_at_call 25; refine (Hid.out hg).mono ?_; rintro e w' ⟨rfl, rfl⟩)
    | (go_at_call 7; refine (Hid.out hin).mono ?_; rintro e w' ⟨rfl, rfl⟩))
  go_ret2
  exact ⟨ret2 rfl rfl, rfl⟩
end Go.Proofs.YtobpfcipfjadaaaDoor
