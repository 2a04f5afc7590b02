/- Layer 16: Begin and Loop, the program's. -/
import Derived.Test.YtfckgagpfpnelaaGraphGo
namespace Go.Proofs.Ytfckgagpfpnelaa
open Go.RowKit
set_option linter.unusedVariables false
set_option linter.unusedSimpArgs false

theorem Aside.toBelow {B : Nat} {G : Nat → Prop} {w w' : World} (h : Aside G w w') (hB : B ≤ w.heap.size) (hG : ∀ g, G g → B ≤ g) : Below B w w' := Aside.below h (Below.refl B w) hB hG

set_option maxRecDepth 100000 in
set_option maxHeartbeats 4000000 in
theorem begin_any (w : World) (da : Option Addr) (dc : Nat) (deps : List (List Int)) (ra : Option Addr) (rc : Nat) (roots : List Int) (hn : deps.length ≤ 1048576) (hd : DRow w da deps) (hr : Row .i64 w ra roots) (hx : I64s roots) (hxl : roots.length ≤ 140737488351232) :
    Calls Try.prog 12 #[.slice da deps.length dc, .slice ra roots.length rc] w (ListAns (beginF deps roots) w) := by
  have HI : Hid (BegI w.heap.size w.heap.size (w.alloc (.cells #[.slice none 0 0] 23)) (fun g => g = w.heap.size) [] false) := Lib.hid
    ⟨none, 0, InBox.new _ _ _, OwnI.nil _ _ _ _, by simp, fun g => ⟨.inl, fun h => h.elim id (fun h => by cases h)⟩⟩
  have HK : Hid (∀ w', Aside (fun g => g = w.heap.size) (w.alloc (.cells #[.slice none 0 0] 23)) w' → Below w.heap.size w w') := Lib.hid (fun w' h => h.below ((Below.refl w.heap.size w).alloc (Nat.le_refl _) _) (by simp) (fun g hg => by omega))
  have HW := Lib.hid (walkP_any (w.alloc (.cells #[.slice none 0 0] 23)) (fun g => g = w.heap.size) deps deps.length da dc ra rc roots (beg_client w.heap.size w.heap.size deps.length hn) rfl hn HI.out (fun w' h => ⟨hd.below (HK.out w' h), Row.below hr (HK.out w' h)⟩) hx hxl)
  clear hd hr hx
  obtain ⟨S, hS⟩ : ∃ S, walkF deps roots = S := ⟨_, rfl⟩
  have hS2 : beginF deps roots = S.out := by unfold beginF; rw [hS]
  rw [hS] at HW
  rw [hS2]
  clear hS hS2
  go_enter Try.func12, Try.ntmps12
  go_wp2_with fail
  refine HW.out.mono ?_
  rintro e w6 ⟨rfl, G, ⟨al, cl, h1, h2, h3, h4⟩, ha, hg⟩
  have hc := h1.cell
  have H2 := Lib.hid h2
  have HA := Lib.hid ha
  clear h1 h2 h3 h4 ha hg HW HI
  go_wp2
  go_ret
  exact ⟨al, cl, rfl, H2.out, HK.out _ HA.out⟩

/-- all objects, in their order -/
def allL (n : Nat) : List Int := (List.range n).map fun (i : Nat) => (i : Int)
theorem allL_length (n : Nat) : (allL n).length = n := by simp [allL]
theorem allL_at {n i : Nat} (h : i < n) : (allL n)[i]? = some (i : Int) := by simp [allL, h]
/-- the first of them written, the others 0 -/
def allTo (n k : Nat) : List Int := (List.range n).map fun (i : Nat) => if i < k then (i : Int) else 0
theorem allTo_length (n k : Nat) : (allTo n k).length = n := by simp [allTo]
theorem allTo_zero (n : Nat) : allTo n 0 = List.replicate n 0 := by
  apply List.ext_getElem?
  intro j
  by_cases hj : j < n
  · simp [allTo, hj]
  · rw [List.getElem?_eq_none (by rw [allTo_length]; omega), List.getElem?_eq_none (by simp; omega)]
theorem allTo_all (n : Nat) : allTo n n = allL n := by
  unfold allTo allL
  apply List.map_congr_left
  intro i hi
  rw [if_pos (List.mem_range.1 hi)]
theorem allTo_set {n k : Nat} (h : k < n) : (allTo n k).set k (k : Int) = allTo n (k + 1) := by
  apply List.ext_getElem?
  intro j
  rw [List.getElem?_set]
  by_cases hj : j < n
  · by_cases hjk : k = j
    · subst hjk
      rw [if_pos rfl, if_pos (by rw [allTo_length]; exact hj)]
      simp [allTo, hj]
    · rw [if_neg hjk]
      simp only [allTo, List.getElem?_map, List.getElem?_range hj, Option.map_some]
      by_cases h1 : j < k
      · rw [if_pos h1, if_pos (by omega)]
      · rw [if_neg h1, if_neg (by omega)]
  · have hkj : k ≠ j := by omega
    rw [if_neg hkj, List.getElem?_eq_none (by rw [allTo_length]; omega), List.getElem?_eq_none (by rw [allTo_length]; omega)]

open Classical in
theorem ring_loopB (deps : List (List Int)) : (walkF deps (allL deps.length)).ring = loopB deps := by
  have h := ring_iff deps
  unfold loopB
  by_cases hp : ∃ c, Path deps c c
  · rw [decide_eq_true hp]
    exact h.2 hp
  · rw [decide_eq_false hp]
    cases hr : (walkF deps (allL deps.length)).ring with
    | false => rfl
    | true => exact absurd (h.1 hr) hp

set_option maxRecDepth 100000 in
set_option maxHeartbeats 4000000 in
theorem loop_any (w : World) (da : Option Addr) (dc : Nat) (deps : List (List Int)) (hn : deps.length ≤ 1048576) (hd : DRow w da deps) :
    Calls Try.prog 16 #[.slice da deps.length dc] w fun e w' => e = .returned (.bool (loopB deps)) ∧ Below w.heap.size w w' := by
  have HD := Lib.hid hd
  have HRL := Lib.hid (ring_loopB deps)
  obtain ⟨n, hnn⟩ : ∃ n, deps.length = n := ⟨_, rfl⟩
  rw [hnn] at hn HRL ⊢
  have HN := Lib.hid hnn
  clear hd hnn
  generalize loopB deps = R at *
  go_enter Try.func16, Try.ntmps16
  go_wp2_with (at_make; go_loud (refine wpList_make_ints rfl (.tmp 7) (.tmp 7) slice64 rfl w.heap.size n .i64 .i64 (n : Int) (n : Int) rfl rfl rfl rfl (by omega) (by unfold maxLen; omega) (Nat.le_refl _) ?_); intro ag w4 ho4 hg4 ha4; have O4 := Lib.hid ho4; have A4 := Lib.hid (ha4.toBelow (Nat.le_refl _) (fun _ h => h.elim)); clear ho4 hg4 ha4)
  go_loopg [11] n (fun g i wr => ∃ k : Nat, k + g = n ∧ i = .int .i64 (k : Int) ∧ Hid (OwnI wr w.heap.size 3 .i64 (.slice (some ⟨ag, 0, none⟩) n n) (allTo n k)) ∧ Hid (Below w.heap.size w wr))
  case atStart => exact ⟨0, by omega, rfl, by rw [allTo_zero]; exact O4, A4⟩
  case round =>
    obtain ⟨k, hk, rfl, OW, BW⟩ := hrel
    cases gk with
    | succ g =>
      have hlk : k < n := by omega
      have hc := OW.out.get k _ (List.getElem?_eq_getElem (by rw [allTo_length]; exact hlk))
      have hf := OW.out.free k
      generalize (allTo n k)[k]'_ = z at hc
      have OP := Lib.hid (OW.out.put (allTo_length _ _) k (k : Int))
      rw [allTo_set hlk] at OP
      go_wp2
      go_roundg g
      case measure => omega
      case rel => exact ⟨k + 1, by omega, by go_num, OP, Lib.hid (BW.out.setCell OW.out.blockGe.1 _)⟩
    | zero =>
      have hke : k = n := by omega
      subst hke
      have HAL := Lib.hid (allTo_all k)
      rw [HAL.out] at OW
      have hagl := OW.out.blockGe
      have HI : Hid (RingI wr.heap.size (wr.alloc (.cells #[.bool false] 4)) (fun g => g = wr.heap.size) [] false) := Lib.hid ⟨InBox.new _ _ _, fun g => Iff.rfl⟩
      have HK : Hid (∀ w', Aside (fun g => g = wr.heap.size) (wr.alloc (.cells #[.bool false] 4)) w' → Below wr.heap.size wr w') := Lib.hid (fun w' h => h.below ((Below.refl wr.heap.size wr).alloc (Nat.le_refl _) _) (by simp) (fun g hg => by omega))
      have HXX : Hid (I64s (allL k)) := Lib.hid (fun x hx => by
        obtain ⟨y, hy, rfl⟩ := List.mem_map.1 hx
        have := List.mem_range.1 hy
        omega)
      have HWK := Lib.hid (walkP_any (wr.alloc (.cells #[.bool false] 4)) (fun g => g = wr.heap.size) deps k da dc (some ⟨ag, 0, none⟩) k (allL k) (ring_client wr.heap.size k) HN.out hn HI.out
        (fun w' h => ⟨HD.out.below (BW.out.trans ((HK.out w' h).mono BW.out.size)), (OW.out.below (HK.out w' h)).at.2.1⟩) HXX.out (by rw [allL_length]; omega))
      rw [allL_length] at HWK
      obtain ⟨S, hS⟩ : ∃ S, walkF deps (allL k) = S := ⟨_, rfl⟩
      rw [hS] at HWK HRL
      clear hS HAL HXX HI hagl
      go_wp2_with fail
      refine HWK.out.mono ?_
      rintro e w6 ⟨rfl, G, ⟨h1, h2⟩, ha, hg⟩
      have hc := h1.cell
      have HA := Lib.hid ha
      clear h1 h2 ha hg HWK
      go_wp2
      go_ret
      exact ⟨by rw [HRL.out]; rfl, BW.out.trans ((HK.out _ HA.out).mono BW.out.size)⟩
end Go.Proofs.Ytfckgagpfpnelaa
