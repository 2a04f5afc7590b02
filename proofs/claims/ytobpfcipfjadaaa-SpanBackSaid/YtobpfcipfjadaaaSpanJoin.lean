/- Layer 1: numbers become bytes, one behind the other. -/
import Derived.Test.YtobpfcipfjadaaaSpanPut
import Derived.Test.YtobpfcipfjadaaaOwn
namespace Go.Proofs.Ytobpfcipfjadaaa
open Go.RowKit
set_option linter.unusedVariables false
set_option linter.unusedSimpArgs false

def joinF (n : Nat) (xs : List Int) : List Int := (xs.map fun x => le n x.toNat).flatten
theorem joinF_length (n : Nat) (xs : List Int) : (joinF n xs).length = n * xs.length := by
  induction xs with
  | nil => simp [joinF]
  | cons x xs ih => simp only [joinF, List.map_cons, List.flatten_cons, List.length_append, le_length, List.length_cons] at *; rw [ih, Nat.mul_succ]; omega
theorem joinF_snoc (n : Nat) (xs : List Int) (x : Int) : joinF n (xs ++ [x]) = joinF n xs ++ le n x.toNat := by simp [joinF]

/-- have all of them room? -/
def room (n : Nat) (xs : List Int) : Bool := xs.all fun x => decide (x.toNat < 256 ^ n)
theorem room_yes {n : Nat} {xs : List Int} : room n xs = true ↔ ∀ x ∈ xs, x.toNat < 256 ^ n := by simp [room]
theorem room_no {n : Nat} {xs : List Int} {x : Int} (hx : x ∈ xs) (h : ¬ x.toNat < 256 ^ n) : room n xs = false := by
  rw [Bool.eq_false_iff]
  exact fun hr => h (room_yes.1 hr x hx)

theorem info8 : (Try.prog.info? 5).map (fun i => (i.zero, i.size, i.bytes)) = some (some (.int .u8 0), 1, 1) := by kernel_rfl

/-- what a round of Join lays, and leaves -/
theorem join_lay {n : Nat} {xs : List Int} {k : Nat} (hk : k < xs.length) (hn : n ≤ 8) (hl : xs.length * n ≤ 140737488355328) (m1 : 0 ≤ xs[k]) (m2 : xs[k] < M64) (B g cp : Nat) (w1 : World)
    (h : w1.ownsRow B 5 1 (.slice (some ⟨g, 0, none⟩) (n * k + n) cp) (n * k + n) ((joinF n (xs.take k)).map (Value.int .u8) ++ List.replicate n (Value.int .u8 0))) :
    Calls Try.prog 26 #[.slice (some ⟨g, k * n, none⟩) (n * k + n - k * n) (cp - k * n), .int .i64 n, .int .u64 xs[k]] w1 fun e w' => e = .returned (.tuple #[]) ∧
      w'.ownsRow B 5 1 (.slice (some ⟨g, 0, none⟩) (n * k + n) cp) (n * k + n) ((joinF n (xs.take (k + 1))).map (Value.int .u8)) ∧ w1.grownBy w' (some g) := by
  obtain ⟨v, hv⟩ := Int.eq_ofNat_of_zero_le m1
  have e0 : (joinF n (xs.take k)).map (Value.int .u8) ++ List.replicate n (Value.int .u8 0) = (joinF n (xs.take k) ++ List.replicate n 0).map (Value.int .u8) := by simp
  rw [e0] at h
  have hl2 : n * k + n ≤ xs.length * n := by
    have := Nat.mul_le_mul_right n (show k + 1 ≤ xs.length from hk)
    rw [Nat.add_mul, Nat.mul_comm k n] at this
    omega
  have hnk : k * n = n * k := Nat.mul_comm _ _
  have e : putAt (joinF n (xs.take k) ++ List.replicate n 0) (k * n) (le n v) = joinF n (xs.take (k + 1)) := by
    have hl : (joinF n (xs.take k)).length = k * n := by rw [joinF_length, List.length_take, Nat.min_eq_left (by omega), Nat.mul_comm]
    rw [take_snoc xs k hk, joinF_snoc, hv]
    simp only [putAt, le_length, Int.toNat_natCast]
    rw [List.take_left' hl, List.drop_eq_nil_of_le (by simp [hl]), List.append_nil]
  have := lay_any g (k * n) (n * k + n) cp (cp - k * n) B _ n v w1 h hn (by rw [hv, M64_eq] at m2; omega) (by omega) (by omega)
  rw [e] at this
  rw [hv]
  exact this

set_option maxHeartbeats 2000000 in
theorem join_8 (n : Nat) (hn : n = 8) (a : Option Addr) (cap : Nat) (xs : List Int) (w : World) (h : Row .u64 w a xs) (hx : U64s xs) (hl : xs.length * 8 ≤ 140737488351232) :
    Calls Try.prog 15 #[.int .i64 n, .slice a xs.length cap] w fun e w' => (room n xs = true ∧ ∃ v, e = .returned (.tuple #[v, .nilIface]) ∧ w'.ownsRow w.heap.size 5 1 v (n * xs.length) ((joinF n xs).map (Value.int .u8)) ∧ Below w.heap.size w w') ∨ (room n xs = false ∧ e = .returned (.tuple #[.slice none 0 0, errV 28]) ∧ Below w.heap.size w w') := by
  have hg := Lib.hid (greatest_any (n : Int) w)
  have hw : wide (n : Int) = true := by subst hn; rfl
  have hm := (most_wide hw).1
  rw [hw, hm] at hg
  clear hw hm
  subst hn
  obtain ⟨i0, hi, hz0, hz1, hz2⟩ := info_parts info8
  have HX := Lib.hid hx; clear hx
  have HC := Lib.hid h; clear h
  have HI := Lib.hid hi; have HZ0 := Lib.hid hz0; have HZ1 := Lib.hid hz1; have HZ2 := Lib.hid hz2
  clear hi hz0 hz1 hz2
  go_enter Try.func15, Try.ntmps15
  go_wp2_with (first
    | (go_at_call 25; refine (Hid.out hg).mono ?_; rintro e w' ⟨rfl, rfl⟩))
  go_loopw [8, 21] (fun b i wr => ∃ k : Nat, k ≤ xs.length ∧ i = .int .i64 k ∧ Hid (wr.ownsRow w.heap.size 5 1 b (8 * k) ((joinF 8 (xs.take k)).map (Value.int .u8))) ∧ Below w.heap.size w wr ∧ Hid (∀ j, j < k → (xs.getD j 0).toNat < 256 ^ 8)) (fun _ i _ => xs.length - (intOf i).toNat)
  case atStart => exact ⟨0, Nat.zero_le _, rfl, Lib.hid (World.ownsRow_nil _ _ _ _), Below.refl _ _, Lib.hid (fun j hj => by omega)⟩
  case round =>
    obtain ⟨k, hk, rfl, hown, hbe, hro⟩ := hrel
    by_cases hlt : k < xs.length
    · obtain ⟨b, off, rfl, hck⟩ := HC.out k hlt
      have hbl : b < w.heap.size := by simpa using World.block_lt_of_cell? w _ hck
      have hck' : wr.cell? ⟨b, off + k, none⟩ = some (.int .u64 (xs.getD k 0)) := by rw [hbe.cell (p := ⟨b, off + k, none⟩) hbl]; exact hck
      clear hck
      obtain ⟨m1, m2⟩ := HX.out xs[k] (List.getElem_mem hlt)
      rw [M64_eq] at m2
      have hsz := hbe.size
      have hlay := Lib.hid (fun (g cp : Nat) (w1 : World) h => join_lay hlt (n := 8) (by omega) (by omega) m1 (by rw [M64_eq]; exact m2) w.heap.size g cp w1 h)
      by_cases hr : xs[k].toNat < 256 ^ 8
      · have hr' : xs[k] ≤ ((256 ^ 8 - 1 : Nat) : Int) := by omega
        have HR := Lib.hid hr; clear hr
        go_wp2_with (first
          | (at_builtin; refine wpList_append_own_zeros _ rfl (.tmp 30) (.tmp 31) 39 3 rfl w.heap.size 5 i0 (.int .u8 0) .i64 .i64 1 Try.underlying39 Try.underlying3 HI.out HZ0.out HZ1.out HZ2.out rfl rfl _ (8 * k) _ rfl hown.out 8 rfl (by omega) (by unfold maxLen; omega) (by omega) hsz ?_; intro v1 w1 hown1 hgr1; obtain ⟨g, cp, rfl, hB, hgs, hcp⟩ := own_shape hown1 (by omega); have HO1 := Lib.hid hown1; clear hown1; have HG1 := Lib.hid hgr1; clear hgr1)
          | (go_at_call 26; refine (Hid.out hlay _ _ _ HO1.out).mono ?_; rintro e w2 ⟨rfl, ho2, hg2⟩; have HO2 := Lib.hid ho2; clear ho2; have HG2 := Lib.hid hg2; clear hg2))
        go_roundw
        case rel =>
          refine ⟨k + 1, by omega, by go_num, Lib.hid ?_, ?_, Lib.hid ?_⟩
          · exact HO2.out
          · exact (hbe.grown HG1.out hsz (fun j hj => (hown.out.lt j hj).1)).grown HG2.out (by have := HG1.out.size; omega) (fun j hj => by cases hj; exact hB)
          · intro j hj
            by_cases hjk : j = k
            · subst hjk
              have := HR.out
              simpa [List.getD, List.getElem?_eq_getElem hlt] using this
            · exact hro.out j (by omega)
        case measure => simp [intOf]; omega
      · have hr' : ((256 ^ 8 - 1 : Nat) : Int) < xs[k] := by omega
        have HR := Lib.hid hr; clear hr
        go_wp2
        all_goals go_ret2
        all_goals exact .inr ⟨room_no (List.getElem_mem hlt) HR.out, rfl, hbe⟩
    · have hk' : k = xs.length := by omega
      have HK := Lib.hid hk'; clear hk'
      go_wp2
      go_ret2
      refine .inl ⟨room_yes.2 ?_, _, rfl, ?_, hbe⟩
      · intro x hx
        obtain ⟨j, hj, rfl⟩ := List.mem_iff_getElem.1 hx
        have := hro.out j (by rw [HK.out]; exact hj)
        simpa [List.getD, List.getElem?_eq_getElem hj] using this
      · have := hown.out
        rw [HK.out, List.take_length] at this
        exact this

set_option maxHeartbeats 2000000 in
theorem join_4 (n : Nat) (hn : n = 4) (a : Option Addr) (cap : Nat) (xs : List Int) (w : World) (h : Row .u64 w a xs) (hx : U64s xs) (hl : xs.length * 8 ≤ 140737488351232) :
    Calls Try.prog 15 #[.int .i64 n, .slice a xs.length cap] w fun e w' => (room n xs = true ∧ ∃ v, e = .returned (.tuple #[v, .nilIface]) ∧ w'.ownsRow w.heap.size 5 1 v (n * xs.length) ((joinF n xs).map (Value.int .u8)) ∧ Below w.heap.size w w') ∨ (room n xs = false ∧ e = .returned (.tuple #[.slice none 0 0, errV 28]) ∧ Below w.heap.size w w') := by
  have hg := Lib.hid (greatest_any (n : Int) w)
  have hw : wide (n : Int) = true := by subst hn; rfl
  have hm := (most_wide hw).1
  rw [hw, hm] at hg
  clear hw hm
  subst hn
  obtain ⟨i0, hi, hz0, hz1, hz2⟩ := info_parts info8
  have HX := Lib.hid hx; clear hx
  have HC := Lib.hid h; clear h
  have HI := Lib.hid hi; have HZ0 := Lib.hid hz0; have HZ1 := Lib.hid hz1; have HZ2 := Lib.hid hz2
  clear hi hz0 hz1 hz2
  go_enter Try.func15, Try.ntmps15
  go_wp2_with (first
    | (go_at_call 25; refine (Hid.out hg).mono ?_; rintro e w' ⟨rfl, rfl⟩))
  go_loopw [8, 21] (fun b i wr => ∃ k : Nat, k ≤ xs.length ∧ i = .int .i64 k ∧ Hid (wr.ownsRow w.heap.size 5 1 b (4 * k) ((joinF 4 (xs.take k)).map (Value.int .u8))) ∧ Below w.heap.size w wr ∧ Hid (∀ j, j < k → (xs.getD j 0).toNat < 256 ^ 4)) (fun _ i _ => xs.length - (intOf i).toNat)
  case atStart => exact ⟨0, Nat.zero_le _, rfl, Lib.hid (World.ownsRow_nil _ _ _ _), Below.refl _ _, Lib.hid (fun j hj => by omega)⟩
  case round =>
    obtain ⟨k, hk, rfl, hown, hbe, hro⟩ := hrel
    by_cases hlt : k < xs.length
    · obtain ⟨b, off, rfl, hck⟩ := HC.out k hlt
      have hbl : b < w.heap.size := by simpa using World.block_lt_of_cell? w _ hck
      have hck' : wr.cell? ⟨b, off + k, none⟩ = some (.int .u64 (xs.getD k 0)) := by rw [hbe.cell (p := ⟨b, off + k, none⟩) hbl]; exact hck
      clear hck
      obtain ⟨m1, m2⟩ := HX.out xs[k] (List.getElem_mem hlt)
      rw [M64_eq] at m2
      have hsz := hbe.size
      have hlay := Lib.hid (fun (g cp : Nat) (w1 : World) h => join_lay hlt (n := 4) (by omega) (by omega) m1 (by rw [M64_eq]; exact m2) w.heap.size g cp w1 h)
      by_cases hr : xs[k].toNat < 256 ^ 4
      · have hr' : xs[k] ≤ ((256 ^ 4 - 1 : Nat) : Int) := by omega
        have HR := Lib.hid hr; clear hr
        go_wp2_with (first
          | (at_builtin; refine wpList_append_own_zeros _ rfl (.tmp 30) (.tmp 31) 39 3 rfl w.heap.size 5 i0 (.int .u8 0) .i64 .i64 1 Try.underlying39 Try.underlying3 HI.out HZ0.out HZ1.out HZ2.out rfl rfl _ (4 * k) _ rfl hown.out 4 rfl (by omega) (by unfold maxLen; omega) (by omega) hsz ?_; intro v1 w1 hown1 hgr1; obtain ⟨g, cp, rfl, hB, hgs, hcp⟩ := own_shape hown1 (by omega); have HO1 := Lib.hid hown1; clear hown1; have HG1 := Lib.hid hgr1; clear hgr1)
          | (go_at_call 26; refine (Hid.out hlay _ _ _ HO1.out).mono ?_; rintro e w2 ⟨rfl, ho2, hg2⟩; have HO2 := Lib.hid ho2; clear ho2; have HG2 := Lib.hid hg2; clear hg2))
        go_roundw
        case rel =>
          refine ⟨k + 1, by omega, by go_num, Lib.hid ?_, ?_, Lib.hid ?_⟩
          · exact HO2.out
          · exact (hbe.grown HG1.out hsz (fun j hj => (hown.out.lt j hj).1)).grown HG2.out (by have := HG1.out.size; omega) (fun j hj => by cases hj; exact hB)
          · intro j hj
            by_cases hjk : j = k
            · subst hjk
              have := HR.out
              simpa [List.getD, List.getElem?_eq_getElem hlt] using this
            · exact hro.out j (by omega)
        case measure => simp [intOf]; omega
      · have hr' : ((256 ^ 4 - 1 : Nat) : Int) < xs[k] := by omega
        have HR := Lib.hid hr; clear hr
        go_wp2
        all_goals go_ret2
        all_goals exact .inr ⟨room_no (List.getElem_mem hlt) HR.out, rfl, hbe⟩
    · have hk' : k = xs.length := by omega
      have HK := Lib.hid hk'; clear hk'
      go_wp2
      go_ret2
      refine .inl ⟨room_yes.2 ?_, _, rfl, ?_, hbe⟩
      · intro x hx
        obtain ⟨j, hj, rfl⟩ := List.mem_iff_getElem.1 hx
        have := hro.out j (by rw [HK.out]; exact hj)
        simpa [List.getD, List.getElem?_eq_getElem hj] using this
      · have := hown.out
        rw [HK.out, List.take_length] at this
        exact this

set_option maxHeartbeats 2000000 in
theorem join_2 (n : Nat) (hn : n = 2) (a : Option Addr) (cap : Nat) (xs : List Int) (w : World) (h : Row .u64 w a xs) (hx : U64s xs) (hl : xs.length * 8 ≤ 140737488351232) :
    Calls Try.prog 15 #[.int .i64 n, .slice a xs.length cap] w fun e w' => (room n xs = true ∧ ∃ v, e = .returned (.tuple #[v, .nilIface]) ∧ w'.ownsRow w.heap.size 5 1 v (n * xs.length) ((joinF n xs).map (Value.int .u8)) ∧ Below w.heap.size w w') ∨ (room n xs = false ∧ e = .returned (.tuple #[.slice none 0 0, errV 28]) ∧ Below w.heap.size w w') := by
  have hg := Lib.hid (greatest_any (n : Int) w)
  have hw : wide (n : Int) = true := by subst hn; rfl
  have hm := (most_wide hw).1
  rw [hw, hm] at hg
  clear hw hm
  subst hn
  obtain ⟨i0, hi, hz0, hz1, hz2⟩ := info_parts info8
  have HX := Lib.hid hx; clear hx
  have HC := Lib.hid h; clear h
  have HI := Lib.hid hi; have HZ0 := Lib.hid hz0; have HZ1 := Lib.hid hz1; have HZ2 := Lib.hid hz2
  clear hi hz0 hz1 hz2
  go_enter Try.func15, Try.ntmps15
  go_wp2_with (first
    | (go_at_call 25; refine (Hid.out hg).mono ?_; rintro e w' ⟨rfl, rfl⟩))
  go_loopw [8, 21] (fun b i wr => ∃ k : Nat, k ≤ xs.length ∧ i = .int .i64 k ∧ Hid (wr.ownsRow w.heap.size 5 1 b (2 * k) ((joinF 2 (xs.take k)).map (Value.int .u8))) ∧ Below w.heap.size w wr ∧ Hid (∀ j, j < k → (xs.getD j 0).toNat < 256 ^ 2)) (fun _ i _ => xs.length - (intOf i).toNat)
  case atStart => exact ⟨0, Nat.zero_le _, rfl, Lib.hid (World.ownsRow_nil _ _ _ _), Below.refl _ _, Lib.hid (fun j hj => by omega)⟩
  case round =>
    obtain ⟨k, hk, rfl, hown, hbe, hro⟩ := hrel
    by_cases hlt : k < xs.length
    · obtain ⟨b, off, rfl, hck⟩ := HC.out k hlt
      have hbl : b < w.heap.size := by simpa using World.block_lt_of_cell? w _ hck
      have hck' : wr.cell? ⟨b, off + k, none⟩ = some (.int .u64 (xs.getD k 0)) := by rw [hbe.cell (p := ⟨b, off + k, none⟩) hbl]; exact hck
      clear hck
      obtain ⟨m1, m2⟩ := HX.out xs[k] (List.getElem_mem hlt)
      rw [M64_eq] at m2
      have hsz := hbe.size
      have hlay := Lib.hid (fun (g cp : Nat) (w1 : World) h => join_lay hlt (n := 2) (by omega) (by omega) m1 (by rw [M64_eq]; exact m2) w.heap.size g cp w1 h)
      by_cases hr : xs[k].toNat < 256 ^ 2
      · have hr' : xs[k] ≤ ((256 ^ 2 - 1 : Nat) : Int) := by omega
        have HR := Lib.hid hr; clear hr
        go_wp2_with (first
          | (at_builtin; refine wpList_append_own_zeros _ rfl (.tmp 30) (.tmp 31) 39 3 rfl w.heap.size 5 i0 (.int .u8 0) .i64 .i64 1 Try.underlying39 Try.underlying3 HI.out HZ0.out HZ1.out HZ2.out rfl rfl _ (2 * k) _ rfl hown.out 2 rfl (by omega) (by unfold maxLen; omega) (by omega) hsz ?_; intro v1 w1 hown1 hgr1; obtain ⟨g, cp, rfl, hB, hgs, hcp⟩ := own_shape hown1 (by omega); have HO1 := Lib.hid hown1; clear hown1; have HG1 := Lib.hid hgr1; clear hgr1)
          | (go_at_call 26; refine (Hid.out hlay _ _ _ HO1.out).mono ?_; rintro e w2 ⟨rfl, ho2, hg2⟩; have HO2 := Lib.hid ho2; clear ho2; have HG2 := Lib.hid hg2; clear hg2))
        go_roundw
        case rel =>
          refine ⟨k + 1, by omega, by go_num, Lib.hid ?_, ?_, Lib.hid ?_⟩
          · exact HO2.out
          · exact (hbe.grown HG1.out hsz (fun j hj => (hown.out.lt j hj).1)).grown HG2.out (by have := HG1.out.size; omega) (fun j hj => by cases hj; exact hB)
          · intro j hj
            by_cases hjk : j = k
            · subst hjk
              have := HR.out
              simpa [List.getD, List.getElem?_eq_getElem hlt] using this
            · exact hro.out j (by omega)
        case measure => simp [intOf]; omega
      · have hr' : ((256 ^ 2 - 1 : Nat) : Int) < xs[k] := by omega
        have HR := Lib.hid hr; clear hr
        go_wp2
        all_goals go_ret2
        all_goals exact .inr ⟨room_no (List.getElem_mem hlt) HR.out, rfl, hbe⟩
    · have hk' : k = xs.length := by omega
      have HK := Lib.hid hk'; clear hk'
      go_wp2
      go_ret2
      refine .inl ⟨room_yes.2 ?_, _, rfl, ?_, hbe⟩
      · intro x hx
        obtain ⟨j, hj, rfl⟩ := List.mem_iff_getElem.1 hx
        have := hro.out j (by rw [HK.out]; exact hj)
        simpa [List.getD, List.getElem?_eq_getElem hj] using this
      · have := hown.out
        rw [HK.out, List.take_length] at this
        exact this

set_option maxHeartbeats 2000000 in
theorem join_1 (n : Nat) (hn : n = 1) (a : Option Addr) (cap : Nat) (xs : List Int) (w : World) (h : Row .u64 w a xs) (hx : U64s xs) (hl : xs.length * 8 ≤ 140737488351232) :
    Calls Try.prog 15 #[.int .i64 n, .slice a xs.length cap] w fun e w' => (room n xs = true ∧ ∃ v, e = .returned (.tuple #[v, .nilIface]) ∧ w'.ownsRow w.heap.size 5 1 v (n * xs.length) ((joinF n xs).map (Value.int .u8)) ∧ Below w.heap.size w w') ∨ (room n xs = false ∧ e = .returned (.tuple #[.slice none 0 0, errV 28]) ∧ Below w.heap.size w w') := by
  have hg := Lib.hid (greatest_any (n : Int) w)
  have hw : wide (n : Int) = true := by subst hn; rfl
  have hm := (most_wide hw).1
  rw [hw, hm] at hg
  clear hw hm
  subst hn
  obtain ⟨i0, hi, hz0, hz1, hz2⟩ := info_parts info8
  have HX := Lib.hid hx; clear hx
  have HC := Lib.hid h; clear h
  have HI := Lib.hid hi; have HZ0 := Lib.hid hz0; have HZ1 := Lib.hid hz1; have HZ2 := Lib.hid hz2
  clear hi hz0 hz1 hz2
  go_enter Try.func15, Try.ntmps15
  go_wp2_with (first
    | (go_at_call 25; refine (Hid.out hg).mono ?_; rintro e w' ⟨rfl, rfl⟩))
  go_loopw [8, 21] (fun b i wr => ∃ k : Nat, k ≤ xs.length ∧ i = .int .i64 k ∧ Hid (wr.ownsRow w.heap.size 5 1 b k ((joinF 1 (xs.take k)).map (Value.int .u8))) ∧ Below w.heap.size w wr ∧ Hid (∀ j, j < k → (xs.getD j 0).toNat < 256 ^ 1)) (fun _ i _ => xs.length - (intOf i).toNat)
  case atStart => exact ⟨0, Nat.zero_le _, rfl, Lib.hid (World.ownsRow_nil _ _ _ _), Below.refl _ _, Lib.hid (fun j hj => by omega)⟩
  case round =>
    obtain ⟨k, hk, rfl, hown, hbe, hro⟩ := hrel
    by_cases hlt : k < xs.length
    · obtain ⟨b, off, rfl, hck⟩ := HC.out k hlt
      have hbl : b < w.heap.size := by simpa using World.block_lt_of_cell? w _ hck
      have hck' : wr.cell? ⟨b, off + k, none⟩ = some (.int .u64 (xs.getD k 0)) := by rw [hbe.cell (p := ⟨b, off + k, none⟩) hbl]; exact hck
      clear hck
      obtain ⟨m1, m2⟩ := HX.out xs[k] (List.getElem_mem hlt)
      rw [M64_eq] at m2
      have hsz := hbe.size
      have hlay := Lib.hid (fun (g cp : Nat) (w1 : World) h => join_lay hlt (n := 1) (by omega) (by omega) m1 (by rw [M64_eq]; exact m2) w.heap.size g cp w1 h)
      simp only [Nat.one_mul, Nat.mul_one, Nat.add_sub_cancel_left] at hlay
      by_cases hr : xs[k].toNat < 256 ^ 1
      · have hr' : xs[k] ≤ ((256 ^ 1 - 1 : Nat) : Int) := by omega
        have HR := Lib.hid hr; clear hr
        go_wp2_with (first
          | (at_builtin; refine wpList_append_own_zeros _ rfl (.tmp 30) (.tmp 31) 39 3 rfl w.heap.size 5 i0 (.int .u8 0) .i64 .i64 1 Try.underlying39 Try.underlying3 HI.out HZ0.out HZ1.out HZ2.out rfl rfl _ (k) _ rfl hown.out 1 rfl (by omega) (by unfold maxLen; omega) (by omega) hsz ?_; intro v1 w1 hown1 hgr1; obtain ⟨g, cp, rfl, hB, hgs, hcp⟩ := own_shape hown1 (by omega); have HO1 := Lib.hid hown1; clear hown1; have HG1 := Lib.hid hgr1; clear hgr1)
          | (go_at_call 26; refine (Hid.out hlay _ _ _ HO1.out).mono ?_; rintro e w2 ⟨rfl, ho2, hg2⟩; have HO2 := Lib.hid ho2; clear ho2; have HG2 := Lib.hid hg2; clear hg2))
        go_roundw
        case rel =>
          refine ⟨k + 1, by omega, by go_num, Lib.hid ?_, ?_, Lib.hid ?_⟩
          · exact HO2.out
          · exact (hbe.grown HG1.out hsz (fun j hj => (hown.out.lt j hj).1)).grown HG2.out (by have := HG1.out.size; omega) (fun j hj => by cases hj; exact hB)
          · intro j hj
            by_cases hjk : j = k
            · subst hjk
              have := HR.out
              simpa [List.getD, List.getElem?_eq_getElem hlt] using this
            · exact hro.out j (by omega)
        case measure => simp [intOf]; omega
      · have hr' : ((256 ^ 1 - 1 : Nat) : Int) < xs[k] := by omega
        have HR := Lib.hid hr; clear hr
        go_wp2
        all_goals go_ret2
        all_goals exact .inr ⟨room_no (List.getElem_mem hlt) HR.out, rfl, hbe⟩
    · have hk' : k = xs.length := by omega
      have HK := Lib.hid hk'; clear hk'
      go_wp2
      go_ret2
      refine .inl ⟨room_yes.2 ?_, _, rfl, ?_, hbe⟩
      · intro x hx
        obtain ⟨j, hj, rfl⟩ := List.mem_iff_getElem.1 hx
        have := hro.out j (by rw [HK.out]; exact hj)
        simpa [List.getD, List.getElem?_eq_getElem hj] using this
      · have := hown.out
        rw [HK.out, List.take_length] at this
        rw [Nat.one_mul]
        exact this

theorem join_any (n : Nat) (hn : wide n = true) (a : Option Addr) (cap : Nat) (xs : List Int) (w : World) (h : Row .u64 w a xs) (hx : U64s xs) (hl : xs.length * 8 ≤ 140737488351232) :
    Calls Try.prog 15 #[.int .i64 n, .slice a xs.length cap] w fun e w' => (room n xs = true ∧ ∃ v, e = .returned (.tuple #[v, .nilIface]) ∧ w'.ownsRow w.heap.size 5 1 v (n * xs.length) ((joinF n xs).map (Value.int .u8)) ∧ Below w.heap.size w w') ∨ (room n xs = false ∧ e = .returned (.tuple #[.slice none 0 0, errV 28]) ∧ Below w.heap.size w w') := by
  have : n = 1 ∨ n = 2 ∨ n = 4 ∨ n = 8 := by simp [wide] at hn; omega
  rcases this with h1 | h1 | h1 | h1
  · exact join_1 n h1 a cap xs w h hx hl
  · exact join_2 n h1 a cap xs w h hx hl
  · exact join_4 n h1 a cap xs w h hx hl
  · exact join_8 n h1 a cap xs w h hx hl

theorem join_width (n : Int) (a : Option Addr) (cap len : Nat) (w : World) (hw : wide n = false) :
    Calls Try.prog 15 #[.int .i64 n, .slice a len cap] w fun e w' => e = .returned (.tuple #[.slice none 0 0, errV 1]) ∧ w = w' := by
  have hg := Lib.hid (greatest_any n w)
  rw [hw] at hg
  clear hw
  go_enter Try.func15, Try.ntmps15
  go_wp2_with (first
    | (go_at_call 25; refine (Hid.out hg).mono ?_; rintro e w' ⟨rfl, rfl⟩))
  go_ret2
  exact ⟨ret2 rfl rfl, rfl⟩
end Go.Proofs.Ytobpfcipfjadaaa
