/- Layer 4: the document's power of two; what it asks of a program header, as a plain function. -/
import Derived.Test.YtmjfkcclhbpclaaDoorHeadRNum
namespace Go.Proofs.YtmjfkcclhbpclaaDoor
open Go.RowKit
set_option linter.unusedVariables false
set_option linter.unusedSimpArgs false

theorem power_yes {a k : Nat} (h : a = 2 ^ k) (hk : k ≤ 20) : powerF a = true := by
  unfold powerF
  rw [h, Pop.pop_pow ⟨k, by omega⟩]
  have : (2 : Nat) ^ k ≤ 2 ^ 20 := Nat.pow_le_pow_right (by omega) hk
  have e : (2 : Nat) ^ 20 = 1048576 := by decide
  simp only [decide_true, Bool.true_and]
  exact decide_eq_true (by omega)
theorem power_no {a : Nat} (ha : a < 18446744073709551616) (h : ∀ k, k ≤ 20 → a ≠ 2 ^ k) : powerF a = false := by
  unfold powerF
  by_cases hp : Pop.pop a = 1
  · obtain ⟨i, hi, he⟩ := Pop.pop_one a ha hp
    have h20 : ¬ i ≤ 20 := fun hle => h i hle he
    have : (2 : Nat) ^ 21 ≤ 2 ^ i := Nat.pow_le_pow_right (by omega) (by omega)
    have e : (2 : Nat) ^ 21 = 2097152 := by decide
    rw [show decide (a ≤ 1048576) = false from decide_eq_false (by omega), Bool.and_false]
  · rw [show decide (Pop.pop a = 1) = false from decide_eq_false hp]
    rfl
set_option maxRecDepth 100000
set_option maxHeartbeats 8000000 in
theorem rpower_any (a : Nat) (ha : a < 18446744073709551616) (w : World) :
    Calls Tryd.prog 61 #[.int .u64 (a : Int)] w fun e w' => e = .returned (.bool (powerF a)) ∧ w = w' := by
  have HY : Hid (∀ k, k ≤ 20 → a = 2 ^ k → powerF a = true) := Lib.hid (fun k hk h => power_yes h hk)
  have HN : Hid ((∀ k, k ≤ 20 → a ≠ 2 ^ k) → powerF a = false) := Lib.hid (fun h => power_no ha h)
  generalize powerF a = R at *
  go_enter Tryd.func61, Tryd.ntmps61
  go_wp2_with fail
  go_loopg [3] 21 (fun g i wr => ∃ k : Nat, k + g = 21 ∧ i = .int .i64 (k : Int) ∧ w = wr ∧ Hid (∀ j, j < k → a ≠ 2 ^ j))
  case atStart => exact ⟨0, by omega, rfl, rfl, Lib.hid (fun j h => by omega)⟩
  case round =>
    obtain ⟨k, hk, rfl, rfl, HJ⟩ := hrel
    cases gk with
    | zero =>
      obtain rfl : k = 21 := by omega
      have HE : Hid (R = false) := Lib.hid (HN.out (fun j hj => HJ.out j (by omega)))
      clear hk
      go_wp2_with fail
      go_ret
      exact ⟨by rw [HE.out]; rfl, rfl⟩
    | succ g =>
      have HK := Lib.hid hk
      have i0 : (0 : Int) ≤ (k : Int) := by omega
      have i1 : (k : Int) ≤ 20 := by omega
      have tk : decide ((k : Int) ≤ 20) = true := decide_eq_true i1
      obtain ⟨pw, hpw⟩ : ∃ pw, (2 : Nat) ^ k = pw := ⟨_, rfl⟩
      have hple : pw ≤ 1048576 := by
        have : (2 : Nat) ^ k ≤ 2 ^ 20 := Nat.pow_le_pow_right (by omega) (by omega)
        have e : (2 : Nat) ^ 20 = 1048576 := by decide
        omega
      have hpi : (2 : Int) ^ k = (pw : Int) := by rw [← hpw]; push_cast; rfl
      have hpw64 : IntKind.u64.wrap (pw : Int) = (pw : Int) := by rw [IntKind.wrap_u64]; omega
      by_cases he : a = pw
      · have HE : Hid (R = true) := Lib.hid (HY.out k (by omega) (by rw [hpw]; exact he))
        have t : ((a : Int) == (pw : Int)) = true := beq_iff_eq.2 (by omega)
        clear hk he hpw
        go_wp2_with fail
        go_ret
        exact ⟨by rw [HE.out]; first | rfl | rw [t], rfl⟩
      · have HJ2 : Hid (∀ j, j < k + 1 → a ≠ 2 ^ j) := Lib.hid (fun j hj => by
          by_cases h : j < k
          · exact HJ.out j h
          · obtain rfl : j = k := by omega
            rw [hpw]; exact he)
        have t : ((a : Int) == (pw : Int)) = false := beq_eq_false_iff_ne.2 (by omega)
        clear hk he hpw
        go_wp2_with fail
        go_roundg g
        case measure => have := HK.out; omega
        case rel => exact ⟨k + 1, by have := HK.out; omega, by go_num, rfl, HJ2⟩
/-- the page behind the last PtLoad -/
def rend (ps : List PT) : Nat := match lastF ps with | none => 0 | some q => (q.vaddr + q.memsz + 4095) % 18446744073709551616 / 4096 * 4096
theorem rend_end {ps : List PT} (h : ∀ p ∈ ps, p.wf) : rend ps = endF ps := by
  unfold rend endF
  cases hl : lastF ps with
  | none =>
    simp only [Option.getD_none]
    show 0 = (upF ((0 + 0) % 18446744073709551616) 4096).1.toNat
    kernel_rfl
  | some q =>
    simp only [Option.getD_some]
    have hp : Pop.pop 4096 = 1 := by decide +kernel
    unfold upF
    rw [if_neg (by rw [hp]; decide)]
    obtain ⟨s, hs⟩ : ∃ s, (q.vaddr + q.memsz) % 18446744073709551616 = s := ⟨_, rfl⟩
    have hs2 : (q.vaddr + q.memsz + 4095) % 18446744073709551616 = (s + 4095) % 18446744073709551616 := by omega
    rw [hs, hs2]
    have hsl : s < 18446744073709551616 := by omega
    split
    · rename_i h
      show _ = (((s + (4096 - 1)) / 4096 * 4096 : Nat) : Int).toNat
      omega
    · rename_i h
      show _ = (0 : Int).toNat
      omega
theorem rend_snoc (ps : List PT) (p : PT) : rend (ps ++ [p]) = if p.ty = 1 then (p.vaddr + p.memsz + 4095) % 18446744073709551616 / 4096 * 4096 else rend ps := by
  unfold rend
  rw [lastF_snoc]
  by_cases h : p.ty = 1
  · rw [if_pos h, if_pos h]
  · rw [if_neg h, if_neg h]
/-- what the document asks, step by step -/
def rOneF (n : Nat) (ps : List PT) (p : PT) (at_ : Nat) : Option (Nat × Nat) :=
  if (isOf p [2, 3, 7, 1685382482, 1685382481] && ps.any (fun q => q.ty == p.ty)) = true then some (at_, 5)
  else if (isOf p [1, 2, 3, 4, 7] && !inB n p.off p.filesz) = true then some (at_ + 8, 4)
  else if (isOf p [1, 2, 7, 1685382482] && !inB 140737488355328 p.vaddr p.memsz) = true then some (at_ + 16, 4)
  else if (decide (p.ty ≠ 1) && decide (p.ty ≠ 7)) = true then none
  else if decide (p.memsz < p.filesz) = true then some (at_ + 32, 3)
  else if (!powerF p.align && (decide (p.ty ≠ 7) || decide (p.align ≠ 0))) = true then some (at_ + 48, 3)
  else if decide (p.ty = 7) = true then none
  else if decide (p.memsz = 0) = true then some (at_ + 40, 3)
  else if decide (p.align < 4096) = true then some (at_ + 48, 3)
  else if (decide (p.off % p.align ≠ p.vaddr % p.align) || decide (p.vaddr / 4096 * 4096 < rend ps)) = true then some (at_ + 16, 3)
  else none
theorem first_stage {c ok : Bool} {x : Nat × Nat} {A : Option (Nat × Nat)} {l : List (Option (Nat × Nat))} (h : c = !ok) (hA : ok = true → A = firstF l) : (if c = true then some x else A) = firstF ((if ok = true then none else some x) :: l) := by
  cases ok with
  | false => rw [h]; rfl
  | true => rw [h]; exact hA rfl
theorem first_flat2 (r1 r2 : Option (Nat × Nat)) (l : List (Option (Nat × Nat))) : firstF (firstF [r1, r2] :: l) = firstF (r1 :: r2 :: l) := by
  cases r1 <;> cases r2 <;> rfl
theorem first_flat4 (r1 r2 r3 r4 : Option (Nat × Nat)) : firstF [firstF [r1, r2, r3, r4]] = firstF [r1, r2, r3, r4] := by
  cases r1 <;> cases r2 <;> cases r3 <;> cases r4 <;> rfl
theorem first_none (l : List (Option (Nat × Nat))) : firstF (none :: l) = firstF l := rfl
theorem rOne_one (n : Nat) (ps : List PT) (p : PT) (at_ : Nat) (h : ∀ q ∈ ps, q.wf) : rOneF n ps p at_ = oneF n ps p at_ := by
  unfold rOneF oneF aloneF insideF sizedF loadF unF
  rw [rend_end h]
  have hin : inB 140737488355328 p.vaddr p.memsz = decide (p.vaddr + p.memsz ≤ 140737488355328) := by
    unfold inB
    rw [decide_eq_decide]
    omega
  rw [hin]
  have e1 : isOf p [1, 7] = (decide (p.ty = 1) || decide (p.ty = 7)) := by
    unfold isOf
    by_cases h1 : p.ty = 1
    · rw [h1]; rfl
    · by_cases h7 : p.ty = 7
      · rw [h7]; rfl
      · simp [h1, h7]
  have e2 : isOf p [1] = decide (p.ty = 1) := by
    unfold isOf
    by_cases h1 : p.ty = 1
    · rw [h1]; rfl
    · simp [h1]
  rw [e1, e2]
  generalize isOf p [2, 3, 7, 1685382482, 1685382481] = R1
  generalize isOf p [1, 2, 3, 4, 7] = R2
  generalize isOf p [1, 2, 7, 1685382482] = R3
  generalize ps.any (fun q => q.ty == p.ty) = T1
  generalize inB n p.off p.filesz = I2
  generalize decide (p.vaddr + p.memsz ≤ 140737488355328) = I3
  generalize powerF p.align = W
  generalize endF ps = E
  refine first_stage (by cases R1 <;> cases T1 <;> rfl) (fun _ => ?_)
  rw [first_flat2]
  refine first_stage (by cases R2 <;> cases I2 <;> rfl) (fun _ => ?_)
  refine first_stage (by cases R3 <;> cases I3 <;> rfl) (fun _ => ?_)
  by_cases t1 : p.ty = 1
  · have t7 : ¬ p.ty = 7 := by omega
    rw [show (decide (p.ty ≠ 1) && decide (p.ty ≠ 7)) = false from by rw [decide_eq_false (by omega)]; rfl]
    rw [show (decide (p.ty = 1) || decide (p.ty = 7)) = true from by rw [decide_eq_true t1]; rfl]
    rw [decide_eq_true t1, decide_eq_false t7, show decide (p.ty ≠ 7) = true from decide_eq_true t7]
    simp only [Bool.false_eq_true, if_false, if_true, Bool.true_or, Bool.and_true, Bool.and_false, Bool.or_false]
    rw [first_flat2]
    refine first_stage (by by_cases hx : p.memsz < p.filesz <;> simp [hx] <;> omega) (fun _ => ?_)
    refine first_stage (by cases W <;> rfl) (fun _ => ?_)
    rw [first_flat4]
    refine first_stage (by by_cases hx : p.memsz = 0 <;> simp [hx] <;> omega) (fun _ => ?_)
    refine first_stage (by by_cases hx : p.align < 4096 <;> simp [hx] <;> omega) (fun ha => ?_)
    have ha2 := of_decide_eq_true ha
    rw [show max 1 p.align = p.align by omega]
    by_cases hd : p.off % p.align = p.vaddr % p.align
    · rw [decide_eq_true hd, show decide (p.off % p.align ≠ p.vaddr % p.align) = false from decide_eq_false (by simpa using hd)]
      by_cases he : p.vaddr / 4096 * 4096 < E
      · rw [decide_eq_true he, decide_eq_false (by omega)]
        rfl
      · rw [decide_eq_false he, decide_eq_true (by omega)]
        rfl
    · rw [decide_eq_false hd, show decide (p.off % p.align ≠ p.vaddr % p.align) = true from decide_eq_true hd]
      rfl
  · rw [decide_eq_false t1, show decide (p.ty ≠ 1) = true from decide_eq_true t1]
    by_cases t7 : p.ty = 7
    · rw [decide_eq_true t7, show decide (p.ty ≠ 7) = false from decide_eq_false (by omega)]
      simp only [Bool.false_eq_true, if_false, if_true, Bool.or_true, Bool.and_true, Bool.and_false, Bool.false_or]
      rw [first_flat2]
      refine first_stage (by by_cases hx : p.memsz < p.filesz <;> simp [hx] <;> omega) (fun _ => ?_)
      refine first_stage (by by_cases hx : p.align = 0 <;> cases W <;> simp [hx]) (fun _ => ?_)
      rfl
    · rw [decide_eq_false t7, show decide (p.ty ≠ 7) = true from decide_eq_true t7]
      rfl
end Go.Proofs.YtmjfkcclhbpclaaDoor
