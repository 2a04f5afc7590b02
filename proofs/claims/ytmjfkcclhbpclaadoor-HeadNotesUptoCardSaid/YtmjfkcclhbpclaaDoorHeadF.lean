/- Layer 4 as plain functions: what a file's header and program headers tell, or what is amiss first. -/
import Derived.Test.YtmjfkcclhbpclaaDoorHGet
import Derived.Test.YtmjfkcclhbpclaaDoorLittle
import Derived.Test.YtmjfkcclhbpclaaDoorDynNum
import Derived.Test.YtmjfkcclhbpclaaDoorSpanUp
namespace Go.Proofs.YtmjfkcclhbpclaaDoor
open Go.RowKit
set_option linter.unusedVariables false
set_option linter.unusedSimpArgs false

/-- the number of so many bytes at a place; 0, if they don't lie within -/
def numF (bs : List Nat) (at_ n : Nat) : Nat := if inB bs.length at_ n = true then numOf ((bs.drop at_).take n) else 0
theorem leval_num (bs : List Nat) : leval (toI bs) = ((numOf bs : Nat) : Int) := by
  induction bs with
  | nil => rfl
  | cons b bs ih =>
    show (b : Int) + 256 * leval (toI bs) = _
    rw [ih, numOf]
    omega
theorem cut_toI (bs : List Nat) (o n : Nat) : cutOf (toI bs) o n = toI ((bs.drop o).take n) := by
  unfold cutOf toI
  rw [List.map_take, List.map_drop]
theorem numF_lt {bs : List Nat} (h : ∀ b ∈ bs, b < 256) (at_ n : Nat) : numF bs at_ n < 256 ^ n := by
  unfold numF
  split
  · rename_i hi
    have h1 := numOf_lt ((bs.drop at_).take n) (fun b hb => h b (List.mem_of_mem_drop (List.mem_of_mem_take hb)))
    have h2 : ((bs.drop at_).take n).length ≤ n := by rw [List.length_take]; omega
    exact Nat.lt_of_lt_of_le h1 (Nat.pow_le_pow_right (by omega) h2)
  · exact Nat.pow_pos (by omega)
/-- a program header -/
def progF (b : List Nat) : PT := ⟨numF b 0 4, numF b 4 4, numF b 8 8, numF b 16 8, numF b 32 8, numF b 40 8, numF b 48 8⟩
theorem progF_wf {b : List Nat} (h : ∀ x ∈ b, x < 256) : (progF b).wf := by
  have p4 : (256 : Nat) ^ 4 = 4294967296 := by decide
  have p8 : (256 : Nat) ^ 8 = 18446744073709551616 := by decide
  have h4 := fun a => numF_lt h a 4
  have h8 := fun a => numF_lt h a 8
  simp only [p4] at h4
  simp only [p8] at h8
  exact ⟨h4 _, h4 _, h8 _, h8 _, h8 _, h8 _, h8 _⟩
/-- what a test tells: nothing, or an error's place and number -/
def unF (ok : Bool) (at_ c : Nat) : Option (Nat × Nat) := if ok = true then none else some (at_, c)
def firstF : List (Option (Nat × Nat)) → Option (Nat × Nat)
  | [] => none
  | none :: l => firstF l
  | some x :: _ => some x
/-- what must stand in the header: place, bytes, one of two numbers -/
def fixedF : List (Nat × Nat × Nat × Nat) := [(0, 1, 127, 127), (1, 1, 69, 69), (2, 1, 76, 76), (3, 1, 70, 70), (4, 1, 2, 2), (5, 1, 1, 1), (6, 1, 1, 1), (7, 1, 0, 3), (16, 2, 2, 3), (18, 2, 62, 62), (20, 4, 1, 1), (52, 2, 64, 64), (54, 2, 56, 56)]
def constF (bs : List Nat) : List (Nat × Nat × Nat × Nat) → Option (Nat × Nat)
  | [] => none
  | (at_, n, x, y) :: l => if numF bs at_ n = x ∨ numF bs at_ n = y then constF bs l else some (at_, 3)
def isOf (p : PT) (l : List Nat) : Bool := l.contains p.ty
def aloneF (ps : List PT) (p : PT) : Bool := !isOf p [2, 3, 7, 1685382482, 1685382481] || !ps.any (fun q => q.ty == p.ty)
def lastF : List PT → Option PT
  | [] => none
  | p :: ps => match lastF ps with
    | some q => some q
    | none => if p.ty = 1 then some p else none
def endF (ps : List PT) : Nat := (upF ((((lastF ps).getD PT.zero).vaddr + ((lastF ps).getD PT.zero).memsz) % 18446744073709551616) 4096).1.toNat
def insideF (n : Nat) (p : PT) (at_ : Nat) : Option (Nat × Nat) := firstF [unF (!isOf p [1, 2, 3, 4, 7] || inB n p.off p.filesz) (at_ + 8) 4, unF (!isOf p [1, 2, 7, 1685382482] || decide (p.vaddr + p.memsz ≤ 140737488355328)) (at_ + 16) 4]
def powerF (a : Nat) : Bool := decide (Pop.pop a = 1) && decide (a ≤ 1048576)
def sizedF (p : PT) (at_ : Nat) : Option (Nat × Nat) := if isOf p [1, 7] = true then firstF [unF (decide (p.filesz ≤ p.memsz)) (at_ + 32) 3, unF (powerF p.align || (decide (p.align = 0) && decide (p.ty = 7))) (at_ + 48) 3] else none
def loadF (ps : List PT) (p : PT) (at_ : Nat) : Option (Nat × Nat) := if isOf p [1] = true then firstF [unF (decide (0 < p.memsz)) (at_ + 40) 3, unF (decide (4096 ≤ p.align)) (at_ + 48) 3, unF (decide (p.off % max 1 p.align = p.vaddr % max 1 p.align)) (at_ + 16) 3, unF (decide (endF ps ≤ p.vaddr / 4096 * 4096)) (at_ + 16) 3] else none
/-- a program header behind others: what is amiss with it -/
def oneF (n : Nat) (ps : List PT) (p : PT) (at_ : Nat) : Option (Nat × Nat) := firstF [unF (aloneF ps p) at_ 5, insideF n p at_, sizedF p at_, loadF ps p at_]
/-- so many program headers further, from the place on -/
def progsF (bs : List Nat) (begin_ : Nat) : Nat → Nat → List PT → Except (Nat × Nat) (List PT)
  | 0, _, ps => .ok ps
  | g + 1, k, ps => match oneF bs.length ps (progF (bs.drop (begin_ + 56 * k))) (begin_ + 56 * k) with
    | some x => .error x
    | none => progsF bs begin_ g (k + 1) (ps ++ [progF (bs.drop (begin_ + 56 * k))])
def whereF (bs : List Nat) : Option (Nat × Nat) := firstF [unF (decide (0 < numF bs 56 2)) 56 3, unF (decide (numF bs 56 2 ≤ 16)) 56 2, unF (inB bs.length (numF bs 32 8) (numF bs 56 2 * 56)) 32 4]
/-- an error: at a place, or a number alone -/
inductive HErr where
  | spot : Nat → Nat → HErr
  | code : Nat → HErr
structure HT where
  kind : Nat
  entry : Nat
  ps : List PT
def readF (bs : List Nat) : Except HErr HT :=
  if 1048576 < bs.length then .error (.code 2)
  else if bs.length < 64 then .error (.spot bs.length 4)
  else match constF bs fixedF with
    | some (a, c) => .error (.spot a c)
    | none => match whereF bs with
      | some (a, c) => .error (.spot a c)
      | none => match progsF bs (numF bs 32 8) (numF bs 56 2) 0 [] with
        | .error (a, c) => .error (.spot a c)
        | .ok ps => match lastF ps with
          | none => .error (.code 6)
          | some _ => .ok ⟨numF bs 16 2, numF bs 24 8, ps⟩
/-- an error in memory -/
def ErrAt (w : World) (v : Value) : Option (Nat × Nat) → Prop
  | none => v = .nilIface
  | some (a, c) => ∃ sb, v = .iface 90 (.pointer (some ⟨sb, 0, none⟩)) ∧ w.heap[sb]? = some (.cells #[.int .u64 (a : Int), .iface 38 (.int .i64 (c : Int))] 95)
theorem ErrAt.below {w w' : World} {v : Value} {r : Option (Nat × Nat)} (h : ErrAt w v r) (hb : Below w.heap.size w w') : ErrAt w' v r := by
  cases r with
  | none => exact h
  | some x =>
    obtain ⟨sb, e, h2⟩ := h
    exact ⟨sb, e, (hb.block _ (lt_of_block h2)).trans h2⟩

set_option maxRecDepth 100000 in
set_option maxHeartbeats 4000000 in
theorem number_any (a : Option Addr) (m cap at_ n : Nat) (bs : List Nat) (w : World) (h : BRow w a bs) (hm : bs.length = m) (hl : m ≤ 140737488351232) (hn : a = none → m = 0 ∧ cap = 0) (hc : m ≤ cap) (ha : at_ < 18446744073709551616) (hw : wide n = true) :
    Calls Tryd.prog 44 #[.slice a m cap, .int .u64 (at_ : Int), .int .i64 (n : Int)] w fun e w' => e = .returned (.int .u64 (numF bs at_ n : Int)) ∧ Below w.heap.size w w' := by
  subst hm
  have HG : Hid (Calls Tryd.prog 68 #[.slice a bs.length cap, .int .u64 (at_ : Int), .int .i64 (n : Int)] w fun e w' => (∃ ev, e = .returned (.tuple #[.int .u64 (numF bs at_ n : Int), ev])) ∧ Below w.heap.size w w') := Lib.hid (by
    have htl := toI_length bs
    by_cases hi : at_ ≤ bs.length ∧ n ≤ bs.length - at_
    · have := get_yes a cap (toI bs) at_ n w h.1 (fun y hy => by
        unfold toI at hy
        obtain ⟨b, hb, rfl⟩ := List.mem_map.1 hy
        have := h.2 b hb
        constructor
        · show (0 : Int) ≤ (b : Int); omega
        · show (b : Int) < 256; omega) (by rw [htl]; exact hl) (by rw [htl]; exact hn) (by rw [htl]; exact hc) hw (by rw [htl]; exact hi.1) (by rw [htl]; exact hi.2)
      rw [htl, cut_toI, leval_num] at this
      refine this.mono ?_
      rintro e w' ⟨rfl, hb⟩
      have e1 : numF bs at_ n = numOf ((bs.drop at_).take n) := by unfold numF; rw [if_pos (inB_yes hi.1 hi.2)]
      rw [e1]
      exact ⟨⟨_, rfl⟩, hb⟩
    · have := get_range a cap (toI bs) at_ n w (by rw [htl]; exact hl) ha hw (by rw [htl]; exact hi)
      rw [htl] at this
      refine this.mono ?_
      rintro e w' ⟨rfl, rfl⟩
      have e1 : numF bs at_ n = 0 := by unfold numF; rw [inB_no hi]; rfl
      rw [e1]
      exact ⟨⟨_, rfl⟩, (Below.refl _ _).alloc (Nat.le_refl _) _⟩)
  obtain ⟨R, hR⟩ : ∃ R : Int, (numF bs at_ n : Int) = R := ⟨_, rfl⟩
  obtain ⟨L, hL⟩ : ∃ L, bs.length = L := ⟨_, rfl⟩
  rw [hR, hL] at HG
  rw [hR, hL]
  clear h hl hn hc ha hw hR hL
  go_enter Tryd.func44, Tryd.ntmps44
  go_wp2_with fail
  refine HG.out.mono ?_
  rintro e w2 ⟨⟨ev, rfl⟩, hb⟩
  have B2 := Lib.hid hb
  clear hb
  go_wp2_with fail
  go_ret
  exact ⟨rfl, B2.out⟩
end Go.Proofs.YtmjfkcclhbpclaaDoor
