/- Layer 4 as plain functions: what a file's header and program headers tell, or what is amiss first. -/
import Derived.Test.YtnaejlfjlennhaaGreatDoorSpanUp
import Derived.Test.YtnaejlfjlennhaaGreatDoorLittle
import Derived.Test.YtnaejlfjlennhaaGreatDoorDynNum
import Derived.Deep.LoopGhost
import Derived.WalkMore
import Derived.RangeFuncNested
import Derived.RangeFuncBound
import Derived.RangeFuncCalls
import Derived.RangeFuncLeaves
import Derived.RangeFuncBox
import Derived.TacticsInMore
import Derived.LoopNIn
import Derived.LoopIn
import Derived.OwnWalkIn
import Derived.Shelf.Abstract
import Derived.Laws.Tables
import Derived.Laws.CopyRow
import Derived.Laws.CopyOwn
namespace Go.Proofs.YtnaejlfjlennhaaGreatDoor
open Go.RowKit
set_option linter.unusedVariables false
set_option linter.unusedSimpArgs false

/-- the number of so many bytes at a place; 0, if they don't lie within -/
def numF (bs : List Nat) (at_ n : Nat) : Nat := if inB bs.length at_ n = true then numOf ((bs.drop at_).take n) else 0
theorem leval_num (bs : List Nat) : leval (toI bs) = ((numOf bs : Nat) : Int) := by
  induction bs with
  | nil => rfl
  | cons b bs ih =>
    show (b : Int) + 256 * leval (toI bs) = _
    rw [ih, numOf]
    omega
theorem cut_toI (bs : List Nat) (o n : Nat) : cutOf (toI bs) o n = toI ((bs.drop o).take n) := by
  unfold cutOf toI
  rw [List.map_take, List.map_drop]
theorem numF_lt {bs : List Nat} (h : ∀ b ∈ bs, b < 256) (at_ n : Nat) : numF bs at_ n < 256 ^ n := by
  unfold numF
  split
  · rename_i hi
    have h1 := numOf_lt ((bs.drop at_).take n) (fun b hb => h b (List.mem_of_mem_drop (List.mem_of_mem_take hb)))
    have h2 : ((bs.drop at_).take n).length ≤ n := by rw [List.length_take]; omega
    exact Nat.lt_of_lt_of_le h1 (Nat.pow_le_pow_right (by omega) h2)
  · exact Nat.pow_pos (by omega)
/-- a program header -/
def progF (b : List Nat) : PT := ⟨numF b 0 4, numF b 4 4, numF b 8 8, numF b 16 8, numF b 32 8, numF b 40 8, numF b 48 8⟩
theorem progF_wf {b : List Nat} (h : ∀ x ∈ b, x < 256) : (progF b).wf := by
  have p4 : (256 : Nat) ^ 4 = 4294967296 := by decide
  have p8 : (256 : Nat) ^ 8 = 18446744073709551616 := by decide
  have h4 := fun a => numF_lt h a 4
  have h8 := fun a => numF_lt h a 8
  simp only [p4] at h4
  simp only [p8] at h8
  exact ⟨h4 _, h4 _, h8 _, h8 _, h8 _, h8 _, h8 _⟩
/-- what a test tells: nothing, or an error's place and number -/
def unF (ok : Bool) (at_ c : Nat) : Option (Nat × Nat) := if ok = true then none else some (at_, c)
def firstF : List (Option (Nat × Nat)) → Option (Nat × Nat)
  | [] => none
  | none :: l => firstF l
  | some x :: _ => some x
/-- what must stand in the header: place, bytes, one of two numbers -/
def fixedF : List (Nat × Nat × Nat × Nat) := [(0, 1, 127, 127), (1, 1, 69, 69), (2, 1, 76, 76), (3, 1, 70, 70), (4, 1, 2, 2), (5, 1, 1, 1), (6, 1, 1, 1), (7, 1, 0, 3), (16, 2, 2, 3), (18, 2, 62, 62), (20, 4, 1, 1), (52, 2, 64, 64), (54, 2, 56, 56)]
def constF (bs : List Nat) : List (Nat × Nat × Nat × Nat) → Option (Nat × Nat)
  | [] => none
  | (at_, n, x, y) :: l => if numF bs at_ n = x ∨ numF bs at_ n = y then constF bs l else some (at_, 3)
def isOf (p : PT) (l : List Nat) : Bool := l.contains p.ty
def aloneF (ps : List PT) (p : PT) : Bool := !isOf p [2, 3, 7, 1685382482, 1685382481] || !ps.any (fun q => q.ty == p.ty)
def lastF : List PT → Option PT
  | [] => none
  | p :: ps => match lastF ps with
    | some q => some q
    | none => if p.ty = 1 then some p else none
def endF (ps : List PT) : Nat := (upF ((((lastF ps).getD PT.zero).vaddr + ((lastF ps).getD PT.zero).memsz) % 18446744073709551616) 4096).1.toNat
def insideF (n : Nat) (p : PT) (at_ : Nat) : Option (Nat × Nat) := firstF [unF (!isOf p [1, 2, 3, 4, 7] || inB n p.off p.filesz) (at_ + 8) 4, unF (!isOf p [1, 2, 7, 1685382482] || decide (p.vaddr + p.memsz ≤ 140737488355328)) (at_ + 16) 4]
def powerF (a : Nat) : Bool := decide (Pop.pop a = 1) && decide (a ≤ 1048576)
def sizedF (p : PT) (at_ : Nat) : Option (Nat × Nat) := if isOf p [1, 7] = true then firstF [unF (decide (p.filesz ≤ p.memsz)) (at_ + 32) 3, unF (powerF p.align || (decide (p.align = 0) && decide (p.ty = 7))) (at_ + 48) 3] else none
def loadF (ps : List PT) (p : PT) (at_ : Nat) : Option (Nat × Nat) := if isOf p [1] = true then firstF [unF (decide (0 < p.memsz)) (at_ + 40) 3, unF (decide (4096 ≤ p.align)) (at_ + 48) 3, unF (decide (p.off % max 1 p.align = p.vaddr % max 1 p.align)) (at_ + 16) 3, unF (decide (endF ps ≤ p.vaddr / 4096 * 4096)) (at_ + 16) 3] else none
/-- a program header behind others: what is amiss with it -/
def oneF (n : Nat) (ps : List PT) (p : PT) (at_ : Nat) : Option (Nat × Nat) := firstF [unF (aloneF ps p) at_ 5, insideF n p at_, sizedF p at_, loadF ps p at_]
/-- so many program headers further, from the place on -/
def progsF (bs : List Nat) (begin_ : Nat) : Nat → Nat → List PT → Except (Nat × Nat) (List PT)
  | 0, _, ps => .ok ps
  | g + 1, k, ps => match oneF bs.length ps (progF (bs.drop (begin_ + 56 * k))) (begin_ + 56 * k) with
    | some x => .error x
    | none => progsF bs begin_ g (k + 1) (ps ++ [progF (bs.drop (begin_ + 56 * k))])
def whereF (bs : List Nat) : Option (Nat × Nat) := firstF [unF (decide (0 < numF bs 56 2)) 56 3, unF (decide (numF bs 56 2 ≤ 16)) 56 2, unF (inB bs.length (numF bs 32 8) (numF bs 56 2 * 56)) 32 4]
/-- an error: at a place, or a number alone -/
inductive HErr where
  | spot : Nat → Nat → HErr
  | code : Nat → HErr
structure HT where
  kind : Nat
  entry : Nat
  ps : List PT
def readF (bs : List Nat) : Except HErr HT :=
  if 1048576 < bs.length then .error (.code 2)
  else if bs.length < 64 then .error (.spot bs.length 4)
  else match constF bs fixedF with
    | some (a, c) => .error (.spot a c)
    | none => match whereF bs with
      | some (a, c) => .error (.spot a c)
      | none => match progsF bs (numF bs 32 8) (numF bs 56 2) 0 [] with
        | .error (a, c) => .error (.spot a c)
        | .ok ps => match lastF ps with
          | none => .error (.code 6)
          | some _ => .ok ⟨numF bs 16 2, numF bs 24 8, ps⟩
/-- an error in memory -/
def ErrAt (w : World) (v : Value) : Option (Nat × Nat) → Prop
  | none => v = .nilIface
  | some (a, c) => ∃ sb, v = .iface 68 (.pointer (some ⟨sb, 0, none⟩)) ∧ w.heap[sb]? = some (.cells #[.int .u64 (a : Int), .iface 56 (.int .i64 (c : Int))] 73)
theorem ErrAt.below {w w' : World} {v : Value} {r : Option (Nat × Nat)} (h : ErrAt w v r) (hb : Below w.heap.size w w') : ErrAt w' v r := by
  cases r with
  | none => exact h
  | some x =>
    obtain ⟨sb, e, h2⟩ := h
    exact ⟨sb, e, (hb.block _ (lt_of_block h2)).trans h2⟩

set_option maxRecDepth 100000 in
set_option maxHeartbeats 4000000 in
theorem hnumber_any (a : Option Addr) (m cap at_ n : Nat) (bs : List Nat) (w : World) (h : BRow w a bs) (hm : bs.length = m) (hl : m ≤ 140737488351232) (hn : a = none → m = 0 ∧ cap = 0) (hc : m ≤ cap) (ha : at_ < 18446744073709551616) (hw : wide n = true) :
    Calls Tryz.prog 39 #[.slice a m cap, .int .u64 (at_ : Int), .int .i64 (n : Int)] w fun e w' => e = .returned (.int .u64 (numF bs at_ n : Int)) ∧ Below w.heap.size w w' := by
  subst hm
  have HG : Hid (Calls Tryz.prog 67 #[.slice a bs.length cap, .int .u64 (at_ : Int), .int .i64 (n : Int)] w fun e w' => (∃ ev, e = .returned (.tuple #[.int .u64 (numF bs at_ n : Int), ev])) ∧ Below w.heap.size w w') := Lib.hid (by
    have htl := toI_length bs
    by_cases hi : at_ ≤ bs.length ∧ n ≤ bs.length - at_
    · have := get_yes a cap (toI bs) at_ n w h.1 (fun y hy => by
        unfold toI at hy
        obtain ⟨b, hb, rfl⟩ := List.mem_map.1 hy
        have := h.2 b hb
        constructor
        · show (0 : Int) ≤ (b : Int); omega
        · show (b : Int) < 256; omega) (by rw [htl]; exact hl) (by rw [htl]; exact hn) (by rw [htl]; exact hc) hw (by rw [htl]; exact hi.1) (by rw [htl]; exact hi.2)
      rw [htl, cut_toI, leval_num] at this
      refine this.mono ?_
      rintro e w' ⟨rfl, hb⟩
      have e1 : numF bs at_ n = numOf ((bs.drop at_).take n) := by unfold numF; rw [if_pos (inB_yes hi.1 hi.2)]
      rw [e1]
      exact ⟨⟨_, rfl⟩, hb⟩
    · have := get_range a cap (toI bs) at_ n w (by rw [htl]; exact hl) ha hw (by rw [htl]; exact hi)
      rw [htl] at this
      refine this.mono ?_
      rintro e w' ⟨rfl, rfl⟩
      have e1 : numF bs at_ n = 0 := by unfold numF; rw [inB_no hi]; rfl
      rw [e1]
      exact ⟨⟨_, rfl⟩, (Below.refl _ _).alloc (Nat.le_refl _) _⟩)
  obtain ⟨R, hR⟩ : ∃ R : Int, (numF bs at_ n : Int) = R := ⟨_, rfl⟩
  obtain ⟨L, hL⟩ : ∃ L, bs.length = L := ⟨_, rfl⟩
  rw [hR, hL] at HG
  rw [hR, hL]
  clear h hl hn hc ha hw hR hL
  go_enter Tryz.func39, Tryz.ntmps39
  go_wp2_with fail
  refine HG.out.mono ?_
  rintro e w2 ⟨⟨ev, rfl⟩, hb⟩
  have B2 := Lib.hid hb
  clear hb
  go_wp2_with fail
  go_ret
  exact ⟨rfl, B2.out⟩
end Go.Proofs.YtnaejlfjlennhaaGreatDoor
/- Layer 4: tests as function values: one that tells an error unless something holds; the first of several that tells one. -/
namespace Go.Proofs.YtnaejlfjlennhaaGreatDoor
open Go.RowKit
set_option linter.unusedVariables false
set_option linter.unusedSimpArgs false

/-- what a test answers -/
def TestPost (r : Option (Nat × Nat)) (w : World) (e : Ending) (w' : World) : Prop := (∃ v, e = .returned v ∧ ErrAt w' v r) ∧ Below w.heap.size w w'
/-- a function value that is such a test, from this world on -/
structure TestV (v : Value) (w : World) (r : Option (Nat × Nat)) : Prop where
  mk ::
  is : ∃ (F : FuncId) (b c : Array Value), v = .func (.func F) b c ∧ (∀ (args : Array Value) (w : World), (callFunc F args).run Tryz.prog w = .ok (.enter F args) w) ∧ ∀ wx, Below w.heap.size w wx → Calls Tryz.prog F (b ++ c) wx (TestPost r wx)
theorem TestV.below {v : Value} {w w' : World} {r : Option (Nat × Nat)} (h : TestV v w r) (hb : Below w.heap.size w w') : TestV v w' r := by
  obtain ⟨F, b, c, e, h1, h2⟩ := h.is
  exact ⟨F, b, c, e, h1, fun wx hx => h2 wx (bstep hb hx)⟩

set_option maxRecDepth 100000 in
set_option maxHeartbeats 4000000 in
theorem hspot_any (a c : Nat) (w : World) (ha : a < 18446744073709551616) : Calls Tryz.prog 16 #[.int .u64 (a : Int), .int .i64 (c : Int)] w (TestPost (some (a, c)) w) := by
  have HP : Hid (TestPost (some (a, c)) w (.returned (.iface 68 (.pointer (some ⟨w.heap.size, 0, none⟩)))) (w.alloc (.cells #[.int .u64 (a : Int), .iface 56 (.int .i64 (c : Int))] 73))) := Lib.hid ⟨⟨_, rfl, w.heap.size, rfl, heap_alloc_new _ _⟩, (Below.refl _ _).alloc (Nat.le_refl _) _⟩
  generalize TestPost (some (a, c)) w = P at *
  go_enter Tryz.func16, Tryz.ntmps16
  go_wp2_with fail
  exact HP.out
theorem enters_unless : ∀ (args : Array Value) (w : World), (callFunc 68 args).run Tryz.prog w = .ok (.enter 68 args) w := enters_of Tryz.func68 (by kernel_rfl) rfl
set_option maxRecDepth 100000 in
set_option maxHeartbeats 4000000 in
theorem unless1_any (ok : Bool) (a c b0 b1 b2 : Nat) (w : World) (ha : a < 18446744073709551616) (h0 : w.cell? ⟨b0, 0, none⟩ = some (.bool ok)) (h1 : w.cell? ⟨b1, 0, none⟩ = some (.int .u64 (a : Int))) (h2 : w.cell? ⟨b2, 0, none⟩ = some (.int .i64 (c : Int))) :
    Calls Tryz.prog 68 #[.pointer (some ⟨b0, 0, none⟩), .pointer (some ⟨b1, 0, none⟩), .pointer (some ⟨b2, 0, none⟩)] w (TestPost (unF ok a c) w) := by
  cases ok with
  | true =>
    have HP : Hid (TestPost none w (.returned .nilIface) w) := Lib.hid ⟨⟨_, rfl, rfl⟩, Below.refl _ _⟩
    show Calls _ _ _ _ (TestPost none w)
    generalize TestPost none w = P at *
    go_enter Tryz.func68, Tryz.ntmps68
    go_wp2_with fail
    exact HP.out
  | false =>
    have HS := Lib.hid (hspot_any a c w ha)
    show Calls _ _ _ _ (TestPost (some (a, c)) w)
    have HP : Hid (∀ e w', TestPost (some (a, c)) w e w' → ∃ v, e = .returned v ∧ TestPost (some (a, c)) w (.returned v) w') := Lib.hid (fun e w' h => by
      obtain ⟨⟨v, rfl, h1⟩, h2⟩ := h
      exact ⟨v, rfl, ⟨v, rfl, h1⟩, h2⟩)
    generalize TestPost (some (a, c)) w = P at *
    go_enter Tryz.func68, Tryz.ntmps68
    go_wp2_with fail
    refine HS.out.mono ?_
    intro e w' h
    obtain ⟨v, rfl, hv⟩ := HP.out e w' h
    have HV := Lib.hid hv
    clear h hv HP HS
    go_wp2_with fail
    exact HV.out
set_option maxRecDepth 100000 in
set_option maxHeartbeats 4000000 in
theorem unless_any (ok : Bool) (a c : Nat) (w : World) (ha : a < 18446744073709551616) :
    Calls Tryz.prog 40 #[.bool ok, .int .u64 (a : Int), .int .i64 (c : Int)] w fun e w' => (∃ v, e = .returned v ∧ TestV v w' (unF ok a c)) ∧ Below w.heap.size w w' := by
  obtain ⟨w3, hw3⟩ : ∃ w3, ((w.alloc (.cells #[.bool ok] 4)).alloc (.cells #[.int .u64 (a : Int)] 24)).alloc (.cells #[.int .i64 (c : Int)] 56) = w3 := ⟨_, rfl⟩
  have B3 : Hid (Below w.heap.size w w3) := Lib.hid (by
    rw [← hw3]
    have h1 := (Below.refl w.heap.size w).alloc (Nat.le_refl _) (.cells #[.bool ok] 4)
    have h2 := h1.alloc h1.size (.cells #[.int .u64 (a : Int)] 24)
    exact h2.alloc h2.size _)
  have HT : Hid (TestV (.func (.func 68) #[] #[.pointer (some ⟨w.heap.size, 0, none⟩), .pointer (some ⟨w.heap.size + 1, 0, none⟩), .pointer (some ⟨w.heap.size + 2, 0, none⟩)]) w3 (unF ok a c)) := Lib.hid ⟨_, _, _, rfl, enters_unless, fun wx hb => by
    have k0 : w3.heap[w.heap.size]? = some (.cells #[.bool ok] 4) := by
      rw [← hw3, heap_alloc_old _ _ (by simp; omega), heap_alloc_old _ _ (by simp)]
      exact heap_alloc_new _ _
    have k1 : w3.heap[w.heap.size + 1]? = some (.cells #[.int .u64 (a : Int)] 24) := by
      rw [← hw3, heap_alloc_old _ _ (by simp)]
      have := heap_alloc_new (w.alloc (.cells #[.bool ok] 4)) (.cells #[.int .u64 (a : Int)] 24)
      rwa [World.size_alloc] at this
    have k2 : w3.heap[w.heap.size + 2]? = some (.cells #[.int .i64 (c : Int)] 56) := by
      rw [← hw3]
      have := heap_alloc_new ((w.alloc (.cells #[.bool ok] 4)).alloc (.cells #[.int .u64 (a : Int)] 24)) (.cells #[.int .i64 (c : Int)] 56)
      rwa [World.size_alloc, World.size_alloc] at this
    have k0' := (hb.block _ (lt_of_block k0)).trans k0
    have k1' := (hb.block _ (lt_of_block k1)).trans k1
    have k2' := (hb.block _ (lt_of_block k2)).trans k2
    exact unless1_any ok a c _ _ _ wx ha (by rw [cell_of_row _ _ 0 _ _ _ k0']; rfl) (by rw [cell_of_row _ _ 0 _ _ _ k1']; rfl) (by rw [cell_of_row _ _ 0 _ _ _ k2']; rfl)⟩
  have HW3 := Lib.hid hw3
  clear hw3
  go_enter Tryz.func40, Tryz.ntmps40
  go_wp2_with fail
  rw [HW3.out]
  go_ret
  exact ⟨⟨_, rfl, HT.out⟩, B3.out⟩

theorem firstF_at : ∀ (rs : List (Option (Nat × Nat))) (k : Nat) (x : Nat × Nat), (∀ j, j < k → rs[j]? = some none) → rs[k]? = some (some x) → firstF rs = some x
  | [], k, x, _, h => by simp at h
  | none :: rs, 0, x, _, h => by simp at h
  | none :: rs, k + 1, x, h1, h2 => firstF_at rs k x (fun j hj => by have := h1 (j + 1) (by omega); simpa using this) (by simpa using h2)
  | some y :: rs, 0, x, _, h => by simpa [firstF] using h
  | some y :: rs, k + 1, x, h1, h2 => by have := h1 0 (by omega); simp at this
theorem firstF_none : ∀ (rs : List (Option (Nat × Nat))), (∀ j, j < rs.length → rs[j]? = some none) → firstF rs = none
  | [], _ => rfl
  | none :: rs, h => firstF_none rs (fun j hj => by have := h (j + 1) (by simpa using hj); simpa using this)
  | some y :: rs, h => by have := h 0 (by simp); simp at this

set_option maxRecDepth 100000 in
set_option maxHeartbeats 8000000 in
theorem first_any (sb n cap : Nat) (vs : List Value) (rs : List (Option (Nat × Nat))) (w : World) (hv : vs.length = n) (hr : rs.length = n) (hnl : n ≤ 1048576) (hsb : sb < w.heap.size) (hc : ∀ (i : Nat) (v : Value), vs[i]? = some v → w.cell? ⟨sb, i, none⟩ = some v)
    (hT : ∀ (i : Nat) (v : Value) (r : Option (Nat × Nat)), vs[i]? = some v → rs[i]? = some r → TestV v w r) :
    Calls Tryz.prog 17 #[.slice (some ⟨sb, 0, none⟩) n cap] w (TestPost (firstF rs) w) := by
  have HC := Lib.hid hc
  have HT := Lib.hid hT
  have HL := Lib.hid (And.intro hv (And.intro hr hsb))
  have HPN : Hid (∀ w', (∀ j, j < n → rs[j]? = some none) → Below w.heap.size w w' → TestPost (firstF rs) w (.returned .nilIface) w') := Lib.hid (fun w' h hb => by
    rw [firstF_none rs (fun j hj => h j (by omega))]
    exact ⟨⟨_, rfl, rfl⟩, hb⟩)
  have HPS : Hid (∀ w' k x v, (∀ j, j < k → rs[j]? = some none) → rs[k]? = some (some x) → ErrAt w' v (some x) → Below w.heap.size w w' → TestPost (firstF rs) w (.returned v) w') := Lib.hid (fun w' k x v h h2 h3 hb => by
    rw [firstF_at rs k x h h2]
    exact ⟨⟨_, rfl, h3⟩, hb⟩)
  generalize TestPost (firstF rs) w = P at *
  have hnn : (n : Int) ≤ 1048576 := by omega
  clear hc hT hv hr hsb hnl
  go_enter Tryz.func17, Tryz.ntmps17
  go_wp2_with fail
  go_loopg [8] n (fun g iv wr => ∃ k : Nat, k + g = n ∧ iv = .int .i64 (k : Int) ∧ Hid (∀ j, j < k → rs[j]? = some none) ∧ Hid (Below w.heap.size w wr))
  case atStart => exact ⟨0, by omega, rfl, Lib.hid (fun j hj => by omega), Lib.hid (Below.refl _ _)⟩
  case round =>
    obtain ⟨k, hk, rfl, HJ, HB⟩ := hrel
    cases gk with
    | zero =>
      have hkn : k = n := by omega
      subst hkn
      clear hk
      go_wp2_with fail
      exact HPN.out _ HJ.out HB.out
    | succ g =>
      have hlt : k < n := by omega
      obtain ⟨v, hv⟩ : ∃ v, vs[k]? = some v := ⟨_, List.getElem?_eq_getElem (by have := HL.out.1; omega)⟩
      obtain ⟨r, hr⟩ : ∃ r, rs[k]? = some r := ⟨_, List.getElem?_eq_getElem (by have := HL.out.2.1; omega)⟩
      have c0 : wr.cell? ⟨sb, k, none⟩ = some v := (HB.out.cell (p := ⟨sb, k, none⟩) HL.out.2.2).trans (HC.out k v hv)
      obtain ⟨F, b, c, rfl, hen, hcall⟩ := (HT.out k v r hv hr).is
      have HCL := Lib.hid (hcall wr HB.out)
      have HR := Lib.hid hr
      have HK := Lib.hid hk
      have i0 : (0 : Int) ≤ (k : Int) := by omega
      have i1 : (k : Int) < (n : Int) := by omega
      clear hk hv hr hcall
      go_wp2_with fail
      refine HCL.out.mono ?_
      rintro e w2 ⟨⟨u, rfl, hu⟩, hb2⟩
      have B2 := Lib.hid (bstep HB.out hb2)
      clear hb2
      cases r with
      | none =>
        obtain rfl : u = _ := hu
        have HJ2 : Hid (∀ j, j < k + 1 → rs[j]? = some none) := Lib.hid (fun j hj => by
          by_cases h : j < k
          · exact HJ.out j h
          · obtain rfl : j = k := by omega
            exact HR.out)
        clear c0 HCL hen
        go_wp2_with fail
        go_roundg g
        case measure => have := HK.out; omega
        case rel => exact ⟨k + 1, by have := HK.out; omega, by go_num, HJ2, B2⟩
      | some x =>
        have HU := Lib.hid hu
        obtain ⟨sb2, rfl, -⟩ := hu
        clear c0 HCL hen
        go_wp2_with fail
        exact HPS.out _ k x _ HJ.out HR.out HU.out B2.out
end Go.Proofs.YtnaejlfjlennhaaGreatDoor
/- Layer 4: has a program header one of some types? do bytes lie within the file? -/
namespace Go.Proofs.YtnaejlfjlennhaaGreatDoor
open Go.RowKit
set_option linter.unusedVariables false
set_option linter.unusedSimpArgs false

def PT.hv (p : PT) : Value := .agg p.cells.toArray
/-- the reader in memory -/
structure HRd where
  rb : Nat
  kind : Int
  entry : Nat
  begin_ : Nat
  count : Nat
  a : Option Addr
  m : Nat
  cap : Nat
  pa : Option Addr
  pn : Nat
  pc : Nat
def HRd.cells (r : HRd) : Array Value := #[.int .i64 r.kind, .int .u64 (r.entry : Int), .int .u64 (r.begin_ : Int), .int .u64 (r.count : Int), .slice r.a r.m r.cap, .slice r.pa r.pn r.pc]
def HRd.at (r : HRd) (w : World) : Prop := w.heap[r.rb]? = some (.cells r.cells 80)
theorem HRd.at.below {r : HRd} {w w' : World} (h : r.at w) (hb : Below w.heap.size w w') : r.at w' := (hb.block _ (lt_of_block h)).trans h
theorem HRd.at.get {r : HRd} {w : World} (h : r.at w) (j : Nat) : w.cell? ⟨r.rb, j, none⟩ = r.cells[j]? := by rw [cell_of_row _ _ j _ _ _ h]

set_option maxRecDepth 100000 in
set_option maxHeartbeats 4000000 in
theorem hwithin_any (r : HRd) (off n : Nat) (w : World) (h : r.at w) (hm : r.m < 9223372036854775808) (h1 : off < 18446744073709551616) (h2 : n < 18446744073709551616) :
    Calls Tryz.prog 41 #[.pointer (some ⟨r.rb, 0, none⟩), .int .u64 (off : Int), .int .u64 (n : Int)] w fun e w' => e = .returned (.bool (inB r.m off n)) ∧ w = w' := by
  have c4 : w.cell? ⟨r.rb, 4, none⟩ = some (.slice r.a r.m r.cap) := by rw [h.get]; rfl
  have HI := Lib.hid (in_any r.m off n w (by omega) h1 h2)
  have hw : IntKind.u64.wrap (r.m : Int) = (r.m : Int) := by simp [IntKind.wrap, IntKind.signed, IntKind.bits]; omega
  generalize inB r.m off n = R at *
  clear h h1 h2 hm
  obtain ⟨rb, k0, k1, k2, k3, a, m, cap, pa, pn, pc⟩ := r
  simp only [] at *
  go_enter Tryz.func41, Tryz.ntmps41
  go_wp2_with fail
  refine HI.out.mono ?_
  rintro e w' ⟨rfl, rfl⟩
  go_wp2_with fail
  go_ret
  exact ⟨rfl, rfl⟩

/-- numbers of 32 bits as they stand in memory -/
def URow (w : World) (sb : Nat) (l : List Nat) : Prop := sb < w.heap.size ∧ ∀ i, (h : i < l.length) → w.cell? ⟨sb, i, none⟩ = some (.int .u32 ((l[i] : Nat) : Int))
theorem URow.below {w w' : World} {sb : Nat} {l : List Nat} (h : URow w sb l) (hb : Below w.heap.size w w') : URow w' sb l := ⟨Nat.lt_of_lt_of_le h.1 hb.size, fun i hi => (hb.cell (p := ⟨sb, i, none⟩) h.1).trans (h.2 i hi)⟩
theorem URow.lit (w : World) (l : List Nat) (cs : Array Value) (hcs : cs.toList = l.map fun x => Value.int .u32 ((x : Nat) : Int)) (T : TypeId) : URow (w.alloc (.cells cs T)) w.heap.size l := by
  refine ⟨by simp, fun i hi => ?_⟩
  rw [World.cell?_alloc_new]
  have : cs[i]? = cs.toList[i]? := by simp
  rw [this, hcs, List.getElem?_map, List.getElem?_eq_getElem hi]
  rfl
theorem uidx_find {l : List Nat} {x k : Nat} (hj : ∀ j, (h : j < l.length) → j < k → l[j] ≠ x) (hk : ∀ h : k < l.length, l[k] = x) (hkl : k ≤ l.length) : (0 ≤ (if k < l.length then (k : Int) else -1)) ↔ l.contains x = true := by
  rw [List.contains_iff_mem]
  split
  · rename_i h
    constructor
    · intro _
      rw [← hk h]
      exact List.getElem_mem h
    · intro _
      omega
  · constructor
    · intro h
      omega
    · intro hm
      obtain ⟨i, hi, e⟩ := List.getElem_of_mem hm
      exact absurd e (hj i hi (by omega))
set_option maxRecDepth 100000 in
set_option maxHeartbeats 8000000 in
theorem uindex_any (sb n cap x : Nat) (l : List Nat) (w : World) (h : URow w sb l) (hn : l.length = n) (hnl : n ≤ 1048576) :
    Calls Tryz.prog 113 #[.slice (some ⟨sb, 0, none⟩) n cap, .int .u32 (x : Int)] w fun e w' => (∃ z : Int, e = .returned (.int .i64 z) ∧ (0 ≤ z ↔ l.contains x = true)) ∧ w = w' := by
  have HR := Lib.hid h.2
  have HN := Lib.hid hn
  have hnn : (n : Int) ≤ 1048576 := by omega
  clear h hn hnl
  go_enter Tryz.func113, Tryz.ntmps113
  go_wp2_with fail
  go_loopg [8] n (fun g iv wr => ∃ k : Nat, k + g = n ∧ iv = .int .i64 (k : Int) ∧ Hid (∀ j, (h : j < l.length) → j < k → l[j] ≠ x) ∧ w = wr)
  case atStart => exact ⟨0, by omega, rfl, Lib.hid (fun j _ h => by omega), rfl⟩
  case round =>
    obtain ⟨k, hk, rfl, HJ, rfl⟩ := hrel
    cases gk with
    | zero =>
      have hkn : k = n := by omega
      subst hkn
      clear hk
      go_wp2_with fail
      go_ret
      have := uidx_find (l := l) (x := x) (k := k) HJ.out (fun h => by have := HN.out; omega) (by have := HN.out; omega)
      rw [if_neg (by have := HN.out; omega)] at this
      exact ⟨⟨_, rfl, this⟩, rfl⟩
    | succ g =>
      have hkl : k < l.length := by have := HN.out; omega
      have c0 := HR.out k hkl
      obtain ⟨y, hy⟩ : ∃ y, (l[k]'hkl) = y := ⟨_, rfl⟩
      rw [hy] at c0
      have HY : Hid (∀ h : k < l.length, l[k] = y) := Lib.hid (fun _ => hy)
      have HK := Lib.hid (And.intro hk hkl)
      have i0 : (0 : Int) ≤ (k : Int) := by omega
      have i1 : (k : Int) < (n : Int) := by omega
      clear hk hy hkl
      by_cases hxy : y = x
      · subst hxy
        have te : ((y : Int) == (y : Int)) = true := by simp
        go_wp2_with fail
        go_ret
        have hkl := HK.out.2
        have := uidx_find (l := l) (x := y) (k := k) HJ.out HY.out (by omega)
        rw [if_pos hkl] at this
        exact ⟨⟨_, rfl, this⟩, rfl⟩
      · have te : ((x : Int) == (y : Int)) = false := by rw [beq_eq_false_iff_ne]; omega
        have HNX := Lib.hid hxy
        clear hxy
        go_wp2_with fail
        go_roundg g
        case measure => have := HK.out; omega
        case rel => exact ⟨k + 1, by have := HK.out; omega, by go_num, Lib.hid (fun j hj hjk => by
          by_cases h : j < k
          · exact HJ.out j hj h
          · obtain rfl : j = k := by omega
            rw [HY.out hj]
            exact HNX.out), rfl⟩
set_option maxRecDepth 100000 in
set_option maxHeartbeats 4000000 in
theorem ucontains_any (sb n cap x : Nat) (l : List Nat) (w : World) (h : URow w sb l) (hn : l.length = n) (hnl : n ≤ 1048576) :
    Calls Tryz.prog 99 #[.slice (some ⟨sb, 0, none⟩) n cap, .int .u32 (x : Int)] w fun e w' => e = .returned (.bool (l.contains x)) ∧ w = w' := by
  have HI := Lib.hid (uindex_any sb n cap x l w h hn hnl)
  obtain ⟨R, hR⟩ : ∃ R, l.contains x = R := ⟨_, rfl⟩
  rw [hR] at HI ⊢
  clear h hn hnl hR
  go_enter Tryz.func99, Tryz.ntmps99
  go_wp2_with fail
  refine HI.out.mono ?_
  rintro e w' ⟨⟨z, rfl, hz⟩, rfl⟩
  have t1 : decide ((0 : Int) ≤ z) = R := by
    cases R with
    | true => exact decide_eq_true (hz.2 rfl)
    | false => exact decide_eq_false (fun h => by have := hz.1 h; cases this)
  clear hz
  go_wp2_with fail
  go_ret
  exact ⟨by rw [← t1]; try rfl, rfl⟩
set_option maxRecDepth 100000 in
set_option maxHeartbeats 4000000 in
theorem is_any (p : PT) (sb n cap : Nat) (l : List Nat) (w : World) (h : URow w sb l) (hn : l.length = n) (hnl : n ≤ 1048576) :
    Calls Tryz.prog 71 #[p.hv, .slice (some ⟨sb, 0, none⟩) n cap] w fun e w' => e = .returned (.bool (isOf p l)) ∧ Below w.heap.size w w' := by
  have HC : Hid (∀ wx, Below w.heap.size w wx → Calls Tryz.prog 99 #[.slice (some ⟨sb, 0, none⟩) n cap, .int .u32 (p.ty : Int)] wx fun e w' => e = .returned (.bool (isOf p l)) ∧ wx = w') := Lib.hid (fun wx hb => ucontains_any sb n cap p.ty l wx (h.below hb) hn hnl)
  obtain ⟨R, hR⟩ : ∃ R, isOf p l = R := ⟨_, rfl⟩
  rw [hR] at HC ⊢
  have B1 : Hid (Below w.heap.size w (w.alloc (.cells p.cells.toArray 54))) := Lib.hid ((Below.refl _ _).alloc (Nat.le_refl _) _)
  clear hR h hn hnl
  obtain ⟨a0, a1, a2, a3, a4, a5, a6⟩ := p
  unfold PT.hv
  unfold PT.cells at *
  simp only [] at *
  go_enter Tryz.func71, Tryz.ntmps71
  go_wp2_with fail
  refine (HC.out _ B1.out).mono ?_
  rintro e w' ⟨rfl, rfl⟩
  go_wp2_with fail
  go_ret
  exact ⟨rfl, B1.out⟩
end Go.Proofs.YtnaejlfjlennhaaGreatDoor
/- Layer 4: program headers, the last one first, as an iterator tells them (slices.Backward). -/
namespace Go.Proofs.YtnaejlfjlennhaaGreatDoor
open Go.RowKit
set_option linter.unusedVariables false
set_option linter.unusedSimpArgs false

attribute [local go_sem] Oper.semAt_some

def backE (x : Int × PT) : Array Value := #[.int .i64 x.1, .agg #[.int .u32 x.2.ty, .int .u32 x.2.flags, .int .u64 x.2.off, .int .u64 x.2.vaddr, .int .u64 x.2.filesz, .int .u64 x.2.memsz, .int .u64 x.2.align]]
/-- what has come when k rounds are over -/
def backL (ps : List PT) (k : Nat) : List (Int × PT) := (List.range k).map fun (j : Nat) => (((ps.length : Int) - 1 - (j : Int) : Int), ps.getD (ps.length - 1 - j) PT.zero)
theorem backL_succ (ps : List PT) (k : Nat) : backL ps (k + 1) = backL ps k ++ [(((ps.length : Int) - 1 - k), ps.getD (ps.length - 1 - k) PT.zero)] := by simp [backL, List.range_succ]
theorem backL_length (ps : List PT) (k : Nat) : (backL ps k).length = k := by simp [backL]

set_option maxRecDepth 100000 in
set_option maxHeartbeats 4000000 in
theorem back1_in (F : Fence) (m : Nat) (hf : F.fn 102) (hro : F.round = none) (hm : 1 ≤ m) (l Bs n0 b off n cap : Nat) (ps : List PT) (hn : ps.length = n) (hnl : n ≤ 140737488351232) (hb : b < n0) (J Jx : List (Int × PT) → World → Prop)
    (hY : ∀ pre x W, J pre W → pre.length < n → YieldAt F (m - 1) Tryz.prog l (backE x) W fun e W' =>
      (e = .returned (.bool true) ∧ J (pre ++ [x]) W' ∧ Below n0 W W') ∨ (e = .returned (.bool false) ∧ Jx (pre ++ [x]) W'))
    (W : World) (hBs : W.cell? ⟨Bs, 0, none⟩ = some (.slice (some ⟨b, off, none⟩) n cap)) (hBl : Bs < n0) (hc : ∀ i, (hi : i < ps.length) → ∀ j, j < 7 → W.cell? ⟨b, off + i * 7 + j, none⟩ = ps[i].cells[j]?) (h0 : J [] W) :
    CallsIn F m Tryz.prog 102 #[.func (.yield l) #[] #[], .pointer (some ⟨Bs, 0, none⟩)] W fun e W' => (∃ v, e = .returned v) ∧
      ((∃ ys, ys = backL ps n ∧ J ys W') ∨ (∃ pre, (∃ k, k ≤ n ∧ pre = backL ps k) ∧ Jx pre W')) := by
  have HC := Lib.hid hc
  have HNL := Lib.hid (And.intro hn hnl)
  have e1 : IntKind.i64.wrap ((n : Int) - 1) = (n : Int) - 1 := by rw [IntKind.wrap_i64]; omega
  clear hc
  refine callsIn_of_wp Tryz.func102 rfl hf ?_ hro
  simp only [Tryz.ntmps102, List.size_toArray, List.length_cons, List.length_nil, Nat.reduceAdd, Nat.reduceSub, Array.replicate_succ, Array.replicate_zero, List.push_toArray, List.append_toArray, List.nil_append, List.cons_append]
  gi_wp2
  gi_loopw [3] (fun i wr => ∃ k : Nat, k ≤ n ∧ i = .int .i64 ((n : Int) - 1 - k) ∧ J (backL ps k) wr ∧ Below n0 W wr)
    (fun i _ => (intOf i + 1).toNat)
  case atStart => exact ⟨0, Nat.zero_le _, by congr 1; omega, h0, Below.refl _ _⟩
  case round =>
    obtain ⟨k, hk, rfl, hJs, hnx⟩ := hrel
    by_cases hlt : k < n
    · obtain ⟨fn, tmps, assign, body, hy, hR⟩ := hY _ ((((ps.length : Int) - 1 - k), ps.getD (ps.length - 1 - k) PT.zero)) wr hJs (by rw [backL_length]; exact hlt)
      have hi : n - 1 - k < ps.length := by omega
      have hcx := fun j hj => (hnx.cell (p := ⟨b, off + (n - 1 - k) * 7 + j, none⟩) hb).trans (HC.out (n - 1 - k) hi j hj)
      have hp : ps.getD (ps.length - 1 - k) PT.zero = ps[n - 1 - k] := by simp only [hn]; simp [List.getD, hi]
      rw [hp, hn] at hy
      have HSU : Hid (∀ W3, J (backL ps k ++ [(((n : Int) - 1 - k), ps[n - 1 - k])]) W3 → J (backL ps (k + 1)) W3) := Lib.hid (fun W3 h => by rw [backL_succ, hp, hn]; exact h)
      have HSX : Hid (∀ W3, Jx (backL ps k ++ [(((n : Int) - 1 - k), ps[n - 1 - k])]) W3 → Jx (backL ps (k + 1)) W3) := Lib.hid (fun W3 h => by rw [backL_succ, hp, hn]; exact h)
      rw [hp, hn] at hR
      obtain ⟨i, hie⟩ : ∃ i : Nat, n - 1 - k = i := ⟨_, rfl⟩
      have hii : (n : Int) - 1 - k = (i : Int) := by omega
      have hs := (hnx.cell (p := ⟨Bs, 0, none⟩) hBl).trans hBs
      simp only [hie] at hcx hy hR HSU HSX
      rw [hii] at hy hR HSU HSX ⊢
      generalize ps[i] = p at *
      obtain ⟨a0, a1, a2, a3, a4, a5, a6⟩ := p
      have c0 := hcx 0 (by omega)
      have c1 := hcx 1 (by omega)
      have c2 := hcx 2 (by omega)
      have c3 := hcx 3 (by omega)
      have c4 := hcx 4 (by omega)
      have c5 := hcx 5 (by omega)
      have c6 := hcx 6 (by omega)
      simp only [PT.cells, List.getElem?_cons_zero, List.getElem?_cons_succ, Nat.add_zero] at c0 c1 c2 c3 c4 c5 c6
      have i0 : (0 : Int) ≤ (i : Int) := by omega
      have i1 : (i : Int) < (n : Int) := by omega
      have e2 : IntKind.i64.wrap ((i : Int) - 1) = (i : Int) - 1 := by rw [IntKind.wrap_i64]; omega
      have e3 : wrap64 ((i : Int) - 1) = (i : Int) - 1 := IntWalk.wrap64_in _ ⟨by omega, by omega⟩
      unfold backE at hy
      dsimp only at hy
      clear hcx hp HC hi
      gi_wp2
      refine hR.mono ?_
      rintro e W3 (⟨rfl, hJ3, hk3⟩ | ⟨rfl, hJx3⟩)
      · gi_wp2
        go_roundw
        case rel => exact ⟨k + 1, by omega, by first | rfl | (congr 1; omega) | (rw [e3]; congr 1; omega), HSU.out _ hJ3, hnx.trans hk3⟩
        case measure => (simp [intOf]; try omega)
      · gi_wp2
        refine bodyPost_ret (results_none rfl _ _ _) rfl ?_
        exact ⟨⟨_, rfl⟩, .inr ⟨_, ⟨k + 1, by omega, rfl⟩, HSX.out _ hJx3⟩⟩
    · obtain rfl : k = n := by omega
      have h1 : ¬ (0 : Int) ≤ (k : Int) - 1 - (k : Int) := by omega
      gi_wp2
      go_end0
      first | exact ⟨⟨_, rfl⟩, .inl hJs⟩ | exact ⟨⟨_, rfl⟩, .inl ⟨_, rfl, hJs⟩⟩
end Go.Proofs.YtnaejlfjlennhaaGreatDoor
/- Layer 4: the PtLoad that was read last. -/
namespace Go.Proofs.YtnaejlfjlennhaaGreatDoor
open Go.RowKit
set_option linter.unusedVariables false
set_option linter.unusedSimpArgs false

attribute [local go_sem] Oper.semAt_some

def zProg : Array Value := #[.int .u32 0, .int .u32 0, .int .u64 0, .int .u64 0, .int .u64 0, .int .u64 0, .int .u64 0]
theorem row_own {β : Type} (B : Nat) (t : TypeId) (f : β → Array Value) : Own (fun s W => W.heap[B]? = some (.cells (f s) t)) := fun s X Y row hs hg hrow => by
  have hs' : X.heap[B]? = some (.cells (f s) t) := hs
  have hlt := lt_of_block hs'
  show Y.heap[B]? = _
  rw [hg.block B hlt (fun e' => by obtain ⟨o, ho, hc⟩ := hrow B e'.symm; rw [hs'] at ho; cases ho; cases hc)]
  exact hs'
/-- the first PtLoad of what has come -/
def foundF (l : List (Int × PT)) : Option PT := (l.find? fun x => decide (x.2.ty = 1)).map (·.2)
theorem foundF_snoc (l : List (Int × PT)) (x : Int × PT) (h : foundF l = none) : foundF (l ++ [x]) = if x.2.ty = 1 then some x.2 else none := by
  unfold foundF at *
  rw [List.find?_append]
  rw [Option.map_eq_none_iff] at h
  rw [h]
  by_cases hx : x.2.ty = 1
  · simp [hx]
  · simp [hx]
theorem lastF_snoc (ps : List PT) (p : PT) : lastF (ps ++ [p]) = if p.ty = 1 then some p else lastF ps := by
  induction ps with
  | nil => simp [lastF]
  | cons q ps ih =>
    simp only [List.cons_append, lastF, ih]
    by_cases h : p.ty = 1
    · simp [h]
    · simp [h]
theorem found_last (ps : List PT) : ∀ k, k ≤ ps.length → (lastF (ps.drop (ps.length - k)) = foundF (backL ps k))
  | 0, _ => by simp [backL, foundF, lastF]
  | k + 1, h => by
    have ih := found_last ps k (by omega)
    have hi : ps.length - (k + 1) < ps.length := by omega
    rw [List.drop_eq_getElem_cons hi, show ps.length - (k + 1) + 1 = ps.length - k by omega, backL_succ]
    simp only [lastF, ih]
    have hp : ps.getD (ps.length - 1 - k) PT.zero = ps[ps.length - (k + 1)] := by
      rw [show ps.length - 1 - k = ps.length - (k + 1) by omega]
      simp [List.getD, hi]
    rw [hp]
    cases hf : foundF (backL ps k) with
    | some q =>
      unfold foundF at hf ⊢
      rw [List.find?_append]
      rw [Option.map_eq_some_iff] at hf
      obtain ⟨x, hx, hq⟩ := hf
      rw [hx]
      simp [hq]
    | none =>
      rw [foundF_snoc _ _ hf]
theorem found_all (ps : List PT) : foundF (backL ps ps.length) = lastF ps := by
  have := found_last ps ps.length (Nat.le_refl _)
  rw [Nat.sub_self, List.drop_zero] at this
  exact this.symm
theorem back_stops (F : Fence) (m : Nat) (hf : F.fn 102) (hro : F.round = none) (hm : 1 ≤ m) (Bs n0 n cap : Nat) (pa : Option Addr) (ps : List PT) (hn : ps.length = n) (hnl : n ≤ 140737488351232) (w : World) (hw : n0 ≤ w.heap.size) (hBl : Bs < w.heap.size) (hBs : w.cell? ⟨Bs, 0, none⟩ = some (.slice pa n cap))
    (hc : ∀ i, (hi : i < ps.length) → ∃ b off, pa = some ⟨b, off, none⟩ ∧ b < n0 ∧ ∀ j, j < 7 → w.cell? ⟨b, off + i * 7 + j, none⟩ = ps[i].cells[j]?) (hB0 : Bs < n0) :
    SeqStopsK F m Tryz.prog 102 #[.pointer (some ⟨Bs, 0, none⟩)] backE (Below n0) (fun ys => ys = backL ps n) (fun pre => ∃ k, k ≤ n ∧ pre = backL ps k) n w := fun l J Jx W hW _ _ hY h0 => by
  have hBs' := (hW.cell (p := ⟨Bs, 0, none⟩) hBl).trans hBs
  by_cases hz : n = 0
  · subst hz
    refine (show CallsIn F m Tryz.prog _ _ _ fun e W' => (∃ v, e = .returned v) ∧ J [] W' from ?_).mono ?_
    · have e1 : IntKind.i64.wrap (-1) = -1 := by decide
      refine callsIn_of_wp Tryz.func102 rfl hf ?_ hro
      simp only [Tryz.ntmps102, List.size_toArray, List.length_cons, List.length_nil, Nat.reduceAdd, Nat.reduceSub, Array.replicate_succ, Array.replicate_zero, List.push_toArray, List.append_toArray, List.nil_append, List.cons_append]
      gi_wp2
      gi_loopw [3] (fun i wr => i = .int .i64 (-1) ∧ J [] wr) (fun _ _ => 0)
      case atStart => exact ⟨rfl, h0⟩
      case round =>
        obtain ⟨rfl, hJs⟩ := hrel
        gi_wp2
        go_end0
        exact ⟨⟨_, rfl⟩, hJs⟩
    · intro e W' h
      exact ⟨h.1, .inl ⟨_, rfl, by simpa [backL] using h.2⟩⟩
  · obtain ⟨b, off, rfl, hb, -⟩ := hc 0 (by omega)
    refine (back1_in F m hf hro hm l Bs n0 b off n cap ps hn hnl hb J Jx hY W hBs' hB0 (fun i hi j hj => ?_) h0).mono ?_
    · obtain ⟨b', off', e, hb', hcs⟩ := hc i hi
      simp only [Option.some.injEq, Addr.mk.injEq, and_true] at e
      obtain ⟨rfl, rfl⟩ := e
      exact ((hW.mono hw).cell (p := ⟨b, off + i * 7 + j, none⟩) hb).trans (hcs j hj)
    · intro e W' h
      exact h
theorem seven_stores {w : World} {b : Nat} {T : TypeId} {u0 u1 u2 u3 u4 u5 u6 : Value} (E : w.heap[b]? = some (.cells #[u0, u1, u2, u3, u4, u5, u6] T)) (v0 v1 v2 v3 v4 v5 v6 : Value) :
    (((((((w.setCell ⟨b, 0, none⟩ v0).setCell ⟨b, 1, none⟩ v1).setCell ⟨b, 2, none⟩ v2).setCell ⟨b, 3, none⟩ v3).setCell ⟨b, 4, none⟩ v4).setCell ⟨b, 5, none⟩ v5).setCell ⟨b, 6, none⟩ v6) = w.setRow b #[v0, v1, v2, v3, v4, v5, v6] := by
  have step : ∀ (cs : Array Value) (i : Nat) (v : Value), (w.setRow b cs).setCell ⟨b, i, none⟩ v = w.setRow b (cs.setIfInBounds i v) := fun cs i v => by
    rw [setCell_eq_setRow _ _ _ _ _ _ _ (setRow_heap w b _ cs T (0, 0) E), setRow_setRow]
  rw [setCell_eq_setRow w b 0 _ _ _ _ E, step, step, step, step, step, step]
  simp only [List.setIfInBounds_toArray, List.set_cons_zero, List.set_cons_succ]
set_option maxRecDepth 100000 in
set_option maxHeartbeats 4000000 in
theorem backward_any (a : Option Addr) (n cap : Nat) (w : World) : Calls Tryz.prog 79 #[.slice a n cap] w fun e w' => e = .returned (.func (.func 102) #[] #[.pointer (some ⟨w.heap.size, 0, none⟩)]) ∧ w' = w.alloc (.cells #[.slice a n cap] 25) := by
  go_enter Tryz.func79, Tryz.ntmps79
  go_wp2_with fail
  go_ret
  exact ⟨rfl, rfl⟩
set_option maxRecDepth 100000 in
set_option maxHeartbeats 4000000 in
theorem backward_in (m : Nat) (a : Option Addr) (n cap : Nat) (w : World) : CallsIn Fence.wide m Tryz.prog 79 #[.slice a n cap] w fun e w' => e = .returned (.func (.func 102) #[] #[.pointer (some ⟨w.heap.size, 0, none⟩)]) ∧ w' = w.alloc (.cells #[.slice a n cap] 25) := by
  refine callsIn_of_wp Tryz.func79 rfl trivial ?_ rfl
  simp only [Tryz.ntmps79, List.size_toArray, List.length_cons, List.length_nil, Nat.reduceAdd, Nat.reduceSub, Array.replicate_succ, Array.replicate_zero, List.push_toArray, List.append_toArray, List.nil_append, List.cons_append]
  gi_wp2
  go_ret
  exact ⟨rfl, rfl⟩
/-- the box of a result -/
theorem out_cells {w : World} {b : Nat} {a0 a1 a2 a3 a4 a5 a6 : Value} {T : TypeId} (h : w.heap[b]? = some (.cells #[a0, a1, a2, a3, a4, a5, a6] T)) : w.cell? ⟨b, 0, none⟩ = some a0 ∧ w.cell? ⟨b, 1, none⟩ = some a1 ∧ w.cell? ⟨b, 2, none⟩ = some a2 ∧ w.cell? ⟨b, 3, none⟩ = some a3 ∧ w.cell? ⟨b, 4, none⟩ = some a4 ∧ w.cell? ⟨b, 5, none⟩ = some a5 ∧ w.cell? ⟨b, 6, none⟩ = some a6 := by
  refine ⟨?_, ?_, ?_, ?_, ?_, ?_, ?_⟩ <;> (rw [cell_of_row _ _ _ _ _ _ h]; rfl)
set_option maxRecDepth 100000 in
set_option maxHeartbeats 8000000 in
theorem lastload_in (m : Nat) (hm : 4 ≤ m) (r : HRd) (ps : List PT) (w : World) (h : r.at w) (hp : PRow w r.pa ps) (hn : ps.length = r.pn) (hnl : r.pn ≤ 140737488351232) :
    CallsIn Fence.wide m Tryz.prog 47 #[.pointer (some ⟨r.rb, 0, none⟩)] w fun e W' => e = .returned (.tuple #[((lastF ps).getD PT.zero).hv, .bool (lastF ps).isSome]) ∧ Below w.heap.size w W' := by
  have h1 : 1 ≤ m := by omega
  obtain ⟨rb, k0, k1, k2, k3, ra, rm, rcap, pa, n, pc⟩ := r
  have hc5 : w.cell? ⟨rb, 5, none⟩ = some (.slice pa n pc) := by rw [h.get]; rfl
  have hrb : rb < w.heap.size := lt_of_block h
  simp only [] at hn hnl hp ⊢
  obtain ⟨w1, hw1⟩ : ∃ w1, (w.alloc (.cells zProg 54)).alloc (.cells #[.bool false] 4) = w1 := ⟨_, rfl⟩
  obtain ⟨B, hB⟩ : ∃ B, w.heap.size = B := ⟨_, rfl⟩
  have hs1 : w1.heap.size = B + 2 := by rw [← hw1, ← hB]; simp
  have hb1 : Below w.heap.size w w1 := by
    rw [← hw1]
    have h1 := (Below.refl w.heap.size w).alloc (Nat.le_refl _) (.cells zProg 54)
    exact h1.alloc h1.size _
  have x1 : w1.heap[B]? = some (.cells zProg 54) := by
    rw [← hw1, ← hB, heap_alloc_old _ _ (by simp)]
    exact heap_alloc_new _ _
  have y1 : w1.heap[B + 1]? = some (.cells #[.bool false] 4) := by
    rw [← hw1, ← hB]
    have := heap_alloc_new (w.alloc (.cells zProg 54)) (.cells #[.bool false] 4)
    rwa [World.size_alloc] at this
  obtain ⟨w2, hw2⟩ : ∃ w2, w1.alloc (.cells #[.slice pa n pc] 25) = w2 := ⟨_, rfl⟩
  have hs2 : w2.heap.size = B + 3 := by rw [← hw2]; simp [hs1]
  have hb2 : Below w.heap.size w w2 := by rw [← hw2]; exact hb1.alloc hb1.size _
  have x2 : w2.heap[B]? = some (.cells zProg 54) := by rw [← hw2, heap_alloc_old _ _ (lt_of_block x1)]; exact x1
  have y2 : w2.heap[B + 1]? = some (.cells #[.bool false] 4) := by rw [← hw2, heap_alloc_old _ _ (lt_of_block y1)]; exact y1
  have zz2 : w2.heap[B + 2]? = some (.cells #[.slice pa n pc] 25) := by
    have := heap_alloc_new w1 (.cells #[.slice pa n pc] 25)
    rwa [hs1, hw2] at this
  have z2 : w2.cell? ⟨B + 2, 0, none⟩ = some (.slice pa n pc) := by
    have := heap_alloc_new w1 (.cells #[.slice pa n pc] 25)
    rw [hs1, hw2] at this
    rw [cell_of_row _ _ 0 _ _ _ this]
    rfl
  have hc51 : w1.cell? ⟨rb, 5, none⟩ = some (.slice pa n pc) := (hb1.cell (p := ⟨rb, 5, none⟩) hrb).trans hc5
  have hpw2 : PRow w2 pa ps := fun i hi => by
    obtain ⟨q, b, o, e, hl, hcs⟩ := hp i hi
    exact ⟨q, b, o, e, Nat.lt_of_lt_of_le hl hb2.size, fun j hj => (hb2.cell (p := ⟨b, o + i * 7 + j, none⟩) hl).trans (hcs j hj)⟩
  have HST : Hid (SeqStopsK Fence.wide (m - 1) Tryz.prog 102 #[.pointer (some ⟨B + 2, 0, none⟩)] backE (Below (B + 3)) (fun ys => ys = backL ps n) (fun pre => ∃ k, k ≤ n ∧ pre = backL ps k) n w2) := Lib.hid (back_stops Fence.wide (m - 1) trivial rfl (by omega) (B + 2) (B + 3) n pc pa ps hn hnl w2 (by omega) (by omega) z2 (fun i hi => by
    obtain ⟨q, b, o, e, hl, hcs⟩ := hpw2 i hi
    exact ⟨b, o, e, by omega, hcs⟩) (by omega))
  have hz1 : (w.alloc (.cells #[.int .u32 0, .int .u32 0, .int .u64 0, .int .u64 0, .int .u64 0, .int .u64 0, .int .u64 0] 54)).alloc (.cells #[.bool false] 4) = w1 := hw1
  refine callsIn_of_wp_marks Tryz.func47 rfl trivial ?_ rfl
  simp only [Tryz.ntmps47, List.size_toArray, List.length_cons, List.length_nil, Nat.reduceAdd, Nat.reduceSub, Array.replicate_succ, Array.replicate_zero, List.push_toArray, List.append_toArray, List.nil_append, List.cons_append]
  gi_wp2_with fail
  refine ⟨trivial, ?_⟩
  refine (backward_in (m - 1) _ _ _ w1).mono ?_
  rintro e w' ⟨rfl, rfl⟩
  gi_wp2_with fail
  refine wpIn_rangeFunc_ownH rfl h1 (gf := 102) (lb := #[.pointer (some ⟨B + 2, 0, none⟩)]) rfl trivial (enters_of Tryz.func102 (by kernel_rfl) rfl)
    HST.out belowK_t (belowK_b (by omega)) (Below.refl _ _) (fun _ => rfl)
    (fun pre W => ((foundF pre = none ∧ W.heap[B]? = some (.cells zProg 54)) ∧ W.heap[B + 1]? = some (.cells #[.bool false] 4) ∧ W.heap[B + 2]? = some (.cells #[.slice pa n pc] 25)) ∧ Below w.heap.size w W)
    (fun c pre W => (∃ p, (c = .ret ∧ foundF pre = some p) ∧ W.heap[B]? = some (.cells p.cells.toArray 54) ∧ W.heap[B + 1]? = some (.cells #[.bool true] 4)) ∧ Below w.heap.size w W)
    (OwnFrom.and (OwnFrom.and (OwnFrom.and (ownFrom_pure _ _) (Own.from (row_own B _ (fun _ => zProg)) _)) (OwnFrom.and (Own.from (row_own (B + 1) _ (fun _ => #[.bool false])) _) (Own.from (row_own (B + 2) _ (fun _ => #[.slice pa n pc])) _))) (ownFrom_below (Nat.le_refl _) (by omega)))
    (fun c => OwnFrom.and (fun s X Y row hs hg hr => by
      obtain ⟨p, h1, h2, h3⟩ := hs
      exact ⟨p, h1, row_own B _ (fun (_ : Unit) => p.cells.toArray) () X Y row h2 hg (fun r e => (hr r e).2), row_own (B + 1) _ (fun (_ : Unit) => #[.bool true]) () X Y row h3 hg (fun r e => (hr r e).2)⟩) (ownFrom_below (Nat.le_refl _) (by omega)))
    ⟨⟨⟨rfl, x2⟩, y2, zz2⟩, hb2⟩
    (fun x a' W => ∃ Bx, B + 2 < Bx ∧ W.heap[Bx]? = some (.cells #[.int .u32 x.2.ty, .int .u32 x.2.flags, .int .u64 x.2.off, .int .u64 x.2.vaddr, .int .u64 x.2.filesz, .int .u64 x.2.memsz, .int .u64 x.2.align] 54) ∧ a' = { tmps := #[.pointer (some ⟨rb, 0, none⟩), undef, .pointer (some ⟨B, 0, none⟩), .pointer (some ⟨B + 1, 0, none⟩), undef, .pointer (some ⟨Bx, 0, none⟩), .pointer (some ⟨rb, 0, none⟩), .pointer (some ⟨rb, 0, none⟩), .pointer (some ⟨rb, 5, none⟩), .slice pa n pc, .func (.func 102) #[] #[.pointer (some ⟨B + 2, 0, none⟩)], .int .i64 x.1, .agg #[.int .u32 x.2.ty, .int .u32 x.2.flags, .int .u64 x.2.off, .int .u64 x.2.vaddr, .int .u64 x.2.filesz, .int .u64 x.2.memsz, .int .u64 x.2.align], undef, undef, undef, undef, undef], defers := [] })
    (fun x a' _ X Y row hs hg hr => by
      obtain ⟨Bx, h1, h2, h3⟩ := hs
      exact ⟨Bx, h1, row_own Bx _ (fun (_ : Unit) => #[.int .u32 x.2.ty, .int .u32 x.2.flags, .int .u64 x.2.off, .int .u64 x.2.vaddr, .int .u64 x.2.filesz, .int .u64 x.2.memsz, .int .u64 x.2.align]) () X Y row h2 hg (fun r e => (hr r e).2), h3⟩)
    ?assign ?body ?done ?stop
  case assign =>
    rintro l pre ⟨xi, ⟨a0, a1, a2, a3, a4, a5, a6⟩⟩ W K ⟨⟨⟨hf, hx⟩, hy, hz⟩, hB1⟩ hK
    have hBW : B + 2 < W.heap.size := lt_of_block hz
    unfold backE
    dsimp only at hK ⊢
    gi_wp2
    exact hK _ _ ((KeepsOthers.alloc _ _).from _) ((Below.refl _ W).alloc (by omega) _) ⟨⟨⟨hf, (heap_alloc_old _ _ (lt_of_block hx)).trans hx⟩, (heap_alloc_old _ _ (lt_of_block hy)).trans hy, (heap_alloc_old _ _ (lt_of_block hz)).trans hz⟩, hB1.alloc hB1.size _⟩ ⟨W.heap.size, hBW, heap_alloc_new _ _, rfl⟩
  case body =>
    rintro l pre ⟨xi, ⟨a0, a1, a2, a3, a4, a5, a6⟩⟩ a' W hl hr ⟨⟨⟨hf, hx⟩, hy, hz⟩, hB1⟩ ⟨Bx, hBx, hX, rfl⟩ hlt
    dsimp only at hX ⊢
    have h1' : 1 ≤ m - 1 - 1 := by omega
    obtain ⟨c0, c1, c2, c3, c4, c5, c6⟩ := out_cells hX
    obtain ⟨d0, d1, d2, d3, d4, d5, d6⟩ := out_cells (show W.heap[B]? = some (.cells #[.int .u32 0, .int .u32 0, .int .u64 0, .int .u64 0, .int .u64 0, .int .u64 0, .int .u64 0] 54) from hx)
    have f0 := frozen_of_row W B 0 _ _ hx
    have f1 := frozen_of_row W B 1 _ _ hx
    have f2 := frozen_of_row W B 2 _ _ hx
    have f3 := frozen_of_row W B 3 _ _ hx
    have f4 := frozen_of_row W B 4 _ _ hx
    have f5 := frozen_of_row W B 5 _ _ hx
    have f6 := frozen_of_row W B 6 _ _ hx
    have g0 := frozen_of_row W (B + 1) 0 _ _ hy
    have e0 : W.cell? ⟨B + 1, 0, none⟩ = some (.bool false) := by rw [cell_of_row _ _ 0 _ _ _ hy]; rfl
    by_cases ht : a0 = 1
    · subst ht
      have hxx : W.heap[B]? = some (.cells #[.int .u32 0, .int .u32 0, .int .u64 0, .int .u64 0, .int .u64 0, .int .u64 0, .int .u64 0] 54) := hx
      have FS := seven_stores hxx (.int .u32 1) (.int .u32 a1) (.int .u64 a2) (.int .u64 a3) (.int .u64 a4) (.int .u64 a5) (.int .u64 a6)
      have c0' : W.cell? ⟨Bx, 0, none⟩ = some (.int .u32 1) := c0
      have HFS := Lib.hid FS
      clear FS c0
      gi_wp2
      refine ⟨((((((((KeepsOthers.setCell _ _ _).trans (KeepsOthers.setCell _ _ _)).trans (KeepsOthers.setCell _ _ _)).trans (KeepsOthers.setCell _ _ _)).trans (KeepsOthers.setCell _ _ _)).trans (KeepsOthers.setCell _ _ _)).trans (KeepsOthers.setCell _ _ _)).trans (KeepsOthers.setCell _ _ _)).from _, ⟨⟨1, a1, a2, a3, a4, a5, a6⟩, ⟨rfl, by rw [foundF_snoc _ _ hf, if_pos rfl]⟩, ?_, ?_⟩, ?_⟩
      · rw [HFS.out, heap_setCell_other _ _ _ _ (show B ≠ B + 1 by omega)]
        exact setRow_heap _ _ _ _ _ _ hx
      · rw [HFS.out]
        exact heap_setCell_same _ (B + 1) 0 _ _ _ ((setRow_other _ _ _ _ (by omega)).trans hy)
      · rw [HFS.out]
        exact (below_setRow hB1 (by omega) _).setCell (p := ⟨B + 1, 0, none⟩) (by show w.heap.size ≤ B + 1; omega) _
    · have te : ((a0 : Int) == 1) = false := by rw [beq_eq_false_iff_ne]; omega
      gi_wp2
      exact ⟨KeepsFrom.refl _ _, Below.refl _ _, ⟨⟨by rw [foundF_snoc _ _ hf, if_neg ht], hx⟩, hy, hz⟩, hB1⟩
  case done =>
    rintro D xs W hD rfl ⟨⟨⟨hf, hx⟩, hy, hz⟩, hB1⟩ hK
    obtain ⟨d0, d1, d2, d3, d4, d5, d6⟩ := out_cells (show W.heap[B]? = some (.cells #[.int .u32 0, .int .u32 0, .int .u64 0, .int .u64 0, .int .u64 0, .int .u64 0, .int .u64 0] 54) from hx)
    have f0 := frozen_of_row W B 0 _ _ hx
    have f1 := frozen_of_row W B 1 _ _ hx
    have f2 := frozen_of_row W B 2 _ _ hx
    have f3 := frozen_of_row W B 3 _ _ hx
    have f4 := frozen_of_row W B 4 _ _ hx
    have f5 := frozen_of_row W B 5 _ _ hx
    have f6 := frozen_of_row W B 6 _ _ hx
    have g0 := frozen_of_row W (B + 1) 0 _ _ hy
    have e0 : W.cell? ⟨B + 1, 0, none⟩ = some (.bool false) := by rw [cell_of_row _ _ 0 _ _ _ hy]; rfl
    have HFS := Lib.hid (seven_stores (show W.heap[B]? = some (.cells #[.int .u32 0, .int .u32 0, .int .u64 0, .int .u64 0, .int .u64 0, .int .u64 0, .int .u64 0] 54) from hx) (.int .u32 0) (.int .u32 0) (.int .u64 0) (.int .u64 0) (.int .u64 0) (.int .u64 0) (.int .u64 0))
    have HZ : Hid (lastF ps = none) := Lib.hid (by rw [← found_all, hn]; exact hf)
    gi_wp2
    rw [HFS.out]
    have hsr : W.setRow B #[.int .u32 0, .int .u32 0, .int .u64 0, .int .u64 0, .int .u64 0, .int .u64 0, .int .u64 0] = W := setRow_self _ _ _ _ _ hx
    rw [hsr]
    have hy9 : (W.setCell ⟨B + 1, 0, none⟩ (.bool false)).heap[B + 1]? = some (.cells #[.bool false] 4) := heap_setCell_same _ (B + 1) 0 _ _ _ hy
    have hx9 : (W.setCell ⟨B + 1, 0, none⟩ (.bool false)).heap[B]? = some (.cells zProg 54) := (heap_setCell_other _ _ _ _ (show B ≠ B + 1 by omega)).trans hx
    have hK9 := (KeepsOthers.setCell W ⟨B + 1, 0, none⟩ (.bool false)).same D _ hK rfl
    have hB9 : Below w.heap.size w (W.setCell ⟨B + 1, 0, none⟩ (.bool false)) := hB1.setCell (p := ⟨B + 1, 0, none⟩) (by show w.heap.size ≤ B + 1; omega) _
    generalize W.setCell ⟨B + 1, 0, none⟩ (.bool false) = W9 at *
    refine ⟨by simp, .inl ⟨_, _, rfl, run_takeDeferred hK9, ?_⟩⟩
    have n1 : B ≠ D := fun e => by rw [e, hK9] at hx9; cases hx9
    have n2 : B + 1 ≠ D := fun e => by rw [e, hK9] at hy9; cases hy9
    have hxK : (W9.putObj D (.deferred none)).heap[B]? = some (.cells zProg 54) := (World.putObj_heap_other n1).trans hx9
    have hyK : (W9.putObj D (.deferred none)).heap[B + 1]? = some (.cells #[.bool false] 4) := (World.putObj_heap_other n2).trans hy9
    obtain ⟨q0, q1, q2, q3, q4, q5, q6⟩ := out_cells (show (W9.putObj D (.deferred none)).heap[B]? = some (.cells #[.int .u32 0, .int .u32 0, .int .u64 0, .int .u64 0, .int .u64 0, .int .u64 0, .int .u64 0] 54) from hxK)
    have r0 : (W9.putObj D (.deferred none)).cell? ⟨B + 1, 0, none⟩ = some (.bool false) := by rw [cell_of_row _ _ 0 _ _ _ hyK]; rfl
    refine ⟨.tuple #[.agg zProg, .bool false], ?_, ?_, hB9.trans (belowK_b (w := w) (Nat.le_refl _) W9 D _ _ (by omega) hK9 rfl rfl)⟩
    · simp [results, Tryz.f47, go_sem, q0, q1, q2, q3, q4, q5, q6, r0, zProg]
    · rw [HZ.out]
      rfl
  case stop =>
    rintro D c pre W hD ⟨k, hk, rfl⟩ ⟨⟨p, ⟨rfl, hf⟩, hx, hy⟩, hB1⟩ hK
    have HZ : Hid (lastF ps = some p) := Lib.hid (by
      have h := found_last ps k (by omega)
      rw [hf] at h
      have key : ∀ (A : List PT) (C : List PT) (q : PT), lastF C = some q → lastF (A ++ C) = some q := fun A C q hq => by
        induction A with
        | nil => exact hq
        | cons a A ih => simp only [List.cons_append, lastF, ih]
      have := key (ps.take (ps.length - k)) _ _ h
      rwa [List.take_append_drop] at this)
    gi_wp2
    refine ⟨by simp, .inl ⟨_, _, rfl, run_takeDeferred hK, ?_⟩⟩
    have n1 : B ≠ D := fun e => by rw [e, hK] at hx; cases hx
    have n2 : B + 1 ≠ D := fun e => by rw [e, hK] at hy; cases hy
    obtain ⟨a0, a1, a2, a3, a4, a5, a6⟩ := p
    have hxK : (W.putObj D (.deferred none)).heap[B]? = some (.cells #[.int .u32 a0, .int .u32 a1, .int .u64 a2, .int .u64 a3, .int .u64 a4, .int .u64 a5, .int .u64 a6] 54) := (World.putObj_heap_other n1).trans hx
    have hyK : (W.putObj D (.deferred none)).heap[B + 1]? = some (.cells #[.bool true] 4) := (World.putObj_heap_other n2).trans hy
    obtain ⟨q0, q1, q2, q3, q4, q5, q6⟩ := out_cells hxK
    have r0 : (W.putObj D (.deferred none)).cell? ⟨B + 1, 0, none⟩ = some (.bool true) := by rw [cell_of_row _ _ 0 _ _ _ hyK]; rfl
    refine ⟨.tuple #[.agg #[.int .u32 a0, .int .u32 a1, .int .u64 a2, .int .u64 a3, .int .u64 a4, .int .u64 a5, .int .u64 a6], .bool true], ?_, ?_, hB1.trans (belowK_b (w := w) (Nat.le_refl _) W D _ _ (by omega) hK rfl rfl)⟩
    · simp [results, Tryz.f47, go_sem, q0, q1, q2, q3, q4, q5, q6, r0]
    · rw [HZ.out]
      rfl
theorem lastload_any (r : HRd) (ps : List PT) (w : World) (h : r.at w) (hp : PRow w r.pa ps) (hn : ps.length = r.pn) (hnl : r.pn ≤ 140737488351232) :
    Calls Tryz.prog 47 #[.pointer (some ⟨r.rb, 0, none⟩)] w fun e W' => e = .returned (.tuple #[((lastF ps).getD PT.zero).hv, .bool (lastF ps).isSome]) ∧ Below w.heap.size w W' :=
  (callsIn_wide (n := 6)).1 (lastload_in 6 (by omega) r ps w h hp hn hnl)
end Go.Proofs.YtnaejlfjlennhaaGreatDoor
/- Layer 4: where the pages of the last PtLoad end; of some types there may be one program header only. -/
namespace Go.Proofs.YtnaejlfjlennhaaGreatDoor
open Go.RowKit
set_option linter.unusedVariables false
set_option linter.unusedSimpArgs false

theorem ballo {a w : World} (h : Below a.heap.size a w) (o : Obj) : Below a.heap.size a (w.alloc o) := h.alloc h.size o
theorem bdrew {a w : World} (h : Below a.heap.size a w) : Below a.heap.size a w.drew := h.drew
/-- one step of a chain of worlds, told as a thing of its own -/
structure Stp (a b : World) : Prop where
  mk ::
  is : Below a.heap.size a b
theorem bsteps {a b c : World} (h : Below a.heap.size a b) (k : Stp b c) : Below a.heap.size a c := bstep h k.is
theorem upF_nat (a tg : Nat) : 0 ≤ (upF a tg).1 := by
  unfold upF
  split
  · exact Int.le_refl _
  · split
    · exact Int.natCast_nonneg _
    · exact Int.le_refl _
set_option maxRecDepth 100000 in
set_option maxHeartbeats 4000000 in
theorem loadend_any (r : HRd) (ps : List PT) (w : World) (h : r.at w) (hp : PRow w r.pa ps) (hn : ps.length = r.pn) (hnl : r.pn ≤ 140737488351232) (hwf : ∀ p ∈ ps, p.wf) :
    Calls Tryz.prog 78 #[.pointer (some ⟨r.rb, 0, none⟩)] w fun e w' => e = .returned (.int .u64 (endF ps : Int)) ∧ Below w.heap.size w w' := by
  have HL := Lib.hid (lastload_any r ps w h hp hn hnl)
  obtain ⟨q, hq⟩ : ∃ q, (lastF ps).getD PT.zero = q := ⟨_, rfl⟩
  have hqw : q.wf := by
    rw [← hq]
    have key : ∀ l : List PT, (∀ p ∈ l, p.wf) → ((lastF l).getD PT.zero).wf := fun l => by
      induction l with
      | nil => intro _; exact ⟨by decide, by decide, by decide, by decide, by decide, by decide, by decide⟩
      | cons p l ih =>
        intro hl
        have h1 := ih (fun p hp => hl p (List.mem_cons_of_mem _ hp))
        unfold lastF
        cases hf : lastF l with
        | some x => rw [hf] at h1; exact h1
        | none =>
          by_cases ht : p.ty = 1
          · simp only [if_pos ht, Option.getD_some]; exact hl p (by simp)
          · simp only [if_neg ht]; rw [hf] at h1; exact h1
    exact key ps hwf
  obtain ⟨s, hs⟩ : ∃ s, (lastF ps).isSome = s := ⟨_, rfl⟩
  have HUP : Hid (∀ wx, Calls Tryz.prog 101 #[.int .u64 (((q.vaddr + q.memsz) % 18446744073709551616 : Nat) : Int), .int .u64 4096] wx fun e w' => (∃ ev, e = .returned (.tuple #[.int .u64 (endF ps : Int), ev])) ∧ Below wx.heap.size wx w') := Lib.hid (fun wx => by
    refine (up_any ((q.vaddr + q.memsz) % 18446744073709551616) 4096 wx (Nat.mod_lt _ (by decide)) (by decide)).mono ?_
    rintro e w' ⟨rfl, hb⟩
    have e1 : (endF ps : Int) = (upF ((q.vaddr + q.memsz) % 18446744073709551616) 4096).1 := by
      unfold endF
      rw [hq]
      have := upF_nat ((q.vaddr + q.memsz) % 18446744073709551616) 4096
      omega
    rw [e1]
    exact ⟨⟨_, rfl⟩, hb⟩)
  generalize endF ps = E at *
  rw [hq, hs] at HL
  obtain ⟨rb, k0, k1, k2, k3, ra, rm, rcap, pa, n, pc⟩ := r
  obtain ⟨a0, a1, a2, a3, a4, a5, a6⟩ := q
  obtain ⟨-, -, -, h3, -, h5, -⟩ := hqw
  simp only [] at h3 h5
  have hw1 : IntKind.u64.wrap ((a3 : Int) + (a5 : Int)) = (((a3 + a5) % 18446744073709551616 : Nat) : Int) := by rw [IntKind.wrap_u64]; omega
  simp only [] at HUP
  generalize (a3 + a5) % 18446744073709551616 = z at *
  unfold PT.hv PT.cells at HL
  simp only [] at HL ⊢
  have HB1 : Hid (∀ wx, Below w.heap.size w wx → Below w.heap.size w (wx.alloc (.cells #[.int .u32 a0, .int .u32 a1, .int .u64 a2, .int .u64 a3, .int .u64 a4, .int .u64 a5, .int .u64 a6] 54))) := Lib.hid (fun wx hb => ballo hb _)
  clear h hp hn hnl hwf hq hs h3 h5
  go_enter Tryz.func78, Tryz.ntmps78
  go_wp2_with fail
  refine HL.out.mono ?_
  rintro e w2 ⟨rfl, hb2⟩
  have B2 := Lib.hid (HB1.out w2 hb2)
  clear hb2 HL
  go_wp2_with fail
  refine (HUP.out _).mono ?_
  rintro e w3 ⟨⟨ev, rfl⟩, hb3⟩
  have B3 := Lib.hid (bstep B2.out hb3)
  clear hb3
  go_wp2_with fail
  go_ret
  exact ⟨rfl, B3.out⟩

/-- the place of the first program header of which something holds; -1 -/
def IdxOf (h : PT → Bool) (ps : List PT) (z : Int) : Prop := (∃ k, ∃ hk : k < ps.length, z = (k : Int) ∧ h ps[k] = true ∧ ∀ j, (hj : j < ps.length) → j < k → h ps[j] = false) ∨ (z = -1 ∧ ∀ j, (hj : j < ps.length) → h ps[j] = false)
theorem IdxOf.any {h : PT → Bool} {ps : List PT} {z : Int} (hz : IdxOf h ps z) : decide (0 ≤ z) = ps.any h := by
  rcases hz with ⟨k, hk, rfl, h1, -⟩ | ⟨rfl, h1⟩
  · rw [decide_eq_true (by omega)]
    exact (List.any_eq_true.2 ⟨_, List.getElem_mem hk, h1⟩).symm
  · rw [decide_eq_false (by omega)]
    symm
    rw [List.any_eq_false]
    intro x hx
    obtain ⟨j, hj, rfl⟩ := List.getElem_of_mem hx
    rw [h1 j hj]
    decide
set_option maxRecDepth 100000 in
set_option maxHeartbeats 8000000 in
theorem indexFunc_any (Fn : Nat) (caps : Array Value) (h : PT → Bool) (a : Option Addr) (n cap : Nat) (ps : List PT) (w : World) (H0 : PRow w a ps) (hl : ps.length = n) (hn : n ≤ 140737488351232)
    (hen : ∀ (args : Array Value) (w : World), (callFunc Fn args).run Tryz.prog w = .ok (.enter Fn args) w)
    (hF : ∀ (p : PT) (wx : World), p.wf → Below w.heap.size w wx → Calls Tryz.prog Fn (#[p.hv] ++ caps) wx fun e w' => e = .returned (.bool (h p)) ∧ Below wx.heap.size wx w') :
    Calls Tryz.prog 22 #[.slice a n cap, .func (.func Fn) #[] caps] w fun e w' => (∃ z, e = .returned (.int .i64 z) ∧ IdxOf h ps z) ∧ Below w.heap.size w w' := by
  have H := Lib.hid H0
  have HL := Lib.hid hl
  have HN := Lib.hid hn
  have HFn := Lib.hid hF
  have hnn : (n : Int) ≤ 140737488351232 := by omega
  clear H0 hl hF hn
  go_enter Tryz.func22, Tryz.ntmps22
  go_wp2_with fail
  go_loopg [8] n (fun g iv wr => ∃ k : Nat, k + g = n ∧ iv = .int .i64 (k : Int) ∧ Hid (∀ j, (hj : j < ps.length) → j < k → h ps[j] = false) ∧ Hid (Below w.heap.size w wr))
  case atStart => exact ⟨0, by omega, rfl, Lib.hid (fun j _ h => by omega), Lib.hid (Below.refl _ _)⟩
  case round =>
    obtain ⟨k, hk, rfl, HJ, HB⟩ := hrel
    cases gk with
    | zero =>
      have hkn : k = n := by omega
      subst hkn
      clear hk
      go_wp2_with fail
      go_ret
      exact ⟨⟨_, rfl, .inr ⟨rfl, fun j hj => HJ.out j hj (by have := HL.out; omega)⟩⟩, HB.out⟩
    | succ g =>
      have hkl : k < ps.length := by have := HL.out; omega
      obtain ⟨hwf, b, o, rfl, hb, hc⟩ := (H.out.below HB.out) k hkl
      have HC := Lib.hid (HFn.out ps[k] wr hwf HB.out)
      have HQ : Hid (∀ R, h ps[k] = R → ∀ hj : k < ps.length, h ps[k] = R) := Lib.hid (fun R e _ => e)
      obtain ⟨R, hR⟩ : ∃ R, h ps[k] = R := ⟨_, rfl⟩
      have HR : Hid (∀ hj : k < ps.length, h ps[k] = R) := Lib.hid (fun _ => hR)
      rw [hR] at HC
      have c0 := hc 0 (by omega)
      have c1 := hc 1 (by omega)
      have c2 := hc 2 (by omega)
      have c3 := hc 3 (by omega)
      have c4 := hc 4 (by omega)
      have c5 := hc 5 (by omega)
      have c6 := hc 6 (by omega)
      simp only [PT.cells, List.getElem?_cons_zero, List.getElem?_cons_succ, Nat.add_zero] at c0 c1 c2 c3 c4 c5 c6
      have HK := Lib.hid hk
      have i0 : (0 : Int) ≤ (k : Int) := by omega
      have i1 : (k : Int) < (n : Int) := by omega
      unfold PT.hv PT.cells at HC
      clear hc hwf HQ hR hk
      generalize ps[k] = p at HC c0 c1 c2 c3 c4 c5 c6
      clear hkl
      obtain ⟨a0, a1, a2, a3, a4, a5, a6⟩ := p
      simp only [] at HC c0 c1 c2 c3 c4 c5 c6
      go_wp2_with fail
      refine HC.out.mono ?_
      rintro e w2 ⟨rfl, hb2⟩
      have B2 := Lib.hid (bstep HB.out hb2)
      clear hb2 HC c0 c1 c2 c3 c4 c5 c6
      cases R with
      | true =>
        go_wp2_with fail
        go_ret
        have hkl : k < ps.length := by have := HL.out; have := HK.out; omega
        exact ⟨⟨_, rfl, .inl ⟨k, hkl, rfl, HR.out hkl, HJ.out⟩⟩, B2.out⟩
      | false =>
        go_wp2_with fail
        go_roundg g
        case measure => have := HK.out; omega
        case rel => exact ⟨k + 1, by have := HK.out; omega, by go_num, Lib.hid (fun j hj hjk => by
          by_cases h : j < k
          · exact HJ.out j hj h
          · obtain rfl : j = k := by omega
            exact HR.out hj), B2⟩
theorem enters_alone1 : ∀ (args : Array Value) (w : World), (callFunc 70 args).run Tryz.prog w = .ok (.enter 70 args) w := enters_of Tryz.func70 (by kernel_rfl) rfl
set_option maxRecDepth 100000 in
set_option maxHeartbeats 4000000 in
theorem alone1_any (p q : PT) (b : Nat) (w : World) (hb : w.cell? ⟨b, 0, none⟩ = some (.int .u32 (p.ty : Int))) :
    Calls Tryz.prog 70 #[q.hv, .pointer (some ⟨b, 0, none⟩)] w fun e w' => e = .returned (.bool (q.ty == p.ty)) ∧ Below w.heap.size w w' := by
  have hlt : b < w.heap.size := by simpa using World.block_lt_of_cell? w _ hb
  have B1 : Hid (Below w.heap.size w (w.alloc (.cells q.cells.toArray 54))) := Lib.hid (ballo (Below.refl _ _) _)
  have hb1 : (w.alloc (.cells q.cells.toArray 54)).cell? ⟨b, 0, none⟩ = some (.int .u32 (p.ty : Int)) := by rw [World.cell?_alloc_lt _ _ ⟨b, 0, none⟩ hlt]; exact hb
  obtain ⟨y, hy⟩ : ∃ y, p.ty = y := ⟨_, rfl⟩
  rw [hy] at hb1 ⊢
  clear hb hlt hy
  obtain ⟨a0, a1, a2, a3, a4, a5, a6⟩ := q
  obtain ⟨R, hR⟩ : ∃ R, (a0 == y) = R := ⟨_, rfl⟩
  have te : ((a0 : Int) == (y : Int)) = R := by rw [← hR, Bool.eq_iff_iff, beq_iff_eq, beq_iff_eq]; omega
  unfold PT.hv
  unfold PT.cells at *
  simp only [] at *
  rw [hR]
  have HTE := Lib.hid te
  clear hR te
  go_enter Tryz.func70, Tryz.ntmps70
  go_wp2_with fail
  go_ret
  exact ⟨by rw [← HTE.out]; try rfl, B1.out⟩
set_option maxRecDepth 100000 in
set_option maxHeartbeats 4000000 in
theorem containsFunc_any (Fn : Nat) (caps : Array Value) (h : PT → Bool) (a : Option Addr) (n cap : Nat) (ps : List PT) (w : World) (H0 : PRow w a ps) (hl : ps.length = n) (hn : n ≤ 140737488351232)
    (hen : ∀ (args : Array Value) (w : World), (callFunc Fn args).run Tryz.prog w = .ok (.enter Fn args) w)
    (hF : ∀ (p : PT) (wx : World), p.wf → Below w.heap.size w wx → Calls Tryz.prog Fn (#[p.hv] ++ caps) wx fun e w' => e = .returned (.bool (h p)) ∧ Below wx.heap.size wx w') :
    Calls Tryz.prog 72 #[.slice a n cap, .func (.func Fn) #[] caps] w fun e w' => e = .returned (.bool (ps.any h)) ∧ Below w.heap.size w w' := by
  have HI := Lib.hid (indexFunc_any Fn caps h a n cap ps w H0 hl hn hen hF)
  obtain ⟨R, hR⟩ : ∃ R, ps.any h = R := ⟨_, rfl⟩
  have HR : Hid (∀ z, IdxOf h ps z → decide (0 ≤ z) = R) := Lib.hid (fun z hz => by rw [← hR]; exact hz.any)
  rw [hR]
  clear H0 hl hn hen hF hR
  go_enter Tryz.func72, Tryz.ntmps72
  go_wp2_with fail
  refine HI.out.mono ?_
  rintro e w' ⟨⟨z, rfl, hz⟩, hb⟩
  have t1 := HR.out z hz
  have B1 := Lib.hid hb
  clear hz hb
  go_wp2_with fail
  go_ret
  exact ⟨by rw [← t1]; try rfl, B1.out⟩

def aloneT : Array Value := #[.int .u32 2, .int .u32 3, .int .u32 7, .int .u32 1685382482, .int .u32 1685382481]
set_option maxRecDepth 100000 in
set_option maxHeartbeats 8000000 in
theorem alone_any (r : HRd) (ps : List PT) (p : PT) (at_ : Nat) (w : World) (h : r.at w) (hp : PRow w r.pa ps) (hn : ps.length = r.pn) (hnl : r.pn ≤ 140737488351232) (ha : at_ < 18446744073709551616) :
    Calls Tryz.prog 43 #[.pointer (some ⟨r.rb, 0, none⟩), p.hv, .int .u64 (at_ : Int)] w fun e w' => (∃ v, e = .returned v ∧ TestV v w' (unF (aloneF ps p) at_ 5)) ∧ Below w.heap.size w w' := by
  obtain ⟨w1, hw1⟩ : ∃ w1, w.alloc (.cells p.cells.toArray 54) = w1 := ⟨_, rfl⟩
  obtain ⟨B, hB⟩ : ∃ B, w.heap.size = B := ⟨_, rfl⟩
  have hb1 : Below w.heap.size w w1 := by rw [← hw1]; exact ballo (Below.refl _ _) _
  have x1 : w1.heap[B]? = some (.cells p.cells.toArray 54) := by rw [← hw1, ← hB]; exact heap_alloc_new _ _
  obtain ⟨w2, hw2⟩ : ∃ w2, w1.alloc (.cells aloneT 52) = w2 := ⟨_, rfl⟩
  have hb2 : Below w1.heap.size w1 w2 := by rw [← hw2]; exact ballo (Below.refl _ _) _
  have HIS : Hid (Calls Tryz.prog 71 #[p.hv, .slice (some ⟨w1.heap.size, 0, none⟩) 5 5] w2 fun e w' => e = .returned (.bool (isOf p [2, 3, 7, 1685382482, 1685382481])) ∧ Below w2.heap.size w2 w') := Lib.hid (is_any p w1.heap.size 5 5 [2, 3, 7, 1685382482, 1685382481] w2 (by rw [← hw2]; exact URow.lit w1 [2, 3, 7, 1685382482, 1685382481] aloneT rfl _) rfl (by decide))
  have HCF : Hid (∀ wx, Below w1.heap.size w1 wx → Calls Tryz.prog 72 #[.slice r.pa r.pn r.pc, .func (.func 70) #[] #[.pointer (some ⟨B, 0, none⟩)]] wx fun e w' => e = .returned (.bool (ps.any fun q => q.ty == p.ty)) ∧ Below wx.heap.size wx w') := Lib.hid (fun wx hx => by
    refine containsFunc_any _ #[.pointer (some ⟨B, 0, none⟩)] (fun q => q.ty == p.ty) r.pa r.pn r.pc ps wx (fun i hi => ?_) hn hnl enters_alone1 (fun q wy hq hy => ?_)
    · obtain ⟨q, b, o, e, hl, hcs⟩ := hp i hi
      have hbx := bstep hb1 hx
      exact ⟨q, b, o, e, Nat.lt_of_lt_of_le hl hbx.size, fun j hj => (hbx.cell (p := ⟨b, o + i * 7 + j, none⟩) hl).trans (hcs j hj)⟩
    · have hbx := (bstep hx hy).block _ (lt_of_block x1)
      exact alone1_any p q B wy (by rw [cell_of_row _ _ 0 _ _ _ (hbx.trans x1)]; rfl))
  have HUN : Hid (∀ ok wx, Calls Tryz.prog 40 #[.bool ok, .int .u64 (at_ : Int), .int .i64 5] wx fun e w' => (∃ v, e = .returned v ∧ TestV v w' (unF ok at_ 5)) ∧ Below wx.heap.size wx w') := Lib.hid (fun ok wx => unless_any ok at_ 5 wx ha)
  have HAL : Hid (∀ wx, Below w1.heap.size w1 wx → wx.cell? ⟨r.rb, 5, none⟩ = some (.slice r.pa r.pn r.pc)) := Lib.hid (fun wx hx => by rw [(h.below (bstep hb1 hx)).get]; rfl)
  obtain ⟨R1, hR1⟩ : ∃ R1, isOf p [2, 3, 7, 1685382482, 1685382481] = R1 := ⟨_, rfl⟩
  obtain ⟨R2, hR2⟩ : ∃ R2, (ps.any fun q => q.ty == p.ty) = R2 := ⟨_, rfl⟩
  have hal : aloneF ps p = (!R1 || !R2) := by unfold aloneF; rw [hR1, hR2]
  rw [hal]
  rw [hR1] at HIS
  rw [hR2] at HCF
  have HB1 := Lib.hid hb1
  have HB2 := Lib.hid hb2
  have HBB := Lib.hid hB
  obtain ⟨a0, a1, a2, a3, a4, a5, a6⟩ := p
  unfold PT.hv PT.cells at *
  unfold aloneT at hw2
  simp only [] at *
  obtain ⟨c0, c1, c2, c3, c4, c5, c6⟩ := out_cells x1
  obtain ⟨rb, k0, k1, k2, k3, ra, rm, rcap, pa, n, pc⟩ := r
  simp only [] at *
  clear h hp hn hnl ha hal hR1 hR2 hb1 hb2 x1
  go_enter Tryz.func43, Tryz.ntmps43
  go_wp2_with fail
  refine HIS.out.mono ?_
  rintro e w3 ⟨rfl, hb3⟩
  have B3 : Hid (Below w1.heap.size w1 w3) := Lib.hid (bstep HB2.out hb3)
  have m5 := HAL.out w3 B3.out
  clear hb3 c0 c1 c2 c3 c4 c5 c6
  cases R1 with
  | false =>
    go_wp2_with fail
    refine (HUN.out true w3).mono ?_
    rintro e w5 ⟨⟨v, rfl, hv⟩, hb5⟩
    have HV := Lib.hid hv
    have B5 := Lib.hid (bstep HB1.out (bstep B3.out hb5))
    clear hv hb5
    go_wp2_with fail
    go_ret
    exact ⟨⟨v, rfl, HV.out⟩, by first | exact B5.out | (rw [HBB.out] at B5; exact B5.out)⟩
  | true =>
    have HC := Lib.hid (HCF.out w3 B3.out)
    go_wp2_with fail
    refine HC.out.mono ?_
    rintro e w4 ⟨rfl, hb4⟩
    have B4 : Hid (Below w1.heap.size w1 w4) := Lib.hid (bstep B3.out hb4)
    clear hb4
    have HU := Lib.hid (HUN.out (!R2) w4)
    go_wp2_with fail
    refine HU.out.mono ?_
    rintro e w5 ⟨⟨v, rfl, hv⟩, hb5⟩
    have HV := Lib.hid hv
    have B5 := Lib.hid (bstep HB1.out (bstep B4.out hb5))
    clear hv hb5
    go_wp2_with fail
    go_ret
    exact ⟨⟨v, rfl, HV.out⟩, by first | exact B5.out | (rw [HBB.out] at B5; exact B5.out)⟩
end Go.Proofs.YtnaejlfjlennhaaGreatDoor
