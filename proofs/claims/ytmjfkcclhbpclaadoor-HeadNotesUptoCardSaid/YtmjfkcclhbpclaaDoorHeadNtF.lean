/- Layer 4: notes as plain functions. -/
import Derived.Test.YtmjfkcclhbpclaaDoorHeadInterp
import Derived.Test.YtmjfkcclhbpclaaDoorHeadWrite
import Derived.Test.YtmjfkcclhbpclaaDoorGrow
import Derived.Test.YtmjfkcclhbpclaaDoorStepS
namespace Go.Proofs.YtmjfkcclhbpclaaDoor
open Go.RowKit
set_option linter.unusedVariables false
set_option linter.unusedSimpArgs false
set_option maxRecDepth 100000

/-- a note -/
structure NT where
  nm : ByteArray
  ty : Nat
  data : List Nat
def up4F (n : Nat) : Nat := (n + 3) / 4 * 4
def nameF (l : List Nat) : ByteArray := ⟨(Lib.bytesOf (toI l)).toArray⟩
/-- the note at a place, up to an end, and how many bytes it takes; or what is amiss -/
def noteF (bs : List Nat) (p e : Nat) : Except Nat (NT × Nat) :=
  if e - p < 12 then .error 4
  else if ¬ (up4F (numF bs p 4) ≤ e - p - 12 ∧ numF bs (p + 4) 4 ≤ e - p - 12 - up4F (numF bs p 4)) then .error 4
  else if 0 < numF bs p 4 ∧ bs.getD (p + 12 + numF bs p 4 - 1) 0 ≠ 0 then .error 29
  else .ok (⟨nameF ((bs.drop (p + 12)).take (numF bs p 4 - 1)), numF bs (p + 8) 4, (bs.drop (p + 12 + up4F (numF bs p 4))).take (numF bs (p + 4) 4)⟩, 12 + up4F (numF bs p 4) + up4F (numF bs (p + 4) 4))
/-- notes one behind the other -/
def notesG (bs : List Nat) (e : Nat) : Nat → Nat → List NT → Except (Nat × Nat) (List NT)
  | 0, _, l => .ok l
  | g + 1, p, l => if e ≤ p then .ok l else match noteF bs p e with
    | .error c => .error (p, c)
    | .ok (t, s) => notesG bs e g (p + s) (l ++ [t])
theorem notesG_end (bs : List Nat) (e g p : Nat) (l : List NT) (h : e ≤ p) : notesG bs e g p l = .ok l := by
  cases g with
  | zero => rfl
  | succ g => rw [notesG, if_pos h]
theorem notesG_min (bs : List Nat) (e g p : Nat) (l : List NT) : notesG bs e g (min p e) l = notesG bs e g p l := by
  by_cases h : p ≤ e
  · rw [Nat.min_eq_left h]
  · rw [notesG_end bs e g p l (by omega), notesG_end bs e g _ l (by omega)]
def notesF (bs : List Nat) : List PT → List NT → Except (Nat × Nat) (List NT)
  | [], l => .ok l
  | q :: qs, l => if q.ty ≠ 4 then notesF bs qs l
    else if inB bs.length q.off q.filesz = true then match notesG bs (q.off + q.filesz) q.filesz q.off l with
      | .error x => .error x
      | .ok l => notesF bs qs l
    else .error (q.off, 4)
theorem noteF_ok {bs : List Nat} {p e : Nat} {t : NT} {s : Nat} (h : noteF bs p e = .ok (t, s)) : 12 ≤ s ∧ 12 ≤ e - p := by
  unfold noteF at h
  split at h
  · cases h
  · split at h
    · cases h
    · split at h
      · cases h
      · simp only [Except.ok.injEq, Prod.mk.injEq] at h
        omega
theorem noteF_code {bs : List Nat} {p e c : Nat} (h : noteF bs p e = .error c) : c = 4 ∨ c = 29 := by
  unfold noteF at h
  repeat' split at h
  all_goals (first | (simp only [Except.error.injEq] at h; omega) | cases h)
theorem numF_part {bs : List Nat} {p e : Nat} (he : e ≤ bs.length) (hp : p ≤ e) {o n : Nat} (h : o + n ≤ e - p) : numF ((bs.drop p).take (e - p)) o n = numF bs (p + o) n := by
  unfold numF
  rw [if_pos (by unfold inB; rw [List.length_take, List.length_drop]; exact decide_eq_true (by omega)), if_pos (by unfold inB; exact decide_eq_true (by omega))]
  rw [List.drop_take, List.drop_drop, List.take_take, Nat.min_eq_left (by omega)]
theorem part_len {bs : List Nat} {p e : Nat} (he : e ≤ bs.length) (hp : p ≤ e) : ((bs.drop p).take (e - p)).length = e - p := by
  rw [List.length_take, List.length_drop]
  omega
theorem part_row {w : World} {bb oo : Nat} {bs : List Nat} {p e : Nat} (h : BRow w (some ⟨bb, oo, none⟩) bs) (he : e ≤ bs.length) (hp : p ≤ e) : BRow w (some ⟨bb, oo + p, none⟩) ((bs.drop p).take (e - p)) := by
  refine ⟨?_, fun x hx => h.2 x (List.mem_of_mem_drop (List.mem_of_mem_take hx))⟩
  have := h.1.cut p (e - p)
  rw [cut_toI] at this
  simpa [WideShapes.add_plain] using this
theorem up4_bits (n : Nat) (h : n < 4294967296) : bits .andNot .u64 ((n : Int) + 3) 3 = (up4F n : Int) := by
  have := up_bits n 4 2 (by omega) (by omega) (by omega) rfl
  simpa [up4F] using this
theorem up4F_le (n : Nat) : n ≤ up4F n ∧ up4F n ≤ n + 3 := by unfold up4F; omega
set_option maxHeartbeats 8000000 in
theorem up4_any (n : Nat) (h : n < 4294967296) (w : World) : Calls Tryd.prog 56 #[.int .u64 (n : Int)] w fun e w' => e = .returned (.int .u64 (up4F n : Int)) ∧ w = w' := by
  have hb := up4_bits n h
  have hw : IntKind.u64.wrap ((n : Int) + 3) = (n : Int) + 3 := by rw [IntKind.wrap_u64]; omega
  generalize up4F n = U at *
  clear h
  go_enter Tryd.func56, Tryd.ntmps56
  go_wp2_with fail
  go_ret
  exact ⟨rfl, rfl⟩
set_option maxHeartbeats 8000000 in
theorem four_any4 (n : Nat) (h : n < 4294967296) (w : World) : Calls Tryd.prog 39 #[.int .u64 (n : Int)] w fun e w' => e = .returned (.int .u64 (up4F n : Int)) ∧ w = w' := by
  obtain ⟨q, hq⟩ : ∃ q : Nat, (n + 3) / 4 = q := ⟨_, rfl⟩
  have hu : up4F n = q * 4 := by unfold up4F; rw [hq]
  have hql : q ≤ 4294967296 := by omega
  have hw : IntKind.u64.wrap ((n : Int) + 3) = (n : Int) + 3 := by rw [IntKind.wrap_u64]; omega
  have hd : ((n : Int) + 3).tdiv 4 = (q : Int) := by rw [Int.tdiv_eq_ediv_of_nonneg (by omega)]; omega
  have hd2 : ((n : Int) + 3) / 4 = (q : Int) := by omega
  have hw2 : IntKind.u64.wrap (q : Int) = (q : Int) := by rw [IntKind.wrap_u64]; omega
  have hw3 : IntKind.u64.wrap ((q : Int) * 4) = (q : Int) * 4 := by rw [IntKind.wrap_u64]; omega
  rw [hu]
  clear h hq hu hql
  go_enter Tryd.func39, Tryd.ntmps39
  go_wp2_with fail
  go_ret
  exact ⟨by simp, rfl⟩
set_option maxHeartbeats 8000000 in
/-- a copy of bytes that are there -/
theorem sclone_any (a : Addr) (n c : Nat) (xs : List Int) (w : World) (hx : xs.length = n) (hrow : Row .u8 w (some a) xs) (hl : n ≤ 140737488351232) (hc : n ≤ c) (hs : a.spot = none) :
    Calls Tryd.prog 57 #[.slice (some a) n c] w fun e w' => (∃ ad c', e = .returned (.slice ad n c') ∧ OwnI w' w.heap.size 5 .u8 (.slice ad n c') xs) ∧ Below w.heap.size w w' := by
  obtain ⟨b, o, sp⟩ := a
  obtain rfl : sp = none := hs
  have B1 : Hid (Below w.heap.size w (w.alloc (.cells #[] 5))) := Lib.hid (ballo (Below.refl _ _) _)
  have HO : Hid (OwnI (w.alloc (.cells #[] 5)) w.heap.size 5 .u8 (.slice (some ⟨w.heap.size, 0, none⟩) 0 0) []) := Lib.hid (OwnI.lit w w.heap.size _ .u8 [] #[] rfl (Nat.le_refl _) (by simp))
  have HR := Lib.hid (hrow.below B1.out)
  have HX := Lib.hid hx
  have HL : Hid (0 + n ≤ maxLen ∧ (0 + n) * 1 ≤ 140737488355328) := Lib.hid (by unfold maxLen; omega)
  have hbo : ∀ (w : World) (a : Option Addr) (n c n' c' : Nat), (binOp .eql 26 (.slice a n c) (.slice none n' c')).run Tryd.prog w = .ok (.bool a.isNone) w := fun w a n c n' c' => Lib.run_eql_slice_nil w _ _ a n c n' c' Tryd.underlying26
  clear hrow hx hl hc
  go_enter Tryd.func57, Tryd.ntmps57
  go_wp2_with (at_builtin; go_loud (
   refine wpList_pushes rfl (.tmp 5) (.tmp 6) slice8w rfl w.heap.size w (.slice (some ⟨w.heap.size, 0, none⟩) 0 0) [] 0 (some ⟨b, o, none⟩) c n xs rfl (by rfl) rfl HX.out HR.out (fun e => by cases e) HO.out HL.out.1 HL.out.2 B1.out B1.out.size ?_); intro ad3 c3 w3 hown3 hb3; rw [List.nil_append, Nat.zero_add] at hown3; have O3 := Lib.hid hown3; have B3 := Lib.hid hb3; clear hown3 hb3)
  try simp only [Nat.zero_add]
  go_ret
  exact ⟨⟨_, _, rfl, O3.out⟩, B3.out⟩
end Go.Proofs.YtmjfkcclhbpclaaDoor
