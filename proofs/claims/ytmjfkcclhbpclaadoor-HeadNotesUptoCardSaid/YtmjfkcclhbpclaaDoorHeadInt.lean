/- Layer 4: the interpreter that a file asks for, as a plain function; the program's answer. -/
import Derived.Test.YtmjfkcclhbpclaaDoorHeadWrite
import Derived.Test.YtmjfkcclhbpclaaDoorHText
import Derived.Test.YtmjfkcclhbpclaaDoorHRefText
namespace Go.Proofs.YtmjfkcclhbpclaaDoor
open Go.RowKit
set_option linter.unusedVariables false
set_option linter.unusedSimpArgs false

/-- the text that bytes begin with, up to a byte 0 -/
def textV (xs : List Int) : Option ByteArray := if Lib.indexByte (Lib.bytesOf xs) 0 = -1 then none else some ⟨(Lib.bytesOf (cutOf xs 0 (Lib.indexByte (Lib.bytesOf xs) 0).toNat)).toArray⟩
def findF : List PT → Option PT
  | [] => none
  | p :: ps => if p.ty = 3 then some p else findF ps
def interpF (bs : List Nat) (ps : List PT) : Except HErr ByteArray :=
  match findF ps with
  | none => .error (.code 6)
  | some p => if inB bs.length p.off p.filesz = true then
      match textV (toI ((bs.drop p.off).take p.filesz)) with
      | none => .error (.spot p.off 29)
      | some s => if 255 < s.size then .error (.spot p.off 2) else .ok s
    else .error (.spot p.off 4)
theorem toI_bytes {bs : List Nat} (h : ∀ b ∈ bs, b < 256) : Bytes (toI bs) := fun y hy => by
  unfold toI at hy
  obtain ⟨b, hb, rfl⟩ := List.mem_map.1 hy
  have := h b hb
  constructor
  · show (0 : Int) ≤ (b : Int); omega
  · show (b : Int) < 256; omega
theorem textV_nil : textV [] = none := by decide
theorem textV_size {xs : List Int} {s : ByteArray} (h : textV xs = some s) (hb : Bytes xs) : s.size ≤ xs.length := by
  unfold textV at h
  split at h
  · cases h
  · injection h with h
    rw [← h]
    rename_i hk
    have := Lib.indexByte_ge (Lib.bytesOf xs) 0
    obtain ⟨k, hk2⟩ : ∃ k : Nat, Lib.indexByte (Lib.bytesOf xs) 0 = (k : Int) := ⟨(Lib.indexByte (Lib.bytesOf xs) 0).toNat, by omega⟩
    rw [hk2]
    show (Lib.bytesOf (cutOf xs 0 (k : Int).toNat)).toArray.size ≤ _
    simp only [List.size_toArray, Lib.bytesOf, List.length_map, cutOf, List.length_take, List.length_drop]
    omega
def TextPost (xs : List Int) (w : World) (e : Ending) (w' : World) : Prop := (match textV xs with | some s => e = .returned (.tuple #[.string s, .nilIface]) | none => ∃ sb, e = .returned (.tuple #[.string ⟨#[]⟩, .iface 90 (.pointer (some ⟨sb, 0, none⟩))])) ∧ Below w.heap.size w w'
theorem htext_any (a : Option Addr) (m cap : Nat) (xs : List Int) (w : World) (h : Row .u8 w a xs) (hby : Bytes xs) (hm : xs.length = m) (hl : m ≤ 140737488351232) (hc : m ≤ cap) :
    Calls Tryd.prog 30 #[.slice a m cap, .int .u64 0] w (TextPost xs w) := by
  subst hm
  by_cases h0 : 0 < xs.length
  · obtain ⟨b, o, ha, -⟩ := h 0 h0
    by_cases hk : Lib.indexByte (Lib.bytesOf xs) 0 = -1
    · have := text_open a cap xs 0 w h hby hl hc (by decide) b o ha h0 (by rw [List.drop_zero]; exact hk)
      refine this.mono ?_
      rintro e w' ⟨rfl, rfl⟩
      refine ⟨?_, ballo (Below.refl _ _) _⟩
      unfold textV
      rw [if_pos hk]
      exact ⟨_, rfl⟩
    · have hge := Lib.indexByte_ge (Lib.bytesOf xs) 0
      obtain ⟨k, hk2⟩ : ∃ k : Nat, Lib.indexByte (Lib.bytesOf xs) 0 = (k : Int) := ⟨(Lib.indexByte (Lib.bytesOf xs) 0).toNat, by omega⟩
      have hk3 : Lib.indexByte (Lib.bytesOf (xs.drop 0)) 0 = (k : Int) := by rw [List.drop_zero]; exact hk2
      have hlt := (first_zero hby 0 k hk3).1
      refine (text_any a cap xs 0 w h hby hl hc (by decide) b o ha h0 k hk3 hlt).mono ?_
      rintro e w' ⟨rfl, hb⟩
      refine ⟨?_, hb⟩
      unfold textV
      rw [if_neg hk, hk2]
      rfl
  · have hnil : xs = [] := List.length_eq_zero_iff.1 (by omega)
    refine (text_range a cap xs.length 0 w hl (by decide) h0).mono ?_
    rintro e w' ⟨rfl, rfl⟩
    refine ⟨?_, ballo (Below.refl _ _) _⟩
    rw [hnil, textV_nil]
    exact ⟨_, rfl⟩
def RTextPost (xs : List Int) (w : World) (e : Ending) (w' : World) : Prop := (match textV xs with | some s => e = .returned (.tuple #[.string s, .int .i64 0]) | none => ∃ c : Int, c ≠ 0 ∧ e = .returned (.tuple #[.string ⟨#[]⟩, .int .i64 c])) ∧ w = w'
theorem rtext_any (a : Option Addr) (m cap : Nat) (xs : List Int) (w : World) (h : Row .u8 w a xs) (hby : Bytes xs) (hm : xs.length = m) (hl : m ≤ 140737488351232) (hc : m ≤ cap) :
    Calls Tryd.prog 33 #[.slice a m cap, .int .u64 0] w (RTextPost xs w) := by
  subst hm
  by_cases h0 : 0 < xs.length
  · by_cases hk : Lib.indexByte (Lib.bytesOf xs) 0 = -1
    · refine (refText_open a cap xs 0 w h hby hl h0 (by rw [List.drop_zero]; exact hk)).mono ?_
      rintro e w' ⟨rfl, rfl⟩
      refine ⟨?_, rfl⟩
      unfold textV
      rw [if_pos hk]
      exact ⟨_, by decide, rfl⟩
    · have hge := Lib.indexByte_ge (Lib.bytesOf xs) 0
      obtain ⟨k, hk2⟩ : ∃ k : Nat, Lib.indexByte (Lib.bytesOf xs) 0 = (k : Int) := ⟨(Lib.indexByte (Lib.bytesOf xs) 0).toNat, by omega⟩
      refine (refText_yes a cap xs 0 w h hby hl hc k (by rw [List.drop_zero]; exact hk2)).mono ?_
      rintro e w' ⟨rfl, rfl⟩
      refine ⟨?_, rfl⟩
      unfold textV
      rw [if_neg hk, hk2]
      rfl
  · have hnil : xs = [] := List.length_eq_zero_iff.1 (by omega)
    refine (refText_range a cap xs.length 0 w hl (by decide) h0).mono ?_
    rintro e w' ⟨rfl, rfl⟩
    refine ⟨?_, rfl⟩
    rw [hnil, textV_nil]
    exact ⟨_, by decide, rfl⟩
theorem enters_interp1 : ∀ (args : Array Value) (w : World), (callFunc 28 args).run Tryd.prog w = .ok (.enter 28 args) w := enters_of Tryd.func28 (by kernel_rfl) rfl
theorem findF_at : ∀ (ps : List PT) (k : Nat) (hk : k < ps.length), decide ((ps[k]).ty = 3) = true → (∀ j, (hj : j < ps.length) → j < k → decide ((ps[j]).ty = 3) = false) → findF ps = some ps[k]
  | [], k, hk, _, _ => by simp at hk
  | p :: ps, 0, hk, hp, _ => by
    have hp : decide (p.ty = 3) = true := hp
    rw [findF, if_pos (of_decide_eq_true hp)]
    rfl
  | p :: ps, k + 1, hk, hp, hj => by
    have h0 := hj 0 (by simp) (by omega)
    have h0 : decide (p.ty = 3) = false := h0
    rw [findF, if_neg (of_decide_eq_false h0)]
    exact findF_at ps k (by simpa using hk) hp (fun j hj1 hj2 => hj (j + 1) (by simpa using hj1) (by omega))
theorem findF_no : ∀ (ps : List PT), (∀ j, (hj : j < ps.length) → decide ((ps[j]).ty = 3) = false) → findF ps = none
  | [], _ => rfl
  | p :: ps, hj => by
    have h0 := hj 0 (by simp)
    have h0 : decide (p.ty = 3) = false := h0
    rw [findF, if_neg (of_decide_eq_false h0)]
    exact findF_no ps (fun j hj1 => hj (j + 1) (by simpa using hj1))
theorem findF_idx {ps : List PT} {z : Int} (h : IdxOf (fun p => decide (p.ty = 3)) ps z) : (z = -1 ∧ findF ps = none) ∨ ∃ k : Nat, ∃ hk : k < ps.length, z = (k : Int) ∧ findF ps = some ps[k] := by
  rcases h with ⟨k, hk, rfl, hp, hj⟩ | ⟨rfl, hj⟩
  · exact .inr ⟨k, hk, rfl, findF_at ps k hk hp hj⟩
  · exact .inl ⟨rfl, findF_no ps hj⟩
set_option maxRecDepth 100000
set_option maxHeartbeats 8000000 in
theorem interp1_any (p : PT) (w : World) : Calls Tryd.prog 28 #[p.hv] w fun e w' => e = .returned (.bool (decide (p.ty = 3))) ∧ Below w.heap.size w w' := by
  have HB : Hid (Below w.heap.size w (w.alloc (.cells p.cells.toArray 37))) := Lib.hid (ballo (Below.refl _ _) _)
  obtain ⟨R, hR⟩ : ∃ R, decide (p.ty = 3) = R := ⟨_, rfl⟩
  have q : ((p.ty : Int) == 3) = R := by
    rw [← hR]
    by_cases h : p.ty = 3
    · rw [h]; rfl
    · rw [decide_eq_false h, beq_eq_false_iff_ne]; omega
  rw [hR]
  clear hR
  obtain ⟨a0, a1, a2, a3, a4, a5, a6⟩ := p
  unfold PT.hv PT.cells at *
  simp only [] at *
  go_enter Tryd.func28, Tryd.ntmps28
  go_wp2_with fail
  go_ret
  exact ⟨by first | rfl | (rw [q]), HB.out⟩
end Go.Proofs.YtmjfkcclhbpclaaDoor
