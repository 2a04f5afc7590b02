/- Layer 14: what is not too large for the directories to be laid. Nothing of the program is walked here. -/
import Derived.Test.YtppeapafnnanbaaDoorDirs
namespace Go.Proofs.YtppeapafnnanbaaDoor
open Go.RowKit
set_option linter.unusedVariables false
set_option linter.unusedSimpArgs false

theorem textF_len (dir l : List UInt8) (k : Nat) : (textF dir l k).length ≤ dir.length + 8 := by
  match k with
  | 0 => show (l.take 1).length ≤ _; have := List.length_take_le 1 l; omega
  | 1 => show dir.length ≤ _; omega
  | 2 => show 5 ≤ _; omega
  | _ + 3 => show 6 ≤ _; omega
theorem expGo_len (dir : List UInt8) : ∀ (f : Nat) (l out : List UInt8) (told : Bool), (expGo dir f l out told).1.length ≤ out.length + l.length * (dir.length + 8)
  | 0, l, out, told => by show out.length ≤ _; omega
  | f + 1, l, out, told => by
    by_cases h : l = []
    · subst h; rw [expGo_nil]; show out.length ≤ _; omega
    · have h1 := tokF_size h
      rw [expGo_step h]
      have h2 := expGo_len dir f (l.drop (tokF l).2) (out ++ textF dir l (tokF l).1) (told || (tokF l).1 == 1)
      rw [List.length_append, List.length_drop] at h2
      have h3 := textF_len dir l (tokF l).1
      have h4 : (l.length - (tokF l).2 + 1) * (dir.length + 8) ≤ l.length * (dir.length + 8) := Nat.mul_le_mul_right _ (by omega)
      rw [Nat.add_mul, Nat.one_mul] at h4
      omega
theorem dirF_len (s : ByteArray) : (dirF s).length ≤ s.size := by
  unfold dirF
  have e : s.data.toList.length = s.size := by simp
  split
  · exact Nat.zero_le _
  · have h := List.length_take_le' (Nat.max (lastF s).toNat 1) s.data.toList
    omega
theorem expF_len (s origin : ByteArray) : (expF s origin).1.length ≤ s.size * (origin.size + 8) := by
  have h := expGo_len (dirF origin) s.size s.data.toList [] false
  have h1 := dirF_len origin
  have e : s.data.toList.length = s.size := by simp
  have h2 : s.size * ((dirF origin).length + 8) ≤ s.size * (origin.size + 8) := Nat.mul_le_mul_left _ (by omega)
  rw [e] at h
  unfold expF
  simp only [List.length_nil, Nat.zero_add] at h
  omega
theorem cutGo_mem (p : Nat → Bool) : ∀ (r cur x : List UInt8), x ∈ cutGo p cur r → x.length ≤ cur.length + r.length
  | [], cur, x, h => by
    have : x = cur := by simpa [cutGo] using h
    subst this
    exact Nat.le_add_right _ _
  | c :: r, cur, x, h => by
    rw [cutGo] at h
    split at h
    · rcases List.mem_cons.1 h with h1 | h1
      · subst h1; exact Nat.le_add_right _ _
      · have := cutGo_mem p r [] x h1
        simp only [List.length_nil, List.length_cons] at *
        omega
    · have := cutGo_mem p r (cur ++ [c]) x h
      simp only [List.length_append, List.length_cons, List.length_nil] at *
      omega
theorem addF_len (s : Bool) (o : ByteArray) : ∀ (parts : List (List UInt8)) (acc : List ByteArray), (addF s o acc parts).length ≤ acc.length + parts.length
  | [], acc => Nat.le_refl _
  | x :: parts, acc => by
    have h := addF_len s o parts (addStep s o acc x)
    have h1 := addStep_len s o acc x
    show (addF s o (addStep s o acc x) parts).length ≤ _
    simp only [List.length_cons]
    omega
theorem cut_len (p : Nat → Bool) (s : ByteArray) : (cutF p s.data.toList).length ≤ s.size + 1 := by
  have h := cutGo_len p s.data.toList []
  have e : s.data.toList.length = s.size := by simp
  rw [e] at h
  exact h
theorem chainStep_len (s : Bool) (M : Nat) (l : List ByteArray) (o : OT) (h : o.rpath.size ≤ M) : (chainStep s l o).length ≤ l.length + (M + 1) := by
  unfold chainStep
  split
  · have h1 := addF_len s o.path (cutF colonP o.rpath.data.toList) l
    have h2 := cut_len colonP o.rpath
    omega
  · omega
theorem chainFold_len (s : Bool) (M : Nat) : ∀ (C : List OT) (l : List ByteArray), (∀ o ∈ C, o.rpath.size ≤ M) → (C.foldl (chainStep s) l).length ≤ l.length + C.length * (M + 1)
  | [], l, h => by show l.length ≤ _; omega
  | o :: C, l, h => by
    have h1 := chainFold_len s M C (chainStep s l o) (fun x hx => h x (List.mem_cons_of_mem _ hx))
    have h2 := chainStep_len s M l o (h o (List.mem_cons_self ..))
    show (C.foldl (chainStep s) (chainStep s l o)).length ≤ _
    rw [List.length_cons, Nat.add_mul, Nat.one_mul]
    omega
theorem chainF_len (s : Bool) (C : List OT) (h : ∀ o ∈ C, o.rpath.size ≤ 1048576) (hn : C.length ≤ 200000) : (chainF s C).length ≤ 209715400000 := by
  have h1 := chainFold_len s 1048576 C [] h
  have h2 : C.length * (1048576 + 1) ≤ 200000 * (1048576 + 1) := Nat.mul_le_mul_right _ hn
  unfold chainF
  simp only [List.length_nil] at h1
  omega
theorem ok_small (p : Nat → Bool) (list origin : ByteArray) (acc : List ByteArray) (h1 : list.size ≤ 1048576) (h2 : origin.size ≤ 1048576) (h3 : acc.length ≤ 549755813888) : AddOK p list origin acc := by
  have e : list.data.toList.length = list.size := by simp
  refine ⟨by omega, by omega, fun l hl => ?_, ?_⟩
  · have h4 := cutGo_mem p list.data.toList [] l hl
    simp only [List.length_nil, Nat.zero_add] at h4
    have h5 := expF_len (mkT l) origin
    have h6 : (mkT l).size = l.length := by show l.toArray.size = _; simp
    have h7 : (mkT l).size * (origin.size + 8) ≤ 1048576 * (1048576 + 8) := Nat.mul_le_mul (by omega) (by omega)
    exact ⟨by omega, by omega⟩
  · have := cut_len p list
    omega
/-- the texts that stand ready: whether the origin may be put in or not -/
theorem addF_defaults (s : Bool) (acc : List ByteArray) : addF s ⟨#[]⟩ acc (cutF colonP defaultsF.data.toList) = addF false ⟨#[]⟩ acc (cutF colonP defaultsF.data.toList) := by
  have e : cutF colonP defaultsF.data.toList = [[47, 108, 105, 98, 54, 52], [47, 117, 115, 114, 47, 108, 105, 98, 54, 52]] := by decide +kernel
  have e1 : (expF (mkT [47, 108, 105, 98, 54, 52]) ⟨#[]⟩).2 = false := by decide +kernel
  have e2 : (expF (mkT [47, 117, 115, 114, 47, 108, 105, 98, 54, 52]) ⟨#[]⟩).2 = false := by decide +kernel
  rw [e]
  unfold addF
  simp only [List.foldl_cons, List.foldl_nil, addStep, e1, e2, Bool.false_and]
end Go.Proofs.YtppeapafnnanbaaDoor
