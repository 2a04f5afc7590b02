/- Layer 10: what is told of object.Parse's answer: how many, how long, which numbers. -/
import Derived.Test.YtnaejlfjlennhaaGreatDoorObjParse
import Derived.Test.YtnaejlfjlennhaaGreatDoorHeadWrite
import Derived.Test.YtnaejlfjlennhaaGreatDoorHeadLayP
import Derived.Deep.WholeRow
import Derived.Test.YtnaejlfjlennhaaGreatDoorObjRowApp
import Derived.BigRegion
import Derived.BigQuiet
import Derived.Deep.DeepCutAuto
import Derived.Deep.LoopGhost
import Derived.Test.YtnaejlfjlennhaaGreatDoorTk
import Derived.Test.YtnaejlfjlennhaaGreatDoorHeadByR
namespace Go.Proofs.YtnaejlfjlennhaaGreatDoor
open Go.RowKit
set_option linter.unusedVariables false
set_option linter.unusedSimpArgs false

theorem textF_short (s : List Nat) (off : Nat) : (textF s off).1.size ≤ 255 := by
  unfold textF
  split
  · split
    · exact Nat.zero_le _
    · split
      · exact Nat.zero_le _
      · rename_i h1 h2
        show (Lib.bytesOf (cutOf (toI s) off (Lib.indexByte (Lib.bytesOf ((toI s).drop off)) 0).toNat)).toArray.size ≤ 255
        simp only [List.size_toArray, Lib.bytesOf, List.length_map, cutOf, List.length_take] at h1 h2 ⊢
        omega
  · exact Nat.zero_le _
/-- a symbol's row: its name is short -/
def SymRow (r : List Value) : Prop := ∃ (nm : ByteArray) (x1 x2 x3 x4 x5 x6 : Int), nm.size ≤ 255 ∧ r = [.string nm, .int .i64 x1, .int .i64 x2, .int .i64 x3, .int .i64 x4, .int .u64 x5, .int .u64 x6]
theorem symF_row (s bs : List Nat) : SymRow (symF s bs).1 := by
  unfold symF
  split
  · split
    · exact ⟨_, _, _, _, _, _, _, textF_short _ _, rfl⟩
    · exact ⟨_, _, _, _, _, _, _, Nat.zero_le _, rfl⟩
  · exact ⟨_, _, _, _, _, _, _, Nat.zero_le _, rfl⟩
theorem symsTo_row {s t : List Nat} {n : Nat} : ∀ r ∈ symsTo s t n, SymRow r := by
  intro r hr
  obtain ⟨k, -, rfl⟩ := List.mem_map.1 hr
  exact symF_row _ _
/-- a relocation's row: its symbol is none, or one of so many -/
def RelRow (n : Nat) (r : List Value) : Prop := ∃ o t s a : Int, 0 ≤ s ∧ (s = 0 ∨ s < n) ∧ r = [.int .u64 o, .int .i64 t, .int .i64 s, .int .i64 a]
theorem listAF_rows {bs : List Nat} {ps : List PT} {addr bytes n : Nat} (h : (listAF bs ps addr bytes (n : Int)).2 = 0) : (listAF bs ps addr bytes (n : Int)).1.length ≤ 16384 ∧ ∀ r ∈ (listAF bs ps addr bytes (n : Int)).1, RelRow n r := by
  obtain ⟨K, hK, hK2⟩ := entF_len bs ps addr bytes 24 (by omega)
  unfold listAF at h ⊢
  split at h
  · rename_i h0
    rw [if_pos h0]
    unfold listF at h ⊢
    split at h
    · rename_i h1
      rw [if_pos h1]
      refine ⟨?_, ?_⟩
      · show (relsTo _ _).length ≤ 16384
        rw [relsTo_length, hK]
        omega
      · intro r hr
        obtain ⟨k, hk, rfl⟩ := List.mem_map.1 hr
        have hok := h1 k (List.mem_range.1 hk)
        exact ⟨_, _, _, _, by show (0 : Int) ≤ ((_ : Nat) : Int); omega, hok, rfl⟩
    · simp at h
  · rename_i h0
    exact absurd h h0
/-- what is told of an object that is answered -/
structure LOk (CO : Array Value) (w' : World) (B : Nat) (bs : List Nat) : Prop where
  size : CO.size = 54
  one : CO.all (·.oneCell') = true
  bytes : ∃ ba bc, CO[53]? = some (.slice ba bs.length bc) ∧ OwnI w' B 5 .u8 (.slice ba bs.length bc) (toI bs)
  need : ∃ an nn cn, CO[44]? = some (.slice an nn cn) ∧ nn ≤ 64
  told : ∃ ay Y cy, CO[45]? = some (.slice ay (List.length Y) cy) ∧ Y.length ≤ 4096 ∧ OwnS w' B 48 7 (.slice ay Y.length cy) Y ∧ (∀ r ∈ Y, SymRow r) ∧
    (∃ has oa on oc, CO[46]? = some (.bool has) ∧ CO[47]? = some (.slice oa on oc) ∧ (has = true → on = Y.length) ∧ on ≤ 4096) ∧
    ∃ a1 c1 Q1 a2 c2 Q2, CO[50]? = some (.slice a1 (List.length Q1) c1) ∧ CO[51]? = some (.slice a2 (List.length Q2) c2) ∧ OwnS w' B 46 4 (.slice a1 Q1.length c1) Q1 ∧ OwnS w' B 46 4 (.slice a2 Q2.length c2) Q2 ∧
      Q1.length ≤ 16384 ∧ Q2.length ≤ 16384 ∧ (∀ r ∈ Q1, RelRow Y.length r) ∧ ∀ r ∈ Q2, RelRow Y.length r
/-- what is answered -/
def LAns (bs : List Nat) (w : World) (e : Ending) (w' : World) : Prop :=
  (∃ v, e = .returned (.tuple #[.agg objZ, v]) ∧ EV v) ∨ ∃ CO, e = .returned (.tuple #[.agg CO, .nilIface]) ∧ LOk CO w' w.heap.size bs
theorem one_of {CO : Array Value} (hs : CO.size = 54) (h : ∀ j, j < 54 → ∃ v, CO[j]? = some v ∧ v.oneCell' = true) : CO.all (·.oneCell') = true := by
  refine Array.all_eq_true.2 fun i hi => ?_
  obtain ⟨v, h1, h2⟩ := h i (by omega)
  rw [Array.getElem?_eq_getElem hi] at h1
  rw [Option.some.inj h1]
  exact h2
theorem objZ_some : ∀ j, j < 54 → ∃ v, objZ[j]? = some v ∧ v.oneCell' = true := by
  intro j hj
  have h : objZ.all (·.oneCell') = true := by simp [objZ, Value.oneCell']
  have hj' : j < objZ.size := hj
  exact ⟨objZ[j], Array.getElem?_eq_getElem hj', Array.all_eq_true.1 h j hj'⟩
theorem ofF_len {told words : List Nat} (h : (ofF told words).2 = 0) : (ofF told words).1.length = words.length / 2 := by
  unfold ofF at h ⊢
  split at h
  · rename_i h1
    rw [if_pos h1]
    simp
  · simp at h
theorem versF_len {bs : List Nat} {ps : List PT} {d : DT} {n : Nat} (h : (versF bs ps d (n : Int)).2 = 0) : (versF bs ps d (n : Int)).1.of.length ≤ n ∧ ((versF bs ps d (n : Int)).1.has = true → (versF bs ps d (n : Int)).1.of.length = n) := by
  unfold versF at h ⊢
  split at h
  · simp at h
  rename_i h1
  split at h
  · simp at h
  rename_i h2
  split at h
  · rename_i h3
    rw [if_neg h1, if_neg h2, if_pos h3]
    exact ⟨Nat.zero_le _, fun h => by cases h⟩
  rename_i h3
  split at h
  · rename_i h4; exact absurd h h4
  rename_i h4
  split at h
  · rename_i h5; exact absurd h h5
  rename_i h5
  split at h
  · rename_i h6; exact absurd h h6
  rename_i h6
  split at h
  · rename_i h7; exact absurd h h7
  rename_i h7
  split at h
  · rename_i h8; exact absurd h h8
  rename_i h8
  rw [if_neg h1, if_neg h2, if_neg h3, if_neg h4, if_neg h5, if_neg h6, if_neg h7, if_neg h8]
  have e1 := ofF_len (Decidable.not_not.1 h8)
  have e2 := sliceF_len bs ps d.versym (2 * ((n : Int)).toNat) (Decidable.not_not.1 h5)
  have e3 : (ofF (needsF bs ps (strF bs ps d.strtab d.strsz).1 (defsF bs ps (strF bs ps d.strtab d.strsz).1 [] d.verdef d.verdefnum).1.1 d.verneed d.verneednum).1.1 (sliceF bs ps d.versym (2 * ((n : Int)).toNat)).1).1.length = n := by
    rw [e1, e2]
    omega
  exact ⟨Nat.le_of_eq e3, fun _ => e3⟩
theorem sreadF_rows {bs : List Nat} {ps : List PT} {d : DT} {n : Nat} (h : (sreadF bs ps d (n : Int)).2 = 0) : n ≤ 4096 ∧ (sreadF bs ps d (n : Int)).1.length = n ∧ ∀ r ∈ (sreadF bs ps d (n : Int)).1, SymRow r := by
  obtain ⟨h1, h2, s, t, -, -, -, h3⟩ := sreadF_yes h
  rw [h3]
  exact ⟨by omega, by simp [symsTo], symsTo_row⟩
theorem textsE_few {s : List Nat × Nat} {d : DT} {ns : List Nat} (h : textsE s d ns = 0) : ns.length ≤ 64 := by
  unfold textsE at h
  split at h
  · rename_i h1; exact absurd h h1
  split at h
  · rename_i h1; exact absurd h h1
  split at h
  · simp at h
  · omega
theorem relsAF_rows {bs : List Nat} {ps : List PT} {A S J T Q Z n : Nat} (h : (relsAF bs ps A S J T Q Z (n : Int)).2 = 0) :
    ((relsAF bs ps A S J T Q Z (n : Int)).1.1.length ≤ 16384 ∧ ∀ r ∈ (relsAF bs ps A S J T Q Z (n : Int)).1.1, RelRow n r) ∧ (relsAF bs ps A S J T Q Z (n : Int)).1.2.1.length ≤ 16384 ∧ ∀ r ∈ (relsAF bs ps A S J T Q Z (n : Int)).1.2.1, RelRow n r := by
  unfold relsAF at h ⊢
  split at h
  · rename_i h1; exact absurd h h1
  rename_i h1
  split at h
  · rename_i h2; exact absurd h h2
  rename_i h2
  split at h
  · rename_i h3; exact absurd h h3
  rename_i h3
  split at h
  · rename_i h4; exact absurd h h4
  rename_i h4
  rw [if_neg h1, if_neg h2, if_neg h3, if_neg h4]
  exact ⟨listAF_rows (Decidable.not_not.1 h1), listAF_rows (Decidable.not_not.1 h2)⟩
theorem lies_of {bs : List Nat} {w w' : World} {e : Ending} (h : ParseAns bs w e w') : LAns bs w e w' := by
  unfold ParseAns at h
  cases hR : readF bs with
  | error x =>
    rw [hR] at h
    obtain ⟨v, h1, h2⟩ := h
    exact .inl ⟨v, h1, h2.ev⟩
  | ok hh =>
    rw [hR] at h
    dsimp only [] at h
    cases hD : dynRF bs hh.ps with
    | error n =>
      rw [hD] at h
      exact .inl ⟨_, h, .inr ⟨_, errV_pos (dynRF_pos hD)⟩⟩
    | ok o =>
      rw [hD] at h
      cases o with
      | none =>
        obtain ⟨CO, h1, ⟨k1, k2, k3, pa, pc, ba, bc, k4, k5, -, k6⟩, h3⟩ := h
        refine .inr ⟨CO, h1, ⟨k1, one_of k1 fun j hj => ?_, ⟨ba, bc, k5, k6⟩, ⟨none, 0, 0, (h3 44 (by omega) (by omega)).trans rfl, by omega⟩, ⟨none, [], 0, (h3 45 (by omega) (by omega)).trans rfl, by simp, OwnS.nil _ _ _ _, by simp, ⟨false, none, 0, 0, (h3 46 (by omega) (by omega)).trans rfl, (h3 47 (by omega) (by omega)).trans rfl, by simp, by omega⟩, none, 0, [], none, 0, [], (h3 50 (by omega) (by omega)).trans rfl, (h3 51 (by omega) (by omega)).trans rfl, OwnS.nil _ _ _ _, OwnS.nil _ _ _ _, by simp, by simp, by simp, by simp⟩⟩⟩
        by_cases h4 : 3 ≤ j ∧ j < 53
        · rw [h3 j h4.1 h4.2]
          exact objZ_some j hj
        · have : j = 0 ∨ j = 1 ∨ j = 2 ∨ j = 53 := by omega
          rcases this with rfl | rfl | rfl | rfl
          · exact ⟨_, k2, rfl⟩
          · exact ⟨_, k3, rfl⟩
          · exact ⟨_, k4, rfl⟩
          · exact ⟨_, k5, rfl⟩
      | some q =>
        obtain ⟨ns, m⟩ := q
        obtain ⟨ad, c, h⟩ := h
        by_cases hE : dynE bs hh.ps (toldF ad ns.length c m) ns = 0
        · rw [if_pos hE] at h
          obtain ⟨bo, C, CO, h1, h2, ⟨k1, k2, k3, pa, pc, ba, bc, k4, k5, -, k6⟩, k7, k8, -, hok⟩ := h
          generalize toldF ad ns.length c m = d at *
          obtain ⟨C', g1, g2, g3, g4, ⟨an, cn, g5, -⟩, ⟨ay, cy, g7, g8⟩, ⟨oa, oc, da, dc, drows, na, nc, nrows, l1, l2, l3, l4, -⟩, a1, n1, c1, a2, n2, c2, a3, n3, c3, m1, m2, m3, q1, q2, -⟩ := hok
          obtain rfl : CO = C' := by
            rw [h2] at g1
            simpa using g1
          unfold dynE at hE
          split at hE
          · rename_i z; exact absurd hE z
          rename_i z1
          split at hE
          · rename_i z; exact absurd hE z
          rename_i z2
          split at hE
          · rename_i z; exact absurd hE z
          rename_i z3
          split at hE
          · rename_i z; exact absurd hE z
          rename_i z4
          obtain ⟨y1, y2, y3⟩ := sreadF_rows (Decidable.not_not.1 z2)
          obtain ⟨v1, v2⟩ := versF_len (Decidable.not_not.1 z4)
          obtain ⟨⟨r1, r2⟩, r3, r4⟩ := relsAF_rows hE
          have e1 := q1.at.1
          have e2 := q2.at.1
          subst e1 e2
          generalize (countAF bs hh.ps d.hash d.gnuHash).1 = N at *
          generalize (sreadF bs hh.ps d (N : Int)).1 = Y at *
          refine .inr ⟨CO, h1, ⟨k1, one_of k1 fun j hj => ?_, ⟨ba, bc, k5, k6⟩, ⟨an, _, cn, g5, textsE_few (Decidable.not_not.1 z3)⟩, ⟨ay, Y, cy, g7, by omega, g8, y3, ⟨_, oa, _, oc, l1, l2, fun hh => (v2 hh).trans y2.symm, by omega⟩, a1, c1, _, a2, c2, _, m1, m2, q1, q2, r1, r3, by rw [y2]; exact r2, by rw [y2]; exact r4⟩⟩⟩
          by_cases h4 : 4 ≤ j ∧ j < 41
          · obtain ⟨i, rfl⟩ : ∃ i, j = 4 + i := ⟨j - 4, by omega⟩
            have hi : i < d.cells.toList.length := by show i < 37; omega
            exact ⟨_, k8 i _ (List.getElem?_eq_getElem hi), by
              have := Array.all_eq_true.1 (dyn_one d) i hi
              simpa using this⟩
          · have : j = 0 ∨ j = 1 ∨ j = 2 ∨ j = 3 ∨ j = 41 + 0 ∨ j = 41 + 1 ∨ j = 41 + 2 ∨ j = 44 ∨ j = 45 ∨ j = 46 ∨ j = 47 ∨ j = 48 ∨ j = 49 ∨ j = 50 ∨ j = 51 ∨ j = 52 ∨ j = 53 := by omega
            rcases this with e | e | e | e | e | e | e | e | e | e | e | e | e | e | e | e | e <;> rw [e]
            · exact ⟨_, k2, rfl⟩
            · exact ⟨_, k3, rfl⟩
            · exact ⟨_, k4, rfl⟩
            · exact ⟨_, k7, rfl⟩
            · exact ⟨_, g4 0 (by omega), rfl⟩
            · exact ⟨_, g4 1 (by omega), rfl⟩
            · exact ⟨_, g4 2 (by omega), rfl⟩
            · exact ⟨_, g5, rfl⟩
            · exact ⟨_, g7, rfl⟩
            · exact ⟨_, l1, rfl⟩
            · exact ⟨_, l2, rfl⟩
            · exact ⟨_, l3, rfl⟩
            · exact ⟨_, l4, rfl⟩
            · exact ⟨_, m1, rfl⟩
            · exact ⟨_, m2, rfl⟩
            · exact ⟨_, m3, rfl⟩
            · exact ⟨_, k5, rfl⟩
        · rw [if_neg hE] at h
          exact .inl ⟨_, h, .inr ⟨_, errV_pos (Nat.pos_of_ne_zero hE)⟩⟩
end Go.Proofs.YtnaejlfjlennhaaGreatDoor
/- Layer 10: the rows of the document's examples, at the head of all statements. -/
namespace Go.Proofs.YtnaejlfjlennhaaGreatDoor
open Go.RowKit
set_option linter.unusedVariables false
set_option linter.unusedSimpArgs false
set_option maxRecDepth 100000

theorem own_u8o {w : World} {B g : Nat} {xs : List Nat} (h : w.heap[g]? = some (.cells (u8c xs) 5)) (hB : B ≤ g) (hm : xs.length ≤ 1048576) : OwnI w B 5 .u8 (.slice (some ⟨g, 0, none⟩) xs.length xs.length) (toI xs) := by
  have e : (toI xs).map (Value.int .u8) = (u8c xs).toList := by unfold toI u8c; rw [List.map_map]; rfl
  have el : (toI xs).length = xs.length := toI_length xs
  unfold OwnI
  rw [el, e]
  refine ⟨?_, .inr ⟨g, xs.length, u8c xs, rfl, hB, h, Nat.le_refl _, by unfold maxLen; omega, ?_, ?_⟩⟩
  · unfold u8c; simp
  · unfold u8c; simp
  · rw [List.take_of_length_le (by unfold u8c; simp)]
theorem ret2_inj {a b c d : Value} (h : Ending.returned (.tuple #[a, b]) = .returned (.tuple #[c, d])) : a = c ∧ b = d := by simpa using h
def oPT : PT := ⟨1, 0, 0, 0, 0, 1, 4096⟩
theorem oread_nil : readF [] = .error (.spot 0 4) := by kernel_rfl
theorem oread_one : readF (writeF 3 0 [oPT]) = .ok ⟨3, 0, [oPT]⟩ := by kernel_rfl
theorem odyn_one : dynRF (writeF 3 0 [oPT]) [oPT] = .ok none := by kernel_rfl
theorem owrite_lt : ∀ x ∈ writeF 3 0 [oPT], x < 256 := by decide +kernel
theorem oprow_one {w : World} {b : Nat} (h : w.heap[b]? = some (.cells #[.int .u32 1, .int .u32 0, .int .u64 0, .int .u64 0, .int .u64 0, .int .u64 1, .int .u64 4096] 54)) : PRow w (some ⟨b, 0, none⟩) [oPT] := fun i hi => by
  obtain rfl : i = 0 := by simp at hi; omega
  refine ⟨show PT.wf oPT from ⟨by decide, by decide, by decide, by decide, by decide, by decide, by decide⟩, b, 0, rfl, lt_of_block h, fun j hj => ?_⟩
  rw [show 0 + 0 * 7 + j = j by omega, cell_of_row _ _ j _ _ _ h]
  rcases (show j = 0 ∨ j = 1 ∨ j = 2 ∨ j = 3 ∨ j = 4 ∨ j = 5 ∨ j = 6 by omega) with rfl | rfl | rfl | rfl | rfl | rfl | rfl <;> rfl
set_option maxHeartbeats 16000000 in
theorem oup_any (w : World) (hg : ErrType w) (hf : FixAt w) :
    Calls Tryz.prog 4 #[] w fun e w' => e = .returned (.bool true) ∧ Below w.heap.size w w' := by
  have HP1 : Hid (Calls Tryz.prog 5 #[.slice none 0 0] w fun e w' => (∃ sb, e = .returned (.tuple #[.agg objZ, .iface 68 (.pointer (some ⟨sb, 0, none⟩))]) ∧ w'.heap[sb]? = some (.cells #[.int .u64 ((0 : Nat) : Int), .iface 56 (.int .i64 ((4 : Nat) : Int))] 73)) ∧ Below w.heap.size w w') := Lib.hid ((parse_any none 0 [] w ⟨fun i hi => by simp [toI] at hi, fun b hb => by simp at hb⟩ (by decide) (fun _ => ⟨rfl, rfl⟩) (by decide) hf).mono fun e w' h => by
    obtain ⟨h, hb⟩ := h
    unfold ParseAns at h
    rw [oread_nil] at h
    obtain ⟨v, he, sb, hv, hs⟩ := h
    subst hv
    exact ⟨⟨sb, he, hs⟩, hb⟩)
  have HW2 : Hid (∀ wx, Below w.heap.size w wx → Calls Tryz.prog 6 #[.agg #[.int .i64 3, .int .u64 0, .slice (some ⟨wx.heap.size, 0, none⟩) 1 1]] (wx.alloc (.cells #[.int .u32 1, .int .u32 0, .int .u64 0, .int .u64 0, .int .u64 0, .int .u64 1, .int .u64 4096] 54)) (WritePost (wx.alloc (.cells #[.int .u32 1, .int .u32 0, .int .u64 0, .int .u64 0, .int .u64 0, .int .u64 1, .int .u64 4096] 54)) (writeF 3 0 [oPT]))) := Lib.hid (fun wx hb => hwrite_ok 3 0 (some ⟨wx.heap.size, 0, none⟩) 1 1 [oPT] _ (.inr ⟨by decide, by decide⟩) (by decide) (by decide) (oprow_one (heap_alloc_new _ _)) rfl (by decide) (by decide) (hf.below (ballo hb _)))
  have HP2 : Hid (∀ g wx, Below w.heap.size w wx → wx.heap[g]? = some (.cells (u8c (writeF 3 0 [oPT])) 5) → Calls Tryz.prog 5 #[.slice (some ⟨g, 0, none⟩) 120 120] wx fun e w' => (∃ CO pa pc, e = .returned (.tuple #[.agg CO, .nilIface]) ∧ CO.size = 54 ∧ CO.all (·.oneCell') = true ∧ CO[3]? = some (.bool false) ∧ CO[2]? = some (.slice pa 1 pc)) ∧ Below wx.heap.size wx w') := Lib.hid (fun g wx hb h => by
    have hl : (writeF 3 0 [oPT]).length = 120 := by rw [writeF_len]; rfl
    have ho := own_u8o (B := 0) h (Nat.zero_le _) (by rw [hl]; decide)
    obtain ⟨-, hrow, -⟩ := OwnI.at ho
    have hp := parse_any (some ⟨g, 0, none⟩) 120 (writeF 3 0 [oPT]) wx ⟨hrow, owrite_lt⟩ (by rw [hl]; decide) (fun e => by cases e) (by rw [hl]; decide) (hf.below hb)
    rw [hl] at hp
    refine hp.mono fun e w' h => ?_
    obtain ⟨h, hb⟩ := h
    refine ⟨?_, hb⟩
    have hL := lies_of h
    unfold ParseAns at h
    rw [oread_one] at h
    dsimp only [] at h
    rw [odyn_one] at h
    obtain ⟨CO, h1, ⟨k1, k2, k3, pa, pc, ba, bc, k4, -⟩, h3⟩ := h
    rcases hL with ⟨v, h4, h5⟩ | ⟨CO', h4, h5⟩
    · exfalso
      rw [h1] at h4
      have : v = .nilIface := (ret2_inj h4).2.symm
      subst this
      rcases h5 with ⟨sb, h5⟩ | ⟨c, h5⟩ <;> cases h5
    · have : CO = CO' := by
        rw [h1] at h4
        have := (ret2_inj h4).1
        simpa using this
      subst this
      exact ⟨CO, pa, pc, h1, k1, h5.one, (h3 3 (by omega) (by omega)).trans rfl, k4⟩)
  have HIS : Hid (∀ sb (a n : Nat) wx, Below w.heap.size w wx → wx.heap[sb]? = some (.cells #[.int .u64 (a : Int), .iface 56 (.int .i64 (n : Int))] 73) → Calls Tryz.prog 7 #[.iface 68 (.pointer (some ⟨sb, 0, none⟩)), .int .u64 (a : Int), .int .i64 (n : Int)] wx fun e w' => e = .returned (.bool true) ∧ Below wx.heap.size wx w') := Lib.hid (fun sb a n wx hb h => is_spot sb (a : Int) (n : Int) wx (hg.below hb) (by rw [cell_of_row _ _ 0 _ _ _ h]; rfl) (by rw [cell_of_row _ _ 1 _ _ _ h]; rfl))
  have HSW : Hid ((writeF 3 0 [oPT]).length = 120) := Lib.hid (by rw [writeF_len]; rfl)
  have HON : Hid (objZ.all (·.oneCell') = true) := Lib.hid (by simp [objZ, Value.oneCell'])
  have HI : Hid ((Tryz.prog.info? 40).map (·.size) = some objZ.size) := Lib.hid (by kernel_rfl)
  have HZS : Hid (54 = objZ.size) := Lib.hid rfl
  unfold WritePost at HW2
  generalize objZ = Z at *
  clear hg hf
  go_enter Tryz.func4, Tryz.ntmps4
  go_wp2_with fail
  refine HP1.out.mono ?_
  rintro e w1 ⟨⟨s1, rfl, hs1⟩, b1⟩
  have B1 := Lib.hid b1
  have S1 := Lib.hid hs1
  clear b1 hs1 HP1
  go_upto_region 2 with (refine wpList_store_row rfl 40 _ _ rfl w1.heap.size Z rfl (by rfl) 40 _ (heap_alloc_new _ _) HI.out HZS.out HON.out ?_; rw [World.setRow_alloc_new])
  have C2 : Hid (Below w1.heap.size w1 (w1.alloc (.cells Z 40))) := Lib.hid (ballo (Below.refl _ _) _)
  have B2 := Lib.hid (bstep B1.out C2.out)
  have S2 := Lib.hid ((C2.out.block _ (lt_of_block S1.out)).trans S1.out)
  generalize w1.alloc (.cells Z 40) = w2 at *
  have HW3 := Lib.hid (HW2.out w2 B2.out)
  have C3 : Hid (Below w2.heap.size w2 (w2.alloc (.cells #[.int .u32 1, .int .u32 0, .int .u64 0, .int .u64 0, .int .u64 0, .int .u64 1, .int .u64 4096] 54))) := Lib.hid (ballo (Below.refl _ _) _)
  go_wp2_with fail
  refine HW3.out.mono ?_
  rintro e w3 ⟨g3, hret, hg3, hg3l, b3⟩
  rw [HSW.out] at hret
  subst hret
  have B3 := Lib.hid (bstep (bstep B2.out C3.out) b3)
  have S3 := Lib.hid ((b3.block _ (lt_of_block ((C3.out.block _ (lt_of_block S2.out)).trans S2.out))).trans ((C3.out.block _ (lt_of_block S2.out)).trans S2.out))
  have HP3 := Lib.hid (HP2.out g3 w3 B3.out hg3)
  clear hg3 hg3l b3 HW2 HW3 C2 HP2
  go_wp2_with fail
  refine HP3.out.mono ?_
  rintro e w4 ⟨⟨CO, pa, pc, rfl, hs, ho, h3, h2⟩, b4⟩
  have B4 := Lib.hid (bstep B3.out b4)
  have S4 := Lib.hid ((b4.block _ (lt_of_block S3.out)).trans S3.out)
  have HCS : Hid (54 = CO.size) := Lib.hid hs.symm
  have HCI : Hid ((Tryz.prog.info? 40).map (·.size) = some CO.size) := Lib.hid (by rw [hs]; kernel_rfl)
  have HCO := Lib.hid ho
  have H3 := Lib.hid h3
  have H2 := Lib.hid h2
  clear b4 HP3 hs ho h3 h2 C3
  go_upto_region 4 with (refine wpList_store_row rfl 40 _ _ rfl w4.heap.size CO rfl (by rfl) 40 _ (heap_alloc_new _ _) HCI.out HCS.out HCO.out ?_; rw [World.setRow_alloc_new])
  have C5 : Hid (Below w4.heap.size w4 (w4.alloc (.cells CO 40))) := Lib.hid (ballo (Below.refl _ _) _)
  have B5 := Lib.hid (bstep B4.out C5.out)
  have S5 := Lib.hid ((C5.out.block _ (lt_of_block S4.out)).trans S4.out)
  have X5 : Hid ((w4.alloc (.cells CO 40)).heap[w4.heap.size]? = some (.cells CO 40)) := Lib.hid (heap_alloc_new _ _)
  generalize w4.alloc (.cells CO 40) = w5 at *
  generalize w4.heap.size = xb at *
  have HE := Lib.hid (HIS.out s1 0 4 w5 B5.out S5.out)
  go_wp2_with fail
  refine HE.out.mono ?_
  rintro e w6 ⟨rfl, b6⟩
  have B6 := Lib.hid (bstep B5.out b6)
  have X6 := Lib.hid ((b6.block _ (lt_of_block X5.out)).trans X5.out)
  have q3 : w6.cell? ⟨xb, 3, none⟩ = some (.bool false) := by rw [cell_of_row _ _ 3 _ _ _ X6.out]; exact H3.out
  have q2 : w6.cell? ⟨xb, 2, none⟩ = some (.slice pa 1 pc) := by rw [cell_of_row _ _ 2 _ _ _ X6.out]; exact H2.out
  clear b6 HE
  go_wp2_with fail
  go_ret
  exact ⟨by first | rfl | simp, B6.out⟩
end Go.Proofs.YtnaejlfjlennhaaGreatDoor
/- Layer 10: the law ObjectLies, of whatever bytes. -/
namespace Go.Proofs.YtnaejlfjlennhaaGreatDoor
open Go.RowKit
set_option linter.unusedVariables false
set_option linter.unusedSimpArgs false

/-- string(b): a text of a slice's bytes, nil or not -/
theorem conv_rowO (w : World) (ad : Option Addr) (c n : Nat) (bs : List Nat) (hl : bs.length = n) (h : BRow w ad bs) : (convert 22 9 (.slice ad n c)).run Tryz.prog w = .ok (.string ⟨(Lib.bytesOf (toI bs)).toArray⟩) w := by
  subst hl
  cases ad with
  | none =>
    have h0 : bs = [] := by
      cases bs with
      | nil => rfl
      | cons x xs =>
        obtain ⟨b, o, e, -⟩ := h.1 0 (by simp [toI])
        cases e
    subst h0
    exact run_convert_bytes_nil (P := Tryz.prog) w 22 5 Tryz.underlying22 Tryz.underlying5 _ _ 9 Tryz.underlying9
  | some a =>
    rw [run_convert_bytes_string w 22 9 5 _ _ _ Tryz.underlying22 Tryz.underlying5 Tryz.underlying9]
    have hf := run_firstCells_some (P := Tryz.prog) w 1 bs.length a bs.length c ((toI bs).map (Value.int .u8)) (by simp [toI]) (by
      intro j u hj
      have hjn : j < bs.length := by
        have := (List.getElem?_eq_some_iff.1 hj).1
        simpa [toI] using this
      obtain ⟨b', o', e', hc⟩ := h.1 j (by rw [toI_length]; exact hjn)
      simp only [Option.some.injEq] at e'
      subst e'
      rw [WideShapes.add_plain, hc]
      rw [List.getElem?_map, List.getElem?_eq_getElem (by rw [toI_length]; exact hjn)] at hj
      simp only [Option.map_some, Option.some.injEq] at hj
      rw [← hj]
      simp [List.getD, List.getElem?_eq_getElem (show j < (toI bs).length from by rw [toI_length]; exact hjn)])
    simp only [Builtin.firstCells, Nat.mul_one] at hf
    rw [run_bytesToString w a bs.length c (toI bs) hf, fold_push]
    simp
theorem rel_one {n : Nat} {Q : List (List Value)} (h : ∀ r ∈ Q, RelRow n r) : ∀ r ∈ Q, ∀ u ∈ r, u.oneCell' = true := by
  intro r hr u hu
  obtain ⟨o, t, s, a, -, -, rfl⟩ := h r hr
  simp only [List.mem_cons, List.not_mem_nil, or_false] at hu
  rcases hu with rfl | rfl | rfl | rfl <;> rfl
set_option maxRecDepth 100000 in
set_option maxHeartbeats 32000000 in
theorem lies_at (a : Option Addr) (len cap : Nat) (bs : List Nat) (w : World) (hb : BRow w a bs) (hlen : bs.length = len) (hl : len ≤ 140737488351232) (hbn : a = none → len = 0 ∧ cap = 0) (hbc : len ≤ cap) (hg : ErrType w) (hf : FixAt w) :
    Calls Tryz.prog 3 #[.slice a len cap] w fun e w' => e = .returned (.bool true) ∧ Below w.heap.size w w' := by
  subst hlen
  have HUP := Lib.hid (oup_any w hg hf)
  have HPA : Hid (∀ wx, Below w.heap.size w wx → Calls Tryz.prog 5 #[.slice a bs.length cap] wx fun e w' => LAns bs wx e w' ∧ Below wx.heap.size wx w') := Lib.hid (fun wx hb1 => (parse_any a cap bs wx (hb.below hb1) hl hbn hbc (hf.below hb1)).mono fun e w' h => ⟨lies_of h.1, h.2⟩)
  have HB := Lib.hid hb
  have HZ3 : Hid (objZ[3]? = some (.bool false)) := Lib.hid rfl
  have HZ45 : Hid (objZ[45]? = some (.slice none 0 0)) := Lib.hid rfl
  have HZ53 : Hid (objZ[53]? = some (.slice none 0 0)) := Lib.hid rfl
  have HZO : Hid (objZ.all (·.oneCell') = true) := Lib.hid (by simp [objZ, Value.oneCell'])
  have HZI : Hid ((Tryz.prog.info? 40).map (·.size) = some objZ.size) := Lib.hid (by kernel_rfl)
  have HZZ : Hid (54 = objZ.size) := Lib.hid rfl
  unfold LAns at HPA
  generalize objZ = Z at *
  clear hg hf hb
  go_enter Tryz.func3, Tryz.ntmps3
  go_wp2_with fail
  refine HUP.out.mono ?_
  rintro e w1 ⟨rfl, b1⟩
  have B1 := Lib.hid b1
  clear b1 HUP
  go_wp2_with fail
  refine (HPA.out w1 B1.out).mono ?_
  rintro e w2 ⟨hans, b2⟩
  have B2 := Lib.hid (bstep B1.out b2)
  clear b2 HPA
  rcases hans with ⟨v, rfl, hv⟩ | ⟨CO, rfl, hok⟩
  · have HZS := HZZ
    have HI := HZI
    have HON := HZO
    rcases hv with ⟨sb, rfl⟩ | ⟨c, rfl⟩
    all_goals
      go_upto_region 3 with (refine wpList_store_row rfl 40 _ _ rfl w2.heap.size Z rfl (by rfl) 40 _ (heap_alloc_new _ _) HI.out HZS.out HON.out ?_; rw [World.setRow_alloc_new])
      have B3 : Hid (Below w.heap.size w (w2.alloc (.cells Z 40))) := Lib.hid (ballo B2.out _)
      have X3 : Hid ((w2.alloc (.cells Z 40)).heap[w2.heap.size]? = some (.cells Z 40)) := Lib.hid (heap_alloc_new _ _)
      generalize w2.alloc (.cells Z 40) = w3 at *
      generalize w2.heap.size = xb at *
      have q3 : w3.cell? ⟨xb, 3, none⟩ = some (.bool false) := by rw [cell_of_row _ _ 3 _ _ _ X3.out]; exact HZ3.out
      have q45 : w3.cell? ⟨xb, 45, none⟩ = some (.slice none 0 0) := by rw [cell_of_row _ _ 45 _ _ _ X3.out]; exact HZ45.out
      have q53 : w3.cell? ⟨xb, 53, none⟩ = some (.slice none 0 0) := by rw [cell_of_row _ _ 53 _ _ _ X3.out]; exact HZ53.out
      go_wp2_with fail
      go_ret
      exact ⟨by first | rfl | simp, B3.out⟩
  · have HZS : Hid (54 = CO.size) := Lib.hid hok.size.symm
    have HI : Hid ((Tryz.prog.info? 40).map (·.size) = some CO.size) := Lib.hid (by rw [hok.size]; kernel_rfl)
    have HON := Lib.hid hok.one
    obtain ⟨ba, bc, k53, hby⟩ := hok.bytes
    obtain ⟨an, nn, cn, k44, hnn⟩ := hok.need
    obtain ⟨ay, Y, cy, k45, hY, hoy, hsr, ⟨has, oa, on, oc, k46, k47, hon, hon2⟩, a1, c1, Q1, a2, c2, Q2, k50, k51, ho1, ho2, hm1, hm2, hr1, hr2⟩ := hok.told
    clear HZ3 HZ45 HZ53 HZO HZI hok
    go_upto_region 3 with (refine wpList_store_row rfl 40 _ _ rfl w2.heap.size CO rfl (by rfl) 40 _ (heap_alloc_new _ _) HI.out HZS.out HON.out ?_; rw [World.setRow_alloc_new])
    have C3 : Hid (Below w2.heap.size w2 (w2.alloc (.cells CO 40))) := Lib.hid (ballo (Below.refl _ _) _)
    have B3 := Lib.hid (bstep B2.out C3.out)
    have X3 : Hid ((w2.alloc (.cells CO 40)).heap[w2.heap.size]? = some (.cells CO 40)) := Lib.hid (heap_alloc_new _ _)
    have OY := Lib.hid ((hoy.below C3.out).mono (Nat.zero_le _))
    have OR1 := Lib.hid ((ho1.below C3.out).mono (Nat.zero_le _))
    have OR2 := Lib.hid ((ho2.below C3.out).mono (Nat.zero_le _))
    have OB3 := Lib.hid ((hby.below C3.out).mono (Nat.zero_le _))
    clear hoy ho1 ho2 hby C3
    generalize w2.alloc (.cells CO 40) = w3 at *
    generalize w2.heap.size = xb at *
    obtain ⟨n1, hn1⟩ : ∃ n, Q1.length = n := ⟨_, rfl⟩
    obtain ⟨n2, hn2⟩ : ∃ n, Q2.length = n := ⟨_, rfl⟩
    obtain ⟨yn, hyn⟩ : ∃ n, Y.length = n := ⟨_, rfl⟩
    rw [hn1] at k50 OR1 hm1
    rw [hn2] at k51 OR2 hm2
    rw [hyn] at k45 OY hY hon hr1 hr2
    have HL1 := Lib.hid hn1
    have HL2 := Lib.hid hn2
    have HLY := Lib.hid hyn
    have HM1 := Lib.hid hm1
    have HM2 := Lib.hid hm2
    have HY1 := Lib.hid (rel_one hr1)
    have HY2 := Lib.hid (rel_one hr2)
    have HR1 := Lib.hid hr1
    have HR2 := Lib.hid hr2
    have HSR := Lib.hid hsr
    have HMY := Lib.hid hY
    have HMN := Lib.hid hnn
    have HMO := Lib.hid hon
    have HMO2 := Lib.hid hon2
    have HN1 : Hid (([] ++ Q1).length = n1) := Lib.hid (by rw [List.nil_append, hn1])
    obtain ⟨N, hNN⟩ : ∃ N, n1 + n2 = N := ⟨_, rfl⟩
    have HMQ : Hid (N ≤ 32768) := Lib.hid (by omega)
    have HNN := Lib.hid hNN
    have KA : Hid (∀ wx, Below w3.heap.size w3 wx → wx.cell? ⟨xb, 44, none⟩ = some (.slice an nn cn) ∧ wx.cell? ⟨xb, 45, none⟩ = some (.slice ay yn cy) ∧ wx.cell? ⟨xb, 46, none⟩ = some (.bool has) ∧ wx.cell? ⟨xb, 47, none⟩ = some (.slice oa on oc) ∧ wx.cell? ⟨xb, 53, none⟩ = some (.slice ba bs.length bc)) := Lib.hid (fun wx hb => by
      have h := (hb.block _ (lt_of_block X3.out)).trans X3.out
      exact ⟨by rw [cell_of_row _ _ 44 _ _ _ h]; exact k44, by rw [cell_of_row _ _ 45 _ _ _ h]; exact k45, by rw [cell_of_row _ _ 46 _ _ _ h]; exact k46, by rw [cell_of_row _ _ 47 _ _ _ h]; exact k47, by rw [cell_of_row _ _ 53 _ _ _ h]; exact k53⟩)
    have KS : Hid (∀ wx, Below w3.heap.size w3 wx → wx.cell? ⟨xb, 50, none⟩ = some (.slice a1 n1 c1) ∧ wx.cell? ⟨xb, 51, none⟩ = some (.slice a2 n2 c2)) := Lib.hid (fun wx hb => by
      have h := (hb.block _ (lt_of_block X3.out)).trans X3.out
      exact ⟨by rw [cell_of_row _ _ 50 _ _ _ h]; exact k50, by rw [cell_of_row _ _ 51 _ _ _ h]; exact k51⟩)
    clear hNN hn1 hn2 hyn hm1 hm2 hr1 hr2 hsr hY hnn hon hon2 k44 k45 k46 k47 k50 k51 k53 X3 HZS HI HON
    go_upto_region 5 with fail
    refine wp_region_held_drew (S := fun wx => Below w3.heap.size w3 wx) (by kernel_rfl) ((Below.refl _ _).drew) (fun hHeld => ?_)
    first
      | (refine tkw 1 ?_ rfl ?_ ?_
         rotate_left
         · intro wx hSw
           obtain ⟨s1, s2⟩ := KS.out wx hSw
           (first | (go_simp; rfl) | go_simp | rfl))
      | refine tku 1 rfl ?_
    first
      | (refine tkw 2 ?_ rfl ?_ ?_
         rotate_left
         · intro wx hSw
           obtain ⟨s1, s2⟩ := KS.out wx hSw
           (first | (go_simp; rfl) | go_simp | rfl))
      | refine tku 2 rfl ?_
    first
      | (refine tkw 4 ?_ rfl ?_ ?_
         rotate_left
         · intro wx hSw
           obtain ⟨s1, s2⟩ := KS.out wx hSw
           (first | (go_simp; rfl) | go_simp | rfl))
      | refine tku 4 rfl ?_
    first
      | (refine tkw 5 ?_ rfl ?_ ?_
         rotate_left
         · intro wx hSw
           obtain ⟨s1, s2⟩ := KS.out wx hSw
           (first | (go_simp; rfl) | go_simp | rfl))
      | refine tku 5 rfl ?_
    refine wpAnyH_ready (rs := [0]) (by kernel_rfl) (by simp) ?_
    refine AllReadyH.cons rfl (fun K hK => ?_) AllReadyH.nil
    go_simp
    have O4 : Hid (OwnS (w3.drew.alloc (.cells #[] 46)) w3.heap.size 46 4 (.slice (some ⟨w3.heap.size, 0, none⟩) 0 0) []) := Lib.hid (OwnS.empty w3.drew _ _ _ (Nat.le_refl _))
    have E4 : Hid (Below w3.heap.size w3 (w3.drew.alloc (.cells #[] 46))) := Lib.hid (ballo (by assumption) _)
    have P4 : Hid (OwnS (w3.drew.alloc (.cells #[] 46)) 0 46 4 (.slice a1 n1 c1) Q1) := Lib.hid (OR1.out.below E4.out)
    refine hK.out _ _ E4.out (fun hHeld => ?_)
    clear hK K
    try simp only [List.getElem_toArray, List.getElem_cons_zero, List.getElem_cons_succ, Act.put, List.setIfInBounds_toArray, List.set_cons_zero, List.set_cons_succ, Array.toArray_toList]
    refine wpAnyH_ready (rs := [3]) (by kernel_rfl) (by simp) ?_
    refine AllReadyH.cons rfl (fun K hK => ?_) AllReadyH.nil
    refine step_rows rfl (.tmp 35) (.tmp 37) relSlice rfl w3.heap.size w3 (.slice (some ⟨w3.heap.size, 0, none⟩) 0 0) ([]) (0) n1 rfl (by rfl) a1 c1 Q1 (by rfl) HL1.out (P4.out) (HY1.out) O4.out n1 (by omega) (by unfold maxLen; have := HM1.out; omega) (by have := HM1.out; omega) E4.out (E4.out).size ?_
    intro ad5 c5 w5 hown5 hbe5
    have O5 := Lib.hid hown5
    have B5 := Lib.hid hbe5
    clear hown5
    refine hK.out _ _ hbe5 (fun hHeld => ?_)
    clear hK K
    try dsimp only []
    try simp only [List.getElem_toArray, List.getElem_cons_zero, List.getElem_cons_succ, Act.put, List.setIfInBounds_toArray, List.set_cons_zero, List.set_cons_succ, Array.toArray_toList]
    refine wpAnyH_ready (rs := [6]) (by kernel_rfl) (by simp) ?_
    refine AllReadyH.cons rfl (fun K hK => ?_) AllReadyH.nil
    refine step_rows rfl (.tmp 38) (.tmp 40) relSlice rfl w3.heap.size w3 (.slice ad5 n1 c5) ([] ++ Q1) (n1) n2 HN1.out (by rfl) a2 c2 Q2 (by rfl) HL2.out (OR2.out.below B5.out) (HY2.out) O5.out N HNN.out (by unfold maxLen; have := HMQ.out; omega) (by have := HMQ.out; omega) B5.out (B5.out).size ?_
    intro ad6 c6 w6 hown6 hbe6
    have O6 := Lib.hid hown6
    have B6 := Lib.hid hbe6
    clear hown6
    refine hK.out _ _ hbe6 (fun hHeld => ?_)
    clear hK K
    try dsimp only []
    try simp only [List.getElem_toArray, List.getElem_cons_zero, List.getElem_cons_succ, Act.put, List.setIfInBounds_toArray, List.set_cons_zero, List.set_cons_succ, Array.toArray_toList]
    first
      | (refine tkw 7 ?_ rfl ?_ ?_
         rotate_left
         · intro wx hSw
           obtain ⟨s1, s2⟩ := KS.out wx hSw
           (first | (go_simp; rfl) | go_simp | rfl))
      | refine tku 7 rfl ?_
    refine wpAnyH_done (by kernel_rfl) ?_ _
    have O6' : Hid (OwnS w6 0 46 4 (.slice ad6 N c6) ([] ++ Q1 ++ Q2)) := Lib.hid (O6.out.mono (Nat.zero_le _))
    have HRQ : Hid (∀ r ∈ [] ++ Q1 ++ Q2, RelRow yn r) := Lib.hid (fun r hr => by
      rw [List.nil_append] at hr
      rcases List.mem_append.1 hr with h | h
      · exact HR1.out r h
      · exact HR2.out r h)
    have HLQ : Hid (([] ++ Q1 ++ Q2).length = N) := Lib.hid (by rw [List.nil_append, List.length_append, HL1.out, HL2.out]; exact HNN.out)
    clear O4 E4 P4 O5 B5 O6 hbe5 hbe6 hHeld KS
    generalize [] ++ Q1 ++ Q2 = Q at *
    have hNM := HMQ.out
    go_wp2_with fail
    go_loopg [7] N (fun g i wr => ∃ k : Nat, k + g = N ∧ i = .int .i64 (k : Int) ∧ Below w6.heap.size w6 wr)
    case atStart => exact ⟨0, by omega, rfl, Below.refl _ _⟩
    case round =>
      obtain ⟨k, hk, rfl, hbe⟩ := hrel
      cases gk with
      | succ g =>
        have hlt : k < N := by omega
        obtain ⟨-, hrw, -⟩ := O6'.out.at
        have hkq : k < Q.length := by rw [HLQ.out]; exact hlt
        obtain ⟨b, o, hab, hbl, hc⟩ := hrw k hkq
        subst hab
        obtain ⟨f1, f2, f3, f4, hs0, hs1, hre⟩ := HRQ.out _ (List.getElem_mem hkq)
        have hb3 := B6.out.trans (hbe.mono B6.out.size)
        obtain ⟨-, z45, -⟩ := KA.out wr hb3
        have q0 : wr.cell? ⟨b, o + k * 4 + 2, none⟩ = some (.int .i64 f3) := by
          rw [hbe.cell (p := ⟨b, o + k * 4 + 2, none⟩) hbl, hc 2 (by omega), hre]
          rfl
        have HBE := Lib.hid hbe
        have HHK := Lib.hid hk
        have i1 : (0 : Int) ≤ (k : Int) := by omega
        have i2 : (k : Int) < (N : Int) := by omega
        have HS0 := Lib.hid hs0
        have HS1 := Lib.hid hs1
        clear hbe hrw hc hre hkq hs0 hs1 hbl hb3 hk
        rcases Int.lt_or_le f3 (yn : Int) with hcase | hcase
        · have d1 : decide (f3 < 0) = false := by have := HS0.out; simp; omega
          have d2 : decide ((yn : Int) ≤ f3) = false := by simp; omega
          go_wp2_with fail
          go_quiet (fail)
          go_wp2_with fail
          go_roundg g
          case measure => omega
          case rel => exact ⟨k + 1, by have := HHK.out; omega, by go_num, below_drewN HBE.out _⟩
        · obtain rfl : f3 = 0 := by have := HS1.out; omega
          obtain rfl : yn = 0 := by omega
          go_wp2_with fail
          go_quiet (fail)
          go_wp2_with fail
          go_roundg g
          case measure => omega
          case rel => exact ⟨k + 1, by have := HHK.out; omega, by go_num, below_drewN HBE.out _⟩
      | zero =>
        obtain rfl : k = N := by omega
        have hb3 := B6.out.trans (hbe.mono B6.out.size)
        obtain ⟨z44, z45, z46, z47, z53⟩ := KA.out wr hb3
        have HW7 := Lib.hid hb3
        have t1 : decide ((4096 : Int) < (yn : Int)) = false := by have := HMY.out; simp; omega
        have t2 : decide ((64 : Int) < (nn : Int)) = false := by have := HMN.out; simp; omega
        clear hbe hb3
        generalize wr = w7 at *
        have HNE : Hid (has = true → ((on : Int) != (yn : Int)) = false) := Lib.hid (fun h => by rw [HMO.out h]; simp)
        cases has
        case' true => have t3 := HNE.out rfl
        all_goals
          go_wp2_with fail
          go_loopg [8] yn (fun g i wr => ∃ k : Nat, k + g = yn ∧ i = .int .i64 (k : Int) ∧ Below w3.heap.size w3 wr)
          case atStart => exact ⟨0, by omega, rfl, by first | exact HW7.out | exact HW7.out.drew⟩
          case round =>
            obtain ⟨k, hk, rfl, hbe⟩ := hrel
            obtain ⟨y44, y45, y46, y47, y53⟩ := KA.out wr hbe
            have HBE := Lib.hid hbe
            have HHK := Lib.hid hk
            cases gk with
            | succ g =>
              have hlt : k < yn := by omega
              have hym := HMY.out
              obtain ⟨-, hrw, -⟩ := OY.out.at
              have hkq : k < Y.length := by rw [HLY.out]; exact hlt
              obtain ⟨b, o, hab, hbl, hc⟩ := hrw k hkq
              subst hab
              obtain ⟨nm, x1, x2, x3, x4, x5, x6, hnm, hre⟩ := HSR.out _ (List.getElem_mem hkq)
              have q0 : wr.cell? ⟨b, o + k * 7, none⟩ = some (.string nm) := by
                have := hc 0 (by omega)
                rw [hre] at this
                rw [hbe.cell (p := ⟨b, o + k * 7, none⟩) hbl]
                exact this
              have i1 : (0 : Int) ≤ (k : Int) := by omega
              have i2 : (k : Int) < (yn : Int) := by omega
              have d1 : decide ((255 : Int) < (nm.size : Int)) = false := by simp; omega
              clear hbe hrw hc hre hkq hbl hk hnm
              go_wp2_with fail
              go_roundg g
              case measure => omega
              case rel => exact ⟨k + 1, by have := HHK.out; omega, by go_num, HBE.out⟩
            | zero =>
              obtain rfl : k = yn := by omega
              have s1 := conv_rowO wr ba bc bs.length bs rfl ⟨(OwnI.at (OB3.out.below hbe)).2.1, HB.out.2⟩
              have s2 := conv_rowO wr a cap bs.length bs rfl (HB.out.below (B3.out.trans (hbe.mono B3.out.size)))
              have HFB := Lib.hid (B3.out.trans (hbe.mono B3.out.size))
              clear hbe hk
              go_wp2_with fail
              go_ret
              exact ⟨by first | rfl | simp, HFB.out⟩
end Go.Proofs.YtnaejlfjlennhaaGreatDoor
/- Layer 10: the law ObjectLies, as the frame asks for it. -/
namespace Go.Proofs.YtnaejlfjlennhaaGreatDoor
open Go.RowKit Go.Maps
set_option linter.unusedVariables false
set_option linter.unusedSimpArgs false

theorem walk_ObjectLies (a : Option Addr) (len cap : Nat) (z : List Int) (W : World) (hg : ErrType W) (hf : FixAt W) (w0 : IsRow .u8 W a len cap z) (s0 : cap * 1 ≤ 140737488351232) :
    Calls Tryz.prog 3 #[.slice a len cap] W fun e w' => e = .returned (.bool true) ∧ Below W.heap.size W w' := by
  obtain ⟨bs, hlen, hb, hc, hn⟩ := bytes_row w0
  exact lies_at a len cap bs W hb hlen (by omega) hn hc hg hf
end Go.Proofs.YtnaejlfjlennhaaGreatDoor
