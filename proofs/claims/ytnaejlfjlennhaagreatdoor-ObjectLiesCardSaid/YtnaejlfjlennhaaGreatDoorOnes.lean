/- Layer 7: tables of the second kind, as lists. Nothing of the program is named. -/
import Derived.Test.YtnaejlfjlennhaaGreatDoorHashChains
import Derived.Test.YtnaejlfjlennhaaGreatDoorHashUp
import Derived.BigQuiet
import Derived.Lib.Tables
namespace Go.Proofs.YtnaejlfjlennhaaGreatDoor
set_option linter.unusedVariables false
set_option linter.unusedSimpArgs false

/-- the number of 4 bytes at an address; an error's number behind -/
def wordF (bs : List Nat) (ps : List PT) (addr : Nat) : Nat × Nat :=
  if (offF ps addr 4).2 = 0 ∧ (offF ps addr 4).1 ≤ bs.length ∧ 4 ≤ bs.length - (offF ps addr 4).1 then (numOf ((bs.drop (offF ps addr 4).1).take 4), 0) else (0, 4)
theorem wordF_yes {bs : List Nat} {ps : List PT} {addr o : Nat} (h : offF ps addr 4 = (o, 0)) (h1 : o ≤ bs.length) (h2 : 4 ≤ bs.length - o) : wordF bs ps addr = (numOf ((bs.drop o).take 4), 0) := by
  unfold wordF
  rw [h, if_pos ⟨rfl, h1, h2⟩]
theorem wordF_off {bs : List Nat} {ps : List PT} {addr : Nat} (h : offF ps addr 4 = (0, 4)) : wordF bs ps addr = (0, 4) := by
  unfold wordF
  rw [h, if_neg (fun h => by have := h.1; simp at this)]
theorem wordF_out {bs : List Nat} {ps : List PT} {addr o : Nat} (h : offF ps addr 4 = (o, 0)) (h1 : ¬ (o ≤ bs.length ∧ 4 ≤ bs.length - o)) : wordF bs ps addr = (0, 4) := by
  unfold wordF
  rw [h, if_neg (fun h => h1 h.2)]
theorem wordF_alt (bs : List Nat) (ps : List PT) (addr : Nat) : (wordF bs ps addr).2 = 0 ∨ wordF bs ps addr = (0, 4) := by
  unfold wordF
  split
  · exact .inl rfl
  · exact .inr rfl
theorem wordF_lt {bs : List Nat} (hb : ∀ b ∈ bs, b < 256) (ps : List PT) (addr : Nat) : (wordF bs ps addr).1 < 4294967296 := by
  unfold wordF
  split
  · have h1 := numOf_lt ((bs.drop (offF ps addr 4).1).take 4) (fun b h => hb b (List.mem_of_mem_drop (List.mem_of_mem_take h)))
    have h2 : 256 ^ ((bs.drop (offF ps addr 4).1).take 4).length ≤ 256 ^ 4 := Nat.pow_le_pow_right (by omega) (by simp; omega)
    have h3 : (256 : Nat) ^ 4 = 4294967296 := by decide
    simp only
    omega
  · decide

/-- a table of the second kind, up to its last bucket, and where its chains begin -/
structure BT where
  first : Nat
  shift : Nat
  bloom : List Nat
  buckets : List Nat
  base : Nat
def BT.nil : BT := ⟨0, 0, [], [], 0⟩

/-- where a symbol's chain word lies -/
def linkAt (t : BT) (i : Nat) : Nat := (t.base + 4 * ((i + 4294967296 - t.first) % 4294967296)) % 18446744073709551616
def linkF (bs : List Nat) (ps : List PT) (t : BT) (i : Nat) : Nat × Nat := wordF bs ps (linkAt t i)

/-- from a symbol on to the end of its chain: so many rounds at most -/
def countGo (bs : List Nat) (ps : List PT) (t : BT) : Nat → Nat → Nat × Nat
  | 0, _ => (0, 2)
  | f + 1, i => if (linkF bs ps t i).2 = 0 then (if (linkF bs ps t i).1 % 2 = 1 then (i + 1, 0) else countGo bs ps t f (i + 1)) else (0, 4)
theorem countGo_bad {bs : List Nat} {ps : List PT} {t : BT} {f i : Nat} (h : linkF bs ps t i = (0, 4)) : countGo bs ps t (f + 1) i = (0, 4) := by
  rw [countGo, h, if_neg (by simp)]
theorem countGo_end {bs : List Nat} {ps : List PT} {t : BT} {f i : Nat} (h : (linkF bs ps t i).2 = 0) (h1 : (linkF bs ps t i).1 % 2 = 1) : countGo bs ps t (f + 1) i = (i + 1, 0) := by
  rw [countGo, if_pos h, if_pos h1]
theorem countGo_next {bs : List Nat} {ps : List PT} {t : BT} {f i : Nat} (h : (linkF bs ps t i).2 = 0) (h1 : ¬ (linkF bs ps t i).1 % 2 = 1) : countGo bs ps t (f + 1) i = countGo bs ps t f (i + 1) := by
  rw [countGo, if_pos h, if_neg h1]
def maxF (l : List Nat) : Nat := l.foldl Nat.max 0
theorem maxF_snoc (l : List Nat) (x : Nat) : maxF (l ++ [x]) = Nat.max (maxF l) x := by simp [maxF]
def bcountF (bs : List Nat) (ps : List PT) (t : BT) : Nat × Nat := if maxF t.buckets = 0 then (t.first, 0) else countGo bs ps t (4096 - maxF t.buckets) (maxF t.buckets)

/-- do the bloom words let a hash through? -/
def mayF (t : BT) (k : Nat) : Bool :=
  decide (t.bloom.getD (k / 64 % t.bloom.length) 0 / 2 ^ (k % 64) % 2 = 1) && decide (t.bloom.getD (k / 64 % t.bloom.length) 0 / 2 ^ (k / 2 ^ t.shift % 64) % 2 = 1)

/-- the symbols of a name, from one of a chain on -/
def blookGo (bs : List Nat) (ps : List PT) (t : BT) (names : List ByteArray) (name : ByteArray) (k : Nat) : Nat → Nat → List Nat → List Nat × Nat
  | 0, _, _ => ([], 4)
  | f + 1, i, told =>
    if (linkF bs ps t i).2 = 0 then
      (if (linkF bs ps t i).1 % 2 = 1 then ((if (linkF bs ps t i).1 / 2 = k / 2 ∧ names.getD i .empty = name then told ++ [i] else told), 0)
       else blookGo bs ps t names name k f (i + 1) (if (linkF bs ps t i).1 / 2 = k / 2 ∧ names.getD i .empty = name then told ++ [i] else told))
    else ([], 4)
section
variable {bs : List Nat} {ps : List PT} {t : BT} {names : List ByteArray} {name : ByteArray} {k f i : Nat} {told : List Nat}
theorem blookGo_bad (h : linkF bs ps t i = (0, 4)) : blookGo bs ps t names name k (f + 1) i told = ([], 4) := by
  rw [blookGo, h, if_neg (by simp)]
theorem blookGo_end (h : (linkF bs ps t i).2 = 0) (h1 : (linkF bs ps t i).1 % 2 = 1) : blookGo bs ps t names name k (f + 1) i told = ((if (linkF bs ps t i).1 / 2 = k / 2 ∧ names.getD i .empty = name then told ++ [i] else told), 0) := by
  rw [blookGo, if_pos h, if_pos h1]
theorem blookGo_next (h : (linkF bs ps t i).2 = 0) (h1 : ¬ (linkF bs ps t i).1 % 2 = 1) : blookGo bs ps t names name k (f + 1) i told = blookGo bs ps t names name k f (i + 1) (if (linkF bs ps t i).1 / 2 = k / 2 ∧ names.getD i .empty = name then told ++ [i] else told) := by
  conv => lhs; unfold blookGo
  rw [if_pos h, if_neg h1]
end
def blookF (bs : List Nat) (ps : List PT) (t : BT) (names : List ByteArray) (name : ByteArray) (k : Nat) : List Nat × Nat :=
  if t.buckets.getD (k % t.buckets.length) 0 = 0 ∨ mayF t k = false then ([], 0) else blookGo bs ps t names name k (names.length - t.buckets.getD (k % t.buckets.length) 0) (t.buckets.getD (k % t.buckets.length) 0) []
end Go.Proofs.YtnaejlfjlennhaaGreatDoor
/- Layer 7: a table of the first kind is asked. -/
namespace Go.Proofs.YtnaejlfjlennhaaGreatDoor
open Go.RowKit
set_option linter.unusedVariables false
set_option linter.unusedSimpArgs false

/-- symbols whose names can be read -/
def NameRow (w : World) (a : Option Addr) (names : List ByteArray) : Prop := ∀ i, i < names.length → ∃ b o, a = some ⟨b, o, none⟩ ∧ b < w.heap.size ∧ w.cell? ⟨b, o + i * 7, none⟩ = some (.string (names.getD i .empty))
theorem NameRow.below {w w' : World} {a : Option Addr} {names : List ByteArray} (h : NameRow w a names) (hb : Below w.heap.size w w') : NameRow w' a names := by
  intro i hi
  obtain ⟨b, o, e, hlt, hc⟩ := h i hi
  exact ⟨b, o, e, Nat.lt_of_lt_of_le hlt hb.size, by rw [hb.cell (p := ⟨b, o + i * 7, none⟩) hlt]; exact hc⟩

theorem slice64h : IntSlice Tryz.prog 33 3 .i64 8 := ⟨Tryz.underlying33, by kernel_rfl⟩

theorem sysOf_lt (l : List UInt8) : sysOf l < 268435456 := by
  induction l using snocInd with
  | nil => simp [sysOf]
  | snoc l b _ => rw [sysOf_snoc]; exact sysStep_lt _ _

theorem text_neH {x y : ByteArray} (h : ¬ x = y) : (x.toList == y.toList) = false := by
  rw [beq_eq_false_iff_ne, ByteArray.toList_eq, ByteArray.toList_eq]
  intro e
  exact h (ByteArray.ext (Array.ext' e))
theorem wrap_word {n : Nat} (h : n < 4294967296) : wrap64 (n : Int) = (n : Int) := IntWalk.wrap64_in _ ⟨by omega, by omega⟩























































































































































end Go.Proofs.YtnaejlfjlennhaaGreatDoor
/- Layer 7: Count and Look where there is a table of the first kind alone, and it is whole. -/
namespace Go.Proofs.YtnaejlfjlennhaaGreatDoor
open Go.RowKit
set_option linter.unusedVariables false
set_option linter.unusedSimpArgs false

theorem chainsF_shape {bs : List Nat} {ps : List PT} {addr : Nat} {t : List Nat × List Nat} (hb : ∀ b ∈ bs, b < 256) (h : chainsF bs ps addr = (t, 0)) : 0 < t.1.length ∧ t.1.length ≤ 4096 ∧ 0 < t.2.length ∧ t.2.length ≤ 4096 ∧ (∀ x ∈ t.1, x < 4294967296) ∧ ∀ x ∈ t.2, x < 4294967296 := by
  rcases wordsF_alt bs ps addr 2 with ⟨f, hf, hfl⟩ | hf
  · match f, hfl with
    | [nb, ns], _ =>
      by_cases h0 : nb = 0 ∨ ns = 0
      · rw [chainsF_zero hf h0] at h; simp at h
      · by_cases h1 : 4096 < nb ∨ 4096 < ns
        · rw [chainsF_long hf h0 h1] at h; simp at h
        · rcases wordsF_alt bs ps addr (2 + nb + ns) with ⟨all, hall, hl⟩ | hall
          · rw [chainsF_yes hf h0 h1 hall] at h
            simp only [Prod.mk.injEq, and_true] at h
            subst h
            have hlt := wordsF_lt (ps := ps) (addr := addr) (n := 2 + nb + ns) hb
            rw [hall] at hlt
            refine ⟨by simp; omega, by simp; omega, by simp; omega, by simp; omega, fun x hx => hlt x (List.mem_of_mem_take (List.mem_of_mem_drop hx)), fun x hx => hlt x (List.mem_of_mem_drop hx)⟩
          · rw [chainsF_out hf h0 h1 hall] at h; simp at h
  · rw [chainsF_no hf] at h; simp at h


set_option maxRecDepth 100000 in
set_option maxHeartbeats 4000000 in
theorem count_first (a : Option Addr) (cap : Nat) (bs : List Nat) (ty en : Int) (p : Option Addr) (pc : Nat) (ps : List PT) (D : Array Value) (addr : Nat) (t : List Nat × List Nat) (w : World) (hb : BRow w a bs) (hbl : bs.length ≤ 140737488351232) (hbc : bs.length ≤ cap) (hbn : a = none → bs.length = 0 ∧ cap = 0)
    (h : PRow w p ps) (hl : ps.length ≤ 140737488351232) (ha : addr < 18446744073709551616) (ha0 : ¬ addr = 0) (hD : D.size = 37) (hD3 : D[3]? = some (.int .u64 (addr : Int))) (hF : chainsF bs ps addr = (t, 0)) :
    Calls Tryz.prog 28 #[.slice a bs.length cap, headV ty en p ps.length pc, .agg D] w fun e w' => e = .returned (.tuple #[.int .i64 (t.2.length : Int), .nilIface]) ∧ Below w.heap.size w w' := by
  have HRC := Lib.hid (fun (w1 : World) (hb1 : Below w.heap.size w w1) => readChains_any a cap bs ty en p pc ps addr w1 (hb.below hb1) hbl hbc hbn (h.below hb1) hl ha)
  rw [hF] at HRC
  clear hb h hbn hF
  have HI : Hid ((Tryz.prog.info? 30).map (·.size) = some D.size) := Lib.hid (show _ by rw [hD]; kernel_rfl)
  have B1 : Hid (Below w.heap.size w ((w.alloc (.cells #[.int .i64 ty, .int .u64 en, .slice p ps.length pc] 27)).alloc (.cells D 30))) := Lib.hid (((Below.refl _ _).alloc (Nat.le_refl _) _).alloc (by simp) _)
  clear hD
  unfold headV fileV at *
  go_enter Tryz.func28, Tryz.ntmps28
  go_wp2_with fail
  refine (HRC.out _ (B1.out.alloc B1.out.size _)).mono ?_
  rintro e w2 ⟨b1, c1, b2, c2, he, -, -, hb2⟩
  replace he : e = .returned (.tuple #[.agg #[.slice b1 t.1.length c1, .slice b2 t.2.length c2], .nilIface]) := he
  subst he
  have B2 := Lib.hid (bstep (B1.out.alloc B1.out.size _) hb2)
  clear hb2 HRC B1
  go_wp2_with fail
  go_ret2
  exact ⟨rfl, B2.out.alloc B2.out.size _⟩










































end Go.Proofs.YtnaejlfjlennhaaGreatDoor
/- Layer 7: how many bits of a word are 1. -/
namespace Go.Proofs.YtnaejlfjlennhaaGreatDoor
open Go.RowKit
set_option linter.unusedVariables false
set_option linter.unusedSimpArgs false

/-- the bits of a word that are 1, by a table of bytes -/
def onesF (x : Nat) : Int := Lib.pop8 ((x : Int) / 16777216) + Lib.pop8 ((x : Int) / 65536 % 256) + Lib.pop8 ((x : Int) / 256 % 256) + Lib.pop8 ((x : Int) % 256)
theorem and_low8 (z : Int) (h0 : 0 ≤ z) (h1 : z < 4294967296) : bits .and .u32 z 255 = z % 256 := by go_bits2
theorem pop8_le (z : Int) : 0 ≤ Lib.pop8 (z % 256) ∧ Lib.pop8 (z % 256) ≤ 8 := by
  have all : ∀ j : Fin 256, 0 ≤ Lib.pop8 ((j.val : Nat) : Int) ∧ Lib.pop8 ((j.val : Nat) : Int) ≤ 8 := by decide +kernel
  have h := all ⟨(z % 256).toNat, by omega⟩
  simp only at h
  rwa [Int.toNat_of_nonneg (by omega)] at h

set_option maxRecDepth 100000 in
set_option maxHeartbeats 4000000 in
theorem ones_any (x : Nat) (hx : x < 4294967296) (w : World) : Calls Tryz.prog 81 #[.int .u32 (x : Int)] w fun e w' => e = .returned (.int .i64 (onesF x)) ∧ Below w.heap.size w w' := by
  have h0 : (0 : Int) ≤ (x : Int) / 16777216 := by omega
  have h1 : (x : Int) / 16777216 ≤ 255 := by omega
  have e1 := and_low8 ((x : Int) / 65536) (by omega) (by omega)
  have e2 := and_low8 ((x : Int) / 256) (by omega) (by omega)
  have e3 := and_low8 (x : Int) (by omega) (by omega)
  have p0 := pop8_le ((x : Int) / 16777216)
  rw [Int.emod_eq_of_lt h0 (by omega)] at p0
  have P0 := Lib.hid p0
  have P1 := Lib.hid (pop8_le ((x : Int) / 65536))
  have P2 := Lib.hid (pop8_le ((x : Int) / 256))
  have P3 := Lib.hid (pop8_le (x : Int))
  clear hx p0
  go_enter Tryz.func81, Tryz.ntmps81
  generalize hT : ByteArray.mk _ = T
  obtain rfl : T = Lib.pop8tab := by rw [← hT]; rfl
  clear hT
  go_wp2
  go_quiet (fail)
  go_wp2
  go_ret
  obtain ⟨a1, a2⟩ := P0.out
  obtain ⟨a3, a4⟩ := P1.out
  obtain ⟨a5, a6⟩ := P2.out
  obtain ⟨a7, a8⟩ := P3.out
  have hs : (Lib.pop8 ((x : Int) / 16777216) + Lib.pop8 ((x : Int) / 65536 % 256) + Lib.pop8 ((x : Int) / 256 % 256) + Lib.pop8 ((x : Int) % 256)) % 256 = onesF x := by
    clear e1 e2 e3 h0 h1
    unfold onesF
    omega
  exact ⟨by rw [← hs]; rfl, below_drewN (Below.refl _ _) _⟩
theorem ones_four : onesF 4 = 1 := by decide +kernel
end Go.Proofs.YtnaejlfjlennhaaGreatDoor
