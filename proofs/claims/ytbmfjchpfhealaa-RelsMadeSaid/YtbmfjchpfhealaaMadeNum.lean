/- Layer 9: relocations that are laid down in bytes: in numbers. -/
import Derived.Test.YtbmfjchpfhealaaRelsList
namespace Go.Proofs.Ytbmfjchpfhealaa
open Go.RowKit
set_option linter.unusedVariables false
set_option linter.unusedSimpArgs false

/-- the k lowest bytes of a number -/
def dig (v k : Nat) : List Nat := (List.range k).map fun j => v / 256 ^ j % 256
theorem dig_length (v k : Nat) : (dig v k).length = k := by simp [dig]
theorem dig_succ (v k : Nat) : dig v (k + 1) = dig v k ++ [v / 256 ^ k % 256] := by simp [dig, List.range_succ]
theorem dig_lt (v k : Nat) : ∀ b ∈ dig v k, b < 256 := by
  intro b hb
  simp only [dig, List.mem_map] at hb
  obtain ⟨j, -, rfl⟩ := hb
  omega
theorem numOf_dig (v k : Nat) : numOf (dig v k) = v % 256 ^ k := by
  induction k with
  | zero => simp [dig, numOf, Nat.mod_one]
  | succ k ih => rw [dig_succ, numOf_snoc, ih, dig_length, Nat.pow_succ, Nat.mod_mul]

/-- a relocation that can be laid down -/
structure RT.good (r : RT) (n : Int) : Prop where
  o0 : 0 ≤ r.off
  o1 : r.off < 18446744073709551616
  t0 : 0 ≤ r.ty
  t1 : r.ty < 2147483648
  s0 : 0 ≤ r.sym
  s1 : r.sym < n
  a0 : -9223372036854775808 ≤ r.add
  a1 : r.add < 9223372036854775808

def infoOf (r : RT) : Nat := (r.sym * 4294967296 + r.ty).toNat
def addOf (r : RT) : Nat := (r.add % 18446744073709551616).toNat
def enc (r : RT) : List Nat := dig r.off.toNat 8 ++ dig (infoOf r) 8 ++ dig (addOf r) 8
theorem enc_length (r : RT) : (enc r).length = 24 := by simp [enc, dig_length]
theorem enc_lt (r : RT) : ∀ b ∈ enc r, b < 256 := by
  intro b hb
  simp only [enc, List.mem_append] at hb
  rcases hb with (h | h) | h <;> exact dig_lt _ _ b h
theorem pow8 : (256 : Nat) ^ 8 = 18446744073709551616 := by decide

theorem relOf_enc (r : RT) (n : Int) (hn : n ≤ 1000) (h : r.good n) : relOf (enc r) = r := by
  obtain ⟨o0, o1, t0, t1, s0, s1, a0, a1⟩ := h
  have l1 := dig_length r.off.toNat 8
  have l2 := dig_length (infoOf r) 8
  have l3 := dig_length (addOf r) 8
  have e1 : (enc r).take 8 = dig r.off.toNat 8 := by
    rw [enc, List.append_assoc, List.take_left' l1]
  have e2 : ((enc r).drop 8).take 8 = dig (infoOf r) 8 := by
    rw [enc, List.append_assoc, List.drop_left' l1, List.take_left' l2]
  have e3 : ((enc r).drop 16).take 8 = dig (addOf r) 8 := by
    rw [enc, List.drop_left' (by simp [l1, l2]), List.take_of_length_le (by omega)]
  rw [relOf, e1, e2, e3, numOf_dig, numOf_dig, numOf_dig, pow8]
  have w : infoOf r < 18446744073709551616 := by unfold infoOf; omega
  have w1 : ((infoOf r : Nat) : Int) = r.sym * 4294967296 + r.ty := by unfold infoOf; omega
  have a2 : ((addOf r : Nat) : Int) = r.add % 18446744073709551616 := by unfold addOf; omega
  rw [Nat.mod_eq_of_lt w]
  obtain ⟨off, ty, sym, add⟩ := r
  simp only [RT.mk.injEq] at *
  refine ⟨by omega, by omega, by omega, ?_⟩
  rw [show ((addOf ⟨off, ty, sym, add⟩ % 18446744073709551616 : Nat) : Int) = add % 18446744073709551616 from by omega]
  unfold wrap64
  omega

def encL (rs : List RT) : List Nat := rs.flatMap enc
theorem encL_length (rs : List RT) : (encL rs).length = 24 * rs.length := by
  induction rs with
  | nil => rfl
  | cons r rs ih =>
    rw [encL, List.flatMap_cons, List.length_append, enc_length, List.length_cons]
    rw [encL] at ih
    rw [ih]
    omega
theorem encL_snoc (rs : List RT) (r : RT) : encL (rs ++ [r]) = encL rs ++ enc r := by simp [encL]
theorem encL_lt (rs : List RT) : ∀ b ∈ encL rs, b < 256 := by
  intro b hb
  simp only [encL, List.mem_flatMap] at hb
  obtain ⟨r, -, h⟩ := hb
  exact enc_lt r b h
theorem encL_at : ∀ (rs : List RT) (k : Nat) (hk : k < rs.length), ((encL rs).drop (24 * k)).take 24 = enc rs[k]
  | [], k, hk => by simp at hk
  | r :: rs, 0, _ => by
    rw [encL, List.flatMap_cons, Nat.mul_zero, List.drop_zero, List.take_left' (enc_length r)]
    rfl
  | r :: rs, k + 1, hk => by
    rw [encL, List.flatMap_cons, show 24 * (k + 1) = (enc r).length + 24 * k from by rw [enc_length]; omega, ← List.drop_drop, List.drop_left]
    exact encL_at rs k (by simpa using hk)
theorem listF_enc (rs : List RT) (n : Int) (hn : n ≤ 1000) (h : ∀ r ∈ rs, r.good n) : listF n (encL rs) = (rs.map RT.cells, 0) := by
  have ha : ∀ k, (hk : k < rs.length) → relAt (encL rs) k = rs[k] := fun k hk => by
    rw [relAt, encL_at rs k hk, relOf_enc _ n hn (h _ (List.getElem_mem hk))]
  rw [listF_yes (encL_length rs) (fun k hk => by rw [okAt, ha k hk]; exact .inr (h _ (List.getElem_mem hk)).s1)]
  congr 1
  apply List.ext_getElem
  · simp [relsTo_length]
  · intro i h1 h2
    have hi : i < rs.length := by simpa using h2
    simp [relsTo, ha i hi]
theorem listF_none (n : Int) : listF n [] = ([], 0) := by
  rw [listF_yes (K := 0) rfl (fun k hk => by omega)]
  rfl
/-- the one table of the file -/
def oneP (k : Nat) : PT := ⟨1, 0, 0, 4096, k, 0, 0⟩
theorem entF_enc (bs : List Nat) (h24 : bs.length % 24 = 0) (hl : bs.length ≤ 2400) : entF bs [oneP bs.length] 4096 bs.length 24 = (bs, 0) := by
  unfold entF
  rw [if_neg (by simp [h24]), if_neg (by omega)]
  split
  · rename_i h
    rw [List.eq_nil_of_length_eq_zero h]
  · have hoff : offF [oneP bs.length] 4096 bs.length = (0, 0) := by
      have := offF_hit (ps := [oneP bs.length]) (k := 0) (addr := 4096) (size := bs.length) (by simp) (by simp [PT.hit, oneP])
      simpa [oneP] using this
    rw [sliceF_yes hoff (by omega) (by omega)]
    simp
theorem entF_zero (bs : List Nat) (ps : List PT) : entF bs ps 0 0 24 = ([], 0) := by simp [entF]
end Go.Proofs.Ytbmfjchpfhealaa
