/- Layer 9, RelsMade: the walk. -/
import Derived.Test.YtbmfjchpfhealaaRelsUp
import Derived.Test.YtbmfjchpfhealaaRelsRead
import Derived.Test.YtbmfjchpfhealaaRelsSame
import Derived.Test.YtbmfjchpfhealaaMadeNum
import Derived.Test.YtbmfjchpfhealaaGrow
namespace Go.Proofs.Ytbmfjchpfhealaa
open Go.RowKit
set_option linter.unusedVariables false
set_option linter.unusedSimpArgs false

theorem i64_and31 (n : Int) : bits .and .i64 n 2147483647 = n % 2147483648 := by
  have h127 : (BitVec.ofInt 64 2147483647).toNat = 2 ^ 31 - 1 := by decide
  have key : (BitVec.ofInt 64 n &&& BitVec.ofInt 64 2147483647).toNat = (n % ((2 ^ 64 : Nat) : Int)).toNat % 2 ^ 31 := by
    rw [BitVec.toNat_and, BitVec.toNat_ofInt, h127, Nat.and_two_pow_sub_one_eq_mod]
  show IntKind.i64.wrap ((BitVec.ofInt 64 n &&& BitVec.ofInt 64 2147483647).toNat : Nat) = n % 2147483648
  rw [key, IntKind.wrap_i64]
  omega

/-- what the statement makes of a relocation -/
def RT.made (n : Int) (r : RT) : RT := ⟨r.off, r.ty % 2147483648, r.sym % 2147483648 % n, r.add⟩
/-- what can stand in a relocation -/
def RT.can (r : RT) : Prop := 0 ≤ r.off ∧ r.off < 18446744073709551616 ∧ -9223372036854775808 ≤ r.add ∧ r.add < 9223372036854775808
theorem RT.made_good (n : Int) (r : RT) (hn : 1 ≤ n) (h : r.can) : (r.made n).good n := by
  obtain ⟨h1, h2, h3, h4⟩ := h
  have := Int.emod_nonneg (r.sym % 2147483648) (show n ≠ 0 by omega)
  have := Int.emod_lt_of_pos (r.sym % 2147483648) (show 0 < n by omega)
  exact ⟨h1, h2, by simp only [RT.made]; omega, by simp only [RT.made]; omega, this |> fun _ => by simp only [RT.made]; assumption, by simp only [RT.made]; assumption, h3, h4⟩

/-- while bytes are laid down: the bytes, the three numbers, the relocations -/
def Lay (w1 : World) (want : Value) (rows : List (List Value)) (V : Nat) (u : Value) (bs ys : List Nat) (wr : World) : Prop :=
  OwnI wr w1.heap.size 5 .u8 u (toI bs) ∧ OwnI wr w1.heap.size 23 .u64 (.slice (some ⟨V, 0, none⟩) 3 3) (toI ys) ∧ ys.length = 3 ∧ OwnS wr w1.heap.size 49 4 want rows ∧ Below w1.heap.size w1 wr

section
variable {w1 wr w' : World} {want u u' : Value} {rows : List (List Value)} {V : Nat} {bs ys : List Nat}

theorem Lay.push (h : Lay w1 want rows V u bs ys wr) (o : Obj) (hg : (wr.alloc o).grownBy w' u.ownBlock) (b : Nat) (hu : OwnI w' w1.heap.size 5 .u8 u' (toI bs ++ [(b : Int)])) : Lay w1 want rows V u' (bs ++ [b]) ys w' := by
  obtain ⟨h1, h2, h3, h4, h5⟩ := h
  have hs := h5.size
  refine ⟨?_, (h2.allocO o).keepI hg (h1.allocO o) (by decide), h3, (h4.allocO o).keepI hg (h1.allocO o) (by decide), below_keepI (h5.alloc hs o) hg (h1.allocO o) (by simp; omega)⟩
  simpa [toI] using hu
theorem Lay.put (h : Lay w1 want rows V u bs ys wr) (m y : Nat) : Lay w1 want rows V u bs (ys.set m y) (wr.setCell ⟨V, m, none⟩ (.int .u64 (y : Int))) := by
  obtain ⟨h1, h2, h3, h4, h5⟩ := h
  have hv := own_apart (v' := .slice (some ⟨V, 0, none⟩) 3 3) h1 h2 (by decide)
  have hw := own_apart (v' := .slice (some ⟨V, 0, none⟩) 3 3) h4.1 h2 (by decide)
  simp only [Value.ownBlock, reduceCtorEq, false_or] at hv hw
  refine ⟨h1.setO (fun e => hv e.symm) _, ?_, by simpa using h3, h4.setO (fun e => hw e.symm) _, h5.setCell h2.blockGe.1 _⟩
  have := h2.put (by rw [toI_length]; exact h3) m (y : Int)
  simpa [toI, List.map_set] using this
theorem Lay.cell (h : Lay w1 want rows V u bs ys wr) {m x : Nat} (hx : ys[m]? = some x) : wr.cell? ⟨V, m, none⟩ = some (.int .u64 (x : Int)) := h.2.1.get m x (by simp [toI, hx])
theorem Lay.free (h : Lay w1 want rows V u bs ys wr) (m : Nat) : wr.frozen? ⟨V, m, none⟩ = false := by
  have h2 := h.2.1
  unfold OwnI at h2
  rw [toI_length, h.2.2.1] at h2
  exact h2.frozenAt m
theorem lit_kept (w : World) (cs : Array Value) (T : TypeId) (o : Obj) {row : Option Nat} (hg : ((w.alloc (.cells cs T)).alloc o).grownBy w' row) (hne : row ≠ some w.heap.size) (j : Nat) (v : Value) (hv : cs[j]? = some v) : w'.cell? ⟨w.heap.size, j, none⟩ = some v := by
  refine hg.cell (a := ⟨w.heap.size, j, none⟩) ?_ (fun e => hne e.symm)
  rw [Below.cell (((Below.refl (w.alloc (.cells cs T)).heap.size (w.alloc (.cells cs T))).alloc (Nat.le_refl _) o)) (p := ⟨w.heap.size, j, none⟩) (by simp), World.cell?_alloc_new]
  exact hv
end

theorem enc_words (x0 t s x2 : Nat) (ra : Int) (h : IntKind.u64.wrap ra = (x2 : Int)) : enc ⟨x0, t, s, ra⟩ = [x0, s * 4294967296 + t, x2].flatMap (fun x => dig x 8) := by
  have e1 : infoOf ⟨x0, t, s, ra⟩ = s * 4294967296 + t := by
    show ((s : Int) * 4294967296 + (t : Int)).toNat = _
    omega
  have e2 : addOf ⟨x0, t, s, ra⟩ = x2 := by
    rw [IntKind.wrap_u64] at h
    show (ra % 18446744073709551616).toNat = _
    omega
  have e0 : (RT.off ⟨x0, t, s, ra⟩).toNat = x0 := by
    show ((x0 : Int)).toNat = _
    omega
  unfold enc
  rw [e1, e2, e0, List.flatMap_cons, List.flatMap_cons, List.flatMap_cons, List.flatMap_nil, List.append_nil, List.append_assoc]

theorem wp_build_as {P : Program} {o : Oper} {a : Act} {w : World} {K : Act → World → Prop} {Q : Exit → Act → World → Prop} (t : TypeId) (parts : Array (Nat × Operand)) (ho : o.op = .build t parts)
    (vals : List (Nat × Value)) (cells : Array Value) (hv : (parts.map fun (i, x) => (i, a.eval x)).toList = vals) (hb : P.built t vals = some cells) (h : K (a.put o.dst (.agg cells)) w) : o.wp P a w K Q := by
  subst hv
  exact wp_build t parts ho (by rw [hb]; rfl) (by rw [hb]; exact h)
theorem dyn_one (S : Nat) : Try.prog.built 29 [(6, .int .u64 4096), (7, .int .u64 (S : Int))] = some (dynC 4096 S 0 0) := by kernel_rfl
theorem dyn_two (S : Nat) : Try.prog.built 29 [(17, .int .u64 4096), (1, .int .u64 (S : Int))] = some (dynC 0 0 4096 S) := by kernel_rfl
theorem one_row (w : World) (T : TypeId) (S : Nat) (hS : S ≤ 2400) : PRow (w.alloc (.cells #[.int .u32 1, .int .u32 0, .int .u64 0, .int .u64 4096, .int .u64 (S : Int), .int .u64 0, .int .u64 0] T)) (some ⟨w.heap.size, 0, none⟩) [oneP S] := by
  intro i hi
  have hi0 : i = 0 := by simpa using hi
  subst hi0
  refine ⟨?_, w.heap.size, 0, rfl, by simp, fun j hj => ?_⟩
  · simp [oneP, PT.wf]
    omega
  · rw [Nat.zero_mul, Nat.zero_add, World.cell?_alloc_new]
    match j, hj with
    | 0, _ => rfl
    | 1, _ => rfl
    | 2, _ => rfl
    | 3, _ => rfl
    | 4, _ => rfl
    | 5, _ => rfl
    | 6, _ => rfl
theorem second_cells (w : World) (o : Obj) (cs : Array Value) (T : TypeId) (j : Nat) : ((w.alloc o).alloc (.cells cs T)).cell? ⟨w.heap.size + 1, j, none⟩ = cs[j]? := by
  have hsz : (w.alloc o).heap.size = w.heap.size + 1 := by simp
  rw [← hsz]
  exact World.cell?_alloc_new _ _ _ _
theorem read_first (ad : Option Addr) (c S k : Nat) (rs : List RT) (N : Nat) (p : Option Addr) (w : World) (hk : rs.length = k) (hk1 : k ≤ 100) (hS : 24 * k = S) (hg : ∀ r ∈ rs, r.good N) (hN : N ≤ 1000)
    (hb : BRow w ad (encL rs)) (hp : PRow w p [oneP S]) (hc : S ≤ c) (hn : ad = none → S = 0 ∧ c = 0) :
    Calls Try.prog 14 #[.slice ad S c, .agg #[.int .i64 0, .int .u64 0, .slice p 1 1], .agg (dynC 4096 S 0 0), .int .i64 N] w fun e w' => ∃ ad1 c1 ad2 c2 ad3 c3, e = .returned (.tuple #[.slice ad1 k c1, .slice ad2 0 c2, .slice ad3 0 c3, .nilIface]) ∧
      OwnS w' w.heap.size 49 4 (.slice ad1 k c1) (rs.map RT.cells) ∧ Below w.heap.size w w' := by
  have hl : (encL rs).length = S := by rw [encL_length, hk, hS]
  subst hl
  refine (read_two ad c (encL rs) 0 0 p 1 [oneP (encL rs).length] 4096 (encL rs).length 0 0 N w hb (by omega) hc hn hp (by simp) (by omega) (by omega) (by omega) (by omega) (encL rs) [] (rs.map RT.cells) [] k 0 (by simpa using hk) rfl (entF_enc _ (by omega) (by omega)) (entF_zero _ _) (listF_enc rs N (by omega) hg) (listF_none _)).mono ?_
  rintro e w' ⟨ad1, c1, ad2, c2, ad3, c3, rfl, h1, h2, h3⟩
  exact ⟨ad1, c1, ad2, c2, ad3, c3, rfl, h1, h3⟩
theorem read_second (ad : Option Addr) (c S k : Nat) (rs : List RT) (N : Nat) (p : Option Addr) (w : World) (hk : rs.length = k) (hk1 : k ≤ 100) (hS : 24 * k = S) (hg : ∀ r ∈ rs, r.good N) (hN : N ≤ 1000)
    (hb : BRow w ad (encL rs)) (hp : PRow w p [oneP S]) (hc : S ≤ c) (hn : ad = none → S = 0 ∧ c = 0) :
    Calls Try.prog 14 #[.slice ad S c, .agg #[.int .i64 0, .int .u64 0, .slice p 1 1], .agg (dynC 0 0 4096 S), .int .i64 N] w fun e w' => ∃ ad1 c1 ad2 c2 ad3 c3, e = .returned (.tuple #[.slice ad1 0 c1, .slice ad2 k c2, .slice ad3 0 c3, .nilIface]) ∧
      OwnS w' w.heap.size 49 4 (.slice ad2 k c2) (rs.map RT.cells) ∧ Below w.heap.size w w' := by
  have hl : (encL rs).length = S := by rw [encL_length, hk, hS]
  subst hl
  refine (read_two ad c (encL rs) 0 0 p 1 [oneP (encL rs).length] 0 0 4096 (encL rs).length N w hb (by omega) hc hn hp (by simp) (by omega) (by omega) (by omega) (by omega) [] (encL rs) [] (rs.map RT.cells) 0 k rfl (by simpa using hk) (entF_zero _ _) (entF_enc _ (by omega) (by omega)) (listF_none _) (listF_enc rs N (by omega) hg)).mono ?_
  rintro e w' ⟨ad1, c1, ad2, c2, ad3, c3, rfl, h1, h2, h3⟩
  exact ⟨ad1, c1, ad2, c2, ad3, c3, rfl, h2, h3⟩

set_option maxRecDepth 100000 in
set_option maxHeartbeats 16000000 in
theorem made_run (a : Option Addr) (cap : Nat) (rs : List RT) (L : Nat) (hL : rs.length = L) (N : Nat) (w : World) (hr : RowS w 4 a (rs.map RT.cells)) (hcan : ∀ r ∈ rs, r.can) (hl : L ≤ 100) (hN : 1 ≤ N) (hN2 : N ≤ 1000) :
    Calls Try.prog 5 #[.slice a L cap, .int .i64 N] w fun e w' => e = .returned (.bool true) ∧ Below w.heap.size w w' := by
  have hu := Lib.hid (up_true w)
  have HR := Lib.hid hr
  have HC := Lib.hid hcan
  have g1 : decide ((100 : Int) < (L : Int)) = false := by simp; omega
  have g2 : decide ((N : Int) < 1) = false := by simp; omega
  have g3 : decide ((1000 : Int) < (N : Int)) = false := by simp; omega
  have HLL := Lib.hid hL
  clear hr hcan hL
  go_enter Try.func5, Try.ntmps5
  go_wp2_with fail
  refine (Hid.out hu).mono ?_
  rintro e w1 ⟨rfl, hb1⟩
  have B1 := Lib.hid hb1
  have HR1 := Lib.hid (HR.out.below hb1)
  clear hu hb1 HR
  go_wp2
  go_loopg [6, 7, 8] L (fun g b v i wr => ∃ (k : Nat) (ad1 : Option Addr) (c1 : Nat) (ad2 : Option Addr) (c2 : Nat), k + g = L ∧ b = .slice ad1 (24 * k) c1 ∧ v = .slice ad2 k c2 ∧ i = .int .i64 k ∧ Hid (OwnI wr w1.heap.size 5 .u8 (.slice ad1 (24 * k) c1) (toI (encL ((rs.map (RT.made N)).take k)))) ∧
    Hid (OwnS wr w1.heap.size 49 4 (.slice ad2 k c2) (((rs.map (RT.made N)).take k).map RT.cells)) ∧ Hid (Below w1.heap.size w1 wr))
  case atStart => exact ⟨0, none, 0, none, 0, by omega, rfl, rfl, rfl, Lib.hid (OwnI.nil _ _ _ _), Lib.hid (OwnS.nil _ _ _ _), Lib.hid (Below.refl _ _)⟩
  case round =>
    obtain ⟨k, ad1, c1, ad2, c2, hk, rfl, rfl, rfl, HI, HS, HB⟩ := hrel
    cases gk with
    | succ g =>
      have hlt : k < L := by omega
      obtain ⟨b, o, rfl, hbl, p0, p1, p2, p3⟩ := cells_at (HR1.out.below HB.out) (k := k) (by rw [HLL.out]; exact hlt)
      have hkl : k < rs.length := by rw [HLL.out]; exact hlt
      have HRK : Hid (rs[k].can) := Lib.hid (HC.out _ (List.getElem_mem hkl))
      have HTK : Hid ((rs.map (RT.made N)).take (k + 1) = (rs.map (RT.made N)).take k ++ [rs[k].made N]) := Lib.hid (by rw [List.take_succ_eq_append_getElem (by simpa using hkl)]; simp)
      generalize rs[k] = r at *
      obtain ⟨ro, rt, rs0, ra⟩ := r
      simp only at p0 p1 p2 p3
      obtain ⟨x0, hx0, hx1⟩ : ∃ x0 : Nat, ro = x0 ∧ x0 < 18446744073709551616 := ⟨ro.toNat, by have := HRK.out.1; simp only at this; omega, by have := HRK.out.2.1; simp only at this; omega⟩
      subst hx0
      obtain ⟨t, ht, ht1⟩ : ∃ t : Nat, bits .and .i64 rt 2147483647 = t ∧ t < 2147483648 := ⟨(rt % 2147483648).toNat, by rw [i64_and31]; omega, by omega⟩
      obtain ⟨s0, hs0, hs1⟩ : ∃ s : Nat, bits .and .i64 rs0 2147483647 = s ∧ s < 2147483648 := ⟨(rs0 % 2147483648).toNat, by rw [i64_and31]; omega, by omega⟩
      obtain ⟨s, hs, hs2⟩ : ∃ s : Nat, ((s0 : Int).tmod (N : Int)) = s ∧ s < N := ⟨s0 % N, by rw [Int.tmod_eq_emod_of_nonneg (by omega)]; exact (Int.natCast_emod _ _).symm, Nat.mod_lt _ (by omega)⟩
      obtain ⟨x2, hx2, hx3⟩ : ∃ x2 : Nat, IntKind.u64.wrap ra = x2 ∧ x2 < 18446744073709551616 := ⟨(ra % 18446744073709551616).toNat, by rw [IntKind.wrap_u64]; omega, by omega⟩
      have HM : Hid (RT.made N ⟨x0, rt, rs0, ra⟩ = ⟨x0, t, s, ra⟩) := Lib.hid (by
        rw [i64_and31] at ht hs0
        simp only [RT.made]
        rw [ht, hs0, ← hs, Int.tmod_eq_emod_of_nonneg (by omega)])
      have hN0 : ¬ (N : Int) = 0 := by omega
      go_wp2_with (at_builtin; (refine wpList_grow_row rfl (.tmp 57) (.tmp 59) relSlice rfl w1.heap.size (.slice ad2 k c2) (((rs.map (RT.made N)).take k).map RT.cells) k [.int .u64 x0, .int .i64 t, .int .i64 s, .int .i64 ra] rfl (by change Value.slice (some ⟨wr.heap.size + 1, 0, none⟩) 1 1 = _; simp) (by simp; omega) rfl (by intro u hu; simp only [List.mem_cons, List.not_mem_nil, or_false] at hu; rcases hu with rfl | rfl | rfl | rfl <;> rfl) (HS.out.allocO _) (by unfold maxLen; omega) (by omega) (by have := HB.out.size; simp; omega) ?_); intro ad5 c5 w5 hown5 hgr5; have q0 := lit_kept wr _ _ _ hgr5 (HS.out.notNew (Nat.le_refl _)) 0 _ rfl; have q1 := lit_kept wr _ _ _ hgr5 (HS.out.notNew (Nat.le_refl _)) 1 _ rfl; have q2 := lit_kept wr _ _ _ hgr5 (HS.out.notNew (Nat.le_refl _)) 2 _ rfl; have q3 := lit_kept wr _ _ _ hgr5 (HS.out.notNew (Nat.le_refl _)) 3 _ rfl; have O5 := Lib.hid hown5; have G5 := Lib.hid hgr5; clear hown5 hgr5)
      have hx1c : (s : Int) * 4294967296 + (t : Int) = ((s * 4294967296 + t : Nat) : Int) := by omega
      rw [hx1c]
      have HE := Lib.hid (enc_words x0 t s x2 ra hx2)
      have hxlt : s * 4294967296 + t < 18446744073709551616 := by omega
      clear q0 q1 q2 q3 p0 p1 p2 p3 hs hs0 ht hx2 hx1c
      generalize s * 4294967296 + t = x1 at *
      have HL : Hid (Lay w1 (.slice ad5 (k + 1) c5) (((rs.map (RT.made N)).take (k + 1)).map RT.cells) w5.heap.size (.slice ad1 (24 * k) c1) (encL ((rs.map (RT.made N)).take k)) [x0, x1, x2] (w5.alloc (.cells #[.int .u64 x0, .int .u64 x1, .int .u64 x2] 23))) := Lib.hid (by
        have hb5 := below_keepS ((HB.out.alloc HB.out.size _).alloc (by have := HB.out.size; simp; omega) _) G5.out ((HS.out.allocO _).allocO _) (by have := HB.out.size; simp; omega)
        refine ⟨((((HI.out.allocO _).allocO _).keepS G5.out ((HS.out.allocO _).allocO _) (by decide)).allocO _), OwnI.lit w5 w1.heap.size _ .u64 [(x0 : Int), (x1 : Int), (x2 : Int)] _ rfl hb5.size (by simp [maxLen]), rfl, ?_, hb5.alloc hb5.size _⟩
        rw [HTK.out, HM.out, List.map_append]
        exact O5.out.allocO _)
      have HTK2 : Hid (encL ((rs.map (RT.made N)).take (k + 1)) = encL ((rs.map (RT.made N)).take k) ++ [x0, x1, x2].flatMap (fun x => dig x 8)) := Lib.hid (by rw [HTK.out, HM.out, encL_snoc, HE.out])
      have HX : Hid (∀ x ∈ [x0, x1, x2], x < 18446744073709551616) := Lib.hid (by intro x hx; simp only [List.mem_cons, List.not_mem_nil, or_false] at hx; rcases hx with rfl | rfl | rfl <;> assumption)
      clear HE HM HTK HRK G5 O5 HI HS HB hxlt hx1 hx3 hs1 hs2 ht1 hN0 hbl
      generalize w5.alloc (.cells #[.int .u64 x0, .int .u64 x1, .int .u64 x2] 23) = w6 at *
      generalize w5.heap.size = V at *
      obtain ⟨xs, hxs⟩ : ∃ xs, [x0, x1, x2] = xs := ⟨_, rfl⟩
      have hxl : xs.length = 3 := by rw [← hxs]; rfl
      rw [hxs] at HL HTK2 HX
      have HXL := Lib.hid hxl
      clear hxs hxl
      generalize encL ((rs.map (RT.made N)).take k) = pre at *
      go_loopg [6, 11] 3 (fun g2 u i wq => ∃ (m : Nat) (ad : Option Addr) (c : Nat) (ys : List Nat), m + g2 = 3 ∧ u = .slice ad (24 * k + 8 * m) c ∧ i = .int .i64 m ∧
        Hid (Lay w1 (.slice ad5 (k + 1) c5) (((rs.map (RT.made N)).take (k + 1)).map RT.cells) V (.slice ad (24 * k + 8 * m) c) (pre ++ (xs.take m).flatMap (fun x => dig x 8)) ys wq) ∧ Hid (∀ j, m ≤ j → ys[j]? = xs[j]?))
      case atStart => exact ⟨0, ad1, c1, xs, by omega, by simp, rfl, Lib.hid (by simpa using HL.out), Lib.hid (fun j _ => rfl)⟩
      case round =>
        obtain ⟨m, ad, c, ys, hm, rfl, rfl, HL2, HY⟩ := hrel
        clear HL
        cases gk with
        | succ g2 =>
          have hm3 : m < 3 := by omega
          have hmx : m < xs.length := by rw [HXL.out]; exact hm3
          obtain ⟨x, hx, hx64⟩ : ∃ x, xs[m]? = some x ∧ x < 18446744073709551616 := ⟨xs[m], List.getElem?_eq_getElem hmx, HX.out _ (List.getElem_mem hmx)⟩
          have HTM : Hid ((xs.take (m + 1)).flatMap (fun x => dig x 8) = (xs.take m).flatMap (fun x => dig x 8) ++ dig x 8) := Lib.hid (by
            rw [List.take_add_one, hx]
            simp)
          have HXM := Lib.hid hx
          clear hx hmx
          have hdm : decide ((m : Int) < 3) = true := by simp; omega
          go_wp2
          go_loopg [6, 12] 8 (fun g3 u i wq => ∃ (q : Nat) (ad : Option Addr) (c : Nat) (ys : List Nat), q + g3 = 8 ∧ u = .slice ad (24 * k + 8 * m + q) c ∧ i = .int .i64 q ∧
            Hid (Lay w1 (.slice ad5 (k + 1) c5) (((rs.map (RT.made N)).take (k + 1)).map RT.cells) V (.slice ad (24 * k + 8 * m + q) c) (pre ++ (xs.take m).flatMap (fun x => dig x 8) ++ dig x q) ys wq) ∧ Hid (ys[m]? = some (x / 256 ^ q)) ∧ Hid (∀ j, m + 1 ≤ j → ys[j]? = xs[j]?))
          case atStart => exact ⟨0, ad, c, ys, by omega, by simp, rfl, Lib.hid (by simpa [dig] using HL2.out), Lib.hid (by rw [HY.out m (Nat.le_refl _), HXM.out]; simp), Lib.hid (fun j hj => HY.out j (by omega))⟩
          case round =>
            obtain ⟨q, ad6, c6, zs, hq, rfl, rfl, HL3, HZ, HY3⟩ := hrel
            clear HL2 HY
            cases gk with
            | succ g3 =>
              have hq8 : q < 8 := by omega
              have hcell := HL3.out.cell HZ.out
              have hfree := HL3.out.free m
              have hy64 : x / 256 ^ q < 18446744073709551616 := Nat.lt_of_le_of_lt (Nat.div_le_self _ _) hx64
              have HDS : Hid (dig x (q + 1) = dig x q ++ [x / 256 ^ q % 256]) := Lib.hid (dig_succ x q)
              have HDN : Hid (x / 256 ^ (q + 1) = x / 256 ^ q / 256) := Lib.hid (by rw [Nat.pow_succ, Nat.div_div_eq_div_mul])
              have hb6 := HL3.out.2.2.2.2.size
              have HBL : Hid ((pre ++ (xs.take m).flatMap (fun x => dig x 8) ++ dig x q).length = 24 * k + 8 * m + q) := Lib.hid (by
                have h9 := HL3.out.1.at.1
                rw [toI_length] at h9
                exact h9.symm)
              generalize x / 256 ^ q = y at *
              obtain ⟨d, hd, hd1⟩ : ∃ d : Nat, ((y : Int).tmod 256) = d ∧ d < 256 := ⟨y % 256, by rw [Int.tmod_eq_emod_of_nonneg (by omega)]; omega, Nat.mod_lt _ (by omega)⟩
              obtain ⟨z, hz, hz1⟩ : ∃ z : Nat, ((y : Int).tdiv 256) = z ∧ z < 18446744073709551616 := ⟨y / 256, by rw [Int.tdiv_eq_ediv_of_nonneg (by omega)]; omega, by omega⟩
              have HD : Hid (y % 256 = d) := Lib.hid (by rw [Int.tmod_eq_emod_of_nonneg (by omega)] at hd; omega)
              have HZ' : Hid (x / 256 ^ (q + 1) = z) := Lib.hid (by rw [HDN.out]; rw [Int.tdiv_eq_ediv_of_nonneg (by omega)] at hz; omega)
              go_wp2_with (at_builtin; (refine wpList_grow rfl (.tmp 83) (.tmp 90) slice8 rfl w1.heap.size (.slice ad6 (24 * k + 8 * m + q) c6) (toI (pre ++ (xs.take m).flatMap (fun x => dig x 8) ++ dig x q)) (24 * k + 8 * m + q) d rfl rfl (by rw [toI_length]; exact HBL.out) HL3.out.1 (by unfold maxLen; omega) (by omega) hb6 ?_); intro ad7 c7 w7 hown7 hgr7; have hlay := HL3.out.push _ hgr7 d hown7; have hcell7 := hlay.cell HZ.out; have hfree7 := hlay.free m; have HL7 := Lib.hid hlay; clear hlay hown7 hgr7 hcell hfree)
              go_roundg g3
              case measure => omega
              case rel =>
                refine ⟨q + 1, ad7, c7, zs.set m z, by omega, rfl, by go_num, Lib.hid ?_, Lib.hid ?_, Lib.hid ?_⟩
                · rw [HDS.out, HD.out, ← List.append_assoc]
                  exact HL7.out.put m z
                · rw [List.getElem?_set_self (by rw [HL7.out.2.2.1]; exact hm3), HZ'.out]
                · intro j hj
                  rw [List.getElem?_set_ne (by omega)]
                  exact HY3.out j hj
            | zero =>
              have hq' : q = 8 := by omega
              clear hq
              subst hq'
              have e8 : 24 * k + 8 * m + 8 = 24 * k + 8 * (m + 1) := by omega
              rw [e8]
              have HLN : Hid (Lay w1 (.slice ad5 (k + 1) c5) (((rs.map (RT.made N)).take (k + 1)).map RT.cells) V (.slice ad6 (24 * k + 8 * (m + 1)) c6) (pre ++ (xs.take (m + 1)).flatMap (fun x => dig x 8)) zs _) := Lib.hid (by
                rw [HTM.out, ← List.append_assoc, ← e8]
                exact HL3.out)
              clear e8 HL3 HZ
              go_wp2
              go_roundg g2
              case measure => omega
              case rel => exact ⟨m + 1, ad6, c6, zs, by omega, rfl, by go_num, HLN, HY3⟩
        | zero =>
          have hm' : m = 3 := by omega
          clear hm
          subst hm'
          have e24 : 24 * k + 8 * 3 = 24 * (k + 1) := by omega
          rw [e24] at HL2 ⊢
          have HLN := HL2.out
          rw [List.take_of_length_le (l := xs) (by rw [HXL.out]; omega), ← HTK2.out] at HLN
          have HN := Lib.hid HLN
          clear HLN HL2 HY e24
          go_wp2
          go_roundg g
          case measure => omega
          case rel => exact ⟨k + 1, ad, c, ad5, c5, by omega, rfl, rfl, by go_num, Lib.hid HN.out.1, Lib.hid HN.out.2.2.2.1, Lib.hid HN.out.2.2.2.2⟩
    | zero =>
      have hk' : k = L := by omega
      clear hk
      subst hk'
      have HG : Hid (∀ r ∈ rs.map (RT.made N), r.good N) := Lib.hid (by
        intro r hr
        obtain ⟨q, hq, rfl⟩ := List.mem_map.1 hr
        exact RT.made_good N q (by omega) (HC.out q hq))
      have HK : Hid ((rs.map (RT.made N)).length = k) := Lib.hid (by rw [List.length_map]; exact HLL.out)
      obtain ⟨S, hS⟩ : ∃ S, 24 * k = S := ⟨_, rfl⟩
      have hS2 : S ≤ 2400 := by omega
      have HSZ := Lib.hid hS
      have HI' := HI.out
      have HS' := HS.out
      rw [List.take_of_length_le (l := rs.map (RT.made N)) (by rw [HK.out]; exact Nat.le_refl _)] at HI' HS'
      rw [hS] at HI'
      rw [hS]
      have HIN := Lib.hid HI'
      have HSN := Lib.hid HS'
      clear HI' HS' HI HS hS HC HR1
      generalize rs.map (RT.made N) = ms at *
      have hbw := HB.out.size
      go_wp2_with fail
      refine wp_build_as 29 _ rfl [(6, .int .u64 4096), (7, .int .u64 (S : Int))] (dynC 4096 S 0 0) (by rw [Array.toList_map]; rfl) (dyn_one S) ?_
      have HP : Hid (Below (wr.alloc (.cells #[.int .u32 1, .int .u32 0, .int .u64 0, .int .u64 4096, .int .u64 (S : Int), .int .u64 0, .int .u64 0] 52)).heap.size (wr.alloc (.cells #[.int .u32 1, .int .u32 0, .int .u64 0, .int .u64 4096, .int .u64 (S : Int), .int .u64 0, .int .u64 0] 52)) ((wr.alloc (.cells #[.int .u32 1, .int .u32 0, .int .u64 0, .int .u64 4096, .int .u64 (S : Int), .int .u64 0, .int .u64 0] 52)).alloc (.cells #[.int .i64 0, .int .u64 0, .slice (some ⟨wr.heap.size, 0, none⟩) 1 1] 26))) := Lib.hid ((Below.refl _ _).alloc (Nat.le_refl _) _)
      have HF : Hid (PRow ((wr.alloc (.cells #[.int .u32 1, .int .u32 0, .int .u64 0, .int .u64 4096, .int .u64 (S : Int), .int .u64 0, .int .u64 0] 52)).alloc (.cells #[.int .i64 0, .int .u64 0, .slice (some ⟨wr.heap.size, 0, none⟩) 1 1] 26)) (some ⟨wr.heap.size, 0, none⟩) [oneP S]) := Lib.hid ((one_row wr _ S hS2).below HP.out)
      have HW : Hid (Below wr.heap.size wr ((wr.alloc (.cells #[.int .u32 1, .int .u32 0, .int .u64 0, .int .u64 4096, .int .u64 (S : Int), .int .u64 0, .int .u64 0] 52)).alloc (.cells #[.int .i64 0, .int .u64 0, .slice (some ⟨wr.heap.size, 0, none⟩) 1 1] 26))) := Lib.hid (((Below.refl _ _).alloc (Nat.le_refl _) _).alloc (by simp) _)
      have HHC : Hid (∀ w9, Below ((wr.alloc (.cells #[.int .u32 1, .int .u32 0, .int .u64 0, .int .u64 4096, .int .u64 (S : Int), .int .u64 0, .int .u64 0] 52)).alloc (.cells #[.int .i64 0, .int .u64 0, .slice (some ⟨wr.heap.size, 0, none⟩) 1 1] 26)).heap.size ((wr.alloc (.cells #[.int .u32 1, .int .u32 0, .int .u64 0, .int .u64 4096, .int .u64 (S : Int), .int .u64 0, .int .u64 0] 52)).alloc (.cells #[.int .i64 0, .int .u64 0, .slice (some ⟨wr.heap.size, 0, none⟩) 1 1] 26)) w9 →
          w9.cell? ⟨wr.heap.size + 1, 0, none⟩ = some (.int .i64 0) ∧ w9.cell? ⟨wr.heap.size + 1, 1, none⟩ = some (.int .u64 0) ∧ w9.cell? ⟨wr.heap.size + 1, 2, none⟩ = some (.slice (some ⟨wr.heap.size, 0, none⟩) 1 1)) := Lib.hid (by
        intro w9 h9
        have e1 : ∀ j, w9.cell? ⟨wr.heap.size + 1, j, none⟩ = (#[.int .i64 0, .int .u64 0, .slice (some ⟨wr.heap.size, 0, none⟩) 1 1] : Array Value)[j]? := fun j => by
          rw [h9.cell (p := ⟨wr.heap.size + 1, j, none⟩) (by simp)]
          exact second_cells wr _ _ _ j
        exact ⟨by rw [e1]; rfl, by rw [e1]; rfl, by rw [e1]; rfl⟩)
      have hfit := Lib.hid HIN.out.at
      go_wp2_with fail
      refine (read_first ad1 c1 S k ms N _ _ HK.out hl HSZ.out HG.out hN2 ⟨(HIN.out.below HW.out).at.2.1, encL_lt _⟩ HF.out HIN.out.fit.1 (fun h => by have := hfit.out.2.2 h; rw [toI_length, encL_length, HK.out] at this; exact ⟨by have := HSZ.out; omega, this.2⟩)).mono ?_
      rintro e w2 ⟨a1, d1, a2, d2, a3, d3, rfl, ho1, hb2⟩
      obtain ⟨f0, f1, f2⟩ := HHC.out _ hb2
      have O1 := Lib.hid ho1
      have B2 := Lib.hid (bstep HW.out hb2)
      have HF2 := Lib.hid (HF.out.below hb2)
      clear ho1 hb2 HHC HF HW HP
      go_wp2_with fail
      refine wp_build_as 29 _ rfl [(17, .int .u64 4096), (1, .int .u64 (S : Int))] (dynC 0 0 4096 S) (by rw [Array.toList_map]; rfl) (dyn_two S) ?_
      go_wp2_with fail
      refine (read_second ad1 c1 S k ms N _ _ HK.out hl HSZ.out HG.out hN2 ⟨(HIN.out.below (B2.out)).at.2.1, encL_lt _⟩ HF2.out HIN.out.fit.1 (fun h => by have := hfit.out.2.2 h; rw [toI_length, encL_length, HK.out] at this; exact ⟨by have := HSZ.out; omega, this.2⟩)).mono ?_
      rintro e w3 ⟨a4, d4, a5, d5, a6, d6, rfl, ho2, hb3⟩
      clear f0 f1 f2
      have O1' := Lib.hid (O1.out.below hb3)
      have O2 := Lib.hid ho2
      have B3 := Lib.hid (bstep B2.out hb3)
      clear O1 ho2 hb3 B2 HF2
      go_wp2_with fail
      refine (same_eq a1 ad2 d1 c2 k ms w3 HK.out (by omega) O1'.out.at.2.1 (HSN.out.below B3.out).at.2.1).mono ?_
      rintro e w4 ⟨rfl, hb4⟩
      have O2' := Lib.hid (O2.out.below hb4)
      have B4 := Lib.hid (bstep B3.out hb4)
      clear O1' O2 hb4 B3
      go_wp2_with fail
      refine (same_eq a5 ad2 d5 c2 k ms w4 HK.out (by omega) O2'.out.at.2.1 (HSN.out.below B4.out).at.2.1).mono ?_
      rintro e w5 ⟨rfl, hb5⟩
      have B5 := Lib.hid (bstep B4.out hb5)
      clear O2' hb5 B4
      go_wp2
      go_ret
      exact ⟨rfl, bstep B1.out (HB.out.trans (B5.out.mono HB.out.size))⟩
end Go.Proofs.Ytbmfjchpfhealaa
