/- Layer 6: a symbol in bytes: the program's answer. -/
import Derived.Test.YtnaejlfjlennhaaGreatDoorVersItem
import Derived.Test.YtnaejlfjlennhaaGreatDoorHeadByR
import Derived.StillTailTactics
import Derived.BigQuiet
import Derived.WalkSmall
import Derived.Deep.RegionHeld3
namespace Go.Proofs.YtnaejlfjlennhaaGreatDoor
open Go.RowKit
set_option linter.unusedVariables false
set_option linter.unusedSimpArgs false

theorem text_still (a : Option Addr) (cap : Nat) (s : List Nat) (off : Nat) (w : World) (h : BRow w a s) (hl : s.length ≤ 140737488351232) (hc : s.length ≤ cap) (ho : off < 18446744073709551616) (nm : ByteArray) (c : Nat) (ht : textF s off = (nm, c)) :
    Calls Tryz.prog 58 #[.slice a s.length cap, .int .u64 off] w fun e w' => e = .returned (.tuple #[.string nm, errV (c : Int)]) ∧ w' = w := by
  refine (symText_any a cap s off w h hl hc ho).mono ?_
  rintro e w' ⟨rfl, rfl⟩
  rw [ht]
  exact ⟨rfl, rfl⟩

set_option maxRecDepth 100000 in
set_option maxHeartbeats 4000000 in
theorem symbol_bad (b o cap : Nat) (bs : List Nat) (sa : Option Addr) (sc : Nat) (s : List Nat) (w : World) (h : BRow w (some ⟨b, o, none⟩) bs) (hl : bs.length = 24) (hc : 24 ≤ cap)
    (hs : BRow w sa s) (hsl : s.length ≤ 140737488351232) (hsc : s.length ≤ sc) (nm : ByteArray) (c : Nat) (ht : textF s (numOf (bs.take 4)) = (nm, c)) (hc0 : c ≠ 0) :
    Calls Tryz.prog 57 #[.slice (some ⟨b, o, none⟩) 24 cap, .slice sa s.length sc] w fun e w' => e = .returned (.tuple #[.agg symZero.toArray, errV (c : Int)]) ∧ Below w.heap.size w w' := by
  have h1 : ((c : Int) = 0) = False := by simp; omega
  have hlt : numOf (bs.take 4) < 18446744073709551616 := by
    have h1 := numOf_lt (bs.take 4) (fun x hx => h.2 x (List.mem_of_mem_take hx))
    have h2 : (bs.take 4).length = 4 := by simp; omega
    rw [h2] at h1
    have h5 : (256 : Nat) ^ 4 = 4294967296 := by decide
    omega
  have HN0 := Lib.hid (fun (w' : World) (hb : Below w.heap.size w w') (c : Nat) => number_still (some ⟨b, o, none⟩) c (bs.take 4) w' 4 (by simp; omega) (by simpa [WideShapes.add_plain] using (h.below hb).cut 0 4) (by omega))
  have HT := Lib.hid (fun (w' : World) (hb : Below w.heap.size w w') => text_still sa sc s (numOf (bs.take 4)) w' (hs.below hb) hsl hsc hlt nm c ht)
  clear h hs ht
  generalize numOf (bs.take 4) = n0 at *
  have HB1 : Hid (Below w.heap.size w (w.alloc (.cells #[.string ⟨#[]⟩, .int .i64 0, .int .i64 0, .int .i64 0, .int .i64 0, .int .u64 0, .int .u64 0] 48))) := Lib.hid ((Below.refl _ _).alloc (Nat.le_refl _) _)
  have HE : Hid (errV (c : Int) = .iface 56 (.int .i64 (c : Int))) := Lib.hid (by unfold errV; rw [if_neg (by omega)])
  rw [HE.out] at HT ⊢
  have i4 : (4 : Int) ≤ (cap : Int) := by omega
  go_enter Tryz.func57, Tryz.ntmps57
  go_wp2_with fail
  refine (HN0.out _ HB1.out _).mono ?_
  rintro e w2 ⟨rfl, rfl⟩
  go_wp2_with fail
  refine (HT.out _ HB1.out).mono ?_
  rintro e w2 ⟨rfl, rfl⟩
  go_wp2
  go_returns
  exact ⟨rfl, HB1.out⟩

/-- what symbol answers, the name being told -/
def SymAns (nm : ByteArray) (x4 x5 n6 n8 n16 : Nat) (w : World) (e : Ending) (w' : World) : Prop :=
  e = .returned (.tuple #[.agg (if (decide (x4 / 16 ≤ 2) && typedB (x4 % 16)) then [.string nm, .int .i64 ((x4 / 16 : Nat) : Int), .int .i64 ((x4 % 16 : Nat) : Int), .int .i64 ((x5 % 4 : Nat) : Int), .int .i64 (n6 : Int), .int .u64 (n8 : Int), .int .u64 (n16 : Int)] else symZero).toArray,
    errV ((if (decide (x4 / 16 ≤ 2) && typedB (x4 % 16)) then 0 else 3 : Nat) : Int)]) ∧ Below w.heap.size w w'
theorem SymAns.yes {nm : ByteArray} {x4 x5 n6 n8 n16 : Nat} {w w' : World} (h1 : x4 / 16 ≤ 2) (h2 : typedB (x4 % 16) = true) (hb : Below w.heap.size w w') :
    SymAns nm x4 x5 n6 n8 n16 w (.returned (.tuple #[.agg #[.string nm, .int .i64 ((x4 : Int) / 16), .int .i64 ((x4 : Int) % 16), .int .i64 ((x5 : Int) % 4), .int .i64 (n6 : Int), .int .u64 (n8 : Int), .int .u64 (n16 : Int)], .nilIface])) w' := by
  have h : (decide (x4 / 16 ≤ 2) && typedB (x4 % 16)) = true := by simp [h1, h2]
  refine ⟨?_, hb⟩
  rw [h]
  rfl
theorem SymAns.no {nm : ByteArray} {x4 x5 n6 n8 n16 : Nat} {w w' : World} (h : (decide (x4 / 16 ≤ 2) && typedB (x4 % 16)) = false) (hb : Below w.heap.size w w') :
    SymAns nm x4 x5 n6 n8 n16 w (.returned (.tuple #[.agg #[.string ⟨#[]⟩, .int .i64 0, .int .i64 0, .int .i64 0, .int .i64 0, .int .u64 0, .int .u64 0], .iface 56 (.int .i64 3)])) w' := by
  refine ⟨?_, hb⟩
  rw [h]
  rfl
theorem setCell_drewN (W : World) (n : Nat) (a : Addr) (v : Value) : (W.drewN n).setCell a v = (W.setCell a v).drewN n := by
  unfold World.setCell World.drewN
  split <;> first | rfl | (split <;> rfl)
theorem alloc_drewN (W : World) (n : Nat) (o : Obj) : (W.drewN n).alloc o = (W.alloc o).drewN n := rfl
theorem number_cut (b o : Nat) (bs : List Nat) (w : World) (h : BRow w (some ⟨b, o, none⟩) bs) (k n c : Nat) (hk : k + n ≤ bs.length) (hn : n ≤ 8) :
    Calls Tryz.prog 48 #[.slice (some ⟨b, o + k, none⟩) n c] w fun e w' => e = .returned (.int .u64 ((numOf ((bs.drop k).take n) : Nat) : Int)) ∧ w' = w :=
  number_still (some ⟨b, o + k, none⟩) c ((bs.drop k).take n) w n (by simp; omega) (by simpa [WideShapes.add_plain] using h.cut k n) hn
theorem num_lt {bs : List Nat} (h : ∀ b ∈ bs, b < 256) (k n : Nat) (hn : n ≤ 8) : numOf ((bs.drop k).take n) < 256 ^ n := by
  have h1 := numOf_lt ((bs.drop k).take n) (fun x hx => h x (List.mem_of_mem_drop (List.mem_of_mem_take hx)))
  have h2 : ((bs.drop k).take n).length ≤ n := by simp; omega
  exact Nat.lt_of_lt_of_le h1 (Nat.pow_le_pow_right (by omega) h2)

set_option maxRecDepth 100000 in
set_option maxHeartbeats 4000000 in
theorem symbol_good (b o cap : Nat) (bs : List Nat) (sa : Option Addr) (sc : Nat) (s : List Nat) (w : World) (h : BRow w (some ⟨b, o, none⟩) bs) (hl : bs.length = 24) (hc : 24 ≤ cap)
    (hs : BRow w sa s) (hsl : s.length ≤ 140737488351232) (hsc : s.length ≤ sc) (nm : ByteArray) (ht : textF s (numOf (bs.take 4)) = (nm, 0)) :
    Calls Tryz.prog 57 #[.slice (some ⟨b, o, none⟩) 24 cap, .slice sa s.length sc] w fun e w' => e = .returned (.tuple #[.agg (if symOk bs then symCells nm bs else symZero).toArray, errV ((if symOk bs then 0 else 3 : Nat) : Int)]) ∧ Below w.heap.size w w' := by
  have hlt := num_lt h.2 0 4 (by omega)
  rw [List.drop_zero] at hlt
  have h6 := num_lt h.2 6 2 (by omega)
  have HN := Lib.hid (fun (w' : World) (hb : Below w.heap.size w w') => number_cut b o bs w' (h.below hb))
  have HT := Lib.hid (fun (w' : World) (hb : Below w.heap.size w w') => text_still sa sc s (numOf (bs.take 4)) w' (hs.below hb) hsl hsc (by omega) nm 0 ht)
  have HC : Hid (∀ w', Below w.heap.size w w' → w'.cell? ⟨b, o + 4, none⟩ = some (.int .u8 ((bs.getD 4 0 : Nat) : Int)) ∧ w'.cell? ⟨b, o + 5, none⟩ = some (.int .u8 ((bs.getD 5 0 : Nat) : Int))) := Lib.hid (by
    intro w' hb
    obtain ⟨b', o', e, -, h4, -⟩ := (h.below hb).at (i := 4) (by omega)
    simp only [Option.some.injEq, Addr.mk.injEq, and_true] at e
    obtain ⟨rfl, rfl⟩ := e
    obtain ⟨b', o', e, -, h5, -⟩ := (h.below hb).at (i := 5) (by omega)
    simp only [Option.some.injEq, Addr.mk.injEq, and_true] at e
    obtain ⟨rfl, rfl⟩ := e
    exact ⟨h4, h5⟩)
  have hb4 : bs.getD 4 0 < 256 := by obtain ⟨_, _, _, _, _, h4⟩ := h.at (i := 4) (by omega); exact h4
  have hb5 : bs.getD 5 0 < 256 := by obtain ⟨_, _, _, _, _, h5⟩ := h.at (i := 5) (by omega); exact h5
  have hok : symOk bs = (decide (bs.getD 4 0 / 16 ≤ 2) && typedB (bs.getD 4 0 % 16)) := rfl
  have hcl : symCells nm bs = [.string nm, .int .i64 ((bs.getD 4 0 / 16 : Nat) : Int), .int .i64 ((bs.getD 4 0 % 16 : Nat) : Int), .int .i64 ((bs.getD 5 0 % 4 : Nat) : Int),
    .int .i64 ((numOf ((bs.drop 6).take 2) : Nat) : Int), .int .u64 ((numOf ((bs.drop 8).take 8) : Nat) : Int), .int .u64 ((numOf ((bs.drop 16).take 8) : Nat) : Int)] := rfl
  rw [hok, hcl]
  clear hok hcl h hs ht
  obtain ⟨N, hN⟩ : ∃ N : Nat → Nat → Nat, ∀ k n, numOf ((bs.drop k).take n) = N k n := ⟨_, fun _ _ => rfl⟩
  have hn0 : numOf (bs.take 4) = N 0 4 := by rw [← hN, List.drop_zero]
  rw [hn0] at hlt HT
  simp only [hN] at *
  clear hN hn0
  generalize bs.getD 4 0 = x4 at *
  generalize bs.getD 5 0 = x5 at *
  have h6' : (N 6 2 : Int) < 65536 := by have : (256 : Nat) ^ 2 = 65536 := by decide
                                         omega
  clear h6
  change Calls _ _ _ _ (SymAns nm x4 x5 (N 6 2) (N 8 8) (N 16 8) w)
  have HB1 : Hid (Below w.heap.size w (w.alloc (.cells #[.string ⟨#[]⟩, .int .i64 0, .int .i64 0, .int .i64 0, .int .i64 0, .int .u64 0, .int .u64 0] 48))) := Lib.hid ((Below.refl _ _).alloc (Nat.le_refl _) _)
  have i4 : (4 : Int) ≤ (cap : Int) := by omega
  have i24 : (24 : Int) ≤ (cap : Int) := by omega
  have e0 : (⟨b, o, none⟩ : Addr) = ⟨b, o + 0, none⟩ := rfl
  simp only [errV] at HT
  go_enter Tryz.func57, Tryz.ntmps57
  go_wp2_with fail
  refine (HN.out _ HB1.out 0 4 _ (by omega) (by omega)).mono ?_
  rintro e w2 ⟨rfl, rfl⟩
  go_wp2_with fail
  refine (HT.out _ HB1.out).mono ?_
  rintro e w2 ⟨rfl, rfl⟩
  have hc45 := HC.out _ HB1.out
  obtain ⟨hc4, hc5⟩ := hc45
  go_wp2_with fail
  go_quiet (fail)
  clear hc4 hc5
  have HB2 := Lib.hid (Below.drew (below_drewN HB1.out nq))
  clear HT HC HB1 e0
  have hsd := setCell_drewN
  have had := alloc_drewN
  have n6 : ¬ cap = 6 := by omega
  have n8 : ¬ cap = 8 := by omega
  have n16 : ¬ cap = 16 := by omega
  have q1 : IntKind.u8.wrap ((x4 : Int) / 16) = (x4 : Int) / 16 := by rw [IntKind.wrap_u8]; omega
  have q2 : IntKind.i64.wrap ((x4 : Int) / 16) = (x4 : Int) / 16 := by rw [IntKind.wrap_i64]; omega
  have q3 : (x4 : Int).tmod 16 = (x4 : Int) % 16 := by rw [Int.tmod_eq_emod_of_nonneg (by omega)]
  have q4 : IntKind.i64.wrap ((x4 : Int) % 16) = (x4 : Int) % 16 := by rw [IntKind.wrap_i64]; omega
  have q5 : (x5 : Int).tmod 4 = (x5 : Int) % 4 := by rw [Int.tmod_eq_emod_of_nonneg (by omega)]
  have q6 : IntKind.i64.wrap ((x5 : Int) % 4) = (x5 : Int) % 4 := by rw [IntKind.wrap_i64]; omega
  have q7 : IntKind.i64.wrap (N 6 2 : Int) = (N 6 2 : Int) := by rw [IntKind.wrap_i64]; omega
  have e6 : ((cap : Int) - 6).toNat = cap - 6 := by omega
  have e8 : ((cap : Int) - 8).toNat = cap - 8 := by omega
  have e16 : ((cap : Int) - 16).toNat = cap - 16 := by omega
  have i8 : (8 : Int) ≤ (cap : Int) := by omega
  have i16 : (16 : Int) ≤ (cap : Int) := by omega
  go_wp2_with fail
  go_region_held3 (fun w' => Below w.heap.size w w') (first | assumption | exact HB2.out | exact Below.alloc HB2.out (by simp) _)
    (first
      | (go_simp; go_at_call 48; refine (HN.out _ (by assumption) _ _ _ (by omega) (by omega)).mono ?_; rintro e w2 ⟨rfl, rfl⟩))
  all_goals
    have HW : Hid (∀ z c, Below w.heap.size w (((w.alloc (.cells z 48)).alloc c).drewN (nq + 1))) := Lib.hid (fun z c => below_drewN (((Below.refl _ _).alloc (Nat.le_refl _) _).alloc (by simp) _) _)
    have HTY := Lib.hid (fun w' => typed_any (x4 % 16) w' (by omega))
    rw [Int.natCast_emod] at HTY
    change Hid (∀ w', Calls Tryz.prog 89 #[.int .i64 ((x4 : Int) % 16)] w' _) at HTY
    clear HB2 HN n6 n8 n16 q1 q2 q3 q4 q5 q6 q7 e6 e8 e16 i8 i16 i4 i24
    by_cases h1 : x4 / 16 ≤ 2
    · have g1 : ¬ (2 : Int) < (x4 : Int) / 16 := by omega
      cases h2 : typedB (x4 % 16) with
      | true =>
        rw [h2] at HTY
        have H2 := Lib.hid h2
        clear h2
        go_wp2_with (go_at_call 89; refine (HTY.out _).mono ?_; rintro e w2 ⟨rfl, rfl⟩)
        go_returns
        exact SymAns.yes h1 H2.out (HW.out _ _)
      | false =>
        rw [h2] at HTY
        have H2 := Lib.hid h2
        clear h2
        go_wp2_with (go_at_call 89; refine (HTY.out _).mono ?_; rintro e w2 ⟨rfl, rfl⟩)
        go_returns
        exact SymAns.no (by rw [H2.out]; simp) (HW.out _ _)
    · have g1 : (2 : Int) < (x4 : Int) / 16 := by omega
      clear HTY
      go_wp2
      go_returns
      exact SymAns.no (by simp [h1]) (HW.out _ _)
end Go.Proofs.YtnaejlfjlennhaaGreatDoor
