/- Layer 4: Write: the header and the program headers of a file. -/
import Derived.Test.YtnaejlfjlennhaaGreatDoorHeadLayP
import Derived.Laws.OwnMore
import Derived.OwnWalk
import Derived.Test.YtnaejlfjlennhaaGreatDoorTk
namespace Go.Proofs.YtnaejlfjlennhaaGreatDoor
open Go.RowKit
set_option linter.unusedVariables false
set_option linter.unusedSimpArgs false

theorem wpList_make_numsH {P : Program} {w : World} {ops : Array Oper} {rest : List Oper} {o : Oper} {a : Act} {Q : Exit → Act → World → Prop} (hgd : o.guard = none) (l c : Operand) {t e : TypeId} {k : IntKind} {bytes : Nat}
    (F : IntSlice P t e k bytes) (ho : o.op = Op.makeSlice t l c) (B : Nat) (w0 : World) (n : Nat) (kl kc : IntKind) (L C : Int)
    (hl : a.eval l = .int kl L) (hc : a.eval c = .int kc C) (hL : L = (n : Int)) (hC : C = (n : Int)) (hn : n * bytes ≤ 140737488355328) (hm : n ≤ maxLen) (bel : Below B w0 w) (hb : B ≤ w.heap.size)
    (h : ∀ g w', OwnI w' B e k (.slice (some ⟨g, 0, none⟩) n n) (List.replicate n 0) → w.heap.size ≤ g → Below B w0 w' → Below w.heap.size w w' → wpList P ops Q rest (a.put o.dst (.slice (some ⟨g, 0, none⟩) n n)) w') : wpList P ops Q (o :: rest) a w := by
  obtain ⟨ht, hinfo⟩ := F
  obtain ⟨i, hi, hz0, hz1, hz2⟩ := info_parts hinfo
  refine wpList_make_full w hgd l c t ho B e i (.int k 0) 1 ht hi hz0 hz1 kl kc L C n hl hc hL hC (by rw [hz2]; rw [Nat.mul_comm]; omega) hm hb ?_
  intro w' hown hgr
  refine h w.heap.size w' ?_ (Nat.le_refl _) (bel.grown hgr hb (fun j hj => by cases hj)) ((Below.refl _ _).grown hgr (Nat.le_refl _) (fun j hj => by cases hj))
  unfold OwnI
  rw [List.length_replicate, List.map_replicate]
  have e1 : (madeCells (Value.int k 0).cells (n * 1)).toList = List.replicate n (.int k 0) := by
    rw [Nat.mul_one]
    exact toList_madeCells_one (.int k 0) n
  rw [e1] at hown
  exact hown

def fixPut (xs : List Nat) : List (Nat × Nat × Nat × Nat) → List Nat
  | [] => xs
  | (a, n, x, _) :: l => fixPut (putF xs a n x) l
def putPs (xs : List Nat) : Nat → List PT → List Nat
  | _, [] => xs
  | k, q :: qs => putPs (putP xs (64 + 56 * k) q) (k + 1) qs
/-- the bytes of a header and its program headers -/
def writeF (k e : Nat) (ps : List PT) : List Nat := putPs (putF (putF (putF (putF (fixPut (List.replicate (64 + 56 * ps.length) 0) fixedF) 16 2 k) 24 8 e) 32 8 64) 56 2 ps.length) 0 ps
theorem fixPut_len : ∀ (l : List (Nat × Nat × Nat × Nat)) (xs : List Nat), (fixPut xs l).length = xs.length
  | [], xs => rfl
  | (a, n, x, y) :: l, xs => by rw [fixPut, fixPut_len l, putF_len]
theorem putPs_len : ∀ (qs : List PT) (k : Nat) (xs : List Nat), (putPs xs k qs).length = xs.length
  | [], k, xs => rfl
  | q :: qs, k, xs => by rw [putPs, putPs_len qs, putP_len]
theorem writeF_len (k e : Nat) (ps : List PT) : (writeF k e ps).length = 64 + 56 * ps.length := by
  unfold writeF
  rw [putPs_len, putF_len, putF_len, putF_len, putF_len, fixPut_len, List.length_replicate]
theorem OnlyS.refl (g : Nat) (w : World) : OnlyS g w w := ⟨fun n _ => Below.refl _ _, fun j _ _ => rfl⟩
theorem OnlyS.drew (g : Nat) (w : World) : OnlyS g w w.drew := ⟨fun n _ => (Below.refl n w).drew, fun j _ _ => rfl⟩
theorem fix_room : ∀ q ∈ fixedF, q.1 + q.2.1 ≤ 64 ∧ q.2.1 ≤ 8 := by decide
theorem fix_step {k a n x y : Nat} (h : fixedF[k]? = some (a, n, x, y)) : fixedF.drop k = (a, n, x, y) :: fixedF.drop (k + 1) := by
  have hk : k < fixedF.length := (List.getElem?_eq_some_iff.1 h).1
  have he : fixedF[k] = (a, n, x, y) := (List.getElem?_eq_some_iff.1 h).2
  rw [List.drop_eq_getElem_cons hk, he]
/-- zeros, newly made -/
theorem own_zeros {w : World} {B g N : Nat} (h : OwnI w B 5 .u8 (.slice (some ⟨g, 0, none⟩) N N) (List.replicate N 0)) : w.heap[g]? = some (.cells (u8c (List.replicate N 0)) 5) ∧ B ≤ g := by
  obtain ⟨hl, ⟨hv, -⟩ | ⟨g', cap, cur, hv, hg, hh, -, -, hcs, ht⟩⟩ := h
  · cases hv
  · simp only [Value.slice.injEq, Option.some.injEq, Addr.mk.injEq, and_true] at hv
    obtain ⟨rfl, -, rfl⟩ := hv
    refine ⟨?_, hg⟩
    rw [hh]
    congr 2
    rw [List.take_of_length_le (by rw [Array.length_toList, hcs, List.length_replicate]; omega)] at ht
    apply Array.toList_inj.1
    rw [ht]
    unfold u8c
    simp
theorem slice8w : IntSlice Tryz.prog 22 5 .u8 1 := ⟨Tryz.underlying22, by kernel_rfl⟩
set_option maxRecDepth 100000
set_option maxHeartbeats 16000000 in
theorem hwrite_bad (K : Int) (e : Nat) (pa : Option Addr) (pn pc : Nat) (w : World) (hpn : pn ≤ 140737488351232) (hbad : (K ≠ 2 ∧ K ≠ 3) ∨ pn = 0 ∨ 16 < pn) :
    Calls Tryz.prog 6 #[.agg #[.int .i64 K, .int .u64 (e : Int), .slice pa pn pc]] w fun e w' => e = .returned (.tuple #[.slice none 0 0, .iface 56 (.int .i64 1)]) ∧ Below w.heap.size w w' := by
  have B1 : Hid (Below w.heap.size w (w.alloc (.cells #[.int .i64 K, .int .u64 (e : Int), .slice pa pn pc] 27))) := Lib.hid (ballo (Below.refl _ _) _)
  by_cases h2 : K = 2
  · have t1 : (K != 2) = false := by rw [h2]; rfl
    by_cases h0 : pn = 0
    · have t3 : ((pn : Int) == 0) = true := beq_iff_eq.2 (by omega)
      clear h2 hbad h0
      go_enter Tryz.func6, Tryz.ntmps6
      go_wp2_with fail
      go_returns
      exact ⟨rfl, B1.out⟩
    · have t3 : ((pn : Int) == 0) = false := beq_eq_false_iff_ne.2 (by omega)
      have t4 : decide ((16 : Int) < (pn : Int)) = true := decide_eq_true (by omega)
      clear h2 hbad h0
      go_enter Tryz.func6, Tryz.ntmps6
      go_wp2_with fail
      go_returns
      exact ⟨rfl, B1.out⟩
  · have t1 : (K != 2) = true := bne_iff_ne.2 h2
    by_cases h3 : K = 3
    · have t2 : (K != 3) = false := by rw [h3]; rfl
      by_cases h0 : pn = 0
      · have t3 : ((pn : Int) == 0) = true := beq_iff_eq.2 (by omega)
        clear h2 h3 hbad h0
        go_enter Tryz.func6, Tryz.ntmps6
        go_wp2_with fail
        go_returns
        exact ⟨rfl, B1.out⟩
      · have t3 : ((pn : Int) == 0) = false := beq_eq_false_iff_ne.2 (by omega)
        have t4 : decide ((16 : Int) < (pn : Int)) = true := decide_eq_true (by omega)
        clear h2 h3 hbad h0
        go_enter Tryz.func6, Tryz.ntmps6
        go_wp2_with fail
        go_returns
        exact ⟨rfl, B1.out⟩
    · have t2 : (K != 3) = true := bne_iff_ne.2 h3
      clear h2 h3 hbad
      go_enter Tryz.func6, Tryz.ntmps6
      go_wp2_with fail
      go_returns
      exact ⟨rfl, B1.out⟩
def WritePost (w : World) (bs : List Nat) (e : Ending) (w' : World) : Prop := ∃ g, e = .returned (.tuple #[.slice (some ⟨g, 0, none⟩) bs.length bs.length, .nilIface]) ∧ w'.heap[g]? = some (.cells (u8c bs) 5) ∧ w.heap.size ≤ g ∧ Below w.heap.size w w'
set_option maxHeartbeats 64000000 in
theorem hwrite_ok (K e : Nat) (pa : Option Addr) (pn pc : Nat) (ps : List PT) (w : World) (hk : ((K : Int) != 2) = false ∨ ((K : Int) != 2) = true ∧ ((K : Int) != 3) = false) (hKl : K < 65536) (he : e < 18446744073709551616) (hp : PRow w pa ps) (hl : ps.length = pn) (h0 : pn ≠ 0) (h16 : pn ≤ 16) (hf : FixAt w) :
    Calls Tryz.prog 6 #[.agg #[.int .i64 (K : Int), .int .u64 (e : Int), .slice pa pn pc]] w (WritePost w (writeF K e ps)) := by
  obtain ⟨N, hN⟩ : ∃ N, 64 + 56 * pn = N := ⟨_, rfl⟩
  have HPO : Hid (∀ g w' ys, ys = writeF K e ps → w'.heap[g]? = some (.cells (u8c ys) 5) → w.heap.size ≤ g → Below w.heap.size w w' → WritePost w (writeF K e ps) (.returned (.tuple #[.slice (some ⟨g, 0, none⟩) N N, .nilIface])) w') := Lib.hid (fun g w' ys hy hg hgl hb => ⟨g, by rw [writeF_len, hl, hN], by rw [← hy]; exact hg, hgl, hb⟩)
  generalize WritePost w (writeF K e ps) = P at *
  have HWF : Hid (writeF K e ps = putPs (putF (putF (putF (putF (fixPut (List.replicate N 0) fixedF) 16 2 K) 24 8 e) 32 8 64) 56 2 pn) 0 ps) := Lib.hid (by unfold writeF; rw [hl, hN])
  generalize writeF K e ps = R at *
  obtain ⟨FV, hFV⟩ : ∃ FV, fixC.toArray = FV := ⟨_, rfl⟩
  have HIX : Hid (∀ k : Nat, k < 13 → ∃ a n x y : Nat, fixedF[k]? = some (a, n, x, y) ∧ wide n = true ∧ a < 64 ∧ x < 256 ∧ y < 256 ∧ ∀ w, (Instr.index 65 (.agg FV) (.int .i64 (k : Int))).run Tryz.prog w = .ok (.agg #[.int .i64 (a : Int), .int .i64 (n : Int), .int .u64 (x : Int), .int .u64 (y : Int)]) w) := Lib.hid (fun k hk => by rw [← hFV]; exact fix_all k hk)
  have HFV := Lib.hid hFV
  have HIN : Hid ((Tryz.prog.info? 65).map (·.size) = some fixC.length) := Lib.hid (by kernel_rfl)
  obtain ⟨hbk, hhbk⟩ : ∃ hbk, w.heap.size = hbk := ⟨_, rfl⟩
  obtain ⟨w1, hw1⟩ : ∃ w1, w.alloc (.cells #[.int .i64 (K : Int), .int .u64 (e : Int), .slice pa pn pc] 27) = w1 := ⟨_, rfl⟩
  have B1 : Hid (Below w.heap.size w w1) := Lib.hid (by rw [← hw1]; exact ballo (Below.refl _ _) _)
  have H1 : Hid (w1.heap[hbk]? = some (.cells #[.int .i64 (K : Int), .int .u64 (e : Int), .slice pa pn pc] 27)) := Lib.hid (by rw [← hw1, ← hhbk]; exact heap_alloc_new _ _)
  have HFX : Hid (FixAt w) := Lib.hid hf
  have HPW := Lib.hid hp
  have HL := Lib.hid hl
  have HHB := Lib.hid hhbk
  have hK0 : IntKind.u64.wrap (K : Int) = (K : Int) := by rw [IntKind.wrap_u64]; omega
  have hpnw : IntKind.u64.wrap (pn : Int) = (pn : Int) := by rw [IntKind.wrap_u64]; omega
  have hw56 : IntKind.i64.wrap (56 * (pn : Int)) = 56 * (pn : Int) := by rw [IntKind.wrap_i64]; omega
  have hw64 : IntKind.i64.wrap (64 + 56 * (pn : Int)) = (N : Int) := by rw [IntKind.wrap_i64]; omega
  have t3 : ((pn : Int) == 0) = false := beq_eq_false_iff_ne.2 (by omega)
  have t4 : decide ((16 : Int) < (pn : Int)) = false := decide_eq_false (by omega)
  have hNl : N ≤ 1048576 := by omega
  have hpn16 : (pn : Int) ≤ 16 := by omega
  have hN64 : 64 ≤ N := by omega
  have HNN : Hid (64 + 56 * pn = N ∧ pn ≤ 16 ∧ K < 65536 ∧ e < 18446744073709551616) := Lib.hid ⟨hN, h16, hKl, he⟩
  have c0 : w1.cell? ⟨hbk, 0, none⟩ = some (.int .i64 (K : Int)) := by rw [cell_of_row _ _ 0 _ _ _ H1.out]; rfl
  have c2 : w1.cell? ⟨hbk, 2, none⟩ = some (.slice pa pn pc) := by rw [cell_of_row _ _ 2 _ _ _ H1.out]; rfl
  clear hFV hp hf hl h0 h16 hN he hKl
  rcases hk with t1 | ⟨t1, t2⟩
  all_goals
    go_enter Tryz.func6, Tryz.ntmps6
    go_wp2_with (first | (at_make; (refine wpList_make_numsH rfl (.tmp 34) (.tmp 34) slice8w rfl w.heap.size w N .i64 .i64 (N : Int) (N : Int) rfl rfl rfl rfl (by omega) (by unfold maxLen; omega) B1.out B1.out.size ?_); intro g w4 ho4 hg4 hb4 hb4'; have O4 := Lib.hid (own_zeros ho4); have G4 := Lib.hid hg4; have B4 := Lib.hid hb4; have B4' := Lib.hid hb4'; clear ho4 hg4 hb4 hb4') | (refine wpList_load_mid rfl 65 _ rfl 0 0 (by rfl) fixC _ (HFX.out.below B4.out) Tryz.underlying65 rfl HIN.out ?_))
    rw [HFV.out]
    have H4 := Lib.hid ((B4'.out.block _ (lt_of_block H1.out)).trans H1.out)
    have HNG : Hid (hbk ≠ g) := Lib.hid (by have h1 := lt_of_block H1.out; have h2 := G4.out; omega)
    have HLY : Hid (∀ (at_ n v : Nat) (ys : List Nat) wx, wx.heap[g]? = some (.cells (u8c ys) 5) → at_ + n ≤ 64 → ys.length = N → n ≤ 8 → v < 18446744073709551616 → Calls Tryz.prog 12 #[.slice (some ⟨g, 0, none⟩) N N, .int .i64 (at_ : Int), .int .i64 (n : Int), .int .u64 (v : Int)] wx fun e w' => e = .returned (.tuple #[]) ∧ w'.heap[g]? = some (.cells (u8c (putF ys at_ n v)) 5) ∧ Only g wx w') := Lib.hid (fun at_ n v ys wx h h1 h2 h3 h4 => by
      have := lay_any g 0 N N at_ n v ys wx h (by omega) (by omega) hNl (Nat.le_refl _) h3 h4
      rwa [Nat.zero_add] at this)
    have HO4 : Hid ((List.replicate N 0).length = N ∧ fixPut (List.replicate N 0) (fixedF.drop 0) = fixPut (List.replicate N 0) fixedF) := Lib.hid ⟨List.length_replicate, rfl⟩
    have B4g := Lib.hid O4.out.1
    generalize fixPut (List.replicate N 0) fixedF = F1 at HO4 HWF
    clear hw1 hhbk c0 c2 t3 t4
    go_loopg [37] 13 (fun g2 iv wr => ∃ (k : Nat) (ys : List Nat), k + g2 = 13 ∧ iv = .int .i64 (k : Int) ∧ Hid (wr.heap[g]? = some (.cells (u8c ys) 5)) ∧ Hid (ys.length = N ∧ fixPut ys (fixedF.drop k) = F1) ∧ Hid (OnlyS g w4 wr))
    case atStart => exact ⟨0, _, by omega, rfl, B4g, HO4, Lib.hid (OnlyS.refl _ _)⟩
    case round =>
      obtain ⟨k, ys, hk, rfl, HB, HY, HO⟩ := hrel
      cases gk with
      | zero =>
        obtain rfl : k = 13 := by omega
        have HE : Hid (ys = F1) := Lib.hid HY.out.2
        clear hk
        have HL1 := Lib.hid (HLY.out 16 2 K ys wr HB.out (by omega) HY.out.1 (by omega) (by have := HNN.out; omega))
        have HH1 := Lib.hid ((HO.out.oth _ HNG.out (lt_of_block H4.out)).trans H4.out)
        have c0 : wr.cell? ⟨hbk, 0, none⟩ = some (.int .i64 (K : Int)) := by rw [cell_of_row _ _ 0 _ _ _ HH1.out]; rfl
        go_wp2_with fail
        refine HL1.out.mono ?_
        rintro e5 w5 ⟨rfl, b5, o5⟩
        have B5 := Lib.hid b5
        have O5 := Lib.hid (HO.out.trans o5.s)
        have HH5 := Lib.hid ((o5.oth _ HNG.out).trans HH1.out)
        have HL2 := Lib.hid (HLY.out 24 8 e _ w5 B5.out (by omega) (by rw [putF_len]; exact HY.out.1) (by omega) HNN.out.2.2.2)
        clear b5 o5 c0
        have c1 : w5.cell? ⟨hbk, 1, none⟩ = some (.int .u64 (e : Int)) := by rw [cell_of_row _ _ 1 _ _ _ HH5.out]; rfl
        go_wp2_with fail
        refine HL2.out.mono ?_
        rintro e6 w6 ⟨rfl, b6, o6⟩
        have B6 := Lib.hid b6
        have O6 := Lib.hid (O5.out.trans o6.s)
        have HH6 := Lib.hid ((o6.oth _ HNG.out).trans HH5.out)
        have HL3 := Lib.hid (HLY.out 32 8 64 _ w6 B6.out (by omega) (by rw [putF_len, putF_len]; exact HY.out.1) (by omega) (by omega))
        clear b6 o6 c1
        go_wp2_with fail
        refine HL3.out.mono ?_
        rintro e7 w7 ⟨rfl, b7, o7⟩
        have B7 := Lib.hid b7
        have O7 := Lib.hid (O6.out.trans o7.s)
        have HH7 := Lib.hid ((o7.oth _ HNG.out).trans HH6.out)
        have HL4 := Lib.hid (HLY.out 56 2 pn _ w7 B7.out (by omega) (by rw [putF_len, putF_len, putF_len]; exact HY.out.1) (by omega) (by have := HNN.out; omega))
        clear b7 o7
        have c2 : w7.cell? ⟨hbk, 2, none⟩ = some (.slice pa pn pc) := by rw [cell_of_row _ _ 2 _ _ _ HH7.out]; rfl
        go_wp2_with fail
        refine HL4.out.mono ?_
        rintro e8 w8 ⟨rfl, b8, o8⟩
        have B8 := Lib.hid b8
        have O8 := Lib.hid (O7.out.trans o8.s)
        have HH8 := Lib.hid ((o8.oth _ HNG.out).trans HH7.out)
        have HY8 : Hid ((putF (putF (putF (putF ys 16 2 K) 24 8 e) 32 8 64) 56 2 pn).length = N ∧ putPs (putF (putF (putF (putF ys 16 2 K) 24 8 e) 32 8 64) 56 2 pn) 0 (ps.drop 0) = R) := Lib.hid ⟨by rw [putF_len, putF_len, putF_len, putF_len]; exact HY.out.1, by rw [HWF.out, HE.out]; rfl⟩
        generalize putF (putF (putF (putF ys 16 2 K) 24 8 e) 32 8 64) 56 2 pn = Y8 at B8 HY8
        clear b8 o8 c2 hK0 hpnw hw56 hw64 HLY HL1 HL2 HL3 HL4
        have c2 : w8.cell? ⟨hbk, 2, none⟩ = some (.slice pa pn pc) := by rw [cell_of_row _ _ 2 _ _ _ HH8.out]; rfl
        go_wp2_with fail
        clear c2
        go_loopg [69] pn (fun g2 iv wr => ∃ (k : Nat) (ys : List Nat), k + g2 = pn ∧ iv = .int .i64 (k : Int) ∧ Hid (wr.heap[g]? = some (.cells (u8c ys) 5)) ∧ Hid (ys.length = N ∧ putPs ys k (ps.drop k) = R) ∧ Hid (OnlyS g w4 wr))
        case atStart => exact ⟨0, _, by omega, rfl, B8, HY8, O8⟩
        case round =>
          clear B8 HY8 O8
          obtain ⟨k, zs, hk, rfl, HB, HZ, HO⟩ := hrel
          cases gk with
          | zero =>
            have hkn : k = pn := by omega
            have HE2 : Hid (zs = R) := Lib.hid (by
              have := HZ.out.2
              rw [List.drop_eq_nil_of_le (by have := HL.out; omega)] at this
              exact this)
            subst hkn
            clear hk
            go_wp2_with fail
            exact HPO.out g wr zs HE2.out HB.out O4.out.2 (B4.out.trans (HO.out.blw _ O4.out.2))
          | succ g2 =>
            have hkl : k < ps.length := by have := HL.out; omega
            obtain ⟨hwf, b, o, hpa, hb, hc⟩ := (HPW.out.below (B4.out.trans (HO.out.blw _ O4.out.2))) k hkl
            obtain ⟨p, hp⟩ : ∃ p, ps[k] = p := ⟨_, rfl⟩
            have hdr : ps.drop k = p :: ps.drop (k + 1) := by rw [List.drop_eq_getElem_cons hkl, hp]
            rw [hp] at hwf hc
            obtain ⟨AT, hAT⟩ : ∃ AT, 64 + 56 * k = AT := ⟨_, rfl⟩
            have hA2 : AT + 56 ≤ N := by have := HNN.out.1; omega
            have HG : Hid (putPs (putP zs AT p) (k + 1) (ps.drop (k + 1)) = R) := Lib.hid (by
              have := HZ.out.2
              rw [hdr, putPs, hAT] at this
              exact this)
            have HLP : Hid (∀ wx, wx.heap[g]? = some (.cells (u8c zs) 5) → Calls Tryz.prog 13 #[.slice (some ⟨g, AT, none⟩) (N - AT) (N - AT), p.hv] wx fun e w' => e = .returned (.tuple #[]) ∧ w'.heap[g]? = some (.cells (u8c (putP zs AT p)) 5) ∧ OnlyS g wx w') := Lib.hid (fun wx h => layProg_any g AT (N - AT) (N - AT) p hwf zs wx h (by omega) (by have := HZ.out.1; omega) (by omega) (Nat.le_refl _))
            have c0 := hc 0 (by omega)
            have c1 := hc 1 (by omega)
            have c2 := hc 2 (by omega)
            have c3 := hc 3 (by omega)
            have c4 := hc 4 (by omega)
            have c5 := hc 5 (by omega)
            have c6 := hc 6 (by omega)
            simp only [PT.cells, List.getElem?_cons_zero, List.getElem?_cons_succ, Nat.add_zero] at c0 c1 c2 c3 c4 c5 c6
            have HK := Lib.hid hk
            have HKN : Hid (k < pn) := Lib.hid (by omega)
            have i0 : (0 : Int) ≤ (k : Int) := by omega
            have i1 : (k : Int) < (pn : Int) := by omega
            have g1 : IntKind.i64.wrap (56 * (k : Int)) = 56 * (k : Int) := by rw [IntKind.wrap_i64]; have := HNN.out.2.1; omega
            have g2' : IntKind.i64.wrap (64 + 56 * (k : Int)) = (AT : Int) := by rw [IntKind.wrap_i64]; have := HNN.out.2.1; omega
            have g3 : (0 : Int) ≤ (AT : Int) := by omega
            have g4 : (AT : Int) ≤ (N : Int) := by omega
            have g5 : ¬ N = AT := by omega
            obtain ⟨M', hM'⟩ : ∃ M', N - AT = M' := ⟨_, rfl⟩
            rw [hM'] at HLP
            obtain ⟨ZS, hZS⟩ : ∃ ZS, putP zs AT p = ZS := ⟨_, rfl⟩
            have HZL : Hid (ZS.length = N) := Lib.hid (by rw [← hZS, putP_len]; exact HZ.out.1)
            rw [hZS] at HLP HG
            unfold PT.hv PT.cells at HLP
            clear hc hwf hk hA2 hAT hZS hdr hp hkl
            obtain ⟨a0, a1, a2, a3, a4, a5, a6⟩ := p
            simp only [] at HLP c0 c1 c2 c3 c4 c5 c6
            subst hpa
            obtain ⟨xb, hxb⟩ : ∃ xb, wr.heap.size = xb := ⟨_, rfl⟩
            obtain ⟨w6, hw6⟩ : ∃ w6, wr.alloc (.cells #[.int .u32 (a0 : Int), .int .u32 (a1 : Int), .int .u64 (a2 : Int), .int .u64 (a3 : Int), .int .u64 (a4 : Int), .int .u64 (a5 : Int), .int .u64 (a6 : Int)] 54) = w6 := ⟨_, rfl⟩
            have HO6 : Hid (OnlyS g wr w6) := Lib.hid (by rw [← hw6]; exact OnlyS.alloc _ _ _ (lt_of_block HB.out))
            have HX6 : Hid (w6.heap[xb]? = some (.cells #[.int .u32 (a0 : Int), .int .u32 (a1 : Int), .int .u64 (a2 : Int), .int .u64 (a3 : Int), .int .u64 (a4 : Int), .int .u64 (a5 : Int), .int .u64 (a6 : Int)] 54)) := Lib.hid (by rw [← hw6, ← hxb]; exact heap_alloc_new _ _)
            have HNX : Hid (xb ≠ g) := Lib.hid (by have := lt_of_block HB.out; omega)
            have HB6 : Hid (w6.heap[g]? = some (.cells (u8c zs) 5)) := Lib.hid (by rw [← hw6, heap_alloc_old _ _ (lt_of_block HB.out)]; exact HB.out)
            have KS : Hid (∀ wx : World, wx.heap[xb]? = some (.cells #[.int .u32 (a0 : Int), .int .u32 (a1 : Int), .int .u64 (a2 : Int), .int .u64 (a3 : Int), .int .u64 (a4 : Int), .int .u64 (a5 : Int), .int .u64 (a6 : Int)] 54) → wx.cell? ⟨xb, 0, none⟩ = some (.int .u32 (a0 : Int)) ∧ wx.cell? ⟨xb, 1, none⟩ = some (.int .u32 (a1 : Int)) ∧ wx.cell? ⟨xb, 2, none⟩ = some (.int .u64 (a2 : Int)) ∧ wx.cell? ⟨xb, 3, none⟩ = some (.int .u64 (a3 : Int)) ∧ wx.cell? ⟨xb, 4, none⟩ = some (.int .u64 (a4 : Int)) ∧ wx.cell? ⟨xb, 5, none⟩ = some (.int .u64 (a5 : Int)) ∧ wx.cell? ⟨xb, 6, none⟩ = some (.int .u64 (a6 : Int))) := Lib.hid (fun wx h => out_cells h)
            go_wp2_with fail
            clear c0 c1 c2 c3 c4 c5 c6
            have hw6x := hw6
            clear hxb hw6 hw6x
            refine wp_region_held_drew (S := fun wx => wx.heap[xb]? = some (.cells #[.int .u32 (a0 : Int), .int .u32 (a1 : Int), .int .u64 (a2 : Int), .int .u64 (a3 : Int), .int .u64 (a4 : Int), .int .u64 (a5 : Int), .int .u64 (a6 : Int)] 54)) (by kernel_rfl) HX6.out (fun hHeld => ?_)
            first
              | (refine tkw 0 ?_ rfl ?_ ?_
                 rotate_left
                 · intro wx hSw
                   obtain ⟨s0, s1, s2, s3, s4, s5, s6⟩ := KS.out wx hSw
                   (first | (go_simp; rfl) | go_simp | rfl))
              | refine tku 0 rfl ?_
            first
              | (refine tkw 1 ?_ rfl ?_ ?_
                 rotate_left
                 · intro wx hSw
                   obtain ⟨s0, s1, s2, s3, s4, s5, s6⟩ := KS.out wx hSw
                   (first | (go_simp; rfl) | go_simp | rfl))
              | refine tku 1 rfl ?_
            first
              | (refine tkw 2 ?_ rfl ?_ ?_
                 rotate_left
                 · intro wx hSw
                   obtain ⟨s0, s1, s2, s3, s4, s5, s6⟩ := KS.out wx hSw
                   (first | (go_simp; rfl) | go_simp | rfl))
              | refine tku 2 rfl ?_
            first
              | (refine tkw 3 ?_ rfl ?_ ?_
                 rotate_left
                 · intro wx hSw
                   obtain ⟨s0, s1, s2, s3, s4, s5, s6⟩ := KS.out wx hSw
                   (first | (go_simp; rfl) | go_simp | rfl))
              | refine tku 3 rfl ?_
            first
              | (refine tkw 4 ?_ rfl ?_ ?_
                 rotate_left
                 · intro wx hSw
                   obtain ⟨s0, s1, s2, s3, s4, s5, s6⟩ := KS.out wx hSw
                   (first | (go_simp; rfl) | go_simp | rfl))
              | refine tku 4 rfl ?_
            first
              | (refine tkw 5 ?_ rfl ?_ ?_
                 rotate_left
                 · intro wx hSw
                   obtain ⟨s0, s1, s2, s3, s4, s5, s6⟩ := KS.out wx hSw
                   (first | (go_simp; rfl) | go_simp | rfl))
              | refine tku 5 rfl ?_
            refine wpAnyH_ready (rs := [6]) (by kernel_rfl) (by simp) ?_
            refine AllReadyH.cons rfl (fun K hK => ?_) AllReadyH.nil
            go_simp
            refine (HLP.out _ (by exact HB6.out)).mono ?_
            rintro e w7 ⟨rfl, b7, o7⟩
            have B7 := Lib.hid b7
            have O7 := Lib.hid (((HO.out.trans HO6.out).trans (OnlyS.drew _ _)).trans o7)
            have X7 := Lib.hid ((o7.oth _ HNX.out (lt_of_block (w := World.drew _) HX6.out)).trans HX6.out)
            clear b7 o7
            try go_simp
            refine hK.out _ _ X7.out (fun hHeld => ?_)
            clear hK K
            try simp only [List.getElem_toArray, List.getElem_cons_zero, List.getElem_cons_succ, Act.put, List.setIfInBounds_toArray, List.set_cons_zero, List.set_cons_succ, Array.toArray_toList]
            refine wpAnyH_done (by kernel_rfl) ?_ _
            clear hHeld KS
            go_wp2_with fail
            go_roundg g2
            case measure => have := HK.out; omega
            case rel => exact ⟨k + 1, ZS, by have := HK.out; omega, by go_num, B7, Lib.hid ⟨HZL.out, HG.out⟩, O7⟩
      | succ g2 =>
        have hk13 : k < 13 := by omega
        obtain ⟨fa, fn, fx, fy, hfk, hfw, hfa, hfx, hfy, hidx⟩ := HIX.out k hk13
        obtain ⟨r1, r2⟩ := fix_room _ (List.mem_of_getElem? hfk)
        simp only [] at r1 r2
        have HL1 : Hid (∀ wx, wx.heap[g]? = some (.cells (u8c ys) 5) → Calls Tryz.prog 12 #[.slice (some ⟨g, 0, none⟩) N N, .int .i64 (fa : Int), .int .i64 (fn : Int), .int .u64 (fx : Int)] wx fun e w' => e = .returned (.tuple #[]) ∧ w'.heap[g]? = some (.cells (u8c (putF ys fa fn fx)) 5) ∧ Only g wx w') := Lib.hid (fun wx h => HLY.out fa fn fx ys wx h r1 HY.out.1 r2 (by omega))
        have HY2 : Hid ((putF ys fa fn fx).length = N ∧ fixPut (putF ys fa fn fx) (fixedF.drop (k + 1)) = F1) := Lib.hid ⟨by rw [putF_len]; exact HY.out.1, by have := HY.out.2; rw [fix_step hfk, fixPut] at this; exact this⟩
        generalize putF ys fa fn fx = Y2 at HL1 HY2
        have HK := Lib.hid hk
        have i0 : (0 : Int) ≤ (k : Int) := by omega
        have i1 : (k : Int) < 13 := by omega
        have tk : decide ((k : Int) < 13) = true := decide_eq_true (by omega)
        obtain ⟨xb, hxb⟩ : ∃ xb, wr.heap.size = xb := ⟨_, rfl⟩
        obtain ⟨w6, hw6⟩ : ∃ w6, wr.alloc (.cells #[.int .i64 (fa : Int), .int .i64 (fn : Int), .int .u64 (fx : Int), .int .u64 (fy : Int)] 64) = w6 := ⟨_, rfl⟩
        have HO6 : Hid (OnlyS g wr w6) := Lib.hid (by rw [← hw6]; exact OnlyS.alloc _ _ _ (lt_of_block HB.out))
        have HX6 : Hid (w6.heap[xb]? = some (.cells #[.int .i64 (fa : Int), .int .i64 (fn : Int), .int .u64 (fx : Int), .int .u64 (fy : Int)] 64)) := Lib.hid (by rw [← hw6, ← hxb]; exact heap_alloc_new _ _)
        have HB6 : Hid (w6.heap[g]? = some (.cells (u8c ys) 5)) := Lib.hid (by rw [← hw6, heap_alloc_old _ _ (lt_of_block HB.out)]; exact HB.out)
        have x0 : w6.cell? ⟨xb, 0, none⟩ = some (.int .i64 (fa : Int)) := by rw [cell_of_row _ _ 0 _ _ _ HX6.out]; rfl
        have x1 : w6.cell? ⟨xb, 1, none⟩ = some (.int .i64 (fn : Int)) := by rw [cell_of_row _ _ 1 _ _ _ HX6.out]; rfl
        have x2 : w6.cell? ⟨xb, 2, none⟩ = some (.int .u64 (fx : Int)) := by rw [cell_of_row _ _ 2 _ _ _ HX6.out]; rfl
        clear hk hfk hfw hfa hfx hfy r1 r2 hk13
        go_wp2_with fail
        refine (HL1.out _ HB6.out).mono ?_
        rintro e7 w7 ⟨rfl, b7, o7⟩
        have B7 := Lib.hid b7
        have O7 := Lib.hid ((HO.out.trans HO6.out).trans o7.s)
        clear b7 o7 hidx x0 x1 x2 hw6 hxb
        go_wp2_with fail
        go_roundg g2
        case measure => have := HK.out; omega
        case rel => exact ⟨k + 1, _, by have := HK.out; omega, by go_num, B7, HY2, O7⟩
end Go.Proofs.YtnaejlfjlennhaaGreatDoor
