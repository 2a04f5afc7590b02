/- Layer 8: the symbols' words: the program's answer. -/
import Derived.Test.YtikpkblemegggaaVersDefsW
import Derived.Laws.MakeOwn
namespace Go.Proofs.Ytikpkblemegggaa
open Go.RowKit Go.Maps
set_option linter.unusedVariables false
set_option linter.unusedSimpArgs false

theorem wpList_make_zero {P : Program} {w : World} {ops : Array Oper} {rest : List Oper} {o : Oper} {a : Act} {Q : Exit → Act → World → Prop} (hgd : o.guard = none) (l c : Operand) {t e : TypeId} {k : IntKind} {bytes : Nat}
    (F : IntSlice P t e k bytes) (ho : o.op = Op.makeSlice t l c) (B : Nat) (n : Nat) (kl kc : IntKind) (L C : Int)
    (hl : a.eval l = .int kl L) (hc : a.eval c = .int kc C) (hL : L = (n : Int)) (hC : C = (n : Int)) (hn : n * bytes ≤ 140737488355328) (hm : n ≤ maxLen) (hb : B ≤ w.heap.size)
    (h : ∀ g w', OwnI w' B e k (.slice (some ⟨g, 0, none⟩) n n) (List.replicate n 0) → w.heap.size ≤ g → Below w.heap.size w w' → wpList P ops Q rest (a.put o.dst (.slice (some ⟨g, 0, none⟩) n n)) w') : wpList P ops Q (o :: rest) a w := by
  obtain ⟨ht, hinfo⟩ := F
  obtain ⟨i, hi, hz0, hz1, hz2⟩ := info_parts hinfo
  refine wpList_make_full w hgd l c t ho B e i (.int k 0) 1 ht hi hz0 hz1 kl kc L C n hl hc hL hC (by rw [hz2]; rw [Nat.mul_comm]; omega) hm hb ?_
  intro w' hown hgr
  refine h w.heap.size w' ?_ (Nat.le_refl _) ((Below.refl _ _).grown hgr (Nat.le_refl _) (fun k hk => by cases hk))
  unfold OwnI
  rw [List.length_replicate, List.map_replicate]
  have e1 : (madeCells (Value.int k 0).cells (n * 1)).toList = List.replicate n (.int k 0) := by
    rw [Nat.mul_one]
    exact toList_madeCells_one (.int k 0) n
  rw [e1] at hown
  exact hown

def rowsAt (words : List Nat) (n k : Nat) : List Nat := (List.range n).map fun i => if i < k then wordAt words i else 0
theorem rowsAt_length (words : List Nat) (n k : Nat) : (rowsAt words n k).length = n := by simp [rowsAt]
theorem rowsAt_zero (words : List Nat) (n : Nat) : rowsAt words n 0 = List.replicate n 0 := by
  apply List.ext_getElem (by simp [rowsAt])
  intro i h1 h2
  simp [rowsAt]
theorem rowsAt_set (words : List Nat) (n k : Nat) (hk : k < n) : (toI (rowsAt words n k)).set k ((wordAt words k : Nat) : Int) = toI (rowsAt words n (k + 1)) := by
  apply List.ext_getElem (by simp [toI, rowsAt])
  intro i h1 h2
  simp only [toI, rowsAt, List.map_map, List.getElem_set, List.getElem_map, List.getElem_range, Function.comp]
  by_cases h : k = i
  · subst h
    simp
  · rw [if_neg h]
    by_cases h3 : i < k
    · rw [if_pos h3, if_pos (by omega)]
    · rw [if_neg h3, if_neg (by omega)]
theorem rowsAt_full (words : List Nat) (n : Nat) : rowsAt words n n = (List.range n).map (wordAt words) := by
  apply List.ext_getElem (by simp [rowsAt])
  intro i h1 h2
  have : i < n := by simpa [rowsAt] using h1
  simp [rowsAt, this]
theorem ofF_yes {told words : List Nat} {n : Nat} (hn : words.length / 2 = n) (h : ∀ i, i < n → wordOk told (wordAt words i) = true) : ofF told words = ((List.range n).map (wordAt words), 0) := by
  unfold ofF
  rw [hn, if_pos (List.all_eq_true.2 (fun i hi => h i (List.mem_range.1 hi)))]
theorem ofF_no {told words : List Nat} {n i : Nat} (hn : words.length / 2 = n) (hi : i < n) (h : wordOk told (wordAt words i) = false) : ofF told words = ([], 3) := by
  unfold ofF
  rw [hn, if_neg]
  intro h2
  have := List.all_eq_true.1 h2 i (List.mem_range.2 hi)
  rw [h] at this
  cases this

def OfAns (r : RD) (told : List Nat) (X : List Nat × Nat) (w : World) (e : Ending) (w' : World) : Prop :=
  ∃ ad c, e = .returned (.tuple #[.slice ad X.1.length c, errV (X.2 : Int)]) ∧ OwnI w' w.heap.size 3 .i64 (.slice ad X.1.length c) (toI X.1) ∧ Below w.heap.size w w'
theorem sliceInt : IntSlice Try.prog 31 3 .i64 8 := ⟨Try.underlying31, by kernel_rfl⟩
theorem and_int (n : Nat) (h : n < 65536) : bits .and .i64 (n : Int) 32767 = ((n % 32768 : Nat) : Int) := by
  show IntKind.i64.wrap ((BitVec.ofInt 64 (n : Int) &&& BitVec.ofInt 64 ((32767 : Nat) : Int)).toNat : Int) = _
  have e : n &&& 32767 = n % 32768 := Nat.and_two_pow_sub_one_eq_mod n 15
  rw [BitVec.toNat_and, ofInt_u64 n (by omega), ofInt_u64 32767 (by omega), e, IntKind.wrap_i64]
  omega

set_option maxRecDepth 100000 in
set_option maxHeartbeats 8000000 in
theorem of_any (r : RD) (w : World) (told : List Nat) (wa : Option Addr) (wc : Nat) (words : List Nat) (n : Nat) (h : r.ok w) (hm : MapN w r.B told) (hw : BRow w wa words) (hl : words.length = 2 * n) (hn : n ≤ 4096) (hc : words.length ≤ wc) :
    Calls Try.prog 18 #[rdV r, .slice wa (2 * n) wc] w (OfAns r told (ofF told words) w) := by
  have HOK := Lib.hid (fun (w1 : World) (hb : Below w.heap.size w w1) => (h.below hb).c5)
  have HM := Lib.hid (fun (w1 : World) (hb : Below w.heap.size w w1) => (hm.below hb).1)
  have HMAP := Lib.hid hm
  have HW := Lib.hid hw
  have HL := Lib.hid hl
  have HY := Lib.hid (fun (hall : ∀ i, i < n → wordOk told (wordAt words i) = true) => ofF_yes (n := n) (by omega) hall)
  have HNO := Lib.hid (fun (i : Nat) (hi : i < n) (hno : wordOk told (wordAt words i) = false) => ofF_no (n := n) (by omega) hi hno)
  generalize ofF told words = X at *
  have hq : (((2 * n : Nat) : Int)).tdiv 2 = (n : Int) := by
    rw [Int.tdiv_eq_ediv_of_nonneg (by omega)]; omega
  rw [hl] at hc
  have hlc : ((2 * n : Nat) : Int) ≤ (wc : Int) := by omega
  clear h hm hw hl
  unfold rdV
  generalize r.R = R at *
  go_enter Try.func18, Try.ntmps18
  go_wp2_with (at_make; go_loud (refine wpList_make_zero rfl (.tmp 13) (.tmp 13) sliceInt rfl w.heap.size n .i64 .i64 (n : Int) (n : Int) rfl rfl rfl rfl (by omega) (by unfold maxLen; omega) (Nat.le_refl _) ?_); intro g w4 ho4 hg4 hb4; have O4 := Lib.hid ho4; have B4 := Lib.hid hb4; clear ho4 hg4 hb4)
  have OZ : Hid (OwnI w4 w.heap.size 3 .i64 (.slice (some ⟨g, 0, none⟩) n n) (toI (rowsAt words n 0))) := Lib.hid (by
    rw [rowsAt_zero]
    have e : toI (List.replicate n 0) = List.replicate n (0 : Int) := by simp [toI]
    rw [e]
    exact O4.out)
  clear O4
  have HGE : Hid (w.heap.size ≤ g) := Lib.hid (by
    have := OZ.out.blockGe
    exact this.1)
  go_loopg [4, 5, 7, 8, 9, 10, 17] n (fun gg x4 x5 x7 x8 x9 x10 cnt wr => ∃ k : Nat, k + gg = n ∧ cnt = .int .i64 (k : Int) ∧ x4 = .slice none 0 0 ∧ x5 = .nilIface ∧ Hid (OwnI wr w.heap.size 3 .i64 (.slice (some ⟨g, 0, none⟩) n n) (toI (rowsAt words n k))) ∧ Hid (Below w.heap.size w wr) ∧ Hid (∀ i, i < k → wordOk told (wordAt words i) = true))
  case atStart => exact ⟨0, by omega, rfl, rfl, rfl, OZ, B4, Lib.hid (fun i hi => absurd hi (by omega))⟩
  case round =>
    obtain ⟨k, hk, rfl, rfl, rfl, OW, BW, HOK2⟩ := hrel
    cases gk with
    | zero =>
      obtain rfl : k = n := by omega
      have HE : Hid (X = ((List.range k).map (wordAt words), 0)) := Lib.hid (HY.out HOK2.out)
      go_wp2_with fail
      go_ret2
      rw [HE.out]
      refine ⟨some ⟨g, 0, none⟩, k, by simp [errV], ?_, BW.out⟩
      have ho := OW.out
      rw [rowsAt_full] at ho
      simpa using ho
    | succ g1 =>
      have hkn : k < n := by omega
      have hkni : (k : Int) < (n : Int) := by omega
      obtain ⟨wb, wo, rfl, -, -⟩ := HW.out.at (i := 0) (by rw [HL.out]; omega)
      have HNUM : Hid (∀ w1, Below w.heap.size w w1 → ∀ q, Calls Try.prog 36 #[.slice (some ⟨wb, wo + 2 * k, none⟩) 2 q] w1 fun e w' => e = .returned (.int .u64 ((wordAt words k : Nat) : Int)) ∧ w1 = w') := Lib.hid (fun w1 hb q => by
        have h1 := (HW.out.below hb).cut (2 * k) 2
        simp only [Option.map_some, WideShapes.add_plain] at h1
        have e : ((words.drop (2 * k)).take 2).length = 2 := by rw [List.length_take, List.length_drop, HL.out]; omega
        have := number_any (some ⟨wb, wo + 2 * k, none⟩) q _ w1 h1 (by omega)
        rw [e] at this
        exact this)
      have hv : wordAt words k < 65536 := numOf_two words HW.out.2 (2 * k)
      have HSET : Hid (∀ wx, OwnI wx w.heap.size 3 .i64 (.slice (some ⟨g, 0, none⟩) n n) (toI (rowsAt words n k)) → OwnI (wx.setCell ⟨g, k, none⟩ (.int .i64 ((wordAt words k : Nat) : Int))) w.heap.size 3 .i64 (.slice (some ⟨g, 0, none⟩) n n) (toI (rowsAt words n (k + 1)))) := Lib.hid (fun wx hx => by
        have := hx.put (by rw [toI_length, rowsAt_length]) k ((wordAt words k : Nat) : Int)
        rw [rowsAt_set words n k hkn] at this
        exact this)
      have HWK : Hid (wordOk told (wordAt words k) = decide (wordAt words k % 32768 ≤ 1 ∨ wordAt words k % 32768 ∈ told)) := Lib.hid rfl
      have HNX : Hid (wordOk told (wordAt words k) = true → ∀ i, i < k + 1 → wordOk told (wordAt words i) = true) := Lib.hid (fun h i hi => by
        rcases Nat.lt_or_ge i k with h1 | h1
        · exact HOK2.out i h1
        · obtain rfl : i = k := by omega
          exact h)
      have hv64 : wrap64 ((wordAt words k : Nat) : Int) = ((wordAt words k : Nat) : Int) := IntWalk.wrap64_in _ ⟨by omega, by omega⟩
      have hand := and_int _ hv
      have hx : wordAt words k % 32768 < 32768 := by omega
      have HFIN := Lib.hid (HNO.out k hkn)
      generalize hve : wordAt words k = v at *
      generalize hxe : v % 32768 = x at *
      have hkey := keyL_of (x := x) (by omega)
      have HHAS := Lib.hid (has_setN told x)
      have hcc : ¬ wc = 2 * k := by omega
      have h2k : (2 : Int) * (k : Int) ≤ ((2 * n : Nat) : Int) := by omega
      have h2w : wrap64 (2 * (k : Int)) = 2 * (k : Int) := IntWalk.wrap64_in _ ⟨by omega, by omega⟩
      have how : wr.ownsRow w.heap.size 3 1 (.slice (some ⟨g, 0, none⟩) n n) n ((toI (rowsAt words n k)).map (Value.int .i64)) := by
        have := OW.out
        unfold OwnI at this
        rw [toI_length, rowsAt_length] at this
        exact this
      have cfk : wr.frozen? ⟨g, k, none⟩ = false := World.ownsRow.frozenAt how k
      have cck : ∃ u : Int, wr.cell? ⟨g, k, none⟩ = some (.int .i64 u) := by
        have := World.ownsRow.cellAt how k (by omega)
        rw [this]
        refine ⟨_, by simp [toI, rowsAt, hkn]; rfl⟩
      obtain ⟨u, hu⟩ := cck
      have OS := Lib.hid (HSET.out wr OW.out)
      have BS : Hid (Below w.heap.size w (wr.setCell ⟨g, k, none⟩ (.int .i64 (v : Int)))) := Lib.hid (BW.out.setCell HGE.out _)
      have c5 := HOK.out _ BS.out
      have HMS := Lib.hid (HM.out _ BS.out)
      have OS2 := Lib.hid (OwnI.allocO OS.out (.cells #[] 100))
      have BS2 := Lib.hid (BS.out.alloc BS.out.size (.cells #[] 100))
      have HN := Lib.hid (HNUM.out wr BW.out)
      clear how hve hxe HW HL
      by_cases hx1 : x ≤ 1
      · have hx1i : ¬ (1 : Int) < (x : Int) := by omega
        have HT : Hid (wordOk told v = true) := Lib.hid (by rw [HWK.out]; exact decide_eq_true (.inl hx1))
        clear hx1
        go_wp2_with (first | (go_at_call 36; refine (HN.out _).mono ?_; rintro e w' ⟨rfl, rfl⟩) | (at_lookup; refine wpList_lookup_own_unit _ rfl _ _ 64 rfl 3 100 lawInt Try.underlying64 (zeroUnit _) r.B told.length (setN told) rfl HMS.out _ _ rfl hkey ?_; rw [HHAS.out]))
        go_roundg g1
        case measure => omega
        case rel => exact ⟨k + 1, by omega, by go_num, rfl, rfl, OS2, BS2, Lib.hid (HNX.out HT.out)⟩
      · have hx1i : (1 : Int) < (x : Int) := by omega
        by_cases hin : x ∈ told
        · have hd : decide (x ∈ told) = true := decide_eq_true hin
          have HT : Hid (wordOk told v = true) := Lib.hid (by rw [HWK.out]; exact decide_eq_true (.inr hin))
          rw [hd] at HHAS
          clear hx1 hin hd
          go_wp2_with (first | (go_at_call 36; refine (HN.out _).mono ?_; rintro e w' ⟨rfl, rfl⟩) | (at_lookup; refine wpList_lookup_own_unit _ rfl _ _ 64 rfl 3 100 lawInt Try.underlying64 (zeroUnit _) r.B told.length (setN told) rfl HMS.out _ _ rfl hkey ?_; rw [HHAS.out]))
          go_roundg g1
          case measure => omega
          case rel => exact ⟨k + 1, by omega, by go_num, rfl, rfl, OS2, BS2, Lib.hid (HNX.out HT.out)⟩
        · have hd : decide (x ∈ told) = false := decide_eq_false hin
          have HT : Hid (wordOk told v = false) := Lib.hid (by rw [HWK.out]; exact decide_eq_false (fun h => h.elim hx1 hin))
          have HE := Lib.hid (HFIN.out HT.out)
          rw [hd] at HHAS
          clear hx1 hin hd
          go_wp2_with (first | (go_at_call 36; refine (HN.out _).mono ?_; rintro e w' ⟨rfl, rfl⟩) | (at_lookup; refine wpList_lookup_own_unit _ rfl _ _ 64 rfl 3 100 lawInt Try.underlying64 (zeroUnit _) r.B told.length (setN told) rfl HMS.out _ _ rfl hkey ?_; rw [HHAS.out]))
          go_ret2
          rw [HE.out]
          exact ⟨none, 0, rfl, OwnI.nil _ _ _ _, BS2.out⟩
end Go.Proofs.Ytikpkblemegggaa
