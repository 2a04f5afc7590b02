/- Layer 14, the document's answer: a path's directory, a byte that goes on with a name, a text's beginning. -/
import Derived.Test.YtppeapafnnanbaaDoorExpand
import Derived.Test.YtppeapafnnanbaaDoorKit1
import Derived.Test.YtppeapafnnanbaaDoorCut
namespace Go.Proofs.YtppeapafnnanbaaDoor
open Go.RowKit
set_option linter.unusedVariables false
set_option linter.unusedSimpArgs false

theorem goes_any (c : UInt8) (w : World) : Calls Tryd.prog 41 #[.int .u8 (c.toNat : Int)] w fun e w' => e = .returned (.bool (isW c)) ∧ w = w' := by
  obtain ⟨R, hR⟩ : ∃ R, isW c = R := ⟨_, rfl⟩
  have HR : Hid ((c.toNat == 95 || (decide (48 ≤ c.toNat) && decide (c.toNat ≤ 57)) || (decide (65 ≤ c.toNat) && decide (c.toNat ≤ 90)) || (decide (97 ≤ c.toNat) && decide (c.toNat ≤ 122))) = R) := Lib.hid (by
    rw [← hR]
    unfold isW
    have e1 : (c == 95) = (c.toNat == 95) := by rw [Bool.eq_iff_iff, beq_iff_eq, beq_iff_eq, ← UInt8.toNat_inj]; rfl
    have e2 : ∀ (x : UInt8), decide (x ≤ c) = decide (x.toNat ≤ c.toNat) := fun x => by rw [Bool.eq_iff_iff, decide_eq_true_eq, decide_eq_true_eq, UInt8.le_iff_toNat_le]
    have e3 : ∀ (x : UInt8), decide (c ≤ x) = decide (c.toNat ≤ x.toNat) := fun x => by rw [Bool.eq_iff_iff, decide_eq_true_eq, decide_eq_true_eq, UInt8.le_iff_toNat_le]
    rw [e1, e2, e2, e2, e3, e3, e3]
    rfl)
  rw [hR]
  have hc : c.toNat < 256 := UInt8.toNat_lt c
  clear hR
  generalize c.toNat = x at *
  go_enter Tryd.func41, Tryd.ntmps41
  go_wp2
  all_goals
    go_ret
    refine ⟨?_, rfl⟩
    rw [← HR.out]
    refine congrArg (fun b => Ending.returned (.bool b)) ?_
    rw [Bool.eq_iff_iff]
    simp only [Bool.or_eq_true, Bool.and_eq_true, beq_iff_eq, decide_eq_true_eq]
    try simp
    try omega

theorem begins_any (s t : ByteArray) (w : World) (hs : s.size ≤ 140737488355328) (ht : t.size ≤ 140737488355328) :
    Calls Tryd.prog 40 #[.string s, .string t] w fun e w' => e = .returned (.bool (Lib.hasPrefix s.data.toList t.data.toList)) ∧ w = w' := by
  obtain ⟨R, hR⟩ : ∃ R, Lib.hasPrefix s.data.toList t.data.toList = R := ⟨_, rfl⟩
  rw [hR]
  rcases Nat.lt_or_ge s.size t.size with hlt | hge
  · have HR : Hid (R = false) := Lib.hid (by
      rw [← hR]
      cases h : Lib.hasPrefix s.data.toList t.data.toList with
      | false => rfl
      | true =>
        have h1 : t.data.toList.length ≤ s.data.toList.length := Lib.hasPrefix_le h
        have e1 : t.data.toList.length = t.size := by simp
        have e2 : s.data.toList.length = s.size := by simp
        omega)
    have hd : decide ((t.size : Int) ≤ (s.size : Int)) = false := decide_eq_false (by omega)
    have hd2 : ¬ (t.size : Int) ≤ (s.size : Int) := by omega
    clear hR
    go_enter Tryd.func40, Tryd.ntmps40
    go_wp2
    go_ret
    rw [HR.out]
    exact ⟨rfl, rfl⟩
  · have HR : Hid (((s.extract 0 t.size).toList == t.toList) = R) := Lib.hid (by
      rw [← hR, ← Lib.hasPrefix_raw, decide_eq_true hge, Bool.true_and])
    have hd2 : (t.size : Int) ≤ (s.size : Int) := by omega
    clear hR
    go_enter Tryd.func40, Tryd.ntmps40
    go_wp2
    go_ret
    rw [← HR.out]
    exact ⟨rfl, rfl⟩

theorem slash_first (s : ByteArray) (h1 : Lib.lastIndexByte s 47 = ((0 : Nat) : Int)) : s.data.toList.take 1 = [47] := by
  rcases Lib.lastIndexByte_spec s 47 with ⟨h2, -⟩ | ⟨j, hj, h2, h3, -⟩
  · rw [h1] at h2; exact absurd h2 (by decide)
  · have h0 : j = 0 := by rw [h1] at h2; omega
    subst h0
    obtain ⟨⟨l⟩⟩ := s
    cases l with
    | nil => exact absurd hj (by decide)
    | cons c l =>
      have h4 : (c.toNat : Int) = 47 := h3
      have h5 : c = 47 := UInt8.toNat_inj.1 (by show c.toNat = 47; omega)
      rw [h5]; rfl
set_option maxHeartbeats 2000000 in
theorem refDir_any (s : ByteArray) (w : World) (hs : s.size ≤ 140737488355328) :
    Calls Tryd.prog 39 #[.string s] w fun e w' => e = .returned (.string ⟨(dirF s).toArray⟩) ∧ w = w' := by
  obtain ⟨R, hR⟩ : ∃ R, dirF s = R := ⟨_, rfl⟩
  have HR := Lib.hid hR
  rw [hR]
  clear hR
  go_enter Tryd.func39, Tryd.ntmps39
  go_wp2
  go_loopg [3, 4] s.size (fun g at' i wr => ∃ k : Nat, ∃ p : Int, k + g = s.size ∧ i = .int .i64 (k : Int) ∧ at' = .int .i64 p ∧ Hid (Lib.lastIdx s 47 k = p) ∧ w = wr)
  case atStart => exact ⟨0, -1, by omega, rfl, rfl, Lib.hid rfl, rfl⟩
  case round =>
    obtain ⟨k, p, hk, rfl, rfl, HP, rfl⟩ := hrel
    cases gk with
    | zero =>
      have hke : k = s.size := by omega
      subst hke
      clear hk
      have hlast : lastF s = p := HP.out
      rcases Lib.lastIndexByte_spec s 47 with ⟨h1, -⟩ | ⟨i, hi, h1, -, -⟩
      · have hp : p = -1 := by rw [← hlast]; exact h1
        subst hp
        have HE : Hid (R = []) := Lib.hid (by rw [← HR.out]; unfold dirF; rw [hlast]; rfl)
        clear hlast h1 HP HR
        go_wp2
        go_ret
        rw [HE.out]
        exact ⟨rfl, rfl⟩
      · have hp : p = (i : Int) := by rw [← hlast]; exact h1
        subst hp
        cases i with
        | zero =>
          have HE : Hid (R = [47]) := Lib.hid (by
            rw [← HR.out]; unfold dirF; rw [hlast, if_neg (by decide)]
            exact slash_first s h1)
          clear hlast h1 HP HR
          go_wp2
          go_ret
          rw [HE.out]
          exact ⟨rfl, rfl⟩
        | succ i =>
          have HE : Hid (R = s.data.toList.take (i + 1)) := Lib.hid (by
            rw [← HR.out]; unfold dirF; rw [hlast, if_neg (by omega)]
            have : ((↑(i + 1) : Int)).toNat = i + 1 := by omega
            rw [this]
            have : Nat.max (i + 1) 1 = i + 1 := by show max (i + 1) 1 = i + 1; omega
            rw [this])
          clear hlast h1 HP HR
          have hne : ((((i + 1 : Nat) : Int)) == -1) = false := beq_eq_false_iff_ne.2 (by omega)
          have hne0 : ((((i + 1 : Nat) : Int)) == 0) = false := beq_eq_false_iff_ne.2 (by omega)
          have hm0 : (0 : Int) ≤ ((i + 1 : Nat) : Int) := by omega
          have hm3 : ((i + 1 : Nat) : Int) ≤ (s.size : Int) := by omega
          generalize i + 1 = m at *
          go_wp2
          go_ret
          rw [HE.out, ← extract_take]
          exact ⟨rfl, rfl⟩
    | succ g =>
      have hlt : k < s.size := by omega
      have hb : s.data[k]! = s[k] := by
        rw [getElem!_pos s.data k hlt]
        rfl
      by_cases h47 : (s[k].toNat : Int) = 47
      · have HN : Hid (Lib.lastIdx s 47 (k + 1) = (k : Int)) := Lib.hid (Lib.lastIdx_hit s 47 k (by rw [hb]; exact h47))
        have ht : ((s[k].toNat : Int) == 47) = true := beq_iff_eq.2 h47
        clear hb
        go_wp2_with fail
        go_roundg g
        case measure => omega
        case rel => exact ⟨k + 1, _, by omega, by go_num, rfl, HN, rfl⟩
      · have HN : Hid (Lib.lastIdx s 47 (k + 1) = p) := Lib.hid ((Lib.lastIdx_miss s 47 k (by rw [hb]; exact h47)).trans HP.out)
        have ht : ((s[k].toNat : Int) == 47) = false := beq_eq_false_iff_ne.2 h47
        clear hb
        go_wp2_with fail
        go_roundg g
        case measure => omega
        case rel => exact ⟨k + 1, _, by omega, by go_num, rfl, HN, rfl⟩
end Go.Proofs.YtppeapafnnanbaaDoor
/- Layer 14, the document's answer: what a text's tokens are, said of the place at which they stand. -/
namespace Go.Proofs.YtppeapafnnanbaaDoor
open Go.RowKit
set_option linter.unusedVariables false
set_option linter.unusedSimpArgs false

theorem own_ne {w : World} {B : Nat} {e : TypeId} {size : Nat} {v : Value} {n : Nat} {xs : List Value} (h : w.ownsRow B e size v n xs) {b : Nat} {cs : Array Value} {T : TypeId} (hb : w.heap[b]? = some (.cells cs T)) (hT : T ≠ e) : v.ownBlock ≠ some b := fun e0 => by
  rcases h.2 with ⟨h1, h2⟩ | ⟨g', c', cur, hv, -, hg', -⟩
  · rw [h1] at e0; simp [Value.ownBlock] at e0
  · rw [hv] at e0
    simp only [Value.ownBlock, Option.some.injEq] at e0
    subst e0
    rw [hb] at hg'
    simp only [Option.some.injEq, Obj.cells.injEq] at hg'
    exact hT hg'.2.1
/-- string(out), a slice of the call's own -/
theorem conv_own (w : World) (B n c : Nat) (ad : Option Addr) (l : List UInt8) (hn : l.length = n) (h : w.ownsRow B 5 1 (.slice ad n c) n (Lib.byteCells l)) : (convert 31 9 (.slice ad n c)).run Tryd.prog w = .ok (.string ⟨l.toArray⟩) w := by
  subst hn
  rcases h.2 with ⟨h1, h2⟩ | ⟨g, c', cur, hv, -, -⟩
  · simp only [Value.slice.injEq] at h1
    obtain ⟨rfl, h0, rfl⟩ := h1
    have h3 : l = [] := List.length_eq_zero_iff.1 h0
    subst h3
    exact run_convert_bytes_nil (P := Tryd.prog) w 31 5 Tryd.underlying31 Tryd.underlying5 _ _ 9 Tryd.underlying9
  · simp only [Value.slice.injEq] at hv
    obtain ⟨rfl, -, rfl⟩ := hv
    refine run_convert_bytes_back (P := Tryd.prog) w 31 9 5 _ _ l Tryd.underlying31 Tryd.underlying5 Tryd.underlying9 (fun j hj => ?_)
    have h4 := h.cellAt j (by omega)
    rw [WideShapes.add_plain]
    simp only [Nat.zero_add]
    rw [h4]
    simp [Lib.byteCells, hj]

theorem drop_head (s : ByteArray) (i : Nat) (hi : i < s.size) : s.data.toList.drop i = s[i] :: s.data.toList.drop (i + 1) := by
  rw [List.drop_eq_getElem_cons (by simpa using hi)]
  rfl
theorem hitB_rest (s : ByteArray) (i k : Nat) (n : ByteArray) (hi : i < s.size) (h36 : s[i] = 36) (hn : n.data.toList = nameF k) :
    Lib.hasPrefix (s.extract (i + 1) s.size).data.toList (({ data := #[123] } : ByteArray) ++ n ++ { data := #[125] }).data.toList = hitB k (s.data.toList.drop i) := by
  have e : (({ data := #[123] } : ByteArray) ++ n ++ { data := #[125] }).data.toList = [123] ++ nameF k ++ [125] := by
    rw [ByteArray.data_append, ByteArray.data_append, Array.toList_append, Array.toList_append, hn]
  rw [e, extract_drop, drop_head s i hi, h36]
  unfold hitB bracedF Lib.hasPrefix
  simp [List.isPrefixOf]
theorem hitP_rest (s : ByteArray) (i k : Nat) (n : ByteArray) (hn : n.data.toList = nameF k) :
    Lib.hasPrefix (s.extract (i + 1) s.size).data.toList n.data.toList = Lib.hasPrefix ((s.data.toList.drop i).drop 1) (nameF k) := by
  rw [hn, extract_drop, List.drop_drop]
theorem endsF_none (r : ByteArray) (m : Nat) (h : r.size = m) : endsF (r.data.toList.drop m) = true := by
  rw [List.drop_of_length_le (by have : r.data.toList.length = r.size := by simp
                                 omega)]
  rfl
theorem endsF_some (r : ByteArray) (m : Nat) (h : m < r.size) : endsF (r.data.toList.drop m) = !isW r[m] := by
  rw [drop_head r m h]
  rfl
/-- where the search for a token stands: nothing yet; or it is found -/
def Scan (l : List UInt8) (R : Nat × Nat) (g k sz wh : Nat) : Prop :=
  (k + g = 3 ∧ sz = 0 ∧ wh = 0 ∧ tokGo l g (k + 1) = R) ∨ (g = 0 ∧ k ≤ 3 ∧ R = (wh + 1, sz) ∧ 0 < sz ∧ wh < 3)
end Go.Proofs.YtppeapafnnanbaaDoor
/- Layer 14, the document's answer: a text with its tokens put in. -/
namespace Go.Proofs.YtppeapafnnanbaaDoor
open Go.RowKit
set_option linter.unusedVariables false
set_option linter.unusedSimpArgs false

def namesC : Array Value := #[.string { data := #[79, 82, 73, 71, 73, 78] }, .string { data := #[76, 73, 66] }, .string { data := #[80, 76, 65, 84, 70, 79, 82, 77] }]
def textsC (dir : List UInt8) : Array Value := #[.string ⟨dir.toArray⟩, .string { data := #[108, 105, 98, 54, 52] }, .string { data := #[120, 56, 54, 95, 54, 52] }]
/-- the two tables, and the text so far -/
def RExp (B : World) (nb tb : Nat) (dir : List UInt8) (v : Value) (out : List UInt8) (w : World) : Prop :=
  w.ownsRow B.heap.size 5 1 v out.length (Lib.byteCells out) ∧ w.heap[nb]? = some (.cells namesC 9) ∧ w.heap[tb]? = some (.cells (textsC dir) 9) ∧ Below B.heap.size B w
theorem names_at (k : Nat) (hk : k < 3) : ∃ n : ByteArray, namesC[k]? = some (.string n) ∧ n.data.toList = nameF (k + 1) ∧ n.size ≤ 8 := by
  rcases (show k = 0 ∨ k = 1 ∨ k = 2 by omega) with rfl | rfl | rfl
  · exact ⟨_, rfl, rfl, by decide⟩
  · exact ⟨_, rfl, rfl, by decide⟩
  · exact ⟨_, rfl, rfl, by decide⟩
theorem texts_at (dir l : List UInt8) (k : Nat) (hk : k < 3) : ∃ n : ByteArray, (textsC dir)[k]? = some (.string n) ∧ n.data.toList = textF dir l (k + 1) := by
  rcases (show k = 0 ∨ k = 1 ∨ k = 2 by omega) with rfl | rfl | rfl
  · exact ⟨_, rfl, rfl⟩
  · exact ⟨_, rfl, rfl⟩
  · exact ⟨_, rfl, rfl⟩

theorem bytes_both (l : List UInt8) (s : ByteArray) : Lib.byteCells (l ++ s.data.toList) = Lib.byteCells l ++ Lib.strCells s := by simp [Lib.byteCells, Lib.strCells]
theorem drop_end (s : ByteArray) : s.data.toList.drop s.size = [] := by
  have h : s.data.toList.length = s.size := by simp
  exact List.drop_of_length_le (by omega)
theorem own_slice {w : World} {B : Nat} {e : TypeId} {size : Nat} {v : Value} {n : Nat} {xs : List Value} (h : w.ownsRow B e size v n xs) : ∃ ad c, v = .slice ad n c := by
  rcases h.2 with ⟨rfl, h0⟩ | ⟨g, cap, cur, rfl, -⟩
  · subst h0; exact ⟨none, 0, rfl⟩
  · exact ⟨_, _, rfl⟩
theorem RExp.alloc {B w : World} {nb tb : Nat} {dir : List UInt8} {v : Value} {out : List UInt8} (h : RExp B nb tb dir v out w) (o : Obj) : RExp B nb tb dir v out (w.alloc o) := by
  obtain ⟨h1, h2, h3, h4⟩ := h
  exact ⟨h1.alloc _, (heap_alloc_old _ _ (lt_of_block h2)).trans h2, (heap_alloc_old _ _ (lt_of_block h3)).trans h3, h4.alloc h4.size _⟩
theorem RExp.grown {B w w2 : World} {nb tb : Nat} {dir : List UInt8} {v v' : Value} {out out' : List UInt8} (h : RExp B nb tb dir v out w) (hg : w.grownBy w2 v.ownBlock) (ho : w2.ownsRow B.heap.size 5 1 v' out'.length (Lib.byteCells out')) : RExp B nb tb dir v' out' w2 := by
  obtain ⟨h1, h2, h3, h4⟩ := h
  exact ⟨ho, (hg.block nb (lt_of_block h2) (fun e => own_ne h1 h2 (by decide) e.symm)).trans h2, (hg.block tb (lt_of_block h3) (fun e => own_ne h1 h3 (by decide) e.symm)).trans h3, h4.grown hg h4.size (fun k hk => (h1.lt k hk).1)⟩

set_option maxRecDepth 100000 in
set_option maxHeartbeats 8000000 in
theorem refExpand_any (s origin : ByteArray) (w : World) (hs : s.size ≤ 140737488355328) (ho : origin.size ≤ 140737488355328) (hR : (expF s origin).1.length ≤ 140737488355328) :
    Calls Tryd.prog 16 #[.string s, .string origin] w (ExpAns (expF s origin) w) := by
  have HD := Lib.hid (fun (w1 : World) => refDir_any origin w1 ho)
  obtain ⟨dir, hdir⟩ : ∃ dir, dirF origin = dir := ⟨_, rfl⟩
  obtain ⟨R, hRe⟩ : ∃ R, expF s origin = R := ⟨_, rfl⟩
  have HE : Hid (expGo dir s.size s.data.toList [] false = R) := Lib.hid (by rw [← hRe, ← hdir]; rfl)
  rw [hdir] at HD
  rw [hRe] at hR ⊢
  have HRL := Lib.hid hR
  have HS := Lib.hid hs
  have HX0 : Hid (RExp w w.heap.size (w.heap.size + 1) dir (.slice none 0 0) [] ((w.alloc (.cells namesC 9)).alloc (.cells (textsC dir) 9))) := Lib.hid ⟨⟨rfl, .inl ⟨rfl, rfl⟩⟩, by
      rw [heap_alloc_old _ _ (by simp)]; exact heap_alloc_new _ _, by
      have := heap_alloc_new (w.alloc (.cells namesC 9)) (.cells (textsC dir) 9)
      simpa using this, ((Below.refl _ _).alloc (Nat.le_refl _) _).alloc (by simp) _⟩
  unfold namesC textsC at HX0
  clear hdir hRe hR hs
  obtain ⟨hti, hinfo⟩ := slice8s
  obtain ⟨it, hit, hz0, hz1, hz2⟩ := info_parts hinfo
  have HTI := Lib.hid hti; have HII := Lib.hid hit; have HZ0 := Lib.hid hz0; have HZ1 := Lib.hid hz1; have HZ2 := Lib.hid hz2
  clear hti hinfo hit hz0 hz1 hz2
  go_enter Tryd.func16, Tryd.ntmps16
  go_wp2_with fail
  refine (HD.out _).mono ?_
  rintro e w' ⟨rfl, rfl⟩
  go_wp2_with fail
  go_loopg [6, 7, 10] s.size (fun g ov hv iv wr => ∃ (i : Nat) (told : Bool) (out : List UInt8) (ad : Option Addr) (c : Nat), s.size - i ≤ g ∧ i ≤ s.size ∧ ov = .slice ad out.length c ∧ hv = .bool told ∧ iv = .int .i64 (i : Int) ∧ Hid (expGo dir g (s.data.toList.drop i) out told = R) ∧ Hid (RExp w w.heap.size (w.heap.size + 1) dir (.slice ad out.length c) out wr))
  case atStart => exact ⟨0, false, [], none, 0, by omega, by omega, rfl, rfl, rfl, HE, HX0⟩
  case round =>
    obtain ⟨i, told, out, ad, c, hg, hi, rfl, rfl, rfl, HG, HX⟩ := hrel
    clear HX0 HE
    by_cases h0 : i = s.size
    · have hnil : s.data.toList.drop i = [] := by rw [h0]; exact drop_end s
      have HEQ : Hid (R = (out, told)) := Lib.hid (by rw [← HG.out, hnil, expGo_nil])
      have HB := Lib.hid HX.out.2.2.2
      have hcv := conv_own wr w.heap.size out.length c ad out rfl HX.out.1
      have h0i : ¬ (i : Int) < (s.size : Int) := by omega
      clear hnil h0 hi hg
      go_wp2_with fail
      go_ret2
      rw [HEQ.out]
      exact ⟨rfl, HB.out⟩
    · have h0i : (i : Int) < (s.size : Int) := by omega
      have hlt : i < s.size := by omega
      obtain ⟨g, rfl⟩ : ∃ g, gk = g + 1 := ⟨gk - 1, by omega⟩
      have hhd := drop_head s i hlt
      have hne : s.data.toList.drop i ≠ [] := by rw [hhd]; simp
      have hst := expGo_step (dir := dir) (f := g) (out := out) (told := told) hne
      have hsz := tokF_size hne
      have hll : (s.data.toList.drop i).length = s.size - i := by simp
      have hwh := tokF_which (s.data.toList.drop i)
      have h36t : (s[i].toNat : Int) = 36 → s[i] = 36 := fun h => UInt8.toNat_inj.1 (by show s[i].toNat = 36; omega)
      have htok : s[i] = 36 → tokGo (s.data.toList.drop i) 3 1 = tokF (s.data.toList.drop i) := fun h => by unfold tokF; rw [hhd, h]; rfl
      have htok0 : ¬ s[i] = 36 → tokF (s.data.toList.drop i) = (0, 1) := fun h => by rw [hhd]; exact tokF_plain h
      have hgr := fun (k n : Nat) => expGo_grows dir g ((s.data.toList.drop i).drop n) (out ++ textF dir (s.data.toList.drop i) k) (told || k == 1)
      have HHB := Lib.hid (fun (k : Nat) (n : ByteArray) (h : s[i] = 36) (hn : n.data.toList = nameF k) => hitB_rest s i k n hlt h hn)
      have HHP := Lib.hid (fun (k : Nat) (n : ByteArray) (hn : n.data.toList = nameF k) => hitP_rest s i k n hn)
      have H1 : Hid ((s.data.toList.drop i).take 1 = [s[i]]) := Lib.hid (by rw [hhd]; rfl)
      have HDR : Hid (∀ n, (s.data.toList.drop i).drop n = s.data.toList.drop (i + n)) := Lib.hid (fun n => by rw [List.drop_drop])
      obtain ⟨l, hl⟩ : ∃ l, s.data.toList.drop i = l := ⟨_, rfl⟩
      have HLD : Hid (l = s.data.toList.drop i) := Lib.hid hl.symm
      rw [hl] at hst hsz hll hwh htok htok0 hgr HHB HHP H1 HDR HG
      obtain ⟨K, hK⟩ : ∃ K, tokF l = K := ⟨_, rfl⟩
      rw [hK] at hst hsz hwh htok htok0
      rw [HG.out] at hst
      have HST := Lib.hid hst; have HSZ := Lib.hid hsz; have HLL := Lib.hid hll; have HWH := Lib.hid hwh; have H36 := Lib.hid h36t; have HT := Lib.hid htok; have HT0 := Lib.hid htok0; have HGR := Lib.hid hgr
      obtain ⟨hown, hnb, htb, hB⟩ := HX.out
      have HOWN := Lib.hid hown; have HNB := Lib.hid hnb; have HTB := Lib.hid htb; have BW := Lib.hid hB
      clear hst hsz hll hwh h36t htok htok0 hgr hhd hne hown hnb htb hB HG hl hK h0 hi
      have HS0 : Hid (s[i] = 36 → Scan l K 3 0 0 0) := Lib.hid (fun h => .inl ⟨rfl, rfl, rfl, HT.out h⟩)
      go_wp2_with fail
      go_loopg [11, 12, 13] 3 (fun g2 zv hv kv wq => ∃ (k sz wh : Nat), zv = .int .i64 (sz : Int) ∧ hv = .int .i64 (wh : Int) ∧ kv = .int .i64 (k : Int) ∧ Hid ((s[i] = 36 → Scan l K g2 k sz wh) ∧ (¬ s[i] = 36 → k = 0 ∧ sz = 0 ∧ wh = 0)) ∧ wr = wq)
      case atStart => exact ⟨0, 0, 0, rfl, rfl, rfl, Lib.hid ⟨HS0.out, fun _ => ⟨rfl, rfl, rfl⟩⟩, rfl⟩
      case round =>
        obtain ⟨k, sz, wh, rfl, rfl, rfl, HSC, rfl⟩ := hrel
        by_cases h36 : s[i] = 36
        · rcases HSC.out.1 h36 with ⟨hk, rfl, rfl, htk⟩ | ⟨rfl, hk, hKe, hsz0, hwh3⟩
          · cases gk with
            | zero =>
              have hk3 : k = 3 := by omega
              subst hk3
              have hk0 : ¬ ((3 : Nat) : Int) < 3 := by omega
              have HKE : Hid (K = (0, 1)) := Lib.hid htk.symm
              clear htk hk h36
              · have HNX : Hid (expGo dir g (s.data.toList.drop (i + 1)) (out ++ [s[i]]) told = R) := Lib.hid (by
                  have h1 := HST.out
                  rw [HKE.out] at h1
                  simp only at h1
                  rw [HDR.out, show textF dir l 0 = [s[i]] from H1.out, show (told || (0 : Nat) == 1) = told from by cases told <;> rfl] at h1
                  exact h1.symm)
                have hl1 : out.length + 1 ≤ 140737488355328 := by
                  have h1 := expGo_grows dir g (s.data.toList.drop (i + 1)) (out ++ [s[i]]) told
                  rw [HNX.out, List.length_append] at h1
                  have h2 := HRL.out
                  have h3 : [s[i]].length = 1 := rfl
                  omega
                have HL1 := Lib.hid hl1
                have HLT := Lib.hid hlt
                have hwi : wrap64 ((i : Int) + 1) = ((i + 1 : Nat) : Int) := IntWalk.wrap64_in _ ⟨by omega, by have := HS.out; omega⟩
                clear hl1
                go_wp2_with (at_builtin; refine wpList_append_own _ rfl _ _ 31 rfl w.heap.size 5 it (.int .u8 0) 1 1 HTI.out HII.out HZ0.out HZ1.out HZ2.out rfl (by decide) _ out.length (Lib.byteCells out) rfl (HOWN.out.alloc _) ⟨wr.heap.size, 0, none⟩ 1 1 [.int .u8 (s[i].toNat : Int)] rfl rfl (cell_one_at wr _ _) (by intro u hu; simp only [List.mem_cons, List.not_mem_nil, or_false] at hu; subst hu; rfl) (by have := HL1.out; unfold maxLen; omega) (by have := HL1.out; omega) (by have := BW.out.size; simp; omega) ?_)
                intro v' w2 hown' hgrow _
                obtain ⟨ad2, c2, rfl⟩ := own_slice hown'
                have HX2 : Hid (RExp w w.heap.size (w.heap.size + 1) dir (.slice ad2 (out.length + 1) c2) (out ++ [s[i]]) w2) := Lib.hid ((HX.out.alloc _).grown hgrow (by rw [byteCells_snoc, List.length_append]; exact hown'))
                have HGG := Lib.hid hg
                clear hown' hgrow hg
                go_wp2_with fail
                go_roundg g
                case measure => omega
                case rel => exact ⟨i + 1, told, out ++ [s[i]], ad2, c2, by have := HGG.out; omega, by have := HLT.out; omega, by rw [List.length_append]; rfl, rfl, by go_num, HNX, by rw [List.length_append]; exact HX2⟩
            | succ g2 =>
              have hk3 : k < 3 := by omega
              obtain ⟨n, hn1, hn2, hn3⟩ := names_at k hk3
              have hcn : wr.cell? ⟨w.heap.size, k, none⟩ = some (.string n) := (cell_of_row _ _ _ _ _ _ HNB.out).trans hn1
              have hrs : (s.extract (i + 1) s.size).size = s.size - (i + 1) := by simp [ByteArray.size_extract]
              obtain ⟨i1, hi1e⟩ : ∃ i1, i + 1 = i1 := ⟨_, rfl⟩
              have HBR := Lib.hid (begins_any (s.extract (i + 1) s.size) (({ data := #[123] } : ByteArray) ++ n ++ { data := #[125] }) wr (by have := HS.out; omega) (by rw [ByteArray.size_append, ByteArray.size_append]; show 1 + n.size + 1 ≤ _; omega))
              have HPL := Lib.hid (begins_any (s.extract (i + 1) s.size) n wr (by have := HS.out; omega) (by omega))
              rw [HHB.out (k + 1) n h36 hn2] at HBR
              rw [HHP.out (k + 1) n hn2] at HPL
              have ht36 : ((s[i].toNat : Int) == 36) = true := by rw [h36]; rfl
              have hi1 : (i1 : Int) ≤ (s.size : Int) := by omega
              have hi0 : (0 : Int) ≤ (i1 : Int) := by omega
              have hc1 : ¬ 9223372036854775807 < 1 + n.size := by omega
              have hc2 : ¬ 9223372036854775807 < 1 + n.size + 1 := by omega
              have hwr : wrap64 ((i : Int) + 1) = (i1 : Int) := by
                have := HS.out
                rw [show (i : Int) + 1 = (i1 : Int) from by omega]
                exact IntWalk.wrap64_in _ ⟨by omega, by omega⟩
              have HWR := Lib.hid hwr
              have H1E := Lib.hid hi1e
              rw [hi1e] at HBR HPL hrs
              obtain ⟨r, hr⟩ : ∃ r, s.extract i1 s.size = r := ⟨_, rfl⟩
              rw [hr] at HBR HPL hrs
              have hrl : l.drop 1 = r.data.toList := by
                have h1 := HLD.out
                rw [h1, ← hr, extract_drop, ← hi1e, List.drop_drop]
              have HRS := Lib.hid hrs
              have HRL2 := Lib.hid hrl
              have hlen : (nameF (k + 1)).length = n.size := by rw [← hn2]; simp
              have HLEN := Lib.hid hlen
              have hblen : (bracedF (k + 1)).length = n.size + 3 := by unfold bracedF; simp [hlen]
              have hpe : hitP (k + 1) l = (Lib.hasPrefix (l.drop 1) (nameF (k + 1)) && endsF (r.data.toList.drop n.size)) := by unfold hitP; rw [hlen, hrl]
              have hk0 : (k : Int) < 3 := by omega
              rw [tokGo, hpe, hblen, hlen] at htk
              have HTK := Lib.hid htk
              have HK := Lib.hid hk
              have HN2 := Lib.hid hn2
              have HN3 := Lib.hid hn3
              have H36' := Lib.hid h36
              clear htk hk hn2 hn1 h36 HSC hrs hi1e hrl hlen hblen hpe
              go_wp2_with fail
              refine HBR.out.mono ?_
              rintro e w' ⟨rfl, rfl⟩
              go_wp2_with fail
              refine HPL.out.mono ?_
              rintro e w' ⟨rfl, rfl⟩
              cases hb : hitB (k + 1) l with
              | true =>
                have HX1 : Hid (K = (k + 1, n.size + 3)) := Lib.hid (by rw [← HTK.out, hb]; rfl)
                clear hb HBR HPL
                go_wp2_with fail
                go_roundg 0
                case measure => omega
                case rel => exact ⟨k + 1, n.size + 3, k, by go_num, rfl, by go_num, Lib.hid ⟨fun _ => .inr ⟨rfl, by omega, HX1.out, by omega, hk3⟩, fun h => absurd H36'.out h⟩, rfl⟩
              | false =>
                cases hp : Lib.hasPrefix (l.drop 1) (nameF (k + 1)) with
                | false =>
                  have HX1 : Hid (tokGo l g2 (k + 1 + 1) = K) := Lib.hid (by rw [← HTK.out, hb, hp]; rfl)
                  clear hb hp HBR HPL
                  go_wp2_with fail
                  go_roundg g2
                  case measure => omega
                  case rel => exact ⟨k + 1, 0, 0, rfl, rfl, by go_num, Lib.hid ⟨fun _ => .inl ⟨by have := HK.out; omega, rfl, rfl, HX1.out⟩, fun h => absurd H36'.out h⟩, rfl⟩
                | true =>
                  by_cases hz : r.size = n.size
                  · have HX1 : Hid (K = (k + 1, 1 + n.size)) := Lib.hid (by rw [← HTK.out, hb, hp, endsF_none r n.size hz]; rfl)
                    have hzi : ((r.size : Int) == (n.size : Int)) = true := by rw [hz]; exact beq_self_eq_true _
                    clear hb hp HBR HPL
                    go_wp2_with fail
                    go_roundg 0
                    case measure => omega
                    case rel => exact ⟨k + 1, n.size + 1, k, by go_num, rfl, by go_num, Lib.hid ⟨fun _ => .inr ⟨rfl, by omega, by rw [HX1.out, Nat.add_comm 1 n.size], by omega, hk3⟩, fun h => absurd H36'.out h⟩, rfl⟩
                  · have hzl : n.size < r.size := by
                      have h1 := Lib.hasPrefix_le (hp)
                      have h2 : (l.drop 1).length = r.size := by rw [HRL2.out]; simp
                      have h3 := HLEN.out
                      omega
                    have hzi : ((r.size : Int) == (n.size : Int)) = false := beq_eq_false_iff_ne.2 (by omega)
                    have HGO := Lib.hid (goes_any r[n.size] wr)
                    have HES := Lib.hid (endsF_some r n.size hzl)
                    have HPP := Lib.hid hp
                    have HBB := Lib.hid hb
                    clear hb hp HBR HPL hz
                    go_wp2_with fail
                    refine HGO.out.mono ?_
                    rintro e w' ⟨rfl, rfl⟩
                    cases hw : isW r[n.size] with
                    | true =>
                      have HX1 : Hid (tokGo l g2 (k + 1 + 1) = K) := Lib.hid (by rw [← HTK.out, HBB.out, HPP.out, HES.out, hw]; rfl)
                      clear hw HES
                      go_wp2_with fail
                      go_roundg g2
                      case measure => omega
                      case rel => exact ⟨k + 1, 0, 0, rfl, rfl, by go_num, Lib.hid ⟨fun _ => .inl ⟨by have := HK.out; omega, rfl, rfl, HX1.out⟩, fun h => absurd H36'.out h⟩, rfl⟩
                    | false =>
                      have HX1 : Hid (K = (k + 1, 1 + n.size)) := Lib.hid (by rw [← HTK.out, HBB.out, HPP.out, HES.out, hw]; rfl)
                      clear hw HES
                      go_wp2_with fail
                      go_roundg 0
                      case measure => omega
                      case rel => exact ⟨k + 1, n.size + 1, k, by go_num, rfl, by go_num, Lib.hid ⟨fun _ => .inr ⟨rfl, by omega, by rw [HX1.out, Nat.add_comm 1 n.size], by omega, hk3⟩, fun h => absurd H36'.out h⟩, rfl⟩
          · have hsz0' : ((sz : Int) == 0) = false := beq_eq_false_iff_ne.2 (by omega)
            have ht36 : ((s[i].toNat : Int) == 36) = true := by rw [h36]; rfl
            obtain ⟨n, hn1, hn2⟩ := texts_at dir l wh hwh3
            have hcn : wr.cell? ⟨w.heap.size + 1, wh, none⟩ = some (.string n) := (cell_of_row _ _ _ _ _ _ HTB.out).trans hn1
            obtain ⟨q, hq⟩ : ∃ q, ((wh : Int) == 0) = q := ⟨_, rfl⟩
            have hq2 : ((wh + 1 : Nat) == 1) = q := by rw [← hq, Bool.eq_iff_iff, beq_iff_eq, beq_iff_eq]; omega
            have HNX : Hid (expGo dir g (s.data.toList.drop (i + sz)) (out ++ n.data.toList) (told || q) = R) := Lib.hid (by
              have h1 := HST.out
              rw [hKe] at h1
              simp only at h1
              rw [HDR.out, ← hn2, hq2] at h1
              exact h1.symm)
            have HL1 : Hid (out.length + n.size ≤ 140737488355328) := Lib.hid (by
              have h1 := expGo_grows dir g (s.data.toList.drop (i + sz)) (out ++ n.data.toList) (told || q)
              rw [HNX.out, List.length_append] at h1
              have h2 := HRL.out
              have h3 : n.data.toList.length = n.size := by simp
              omega)
            have hisz : i + sz ≤ s.size := by
              have h1 := HSZ.out
              rw [hKe] at h1
              simp only at h1
              have h2 := HLL.out
              omega
            have HIS := Lib.hid hisz
            have HSP := Lib.hid hsz0
            have hwi : wrap64 ((i : Int) + (sz : Int)) = ((i + sz : Nat) : Int) := by
              have := HS.out
              rw [show (i : Int) + (sz : Int) = ((i + sz : Nat) : Int) from by omega]
              exact IntWalk.wrap64_in _ ⟨by omega, by omega⟩
            have HWI := Lib.hid hwi
            have HK := Lib.hid hk
            have hwi3 : (wh : Int) < 3 := by omega
            clear hn1 hn2 hq2 hisz hsz0 hwi hKe HSC h36 hk hwh3
            by_cases hk3 : k < 3
            · have hk0 : (k : Int) < 3 := by omega
              clear hk3
              go_wp2_with (at_builtin; refine Lib.wpList_append_own_string _ rfl _ _ 31 9 rfl w.heap.size 5 it HTI.out Tryd.underlying9 HII.out HZ0.out HZ1.out HZ2.out _ out.length (Lib.byteCells out) rfl HOWN.out n rfl (by have := HL1.out; unfold maxLen; omega) HL1.out BW.out.size ?_)
              intro v' w2 hown' hgrow _
              obtain ⟨ad2, c2, rfl⟩ := own_slice hown'
              have HX2 : Hid (RExp w w.heap.size (w.heap.size + 1) dir (.slice ad2 (out.length + n.size) c2) (out ++ n.data.toList) w2) := Lib.hid (HX.out.grown hgrow (by rw [bytes_both, List.length_append]; exact hown'))
              have HGG := Lib.hid hg
              have hwi := HWI.out
              clear hown' hgrow hg
              cases told <;> cases q
              all_goals
                go_wp2_with fail
                go_roundg g
                case measure => omega
                case rel => exact ⟨i + sz, _, out ++ n.data.toList, ad2, c2, by have := HGG.out; have := HSP.out; omega, HIS.out, by rw [List.length_append]; rfl, rfl, by go_num, HNX, by rw [List.length_append]; exact HX2⟩
            · have hk0 : ¬ (k : Int) < 3 := by omega
              clear hk3
              go_wp2_with (at_builtin; refine Lib.wpList_append_own_string _ rfl _ _ 31 9 rfl w.heap.size 5 it HTI.out Tryd.underlying9 HII.out HZ0.out HZ1.out HZ2.out _ out.length (Lib.byteCells out) rfl HOWN.out n rfl (by have := HL1.out; unfold maxLen; omega) HL1.out BW.out.size ?_)
              intro v' w2 hown' hgrow _
              obtain ⟨ad2, c2, rfl⟩ := own_slice hown'
              have HX2 : Hid (RExp w w.heap.size (w.heap.size + 1) dir (.slice ad2 (out.length + n.size) c2) (out ++ n.data.toList) w2) := Lib.hid (HX.out.grown hgrow (by rw [bytes_both, List.length_append]; exact hown'))
              have HGG := Lib.hid hg
              have hwi := HWI.out
              clear hown' hgrow hg
              cases told <;> cases q
              all_goals
                go_wp2_with fail
                go_roundg g
                case measure => omega
                case rel => exact ⟨i + sz, _, out ++ n.data.toList, ad2, c2, by have := HGG.out; have := HSP.out; omega, HIS.out, by rw [List.length_append]; rfl, rfl, by go_num, HNX, by rw [List.length_append]; exact HX2⟩
        · obtain ⟨rfl, rfl, rfl⟩ := HSC.out.2 h36
          have hk0 : ((0 : Nat) : Int) < 3 := by omega
          have HKE : Hid (K = (0, 1)) := Lib.hid (HT0.out h36)
          have ht36 : ((s[i].toNat : Int) == 36) = false := beq_eq_false_iff_ne.2 (fun h => h36 (H36.out h))
          clear HSC h36
          · have HNX : Hid (expGo dir g (s.data.toList.drop (i + 1)) (out ++ [s[i]]) told = R) := Lib.hid (by
              have h1 := HST.out
              rw [HKE.out] at h1
              simp only at h1
              rw [HDR.out, show textF dir l 0 = [s[i]] from H1.out, show (told || (0 : Nat) == 1) = told from by cases told <;> rfl] at h1
              exact h1.symm)
            have hl1 : out.length + 1 ≤ 140737488355328 := by
              have h1 := expGo_grows dir g (s.data.toList.drop (i + 1)) (out ++ [s[i]]) told
              rw [HNX.out, List.length_append] at h1
              have h2 := HRL.out
              have h3 : [s[i]].length = 1 := rfl
              omega
            have HL1 := Lib.hid hl1
            have HLT := Lib.hid hlt
            have hwi : wrap64 ((i : Int) + 1) = ((i + 1 : Nat) : Int) := IntWalk.wrap64_in _ ⟨by omega, by have := HS.out; omega⟩
            clear hl1
            go_wp2_with (at_builtin; refine wpList_append_own _ rfl _ _ 31 rfl w.heap.size 5 it (.int .u8 0) 1 1 HTI.out HII.out HZ0.out HZ1.out HZ2.out rfl (by decide) _ out.length (Lib.byteCells out) rfl (HOWN.out.alloc _) ⟨wr.heap.size, 0, none⟩ 1 1 [.int .u8 (s[i].toNat : Int)] rfl rfl (cell_one_at wr _ _) (by intro u hu; simp only [List.mem_cons, List.not_mem_nil, or_false] at hu; subst hu; rfl) (by have := HL1.out; unfold maxLen; omega) (by have := HL1.out; omega) (by have := BW.out.size; simp; omega) ?_)
            intro v' w2 hown' hgrow _
            obtain ⟨ad2, c2, rfl⟩ := own_slice hown'
            have HX2 : Hid (RExp w w.heap.size (w.heap.size + 1) dir (.slice ad2 (out.length + 1) c2) (out ++ [s[i]]) w2) := Lib.hid ((HX.out.alloc _).grown hgrow (by rw [byteCells_snoc, List.length_append]; exact hown'))
            have HGG := Lib.hid hg
            clear hown' hgrow hg
            go_wp2_with fail
            go_roundg g
            case measure => omega
            case rel => exact ⟨i + 1, told, out ++ [s[i]], ad2, c2, by have := HGG.out; omega, by have := HLT.out; omega, by rw [List.length_append]; rfl, rfl, by go_num, HNX, by rw [List.length_append]; exact HX2⟩
end Go.Proofs.YtppeapafnnanbaaDoor
/- Layer 14, the document's answer: a text is cut at each of some bytes. -/
namespace Go.Proofs.YtppeapafnnanbaaDoor
open Go.RowKit
set_option linter.unusedVariables false
set_option linter.unusedSimpArgs false

/-- is a byte among those? -/
def amongF (l : List UInt8) (c : UInt8) : Bool := l.any fun x => x == c
theorem among_snoc (l : List UInt8) (k : Nat) (hk : k < l.length) (c : UInt8) (h : amongF (l.take k) c = false) : amongF (l.take (k + 1)) c = (l[k] == c) := by
  unfold amongF at *
  rw [List.take_succ_eq_append_getElem hk, List.any_append, h]
  simp
theorem among_mono (l : List UInt8) (k : Nat) (c : UInt8) (h : amongF (l.take k) c = true) : amongF l c = true := by
  unfold amongF at *
  rw [List.any_eq_true] at *
  obtain ⟨x, hx, e⟩ := h
  exact ⟨x, List.mem_of_mem_take hx, e⟩
/-- what is left of a cut, at each place and behind the last -/
def CutAt (p : Nat → Bool) (s : List UInt8) (acc : List (List UInt8)) (fr i : Nat) (R : List (List UInt8)) : Prop :=
  (i ≤ s.length → acc ++ cutGo p ((s.drop fr).take (i - fr)) (s.drop i) = R) ∧ (i = s.length + 1 → acc = R)
theorem CutAt.hit {p : Nat → Bool} {s : List UInt8} {acc : List (List UInt8)} {fr i : Nat} {R : List (List UInt8)} (h : CutAt p s acc fr i R) (hi : i < s.length) (hp : p (s[i]).toNat = true) : CutAt p s (acc ++ [(s.drop fr).take (i - fr)]) (i + 1) (i + 1) R := by
  refine ⟨fun h1 => ?_, fun h1 => by omega⟩
  rw [← h.1 (by omega), List.drop_eq_getElem_cons hi, cutGo, if_pos hp, Nat.sub_self, List.take_zero, List.append_assoc]
  rfl
theorem CutAt.miss {p : Nat → Bool} {s : List UInt8} {acc : List (List UInt8)} {fr i : Nat} {R : List (List UInt8)} (h : CutAt p s acc fr i R) (hi : i < s.length) (hfr : fr ≤ i) (hp : p (s[i]).toNat = false) : CutAt p s acc fr (i + 1) R := by
  refine ⟨fun h1 => ?_, fun h1 => by omega⟩
  rw [← h.1 (by omega)]
  conv => rhs; rw [List.drop_eq_getElem_cons hi, cutGo, if_neg (by rw [hp]; simp)]
  have e : (s.drop fr).take (i + 1 - fr) = (s.drop fr).take (i - fr) ++ [s[i]] := by
    rw [show i + 1 - fr = (i - fr) + 1 from by omega, List.take_succ_eq_append_getElem (by rw [List.length_drop]; omega)]
    congr 2
    rw [List.getElem_drop]
    congr 1
    omega
  rw [e]
theorem CutAt.last {p : Nat → Bool} {s : List UInt8} {acc : List (List UInt8)} {fr : Nat} {R : List (List UInt8)} (h : CutAt p s acc fr s.length R) : CutAt p s (acc ++ [(s.drop fr).take (s.length - fr)]) (s.length + 1) (s.length + 1) R := by
  refine ⟨fun h1 => by omega, fun _ => ?_⟩
  rw [← h.1 (Nat.le_refl _), List.drop_of_length_le (i := s.length) (Nat.le_refl _)]
  rfl

set_option maxRecDepth 100000 in
set_option maxHeartbeats 4000000 in
theorem refCut_any (p : Nat → Bool) (s sep : ByteArray) (w : World) (hs : s.size ≤ 1099511627776) (hsep : sep.size ≤ 64) (hp : ∀ c : UInt8, amongF sep.data.toList c = p c.toNat) :
    Calls Tryd.prog 64 #[.string s, .string sep] w (TextsAns ((cutF p s.data.toList).map mkT) w) := by
  obtain ⟨R, hR⟩ : ∃ R, cutF p s.data.toList = R := ⟨_, rfl⟩
  have hll : s.data.toList.length = s.size := by simp
  have HLL := Lib.hid hll
  have HR : Hid (CutAt p s.data.toList [] 0 0 R) := Lib.hid ⟨fun _ => by rw [← hR]; rfl, fun h => by omega⟩
  have HRL : Hid (R.length ≤ s.size + 1) := Lib.hid (by rw [← hR]; have := cutGo_len p s.data.toList []; simpa [cutF] using this)
  have HP := Lib.hid hp
  have HSZ := Lib.hid hs
  have HSEP := Lib.hid hsep
  rw [hR]
  clear hR hp hs hll hsep
  go_enter Tryd.func64, Tryd.ntmps64
  go_wp2_with fail
  go_loopg [5, 6, 7] (s.size + 1) (fun g lv fv iv wr => ∃ (i fr : Nat) (acc : List (List UInt8)) (ad : Option Addr) (n c : Nat), i + g = s.size + 1 ∧ fr ≤ i ∧ lv = .slice ad n c ∧ fv = .int .i64 (fr : Int) ∧ iv = .int .i64 (i : Int) ∧ Hid (n = (acc.map mkT).length) ∧
    Hid (CutAt p s.data.toList acc fr i R) ∧ Hid (OwnT wr w.heap.size 9 (.slice ad n c) (acc.map mkT)) ∧ Hid (Below w.heap.size w wr))
  case atStart => exact ⟨0, 0, [], none, 0, 0, by omega, Nat.le_refl _, rfl, rfl, rfl, Lib.hid rfl, HR, Lib.hid (OwnT.nil _ _ _), Lib.hid (Below.refl _ _)⟩
  case round =>
    obtain ⟨i, fr, acc, ad, n, c, hg, hfr, rfl, rfl, rfl, HN, HG, HO, BW⟩ := hrel
    clear HR
    cases gk with
    | zero =>
      have h0 : ¬ (i : Int) ≤ (s.size : Int) := by omega
      have HRE : Hid (acc = R) := Lib.hid (HG.out.2 (by have := HLL.out; omega))
      clear hg hfr
      go_wp2_with fail
      go_ret
      rw [← HRE.out]
      refine ⟨ad, c, ?_, by rw [← HN.out]; exact HO.out, BW.out⟩
      rw [← HN.out]
      rfl
    | succ g =>
      have h0 : (i : Int) ≤ (s.size : Int) := by omega
      have HACC : Hid (acc.length + 1 ≤ R.length) := Lib.hid (by rw [← HG.out.1 (by have := HLL.out; omega), List.length_append]; have := cutGo_pos p (s.data.toList.drop i) ((s.data.toList.drop fr).take (i - fr)); omega)
      have HLN : Hid (n + 1 ≤ 1099511627777) := Lib.hid (by have := HACC.out; have := HRL.out; have := HN.out; have := HSZ.out; rw [List.length_map] at *; omega)
      have K1 : Hid (n + 1 ≤ maxLen) := Lib.hid (by have := HLN.out; unfold maxLen; omega)
      have K2 : Hid ((n + 1) * 16 ≤ 140737488355328) := Lib.hid (by have := HLN.out; omega)
      have hf1 : (fr : Int) ≤ (i : Int) := by omega
      have hf0 : (0 : Int) ≤ (fr : Int) := by omega
      have hp1 : IntKind.i64.wrap ((i : Int) + 1) = (i : Int) + 1 := by rw [IntKind.wrap_i64]; have := HSZ.out; omega
      have HGG := Lib.hid hg
      have HFR := Lib.hid hfr
      obtain ⟨e0, he0⟩ : ∃ e0, ((i : Int) == (s.size : Int)) = e0 := ⟨_, rfl⟩
      have HE0 : Hid (e0 = true ↔ i = s.size) := Lib.hid (by rw [← he0, beq_iff_eq]; omega)
      clear hg hfr
      go_wp2_with fail
      clear he0
      go_loopg [8, 9] sep.size (fun g2 ev kv wq => ∃ (k : Nat) (e : Bool), k + g2 = sep.size ∧ ev = .bool e ∧ kv = .int .i64 (k : Int) ∧ Hid ((i = s.size → e = true) ∧ ((h : i < s.data.toList.length) → e = amongF (sep.data.toList.take k) (s.data.toList[i]'h))) ∧ Hid (OwnT wq w.heap.size 9 (.slice ad n c) (acc.map mkT)) ∧ Hid (Below w.heap.size w wq))
      case atStart => exact ⟨0, e0, by omega, rfl, rfl, Lib.hid ⟨HE0.out.2, fun h => by
        cases e0 with
        | false => rfl
        | true => have := HE0.out.1 rfl; have := HLL.out; omega⟩, HO, BW⟩
      case round =>
        clear HO BW
        obtain ⟨k, e, hk, rfl, rfl, HEE, HO, BW⟩ := hrel
        clear HE0
        cases e with
        | false =>
          have HILT : Hid (i < s.size) := Lib.hid (by
            have h1 := HGG.out
            rcases Nat.lt_or_ge i s.size with h | h
            · exact h
            · have := HEE.out.1 (by omega); cases this)
          cases gk with
          | zero =>
            have hk0 : ¬ (k : Int) < (sep.size : Int) := by omega
            have HGN : Hid (CutAt p s.data.toList acc fr (i + 1) R) := Lib.hid (by
              have h1 := HILT.out
              have h2 := HLL.out
              refine HG.out.miss (by omega) HFR.out ?_
              rw [← HP.out]
              have h3 := HEE.out.2 (by omega)
              rw [List.take_of_length_le (by have : sep.data.toList.length = sep.size := by simp
                                             omega)] at h3
              exact h3.symm)
            clear hk
            go_wp2_with fail
            go_roundg g
            case measure => omega
            case rel => exact ⟨i + 1, fr, acc, ad, n, c, by have := HGG.out; omega, by have := HFR.out; omega, rfl, rfl, by go_num, HN, HGN, HO, BW⟩
          | succ g2 =>
            have hk0 : (k : Int) < (sep.size : Int) := by omega
            have hkl : k < sep.size := by omega
            have hil : i < s.size := HILT.out
            obtain ⟨q, hq⟩ : ∃ q, ((s[i].toNat : Int) == (sep[k].toNat : Int)) = q := ⟨_, rfl⟩
            have HQ : Hid ((i = s.size → q = true) ∧ ((h : i < s.data.toList.length) → q = amongF (sep.data.toList.take (k + 1)) (s.data.toList[i]'h))) := Lib.hid ⟨fun h => by omega, fun h => by
              have e1 : sep.data.toList.length = sep.size := by simp
              rw [among_snoc sep.data.toList k (by omega) _ (HEE.out.2 h).symm, ← hq, Bool.eq_iff_iff, beq_iff_eq, beq_iff_eq, ← UInt8.toNat_inj]
              have e2 : s.data.toList[i] = s[i] := rfl
              have e3 : sep.data.toList[k]'(by omega) = sep[k] := rfl
              rw [e2, e3]
              omega⟩
            have HK := Lib.hid hk
            have hk1 : IntKind.i64.wrap ((k : Int) + 1) = (k : Int) + 1 := by rw [IntKind.wrap_i64]; have := HSEP.out; omega
            clear hk
            go_wp2_with fail
            go_quiet (fail)
            go_wp2_with fail
            go_roundg g2
            case measure => omega
            case rel => exact ⟨k + 1, q, by have := HK.out; omega, rfl, by go_num, HQ, Lib.hid HO.out, Lib.hid (below_drewN BW.out nq)⟩
        | true =>
          have HGN : Hid (CutAt p s.data.toList (acc ++ [(s.data.toList.drop fr).take (i - fr)]) (i + 1) (i + 1) R) := Lib.hid (by
            have h1 := HGG.out
            have h2 := HLL.out
            rcases Nat.lt_or_ge i s.size with h | h
            · refine HG.out.hit (by omega) ?_
              rw [← HP.out]
              exact among_mono _ k _ (HEE.out.2 (by omega)).symm
            · have h3 : i = s.data.toList.length := by omega
              have h4 := HG.out
              rw [h3] at h4 ⊢
              exact h4.last)
          have TR := Lib.hid (text_row wr (s.extract fr i) 9)
          have OA := Lib.hid (HO.out.allocT (.cells #[.string (s.extract fr i)] 9))
          have BA := Lib.hid (BW.out.alloc BW.out.size (.cells #[.string (s.extract fr i)] 9))
          have BAS : Hid (w.heap.size ≤ (wr.alloc (.cells #[.string (s.extract fr i)] 9)).heap.size) := Lib.hid (by have := BW.out.size; simp; omega)
          clear hk
          by_cases hkk : k < sep.size
          · have hk0 : (k : Int) < (sep.size : Int) := by omega
            clear hkk
            go_wp2_with (at_builtin; go_loud (refine wpList_texts rfl (.tmp 38) (.tmp 43) texts_t text_info rfl w.heap.size w (.slice ad n c) (acc.map mkT) n (some ⟨wr.heap.size, 0, none⟩) 1 1 [s.extract fr i] rfl (by rfl) HN.out.symm rfl TR.out (fun h => by cases h) OA.out K1.out K2.out BA.out BAS.out ?_); intro v5 w5 hown5 hbe5; have O5 := Lib.hid hown5; have B5 := Lib.hid hbe5; clear hown5 hbe5)
            obtain ⟨ad5, c5, rfl⟩ := O5.out.form
            have e1 : acc.map mkT ++ [s.extract fr i] = (acc ++ [(s.data.toList.drop fr).take (i - fr)]).map mkT := by
              rw [List.map_append, extract_mid]
              rfl
            have o5 := O5.out
            rw [e1] at o5
            have e2 : (acc.map mkT ++ [s.extract fr i]).length = ((acc ++ [(s.data.toList.drop fr).take (i - fr)]).map mkT).length := by rw [e1]
            have O6 := Lib.hid o5
            have E2 := Lib.hid e2
            clear o5 e1 e2
            rw [E2.out]
            go_wp2_with fail
            go_roundg g
            case measure => omega
            case rel => exact ⟨i + 1, i + 1, acc ++ [(s.data.toList.drop fr).take (i - fr)], ad5, _, c5, by have := HGG.out; omega, Nat.le_refl _, rfl, by go_num, by go_num, Lib.hid rfl, HGN, O6, B5⟩
          · have hk0 : ¬ (k : Int) < (sep.size : Int) := by omega
            clear hkk
            go_wp2_with (at_builtin; go_loud (refine wpList_texts rfl (.tmp 38) (.tmp 43) texts_t text_info rfl w.heap.size w (.slice ad n c) (acc.map mkT) n (some ⟨wr.heap.size, 0, none⟩) 1 1 [s.extract fr i] rfl (by rfl) HN.out.symm rfl TR.out (fun h => by cases h) OA.out K1.out K2.out BA.out BAS.out ?_); intro v5 w5 hown5 hbe5; have O5 := Lib.hid hown5; have B5 := Lib.hid hbe5; clear hown5 hbe5)
            obtain ⟨ad5, c5, rfl⟩ := O5.out.form
            have e1 : acc.map mkT ++ [s.extract fr i] = (acc ++ [(s.data.toList.drop fr).take (i - fr)]).map mkT := by
              rw [List.map_append, extract_mid]
              rfl
            have o5 := O5.out
            rw [e1] at o5
            have e2 : (acc.map mkT ++ [s.extract fr i]).length = ((acc ++ [(s.data.toList.drop fr).take (i - fr)]).map mkT).length := by rw [e1]
            have O6 := Lib.hid o5
            have E2 := Lib.hid e2
            clear o5 e1 e2
            rw [E2.out]
            go_wp2_with fail
            go_roundg g
            case measure => omega
            case rel => exact ⟨i + 1, i + 1, acc ++ [(s.data.toList.drop fr).take (i - fr)], ad5, _, c5, by have := HGG.out; omega, Nat.le_refl _, rfl, by go_num, by go_num, Lib.hid rfl, HGN, O6, B5⟩
end Go.Proofs.YtppeapafnnanbaaDoor
