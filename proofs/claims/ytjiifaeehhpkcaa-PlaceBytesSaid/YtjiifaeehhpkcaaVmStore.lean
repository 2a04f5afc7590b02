/- Layer 2: the first of some bytes whose page isn't mapped with a permission. -/
import Derived.Test.YtjiifaeehhpkcaaVm
import Derived.Deep.LoopGhost
import Derived.WalkMore
import Derived.Test.YtjiifaeehhpkcaaKit
import Derived.Laws.BitsAllLaws
import Derived.Deep.MidRow
import Derived.Deep.RegionHeld3
import Derived.Deep.DeepCutAuto
namespace Go.Proofs.Ytjiifaeehhpkcaa
open Go.RowKit
set_option linter.unusedVariables false
set_option linter.unusedSimpArgs false

theorem and8 : ∀ a b : Fin 8, bits .and .i64 (a.val : Int) (b.val : Int) = ((a.val &&& b.val : Nat) : Int) := by decide +kernel
theorem and_perm {a b : Nat} (ha : a < 8) (hb : b < 8) : bits .and .i64 (a : Int) (b : Int) = ((a &&& b : Nat) : Int) := and8 ⟨a, ha⟩ ⟨b, hb⟩

/-- how many of n bytes from an address on lie in its page -/
def stepF (a n : Nat) : Nat := min n (4096 - a % 4096)
def barF (V : Nat → Option Pg) (perm : Nat) : Nat → Nat → Nat → Option Nat
  | 0, _, _ => none
  | f + 1, a, n => if n = 0 then none else match V (a / 4096) with
    | none => some a
    | some p => if p.perm &&& perm = perm then barF V perm f (a + stepF a n) (n - stepF a n) else some a
/-- the first of n bytes from an address on that may not be got at -/
def barredF (V : Nat → Option Pg) (perm a n : Nat) : Option Nat := barF V perm (n + 1) a n
def barV : Option Nat → Value
  | none => .tuple #[.int .u64 0, .bool false]
  | some a => .tuple #[.int .u64 (a : Int), .bool true]

theorem page_zero (w : World) : (zeroValue 81).run Try.prog w = .ok (.pointer none) w := by kernel_rfl
theorem page_perm {w : World} {b : Nat} {p : Pg} (ho : p.Ok) (h : w.heap[b]? = some (.cells p.cells.toArray 85)) : w.cell? ⟨b, 4096, none⟩ = some (.int .i64 (p.perm : Int)) := by
  rw [cell_of_row _ _ 4096 _ _ _ h]
  unfold Pg.cells
  rw [List.getElem?_toArray, List.getElem?_append_right (by simp [ho.len])]
  simp [ho.len]

set_option maxRecDepth 100000 in
set_option maxHeartbeats 4000000 in
theorem barred_any (mb : Nat) (S : Nat → Prop) (q c : Nat) (V : Nat → Option Pg) (g : Nat) (F : Nat → Option Nat) (a n perm : Nat) (w : World) (h : VmAt w mb S q c V g F) (ha : a < 18446744073709551616) (hn : n < 18446744073709551616) (hp : perm < 8) :
    Calls Try.prog 48 #[.pointer (some ⟨mb, 0, none⟩), .int .u64 (a : Int), .int .u64 (n : Int), .int .i64 (perm : Int)] w fun e w' => e = .returned (barV (barredF V perm a n)) ∧ w = w' := by
  obtain ⟨R, hR⟩ : ∃ R, barredF V perm a n = R := ⟨_, rfl⟩
  have HR0 : Hid (n < n + 1 ∧ a < 18446744073709551616 ∧ n < 18446744073709551616 ∧ barF V perm (n + 1) a n = R) := Lib.hid ⟨by omega, ha, hn, hR⟩
  rw [hR]
  have H := Lib.hid h
  have m1 : w.cell? ⟨mb, 1, none⟩ = some (.map (some g)) := by rw [cell_of_row _ _ 1 _ _ _ h.box]; rfl
  have HL : Hid (∀ k, k < 18446744073709551616 → (Instr.lookup 75 (.map (some g)) (.int .u64 ((k : Nat) : Int)) false).run Try.prog w = .ok (ptrV (F k)) w) := Lib.hid (fun k hk => h.map.look Try.underlying22 Try.underlying75 (page_zero w) hk)
  have HP := Lib.hid hp
  clear h ha hn hR hp
  go_enter Try.func48, Try.ntmps48
  go_wp2_with fail
  go_loopg [1, 2] (n + 1) (fun f x y wr => ∃ a n : Nat, x = .int .u64 (a : Int) ∧ y = .int .u64 (n : Int) ∧ w = wr ∧ Hid (n < f ∧ a < 18446744073709551616 ∧ n < 18446744073709551616 ∧ barF V perm f a n = R))
  case atStart => exact ⟨a, n, rfl, rfl, rfl, HR0⟩
  case round =>
    clear HR0
    obtain ⟨a, n, rfl, rfl, rfl, HR⟩ := hrel
    obtain ⟨h1, h2, h3, h4⟩ := HR.out
    cases gk with
    | zero => omega
    | succ f =>
      by_cases hn0 : n = 0
      · subst hn0
        obtain rfl : R = none := by rw [← h4]; rfl
        clear h1 h2 h3 h4 HR
        go_wp2_with fail
        go_ret2
        exact ⟨rfl, rfl⟩
      · have HB : Hid ((match V (a / 4096) with
          | none => some a
          | some p => if p.perm &&& perm = perm then barF V perm f (a + stepF a n) (n - stepF a n) else some a) = R) := Lib.hid (by
          rw [← h4]; exact (if_neg hn0).symm)
        have hnp : (0 : Int) < (n : Int) := by omega
        have e1 : (a : Int).tdiv 4096 = ((a / 4096 : Nat) : Int) := by rw [Int.tdiv_eq_ediv_of_nonneg (by omega)]; omega
        have e2 : IntKind.u64.wrap ((a / 4096 : Nat) : Int) = ((a / 4096 : Nat) : Int) := by rw [IntKind.wrap_u64]; omega
        have hl := HL.out (a / 4096) (by omega)
        cases hv : V (a / 4096) with
        | none =>
          have HB2 := HB.out
          rw [hv] at HB2
          obtain rfl : R = some a := HB2.symm
          rw [H.out.at_none hv] at hl
          replace hl : (Instr.lookup 75 (.map (some g)) (.int .u64 ((a / 4096 : Nat) : Int)) false).run Try.prog w = .ok (.pointer none) w := hl
          clear h1 h2 h3 h4 HR HB HB2 hv
          generalize a / 4096 = k at *
          go_wp2_with fail
          go_ret2
          exact ⟨rfl, rfl⟩
        | some p =>
          have HB2 := HB.out
          rw [hv] at HB2
          obtain ⟨b, hf, -, hpo, hpb⟩ := H.out.at_page hv
          rw [hf] at hl
          replace hl : (Instr.lookup 75 (.map (some g)) (.int .u64 ((a / 4096 : Nat) : Int)) false).run Try.prog w = .ok (.pointer (some ⟨b, 0, none⟩)) w := hl
          have hc := page_perm hpo hpb
          have ha8 := and_perm hpo.perm HP.out
          have HLOW : Hid (a / 4096 < 34359738368) := Lib.hid (H.out.low _ (by rw [hv]; simp))
          have hst : stepF a n ≤ n := by unfold stepF; omega
          have hs0 : 0 < stepF a n := by unfold stepF; omega
          have hs1 : a % 4096 + stepF a n ≤ 4096 := by unfold stepF; omega
          have hsc : (stepF a n = n ∧ ¬ (4096 - a % 4096 < n)) ∨ (stepF a n = 4096 - a % 4096 ∧ 4096 - a % 4096 < n) := by unfold stepF; omega
          generalize stepF a n = s at *
          have hsum : a + s < 18446744073709551616 := by have := HLOW.out; omega
          have e3 : (a : Int).tmod 4096 = ((a % 4096 : Nat) : Int) := by rw [Int.tmod_eq_emod_of_nonneg (by omega)]; omega
          have e4 : IntKind.u64.wrap ((a % 4096 : Nat) : Int) = ((a % 4096 : Nat) : Int) := by rw [IntKind.wrap_u64]; omega
          have e5 : IntKind.u64.wrap (4096 - ((a % 4096 : Nat) : Int)) = ((4096 - a % 4096 : Nat) : Int) := by rw [IntKind.wrap_u64]; omega
          have HN : Hid (n - s < f ∧ a + s < 18446744073709551616 ∧ n - s < 18446744073709551616) := Lib.hid (by omega)
          clear h1 h4 HR HB hv HLOW hs0 hs1 hpb hpo hf
          obtain ⟨rr, hrr⟩ : ∃ rr, 4096 - a % 4096 = rr := ⟨_, rfl⟩
          rw [hrr] at hsc e5
          clear hrr
          generalize a % 4096 = r at *
          generalize a / 4096 = k at *
          rcases hsc with ⟨rfl, hlt⟩ | ⟨rfl, hlt⟩
          · have e6 : IntKind.u64.wrap ((a : Int) + (s : Int)) = ((a + s : Nat) : Int) := by rw [IntKind.wrap_u64]; omega
            have e7 : IntKind.u64.wrap 0 = ((s - s : Nat) : Int) := by rw [IntKind.wrap_u64]; omega
            have hltI : ¬ (rr : Int) < (s : Int) := by omega
            generalize s - s = n2 at *
            generalize a + s = a2 at *
            clear h2 h3 hsum hst
            by_cases hok : p.perm &&& perm = perm
            · have HB3 : Hid (barF V perm f a2 n2 = R) := Lib.hid (by rw [← HB2]; exact (if_pos hok).symm)
              rw [hok] at ha8
              clear HB2 hok
              generalize p.perm = pp at *
              go_wp2_with fail
              go_roundg f
              case measure => omega
              case rel => exact ⟨a2, n2, rfl, rfl, rfl, Lib.hid ⟨HN.out.1, HN.out.2.1, HN.out.2.2, HB3.out⟩⟩
            · obtain rfl : R = some a := by rw [← HB2]; exact if_neg hok
              have hokI : ¬ ((p.perm &&& perm : Nat) : Int) = (perm : Int) := by omega
              clear HB2 hok
              generalize p.perm &&& perm = pa at *
              generalize p.perm = pp at *
              go_wp2_with fail
              go_ret2
              exact ⟨rfl, rfl⟩
          · have e6 : IntKind.u64.wrap ((a : Int) + (s : Int)) = ((a + s : Nat) : Int) := by rw [IntKind.wrap_u64]; omega
            have e7 : IntKind.u64.wrap ((n : Int) - (s : Int)) = ((n - s : Nat) : Int) := by rw [IntKind.wrap_u64]; omega
            have hltI : (s : Int) < (n : Int) := by omega
            generalize n - s = n2 at *
            generalize a + s = a2 at *
            clear h2 h3 hsum hst
            by_cases hok : p.perm &&& perm = perm
            · have HB3 : Hid (barF V perm f a2 n2 = R) := Lib.hid (by rw [← HB2]; exact (if_pos hok).symm)
              rw [hok] at ha8
              clear HB2 hok
              generalize p.perm = pp at *
              go_wp2_with fail
              go_roundg f
              case measure => omega
              case rel => exact ⟨a2, n2, rfl, rfl, rfl, Lib.hid ⟨HN.out.1, HN.out.2.1, HN.out.2.2, HB3.out⟩⟩
            · obtain rfl : R = some a := by rw [← HB2]; exact if_neg hok
              have hokI : ¬ ((p.perm &&& perm : Nat) : Int) = (perm : Int) := by omega
              clear HB2 hok
              generalize p.perm &&& perm = pa at *
              generalize p.perm = pp at *
              go_wp2_with fail
              go_ret2
              exact ⟨rfl, rfl⟩
end Go.Proofs.Ytjiifaeehhpkcaa
/- Numbers in bytes, the lowest first: the program's answer and the document's. -/
namespace Go.Proofs.Ytjiifaeehhpkcaa
open Go.RowKit
set_option linter.unusedVariables false
set_option linter.unusedSimpArgs false

/-- the number that bytes tell -/
def numOf : List Nat → Nat
  | [] => 0
  | b :: bs => b + 256 * numOf bs
theorem numOf_lt (bs : List Nat) (h : ∀ b ∈ bs, b < 256) : numOf bs < 256 ^ bs.length := by
  induction bs with
  | nil => exact Nat.one_pos
  | cons b bs ih =>
    have h1 := ih (fun x hx => h x (by simp [hx]))
    have h2 := h b (by simp)
    simp only [numOf, List.length_cons, Nat.pow_succ]
    omega
theorem numOf_snoc (bs : List Nat) (b : Nat) : numOf (bs ++ [b]) = numOf bs + 256 ^ bs.length * b := by
  induction bs with
  | nil => simp [numOf]
  | cons x bs ih =>
    simp only [List.cons_append, numOf, ih, List.length_cons, Nat.pow_succ]
    rw [Nat.mul_add, ← Nat.mul_assoc, Nat.mul_comm 256 (256 ^ bs.length)]
    omega

/-- a slice of bytes, as naturals -/
def BRow (w : World) (a : Option Addr) (bs : List Nat) : Prop := Row .u8 w a (toI bs) ∧ ∀ b ∈ bs, b < 256
theorem BRow.at {w : World} {a : Option Addr} {bs : List Nat} (h : BRow w a bs) {i : Nat} (hi : i < bs.length) : ∃ b off, a = some ⟨b, off, none⟩ ∧ b < w.heap.size ∧ w.cell? ⟨b, off + i, none⟩ = some (.int .u8 ((bs.getD i 0 : Nat) : Int)) ∧ bs.getD i 0 < 256 := by
  obtain ⟨b, off, e, hc⟩ := h.1 i (by rw [toI_length]; exact hi)
  rw [toI_getD] at hc
  refine ⟨b, off, e, by simpa using World.block_lt_of_cell? w _ hc, hc, ?_⟩
  refine h.2 _ ?_
  simp [List.getD, hi]
theorem BRow.below {w w' : World} {a : Option Addr} {bs : List Nat} (h : BRow w a bs) (hb : Below w.heap.size w w') : BRow w' a bs := ⟨h.1.below hb, h.2⟩

theorem pow256 (k : Nat) (h : k < 8) : (256 : Nat) ^ k = 2 ^ (8 * k) ∧ 8 * k < 64 := ⟨by rw [Nat.pow_mul], by omega⟩
theorem num_take {bs : List Nat} {k : Nat} (hk : k < bs.length) : numOf (bs.take (k + 1)) = numOf (bs.take k) + 256 ^ k * bs.getD k 0 := by
  rw [List.take_succ_eq_append_getElem hk, numOf_snoc, List.length_take, Nat.min_eq_left (by omega), getD_getElem hk]

/-- v | c << 8k -/
theorem or_byte (v c k : Nat) (hk : k < 8) (hv : v < 256 ^ k) (hc : c < 256) : bits .or .u64 (v : Int) (IntKind.u64.wrap ((c : Int) * 2 ^ (8 * k))) = ((v + 256 ^ k * c : Nat) : Int) := by
  obtain ⟨h1, h2⟩ := pow256 k hk
  have hp : 256 ^ k * c < 18446744073709551616 := by
    have : 256 ^ k * c < 256 ^ k * 256 := (Nat.mul_lt_mul_left (by exact Nat.pow_pos (by omega))).2 hc
    have h3 : 256 ^ k * 256 = 256 ^ (k + 1) := (Nat.pow_succ 256 k).symm
    have h4 : 256 ^ (k + 1) ≤ 256 ^ 8 := Nat.pow_le_pow_right (by omega) (by omega)
    have h5 : (256 : Nat) ^ 8 = 18446744073709551616 := by decide
    omega
  have e : (c : Int) * 2 ^ (8 * k) = ((256 ^ k * c : Nat) : Int) := by
    rw [Int.natCast_mul, h1, Int.natCast_pow, Int.mul_comm]
    rfl
  have hw : IntKind.u64.wrap ((c : Int) * 2 ^ (8 * k)) = ((256 ^ k * c : Nat) : Int) := by
    rw [e, IntKind.wrap_u64]
    generalize 256 ^ k * c = z at *
    omega
  have hv2 : v < 18446744073709551616 := by
    have h4 : 256 ^ k ≤ 256 ^ 8 := Nat.pow_le_pow_right (by omega) (by omega)
    have h5 : (256 : Nat) ^ 8 = 18446744073709551616 := by decide
    omega
  rw [hw, u64_or_nat v _ hv2 hp]
  have := Nat.two_pow_add_eq_or_of_lt (i := 8 * k) (by rw [← h1]; exact hv) c
  rw [h1, Nat.or_comm, ← this, Nat.add_comm]








































end Go.Proofs.Ytjiifaeehhpkcaa
/- Layer 2: bytes into a page. -/
namespace Go.Proofs.Ytjiifaeehhpkcaa
open Go.RowKit
set_option linter.unusedVariables false
set_option linter.unusedSimpArgs false

def putA : Array Value → Nat → List Value → Array Value
  | C, _, [] => C
  | C, o, v :: r => putA (C.setIfInBounds o v) (o + 1) r
theorem setCells_row {w : World} {b : Nat} {T : TypeId} : ∀ (vs : List Value) (o : Nat) (C : Array Value), w.heap[b]? = some (.cells C T) → w.setCells b o vs = w.setRow b (putA C o vs)
  | [], o, C, h => by
    show w = w.setRow b C
    exact (setRow_self w b C T (0, 0) h).symm
  | v :: r, o, C, h => by
    show (w.setCell ⟨b, o, none⟩ v).setCells b (o + 1) r = _
    rw [setCell_eq_setRow w b o _ _ _ _ h, setCells_row r (o + 1) (C.setIfInBounds o v) (setRow_heap w b _ _ T (0, 0) h), setRow_setRow]
    rfl
def putB : List Nat → Nat → List Nat → List Nat
  | l, _, [] => l
  | l, o, b :: r => putB (l.set o b) (o + 1) r
theorem putB_length : ∀ (r l : List Nat) (o : Nat), (putB l o r).length = l.length
  | [], l, o => rfl
  | b :: r, l, o => by rw [putB, putB_length r]; simp
theorem putB_get : ∀ (r l : List Nat) (o : Nat), o + r.length ≤ l.length → ∀ j, (putB l o r).getD j 0 = if o ≤ j ∧ j < o + r.length then r.getD (j - o) 0 else l.getD j 0
  | [], l, o, _, j => by
    rw [putB, if_neg (by simp only [List.length_nil]; omega)]
  | b :: r, l, o, h, j => by
    simp only [List.length_cons] at h
    rw [putB, putB_get r (l.set o b) (o + 1) (by simp; omega) j]
    by_cases h1 : o + 1 ≤ j ∧ j < o + 1 + r.length
    · rw [if_pos h1, if_pos (by simp; omega)]
      rw [show j - o = (j - (o + 1)) + 1 by omega]
      simp
    · rw [if_neg h1]
      by_cases h2 : j = o
      · subst h2
        rw [if_pos (by simp)]
        simp [List.getD, show j < l.length by omega]
      · rw [if_neg (by simp; omega)]
        simp [List.getD, List.getElem?_set_ne (fun e => h2 e.symm)]
theorem putB_byte : ∀ (r l : List Nat) (o : Nat), (∀ b ∈ r, b < 256) → (∀ b ∈ l, b < 256) → ∀ b ∈ putB l o r, b < 256
  | [], l, o, _, h => h
  | x :: r, l, o, h1, h2 => putB_byte r (l.set o x) (o + 1) (fun b hb => h1 b (by simp [hb])) (fun b hb => by
      rcases List.mem_or_eq_of_mem_set hb with h | rfl
      · exact h2 b h
      · exact h1 _ (by simp))
def bcells (bs : List Nat) : List Value := bs.map (fun b => Value.int .u8 ((b : Nat) : Int))
theorem put_cells : ∀ (r : List Nat) (p : Pg) (o : Nat), o + r.length ≤ p.bytes.length → putA p.cells.toArray o (bcells r) = (Pg.mk (putB p.bytes o r) p.perm).cells.toArray
  | [], p, o, _ => rfl
  | b :: r, p, o, h => by
    simp only [List.length_cons] at h
    have e : p.cells.toArray.setIfInBounds o (.int .u8 ((b : Nat) : Int)) = (Pg.mk (p.bytes.set o b) p.perm).cells.toArray := by
      unfold Pg.cells
      rw [List.setIfInBounds_toArray, List.set_append_left _ _ (by simp; omega), List.map_set]
    show putA (p.cells.toArray.setIfInBounds o (.int .u8 ((b : Nat) : Int))) (o + 1) (bcells r) = _
    rw [e, put_cells r (Pg.mk (p.bytes.set o b) p.perm) (o + 1) (by simp; omega)]
    rfl
theorem put_ok {p : Pg} (h : p.Ok) (o : Nat) {r : List Nat} (hr : ∀ b ∈ r, b < 256) : (Pg.mk (putB p.bytes o r) p.perm).Ok := ⟨by rw [putB_length]; exact h.len, putB_byte r p.bytes o hr h.byte, h.perm⟩
theorem bcells_one {bs : List Nat} : ∀ v ∈ bcells bs, v.oneCell' = true := by
  intro v hv
  obtain ⟨b, -, rfl⟩ := List.mem_map.1 hv
  rfl
theorem page_cell {w : World} {b : Nat} {p : Pg} (ho : p.Ok) (h : w.heap[b]? = some (.cells p.cells.toArray 85)) {j : Nat} (hj : j < 4096) : w.cell? ⟨b, j, none⟩ = some (.int .u8 ((p.bytes.getD j 0 : Nat) : Int)) := by
  rw [cell_of_row _ _ j _ _ _ h]
  unfold Pg.cells
  rw [List.getElem?_toArray, List.getElem?_append_left (by simp [ho.len]; omega)]
  simp [List.getD, ho.len, hj]


set_option maxRecDepth 100000 in
set_option maxHeartbeats 4000000 in
theorem put_any (pb off : Nat) (p : Pg) (fb fo fl fc : Nat) (bs : List Nat) (k : Nat) (w : World) (hp : w.heap[pb]? = some (.cells p.cells.toArray 85)) (hok : p.Ok) (hoff : off < 4096) (hb : BRow w (some ⟨fb, fo, none⟩) bs) (hl : bs.length = fl) (hk : k = min fl (4096 - off)) :
    Calls Try.prog 60 #[.pointer (some ⟨pb, 0, none⟩), .int .u64 (off : Int), .slice (some ⟨fb, fo, none⟩) fl fc] w fun e w' => e = .returned (.int .i64 (k : Int)) ∧ w' = w.setRow pb (Pg.mk (putB p.bytes off (bs.take k)) p.perm).cells.toArray := by
  have hlen : (bs.take k).length = k := by rw [List.length_take]; omega
  have hin : off + k ≤ 4096 := by omega
  have hcp : ∀ ty, (Builtin.copy_ #[37, 37] ty #[.slice (some ⟨pb, off, none⟩) (4096 - off) (4096 - off), .slice (some ⟨fb, fo, none⟩) fl fc]).run Try.prog w = .ok (.int .i64 (k : Int)) (w.setRow pb (Pg.mk (putB p.bytes off (bs.take k)) p.perm).cells.toArray) := by
    intro ty
    have := run_copy_cells (P := Try.prog) w 37 37 ty 5 pb off (4096 - off) (4096 - off) ⟨fb, fo, none⟩ fl fc (bcells (bs.take k)) Try.underlying37 (by kernel_rfl)
      (by simp only [bcells, List.length_map, hlen]; exact hk)
      (fun j v hj => by
        have hjl : j < k := by
          have := (List.getElem?_eq_some_iff.1 hj).1
          rw [bcells, List.length_map, hlen] at this
          exact this
        have hjb : j < bs.length := by omega
        obtain ⟨b, o, e, -, hc, -⟩ := hb.at hjb
        cases e
        rw [WideShapes.add_plain, hc]
        rw [← hj]
        simp [bcells, List.getElem?_take, hjl, List.getD, hjb])
      (fun j hj => by
        have hjl : j < k := by
          rw [bcells, List.length_map, hlen] at hj
          exact hj
        rw [page_cell hok hp (by omega)]; rfl)
      (fun j hj => frozen_of_row w pb _ _ _ hp) bcells_one
    rw [this, setCells_row _ off _ hp, put_cells _ p off (by rw [hlen, hok.len]; exact hin)]
    simp only [bcells, List.length_map, hlen]
    rfl
  have h1 : (off : Int) ≤ 4096 := by omega
  have h2 : ¬ 4096 = off := by omega
  have h3 : off ≤ 4096 := by omega
  generalize (Pg.mk (putB p.bytes off (bs.take k)) p.perm).cells.toArray = C2 at *
  generalize hD : 4096 - off = d at *
  clear hp hok hb hl hk hlen hin hoff
  go_enter Try.func60, Try.ntmps60
  go_wp2_with fail
  go_ret
  exact ⟨rfl, rfl⟩

end Go.Proofs.Ytjiifaeehhpkcaa
/- Layer 2: a memory's bytes; a page that is written; all bytes of a stretch are there. -/
namespace Go.Proofs.Ytjiifaeehhpkcaa
open Go.RowKit
set_option linter.unusedVariables false
set_option linter.unusedSimpArgs false

/-- the byte at an address; 0 where there is none -/
def byteAt (V : Nat → Option Pg) (x : Nat) : Nat := match V (x / 4096) with
  | some p => p.bytes.getD (x % 4096) 0
  | none => 0
def updV (V : Nat → Option Pg) (k : Nat) (p : Option Pg) : Nat → Option Pg := fun j => if j = k then p else V j
theorem updV_same (V : Nat → Option Pg) (k : Nat) (p : Option Pg) : updV V k p k = p := if_pos rfl
theorem updV_other {V : Nat → Option Pg} {k j : Nat} {p : Option Pg} (h : ¬ j = k) : updV V k p j = V j := if_neg h
/-- the permissions of one memory are those of another one -/
def SamePerm (V V' : Nat → Option Pg) : Prop := ∀ k, (V' k).map Pg.perm = (V k).map Pg.perm
theorem SamePerm.refl (V : Nat → Option Pg) : SamePerm V V := fun _ => rfl
theorem SamePerm.trans {V V' V'' : Nat → Option Pg} (h : SamePerm V V') (h' : SamePerm V' V'') : SamePerm V V'' := fun k => (h' k).trans (h k)
theorem SamePerm.get {V V' : Nat → Option Pg} (h : SamePerm V V') {k : Nat} {p : Pg} (hv : V k = some p) : ∃ p', V' k = some p' ∧ p'.perm = p.perm := by
  have := h k
  rw [hv] at this
  cases h' : V' k with
  | none => rw [h'] at this; cases this
  | some p' => rw [h'] at this; exact ⟨p', rfl, Option.some.inj this⟩
theorem SamePerm.upd {V : Nat → Option Pg} {k : Nat} {p p' : Pg} (hv : V k = some p) (hp : p'.perm = p.perm) : SamePerm V (updV V k (some p')) := fun j => by
  by_cases e : j = k
  · subst e; rw [updV_same, hv]; exact congrArg some hp
  · rw [updV_other e]

/-- a page of a memory is written -/
theorem VmAt.set_page {w : World} {mb : Nat} {S : Nat → Prop} {q c : Nat} {V : Nat → Option Pg} {g : Nat} {F : Nat → Option Nat} (h : VmAt w mb S q c V g F) {k b : Nat} {p p' : Pg} (hf : F k = some b) (hb : w.heap[b]? = some (.cells p.cells.toArray 85)) (ho : p'.Ok) :
    VmAt (w.setRow b p'.cells.toArray) mb S q c (updV V k (some p')) g F := by
  have hbm : mb ≠ b := by
    intro e
    have := h.box
    rw [e, hb] at this
    simp at this
  have hbg : g ≠ b := by
    intro e
    obtain ⟨D, ⟨es, cl, h1, -⟩, -⟩ := h.map
    rw [e, hb] at h1
    cases h1
  have hk : V k ≠ none := by
    intro e
    obtain ⟨-, p0, h1, -⟩ := h.page k b hf
    rw [e] at h1
    cases h1
  refine ⟨(setRow_other _ _ _ _ hbm).trans h.box, h.map.of_block (setRow_other _ _ _ _ hbg), ?_, ?_, h.inj, h.own, ?_, h.quota, h.count⟩
  · intro j bj hj
    obtain ⟨h0, p1, h1, h2, h3⟩ := h.page j bj hj
    refine ⟨h0, ?_⟩
    by_cases e : j = k
    · subst e
      obtain rfl : bj = b := by rw [hf] at hj; exact (Option.some.inj hj).symm
      exact ⟨p', updV_same _ _ _, ho, setRow_heap _ _ _ _ _ (0, 0) hb⟩
    · have hne : bj ≠ b := fun e2 => e (h.inj j k b (e2 ▸ hj) hf)
      exact ⟨p1, (updV_other e).trans h1, h2, (setRow_other _ _ _ _ hne).trans h3⟩
  · intro j hj
    have e : ¬ j = k := fun e => by rw [e, hf] at hj; cases hj
    rw [updV_other e]
    exact h.out j hj
  · intro j hj
    by_cases e : j = k
    · subst e
      exact h.low j hk
    · rw [updV_other e] at hj
      exact h.low j hj

/-- all bytes may be got at: each one's page is there -/
theorem barF_none {V : Nat → Option Pg} {perm : Nat} : ∀ {f a n : Nat}, n < f → barF V perm f a n = none → ∀ i, i < n → ∃ p, V ((a + i) / 4096) = some p ∧ p.perm &&& perm = perm
  | 0, a, n, hf, _, i, hi => by omega
  | f + 1, a, n, hf, h, i, hi => by
    unfold barF at h
    rw [if_neg (by omega)] at h
    cases hv : V (a / 4096) with
    | none => rw [hv] at h; cases h
    | some p =>
      rw [hv] at h
      simp only at h
      by_cases hok : p.perm &&& perm = perm
      · rw [if_pos hok] at h
        by_cases his : i < stepF a n
        · have : (a + i) / 4096 = a / 4096 := by unfold stepF at his; omega
          rw [this]
          exact ⟨p, hv, hok⟩
        · have hs0 : 0 < stepF a n := by unfold stepF; omega
          have hs1 : stepF a n ≤ n := by unfold stepF; omega
          have := barF_none (f := f) (by omega) h (i - stepF a n) (by omega)
          rwa [show a + stepF a n + (i - stepF a n) = a + i by omega] at this
      · rw [if_neg hok] at h
        cases h
theorem barredF_none {V : Nat → Option Pg} {perm a n : Nat} (h : barredF V perm a n = none) {i : Nat} (hi : i < n) : ∃ p, V ((a + i) / 4096) = some p ∧ p.perm &&& perm = perm := barF_none (Nat.lt_succ_self n) h i hi
/-- and back -/
theorem barF_all {V : Nat → Option Pg} {perm : Nat} : ∀ {f a n : Nat}, (∀ i, i < n → ∃ p, V ((a + i) / 4096) = some p ∧ p.perm &&& perm = perm) → barF V perm f a n = none
  | 0, a, n, _ => rfl
  | f + 1, a, n, h => by
    unfold barF
    by_cases hn : n = 0
    · rw [if_pos hn]
    · rw [if_neg hn]
      obtain ⟨p, hv, hok⟩ := h 0 (by omega)
      rw [Nat.add_zero] at hv
      rw [hv]
      show (if p.perm &&& perm = perm then barF V perm f (a + stepF a n) (n - stepF a n) else some a) = none
      rw [if_pos hok]
      refine barF_all (fun i hi => ?_)
      have := h (stepF a n + i) (by omega)
      rwa [← Nat.add_assoc] at this

/-- what is written piece by piece -/
theorem byteAt_put {V V' : Nat → Option Pg} {a d K : Nat} {bs : List Nat} {p : Pg} (hV : ∀ x, byteAt V' x = if a ≤ x ∧ x < a + d then bs.getD (x - a) 0 else byteAt V x) (hv : V' ((a + d) / 4096) = some p) (hp : p.bytes.length = 4096) (hK : K = min (bs.length - d) (4096 - (a + d) % 4096)) :
    ∀ x, byteAt (updV V' ((a + d) / 4096) (some ⟨putB p.bytes ((a + d) % 4096) ((bs.drop d).take K), p.perm⟩)) x = if a ≤ x ∧ x < a + (d + K) then bs.getD (x - a) 0 else byteAt V x := by
  intro x
  have hl : ((bs.drop d).take K).length = K := by rw [List.length_take, List.length_drop]; omega
  unfold byteAt
  by_cases e : x / 4096 = (a + d) / 4096
  · rw [e, updV_same]
    show (putB p.bytes ((a + d) % 4096) ((bs.drop d).take K)).getD (x % 4096) 0 = _
    rw [putB_get _ _ _ (by rw [hl, hp]; omega), hl]
    have h1 := hV x
    unfold byteAt at h1
    rw [e, hv] at h1
    by_cases h2 : (a + d) % 4096 ≤ x % 4096 ∧ x % 4096 < (a + d) % 4096 + K
    · rw [if_pos h2, if_pos (by omega)]
      have h3 : x % 4096 - (a + d) % 4096 = x - a - d := by omega
      have h4 : x - a - d < K := by omega
      rw [h3]
      simp only [List.getD, List.getElem?_take, List.getElem?_drop, if_pos h4]
      rw [show d + (x - a - d) = x - a by omega]
    · rw [if_neg h2]
      refine Eq.trans (b := _) h1 ?_
      by_cases h5 : a ≤ x ∧ x < a + d
      · rw [if_pos h5, if_pos (by omega)]
      · rw [if_neg h5, if_neg (by omega)]
  · rw [updV_other e]
    have h1 := hV x
    unfold byteAt at h1
    rw [h1]
    by_cases h5 : a ≤ x ∧ x < a + d
    · rw [if_pos h5, if_pos (by omega)]
    · rw [if_neg h5, if_neg (by omega)]
end Go.Proofs.Ytjiifaeehhpkcaa
/- Layer 2: bytes into pages: store (Write and Poke). -/
namespace Go.Proofs.Ytjiifaeehhpkcaa
open Go.RowKit
set_option linter.unusedVariables false
set_option linter.unusedSimpArgs false

/-- an error that tells a place -/
def spotV (b : Nat) : Value := .iface 97 (.pointer (some ⟨b, 0, none⟩))
def SpotObj (x code : Nat) : Obj := .cells #[.int .u64 (x : Int), .iface 51 (.int .i64 (code : Int))] 99

set_option maxRecDepth 100000 in
set_option maxHeartbeats 16000000 in
theorem store_bad (mb : Nat) (S : Nat → Prop) (q c : Nat) (V : Nat → Option Pg) (g : Nat) (F : Nat → Option Nat) (a : Nat) (fa : Option Addr) (fl fc perm code x : Nat) (w : World) (h : VmAt w mb S q c V g F) (ha : a < 18446744073709551616) (hl : fl ≤ 140737488355328) (hp : perm < 8) (hbar : barredF V perm a fl = some x) :
    Calls Try.prog 55 #[.pointer (some ⟨mb, 0, none⟩), .int .u64 (a : Int), .slice fa fl fc, .int .i64 (perm : Int), .int .i64 (code : Int)] w fun e w' => e = .returned (spotV w.heap.size) ∧ w' = w.alloc (SpotObj x code) := by
  have HB := barred_any mb S q c V g F a fl perm w h ha (by omega) hp
  rw [hbar] at HB
  simp only [barV] at HB
  have HBR := Lib.hid HB
  have e1 : IntKind.u64.wrap (fl : Int) = (fl : Int) := by rw [IntKind.wrap_u64]; omega
  clear h ha hl hp hbar HB
  go_enter Try.func55, Try.ntmps55
  go_wp2_with (go_at_call 48; refine HBR.out.mono ?_; rintro e w' ⟨rfl, rfl⟩)
  go_ret
  exact ⟨rfl, rfl⟩

set_option maxRecDepth 100000 in
set_option maxHeartbeats 16000000 in
theorem store_good0 (mb : Nat) (S : Nat → Prop) (q c : Nat) (V : Nat → Option Pg) (g : Nat) (F : Nat → Option Nat) (a : Nat) (fa : Option Addr) (fl fc perm code : Nat) (bs : List Nat) (w : World) (h : VmAt w mb S q c V g F) (ha : a < 18446744073709551616) (hb : BRow w fa bs) (hbl : bs.length = fl) (hlc : fl ≤ fc) (hl : fl ≤ 140737488355328) (hp : perm < 8) (hbar : barredF V perm a fl = none)
    (hsrc : 0 < fl → ∀ b o, fa = some ⟨b, o, none⟩ → ¬ S b) :
    Calls Try.prog 55 #[.pointer (some ⟨mb, 0, none⟩), .int .u64 (a : Int), .slice fa fl fc, .int .i64 (perm : Int), .int .i64 (code : Int)] w fun e w' => e = .returned .nilIface ∧ ∃ V', VmAt w' mb S q c V' g F ∧ VKept S w w' ∧ w'.heap.size = w.heap.size ∧ SamePerm V V' ∧ ∀ x, byteAt V' x = if a ≤ x ∧ x < a + fl then bs.getD (x - a) 0 else byteAt V x := by
  have HB := barred_any mb S q c V g F a fl perm w h ha (by omega) hp
  rw [hbar] at HB
  simp only [barV] at HB
  have HBR := Lib.hid HB
  have HALL : Hid (∀ i, i < fl → ∃ p, V ((a + i) / 4096) = some p) := Lib.hid (fun i hi => by
    obtain ⟨p, h1, -⟩ := barredF_none hbar hi
    exact ⟨p, h1⟩)
  have HLOW : Hid (∀ k, V k ≠ none → k < 34359738368) := Lib.hid h.low
  have H := Lib.hid h
  have HBB := Lib.hid hb
  have HBL := Lib.hid hbl
  have HLC := Lib.hid (And.intro hlc hl)
  have HSRC := Lib.hid hsrc
  have e1 : IntKind.u64.wrap (fl : Int) = (fl : Int) := by rw [IntKind.wrap_u64]; omega
  clear h ha hb hlc hl hp hbar hsrc HB
  go_enter Try.func55, Try.ntmps55
  go_wp2_with (go_at_call 48; refine HBR.out.mono ?_; rintro e w' ⟨rfl, rfl⟩)
  clear HBR e1
  go_loopg [13] fl (fun f y wr => ∃ d : Nat, y = .int .i64 (d : Int) ∧ Hid (d ≤ fl ∧ fl - d ≤ f) ∧ ∃ V', Hid (VmAt wr mb S q c V' g F ∧ VKept S w wr ∧ wr.heap.size = w.heap.size ∧ SamePerm V V' ∧ ∀ x, byteAt V' x = if a ≤ x ∧ x < a + d then bs.getD (x - a) 0 else byteAt V x))
  case atStart => exact ⟨0, rfl, Lib.hid ⟨by omega, by omega⟩, V, Lib.hid ⟨H.out, VKept.refl _ _, rfl, SamePerm.refl V, fun x => by rw [if_neg (by omega)]⟩⟩
  case round =>
    clear H
    obtain ⟨d, rfl, HD, V', HV⟩ := hrel
    obtain ⟨hd1, hd2⟩ := HD.out
    by_cases hend : d = fl
    · subst hend
      have HE := Lib.hid HV.out
      clear hd1 hd2 HD HV HALL hbl
      go_wp2_with fail
      go_ret
      exact ⟨rfl, V', HE.out⟩
    · have hdl : d < fl := by omega
      cases gk with
      | zero => omega
      | succ f =>
        obtain ⟨p0, hp0⟩ := HALL.out d hdl
        have hk35 := HLOW.out _ (by rw [hp0]; simp)
        obtain ⟨hVm0, hKp, hsz, hsp, hby⟩ := HV.out
        have hVm : VmAt wr.drew mb S q c V' g F := hVm0.below (Below.refl _ _).drew
        obtain ⟨p, hpv, -⟩ := hsp.get hp0
        obtain ⟨b, hf, hSb, hok, hpb⟩ := hVm.at_page hpv
        obtain ⟨fb, fo, rfl, hfc⟩ := HBB.out.1 d (by rw [toI_length, HBL.out]; exact hdl)
        have hfS := HSRC.out (by omega) fb fo rfl
        have m1 : wr.drew.cell? ⟨mb, 1, none⟩ = some (.map (some g)) := by rw [cell_of_row _ _ 1 _ _ _ hVm.box]; rfl
        have hl0 := hVm.map.look (T := 75) Try.underlying22 Try.underlying75 (page_zero wr.drew) (k := (a + d) / 4096) (by omega)
        rw [hf] at hl0
        have hl : (Instr.lookup 75 (.map (some g)) (.int .u64 (((a + d) / 4096 : Nat) : Int)) false).run Try.prog wr.drew = .ok (.pointer (some ⟨b, 0, none⟩)) wr.drew := hl0
        have hsrow : BRow wr (some ⟨fb, fo + d, none⟩) (bs.drop d) := by
          refine ⟨fun i hi => ?_, fun x hx => HBB.out.2 x (List.mem_of_mem_drop hx)⟩
          rw [toI_length, List.length_drop, HBL.out] at hi
          obtain ⟨b9, o9, e9, hc9⟩ := HBB.out.1 (d + i) (by rw [toI_length, HBL.out]; omega)
          cases e9
          refine ⟨fb, fo + d, rfl, ?_⟩
          have hblk := hKp.block fb (by simpa using World.block_lt_of_cell? w _ hc9) hfS
          rw [World.cell?_of_block (w := w) (a := ⟨fb, fo + d + i, none⟩) hblk, Nat.add_assoc, hc9]
          rw [toI_getD, toI_getD]
          simp [List.getD]
        obtain ⟨K, hK⟩ : ∃ K, K = min (fl - d) (4096 - (a + d) % 4096) := ⟨_, rfl⟩
        have HPUT := Lib.hid (put_any b ((a + d) % 4096) p fb (fo + d) (fl - d) (fc - d) (bs.drop d) K wr.drew hpb hok (by omega) ⟨hsrow.1, hsrow.2⟩ (by rw [List.length_drop, HBL.out]) hK)
        have hok2 := put_ok hok ((a + d) % 4096) (r := (bs.drop d).take K) (fun x hx => hsrow.2 x (List.mem_of_mem_take hx))
        have hby2 := byteAt_put hby hpv hok.len (show K = min (bs.length - d) (4096 - (a + d) % 4096) by rw [HBL.out]; exact hK)
        have hVm2 := hVm.set_page hf hpb hok2
        have m1w : (wr.drew.setRow b (Pg.mk (putB p.bytes ((a + d) % 4096) ((bs.drop d).take K)) p.perm).cells.toArray).cell? ⟨mb, 1, none⟩ = some (.map (some g)) := by rw [cell_of_row _ _ 1 _ _ _ hVm2.box]; rfl
        have hlw0 := hVm2.map.look (T := 75) Try.underlying22 Try.underlying75 (page_zero _) (k := (a + d) / 4096) (by omega)
        rw [hf] at hlw0
        have hlw : (Instr.lookup 75 (.map (some g)) (.int .u64 (((a + d) / 4096 : Nat) : Int)) false).run Try.prog (wr.drew.setRow b (Pg.mk (putB p.bytes ((a + d) % 4096) ((bs.drop d).take K)) p.perm).cells.toArray) = .ok (.pointer (some ⟨b, 0, none⟩)) (wr.drew.setRow b (Pg.mk (putB p.bytes ((a + d) % 4096) ((bs.drop d).take K)) p.perm).cells.toArray) := hlw0
        have HN : Hid (d + K ≤ fl ∧ fl - (d + K) ≤ f ∧ ∃ V2, VmAt (wr.drew.setRow b (Pg.mk (putB p.bytes ((a + d) % 4096) ((bs.drop d).take K)) p.perm).cells.toArray) mb S q c V2 g F ∧ VKept S w (wr.drew.setRow b (Pg.mk (putB p.bytes ((a + d) % 4096) ((bs.drop d).take K)) p.perm).cells.toArray) ∧ (wr.drew.setRow b (Pg.mk (putB p.bytes ((a + d) % 4096) ((bs.drop d).take K)) p.perm).cells.toArray).heap.size = w.heap.size ∧ SamePerm V V2 ∧ ∀ x, byteAt V2 x = if a ≤ x ∧ x < a + (d + K) then bs.getD (x - a) 0 else byteAt V x) :=
          Lib.hid ⟨by omega, by omega, _, hVm2, hKp.trans ⟨rfl, rfl, rfl, by simp, fun k hk hn => setRow_other _ _ _ _ (fun e => hn (e ▸ hSb))⟩ (fun _ _ hs => hs), by simp [hsz], hsp.trans (SamePerm.upd hpv rfl), hby2⟩
        have e2 : IntKind.u64.wrap (d : Int) = (d : Int) := by rw [IntKind.wrap_u64]; have := HLC.out; omega
        have e3 : IntKind.u64.wrap ((a : Int) + (d : Int)) = ((a + d : Nat) : Int) := by rw [IntKind.wrap_u64]; omega
        have e4 : ((a + d : Nat) : Int).tdiv 4096 = (((a + d) / 4096 : Nat) : Int) := by rw [Int.tdiv_eq_ediv_of_nonneg (by omega)]; omega
        have e5 : ((a + d : Nat) : Int).tmod 4096 = (((a + d) % 4096 : Nat) : Int) := by rw [Int.tmod_eq_emod_of_nonneg (by omega)]; omega
        have e6 : IntKind.u64.wrap (((a + d) / 4096 : Nat) : Int) = (((a + d) / 4096 : Nat) : Int) := by rw [IntKind.wrap_u64]; omega
        have e7 : IntKind.u64.wrap (((a + d) % 4096 : Nat) : Int) = (((a + d) % 4096 : Nat) : Int) := by rw [IntKind.wrap_u64]; omega
        have e8 : IntKind.i64.wrap ((d : Int) + (K : Int)) = ((d + K : Nat) : Int) := by rw [IntKind.wrap_i64]; have := HLC.out; omega
        have i1 : (d : Int) < (fl : Int) := by omega
        have i2 : (0 : Int) ≤ (d : Int) := by omega
        have i3 : (d : Int) ≤ (fl : Int) := by omega
        have i4 : d ≤ fl := by omega
        have i5 : ¬ fc = d := by have := HLC.out; omega
        clear hlw0 hVm0 hd1 hd2 HD HV hp0 hk35 hVm hKp hsz hsp hby hpv hf hSb hok hpb hfc hfS hl0 hsrow hK hok2 hby2 hVm2 hend hdl
        generalize wr.drew.setRow b (Pg.mk (putB p.bytes ((a + d) % 4096) ((bs.drop d).take K)) p.perm).cells.toArray = w2 at *
        generalize (a + d) / 4096 = k at *
        generalize (a + d) % 4096 = r at *
        generalize hrl : fl - d = rl at *
        generalize hrc : fc - d = rc at *
        generalize d + K = d2 at *
        generalize a + d = x2 at *
        go_upto_region 7 with fail
        go_region_held3 (fun wx => wx.cell? ⟨mb, 1, none⟩ = some (.map (some g)) ∧ (Instr.lookup 75 (.map (some g)) (.int .u64 (k : Int)) false).run Try.prog wx = .ok (.pointer (some ⟨b, 0, none⟩)) wx) (first | exact ⟨m1, hl⟩ | exact ⟨m1w, hlw⟩) (first | (go_at_call 60; refine HPUT.out.mono ?_; rintro e w6 ⟨rfl, rfl⟩))
        obtain ⟨n1, n2, V2, n3, n4, n5, n6, n7⟩ := HN.out
        clear HN HPUT m1 hl m1w hlw
        go_wp2_with fail
        go_roundg f
        case measure => omega
        case rel => exact ⟨d2, rfl, Lib.hid ⟨n1, n2⟩, V2, Lib.hid ⟨n3, n4, n5, n6, n7⟩⟩
theorem store_good (mb : Nat) (S : Nat → Prop) (q c : Nat) (V : Nat → Option Pg) (g : Nat) (F : Nat → Option Nat) (a : Nat) (fa : Option Addr) (fl fc perm code : Nat) (bs : List Nat) (w : World) (h : VmAt w mb S q c V g F) (ha : a < 18446744073709551616) (hb : BRow w fa bs) (hbl : bs.length = fl) (hlc : fl ≤ fc) (hl : fl ≤ 140737488355328) (hp : perm < 8) (hbar : barredF V perm a fl = none)
    (hsrc : ∀ b o, fa = some ⟨b, o, none⟩ → ¬ S b) :
    Calls Try.prog 55 #[.pointer (some ⟨mb, 0, none⟩), .int .u64 (a : Int), .slice fa fl fc, .int .i64 (perm : Int), .int .i64 (code : Int)] w fun e w' => e = .returned .nilIface ∧ ∃ V', VmAt w' mb S q c V' g F ∧ VKept S w w' ∧ w'.heap.size = w.heap.size ∧ SamePerm V V' ∧ ∀ x, byteAt V' x = if a ≤ x ∧ x < a + fl then bs.getD (x - a) 0 else byteAt V x :=
  store_good0 mb S q c V g F a fa fl fc perm code bs w h ha hb hbl hlc hl hp hbar (fun _ => hsrc)

/-- what Write and Poke do -/
def stored (w : World) (mb : Nat) (S : Nat → Prop) (q c : Nat) (V : Nat → Option Pg) (g : Nat) (F : Nat → Option Nat) (a fl : Nat) (bs : List Nat) (code : Nat) (o : Option Nat) (e : Ending) (w' : World) : Prop :=
  match o with
  | some x => e = .returned (spotV w.heap.size) ∧ w' = w.alloc (SpotObj x code)
  | none => e = .returned .nilIface ∧ ∃ V', VmAt w' mb S q c V' g F ∧ VKept S w w' ∧ w'.heap.size = w.heap.size ∧ SamePerm V V' ∧ ∀ x, byteAt V' x = if a ≤ x ∧ x < a + fl then bs.getD (x - a) 0 else byteAt V x
theorem store_any0 (mb : Nat) (S : Nat → Prop) (q c : Nat) (V : Nat → Option Pg) (g : Nat) (F : Nat → Option Nat) (a : Nat) (fa : Option Addr) (fl fc perm code : Nat) (bs : List Nat) (w : World) (h : VmAt w mb S q c V g F) (ha : a < 18446744073709551616) (hb : BRow w fa bs) (hbl : bs.length = fl) (hlc : fl ≤ fc) (hl : fl ≤ 140737488355328) (hp : perm < 8) (hsrc : 0 < fl → ∀ b o, fa = some ⟨b, o, none⟩ → ¬ S b) :
    Calls Try.prog 55 #[.pointer (some ⟨mb, 0, none⟩), .int .u64 (a : Int), .slice fa fl fc, .int .i64 (perm : Int), .int .i64 (code : Int)] w (stored w mb S q c V g F a fl bs code (barredF V perm a fl)) := by
  cases hbar : barredF V perm a fl with
  | some x => exact store_bad mb S q c V g F a fa fl fc perm code x w h ha hl hp hbar
  | none => exact store_good0 mb S q c V g F a fa fl fc perm code bs w h ha hb hbl hlc hl hp hbar hsrc
theorem store_any (mb : Nat) (S : Nat → Prop) (q c : Nat) (V : Nat → Option Pg) (g : Nat) (F : Nat → Option Nat) (a : Nat) (fa : Option Addr) (fl fc perm code : Nat) (bs : List Nat) (w : World) (h : VmAt w mb S q c V g F) (ha : a < 18446744073709551616) (hb : BRow w fa bs) (hbl : bs.length = fl) (hlc : fl ≤ fc) (hl : fl ≤ 140737488355328) (hp : perm < 8) (hsrc : ∀ b o, fa = some ⟨b, o, none⟩ → ¬ S b) :
    Calls Try.prog 55 #[.pointer (some ⟨mb, 0, none⟩), .int .u64 (a : Int), .slice fa fl fc, .int .i64 (perm : Int), .int .i64 (code : Int)] w (stored w mb S q c V g F a fl bs code (barredF V perm a fl)) :=
  store_any0 mb S q c V g F a fa fl fc perm code bs w h ha hb hbl hlc hl hp (fun _ => hsrc)























end Go.Proofs.Ytjiifaeehhpkcaa
