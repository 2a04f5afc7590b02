/- Layer 2: what is amiss with pages, whatever is mapped. -/
import Derived.Test.YtjiifaeehhpkcaaVm
import Derived.Test.YtjiifaeehhpkcaaVmStore
namespace Go.Proofs.Ytjiifaeehhpkcaa
open Go.RowKit
set_option linter.unusedVariables false
set_option linter.unusedSimpArgs false

def checkF (a : Nat) (n perm : Int) : Nat := if n < 1 ∨ perm < 0 ∨ 7 < perm then 1 else if a % 4096 ≠ 0 then 9 else if a < 4096 ∨ belowF a n.toNat = false then 4 else 0

theorem check_any (a : Nat) (n perm : Int) (w : World) (ha : a < 18446744073709551616) (hn1 : -9223372036854775808 ≤ n) (hn2 : n < 9223372036854775808) : Calls Try.prog 42 #[.int .u64 (a : Int), .int .i64 n, .int .i64 perm] w fun e w' => e = .returned (errV (checkF a n perm : Int)) ∧ w = w' := by
  obtain ⟨C, hC⟩ : ∃ C, checkF a n perm = C := ⟨_, rfl⟩
  rw [hC]
  by_cases h1 : n < 1
  · obtain rfl : C = 1 := by rw [← hC]; unfold checkF; rw [if_pos (by omega)]
    clear hC hn1 hn2
    go_enter Try.func42, Try.ntmps42
    go_wp2_with fail
    go_ret
    exact ⟨rfl, rfl⟩
  · by_cases h2 : perm < 0
    · obtain rfl : C = 1 := by rw [← hC]; unfold checkF; rw [if_pos (by omega)]
      clear hC hn1 hn2
      go_enter Try.func42, Try.ntmps42
      go_wp2_with fail
      go_ret
      exact ⟨rfl, rfl⟩
    · by_cases h3 : 7 < perm
      · obtain rfl : C = 1 := by rw [← hC]; unfold checkF; rw [if_pos (by omega)]
        clear hC hn1 hn2
        go_enter Try.func42, Try.ntmps42
        go_wp2_with fail
        go_ret
        exact ⟨rfl, rfl⟩
      · obtain ⟨m, rfl⟩ : ∃ m : Nat, n = (m : Int) := ⟨n.toNat, by omega⟩
        have hm : m < 18446744073709551616 := by omega
        have e1 : (a : Int).tmod 4096 = ((a % 4096 : Nat) : Int) := by rw [Int.tmod_eq_emod_of_nonneg (by omega)]; omega
        have e2 : IntKind.u64.wrap (m : Int) = (m : Int) := by rw [IntKind.wrap_u64]; omega
        have e3 : IntKind.u64.wrap ((a % 4096 : Nat) : Int) = ((a % 4096 : Nat) : Int) := by rw [IntKind.wrap_u64]; omega
        have HB := Lib.hid (fun (wx : World) => below_any a m wx ha hm)
        by_cases h4 : a % 4096 = 0
        · rw [h4] at e1 e3
          by_cases h5 : a < 4096
          · obtain rfl : C = 4 := by rw [← hC]; unfold checkF; rw [if_neg (by omega), if_neg (fun hx => hx h4), if_pos (.inl h5)]
            have h5i : (a : Int) < 4096 := by omega
            clear hC hn1 hn2 ha h4 e3
            go_enter Try.func42, Try.ntmps42
            go_wp2_with fail
            go_ret
            exact ⟨rfl, rfl⟩
          · obtain ⟨B, hB⟩ : ∃ B, belowF a m = B := ⟨_, rfl⟩
            have hC2 : (if B = false then 4 else 0) = C := by
              rw [← hC]; symm; unfold checkF; rw [if_neg (by omega), if_neg (fun hx => hx h4), Int.toNat_natCast, hB]
              simp [h5]
            rw [hB] at HB
            have h5i : ¬ (a : Int) < 4096 := by omega
            clear hC hn1 hn2 ha h4 hB e3
            cases B with
            | true =>
              obtain rfl : C = 0 := by rw [← hC2]; rfl
              clear hC2
              go_enter Try.func42, Try.ntmps42
              go_wp2_with (go_at_call 41; refine (HB.out _).mono ?_; rintro e w' ⟨rfl, rfl⟩)
              go_ret
              exact ⟨rfl, rfl⟩
            | false =>
              obtain rfl : C = 4 := by rw [← hC2]; rfl
              clear hC2
              go_enter Try.func42, Try.ntmps42
              go_wp2_with (go_at_call 41; refine (HB.out _).mono ?_; rintro e w' ⟨rfl, rfl⟩)
              go_ret
              exact ⟨rfl, rfl⟩
        · obtain rfl : C = 9 := by rw [← hC]; unfold checkF; rw [if_neg (by omega), if_pos h4]
          have h4i : ¬ ((a % 4096 : Nat) : Int) = 0 := by omega
          generalize a % 4096 = r at *
          clear hC hn1 hn2 ha
          go_enter Try.func42, Try.ntmps42
          go_wp2_with fail
          go_ret
          exact ⟨rfl, rfl⟩
end Go.Proofs.Ytjiifaeehhpkcaa
/- Layer 2: pages that must be mapped: checkMapped, Protect. -/
namespace Go.Proofs.Ytjiifaeehhpkcaa
open Go.RowKit
set_option linter.unusedVariables false
set_option linter.unusedSimpArgs false

section
variable (mb : Nat) (S : Nat → Prop) (q c : Nat) (V : Nat → Option Pg) (g : Nat) (F : Nat → Option Nat) (a : Nat) (w : World)

theorem cm_bad (m perm : Int) (ha : a < 18446744073709551616) (h1 : -9223372036854775808 ≤ m) (h2 : m < 9223372036854775808) (hc : checkF a m perm ≠ 0) :
    Calls Try.prog 47 #[.pointer (some ⟨mb, 0, none⟩), .int .u64 (a : Int), .int .i64 m, .int .i64 perm] w fun e w' => e = .returned (errV (checkF a m perm : Int)) ∧ w = w' := by
  have hcx := check_any a m perm w ha h1 h2
  obtain ⟨C, hC⟩ : ∃ C, checkF a m perm = C := ⟨_, rfl⟩
  rw [hC] at hc hcx ⊢
  have he : errV (C : Int) = .iface 51 (.int .i64 (C : Int)) := by unfold errV; rw [if_neg (by omega)]
  rw [he] at hcx ⊢
  have HC := Lib.hid hcx
  clear hcx hC h1 h2 ha hc he
  go_enter Try.func47, Try.ntmps47
  go_wp2_with (go_at_call 42; refine HC.out.mono ?_; rintro e w' ⟨rfl, rfl⟩)
  go_ret
  exact ⟨rfl, rfl⟩

theorem cm_ok (n perm : Nat) (h : VmAt w mb S q c V g F) (ha : a < 18446744073709551616) (hn : n ≤ 34359738368) (hc : checkF a n perm = 0) (hbar : barredF V 0 a (n * 4096) = none) :
    Calls Try.prog 47 #[.pointer (some ⟨mb, 0, none⟩), .int .u64 (a : Int), .int .i64 (n : Int), .int .i64 (perm : Int)] w fun e w' => e = .returned .nilIface ∧ w = w' := by
  have hcx := check_any a (n : Int) (perm : Int) w ha (by omega) (by omega)
  rw [hc] at hcx
  replace hcx : Calls Try.prog 42 #[.int .u64 (a : Int), .int .i64 (n : Int), .int .i64 (perm : Int)] w fun e w' => e = .returned .nilIface ∧ w = w' := hcx
  have HC := Lib.hid hcx
  have HB := barred_any mb S q c V g F a (n * 4096) 0 w h ha (by omega) (by omega)
  rw [hbar] at HB
  simp only [barV] at HB
  have HBR := Lib.hid HB
  have e1 : IntKind.u64.wrap (n : Int) = (n : Int) := by rw [IntKind.wrap_u64]; omega
  have e2 : IntKind.u64.wrap ((n : Int) * 4096) = ((n * 4096 : Nat) : Int) := by rw [IntKind.wrap_u64]; omega
  clear hcx HB h ha hn hc hbar
  generalize n * 4096 = n4 at *
  go_enter Try.func47, Try.ntmps47
  go_wp2_with (first | (go_at_call 42; refine HC.out.mono ?_; rintro e w' ⟨rfl, rfl⟩) | (go_at_call 48; refine HBR.out.mono ?_; rintro e w' ⟨rfl, rfl⟩))
  go_ret
  exact ⟨rfl, rfl⟩

theorem cm_off (n perm x : Nat) (h : VmAt w mb S q c V g F) (ha : a < 18446744073709551616) (hn : n ≤ 34359738368) (hc : checkF a n perm = 0) (hbar : barredF V 0 a (n * 4096) = some x) :
    Calls Try.prog 47 #[.pointer (some ⟨mb, 0, none⟩), .int .u64 (a : Int), .int .i64 (n : Int), .int .i64 (perm : Int)] w fun e w' => e = .returned (spotV w.heap.size) ∧ w' = w.alloc (SpotObj x 6) := by
  have hcx := check_any a (n : Int) (perm : Int) w ha (by omega) (by omega)
  rw [hc] at hcx
  replace hcx : Calls Try.prog 42 #[.int .u64 (a : Int), .int .i64 (n : Int), .int .i64 (perm : Int)] w fun e w' => e = .returned .nilIface ∧ w = w' := hcx
  have HC := Lib.hid hcx
  have HB := barred_any mb S q c V g F a (n * 4096) 0 w h ha (by omega) (by omega)
  rw [hbar] at HB
  simp only [barV] at HB
  have HBR := Lib.hid HB
  have e1 : IntKind.u64.wrap (n : Int) = (n : Int) := by rw [IntKind.wrap_u64]; omega
  have e2 : IntKind.u64.wrap ((n : Int) * 4096) = ((n * 4096 : Nat) : Int) := by rw [IntKind.wrap_u64]; omega
  clear hcx HB h ha hn hc hbar
  generalize n * 4096 = n4 at *
  go_enter Try.func47, Try.ntmps47
  go_wp2_with (first | (go_at_call 42; refine HC.out.mono ?_; rintro e w' ⟨rfl, rfl⟩) | (go_at_call 48; refine HBR.out.mono ?_; rintro e w' ⟨rfl, rfl⟩))
  go_ret
  exact ⟨rfl, rfl⟩
end

theorem checkF_ok2 {a : Nat} {n perm : Nat} (h : checkF a n perm = 0) : 1 ≤ n ∧ perm ≤ 7 ∧ a % 4096 = 0 ∧ 4096 ≤ a ∧ a / 4096 + n ≤ 34359738368 ∧ True := by
  unfold checkF at h
  by_cases h1 : (n : Int) < 1 ∨ (perm : Int) < 0 ∨ 7 < (perm : Int)
  · rw [if_pos h1] at h; cases h
  · rw [if_neg h1] at h
    by_cases h2 : a % 4096 ≠ 0
    · rw [if_pos h2] at h; cases h
    · rw [if_neg h2] at h
      by_cases h3 : a < 4096 ∨ belowF a (n : Int).toNat = false
      · rw [if_pos h3] at h; cases h
      · rw [Int.toNat_natCast] at h3
        have h4 : belowF a n = true := by
          cases hb : belowF a n with
          | true => rfl
          | false => exact absurd (.inr hb) h3
        unfold belowF at h4
        have h5 := of_decide_eq_true h4
        refine ⟨by omega, by omega, by omega, by omega, by omega, trivial⟩

/-- pages with another permission -/
def protV (V : Nat → Option Pg) (k m perm : Nat) : Nat → Option Pg := fun j => if k ≤ j ∧ j < k + m then (V j).map (fun p => ⟨p.bytes, perm⟩) else V j
theorem protV_zero (V : Nat → Option Pg) (k perm : Nat) : protV V k 0 perm = V := by
  funext j
  unfold protV
  rw [if_neg (by omega)]
theorem protV_off {V : Nat → Option Pg} {k m perm j : Nat} (h : ¬ (k ≤ j ∧ j < k + m)) : protV V k m perm j = V j := if_neg h
theorem protV_succ {V : Nat → Option Pg} {k m perm : Nat} {p : Pg} (hv : V (k + m) = some p) : protV V k (m + 1) perm = updV (protV V k m perm) (k + m) (some ⟨p.bytes, perm⟩) := by
  funext j
  unfold protV updV
  by_cases e : j = k + m
  · subst e
    rw [if_pos (by omega), if_pos rfl, hv]
    rfl
  · rw [if_neg e]
    by_cases h : k ≤ j ∧ j < k + m
    · rw [if_pos (by omega)]
      exact (if_pos h).symm
    · rw [if_neg (by omega)]
      exact (if_neg h).symm
theorem perm_cells (p : Pg) (hl : p.bytes.length = 4096) (perm : Nat) : p.cells.toArray.setIfInBounds 4096 (.int .i64 (perm : Int)) = (Pg.mk p.bytes perm).cells.toArray := by
  unfold Pg.cells
  rw [List.setIfInBounds_toArray, List.set_append_right _ _ (by rw [List.length_map, hl]; omega), List.length_map, hl]
  rfl

set_option maxRecDepth 100000 in
set_option maxHeartbeats 8000000 in
theorem protect_ok (mb : Nat) (S : Nat → Prop) (q c : Nat) (V : Nat → Option Pg) (g : Nat) (F : Nat → Option Nat) (a m perm : Nat) (w : World) (h : VmAt w mb S q c V g F) (ha : a < 18446744073709551616) (hn : m ≤ 34359738368) (hc : checkF a m perm = 0) (hbar : barredF V 0 a (m * 4096) = none) :
    Calls Try.prog 27 #[.pointer (some ⟨mb, 0, none⟩), .int .u64 (a : Int), .int .i64 (m : Int), .int .i64 (perm : Int)] w fun e w' => e = .returned .nilIface ∧ VKept S w w' ∧ VmAt w' mb S q c (protV V (a / 4096) m perm) g F := by
  obtain ⟨c1, c2, c3, c4, c5, c6⟩ := checkF_ok2 hc
  have HCM := Lib.hid (cm_ok mb S q c V g F a w m perm h ha hn hc hbar)
  have HALL : Hid (∀ j, j < m → ∃ p, V (a / 4096 + j) = some p) := Lib.hid (fun j hj => by
    obtain ⟨p, h1, -⟩ := barredF_none hbar (i := j * 4096) (by omega)
    refine ⟨p, ?_⟩
    rw [show (a + j * 4096) / 4096 = a / 4096 + j by omega] at h1
    exact h1)
  have H := Lib.hid h
  have HQ : Hid (m ≤ 34359738368 ∧ a / 4096 < 4503599627370496 ∧ perm < 8) := Lib.hid (by omega)
  have e1 : IntKind.u64.wrap (m : Int) = (m : Int) := by rw [IntKind.wrap_u64]; omega
  have e2 : (a : Int) / 4096 = ((a / 4096 : Nat) : Int) := by omega
  have e3 : (a : Int).tdiv 4096 = ((a / 4096 : Nat) : Int) := by rw [Int.tdiv_eq_ediv_of_nonneg (by omega)]; omega
  clear h ha hn hc hbar c1 c2 c3 c4 c5 c6
  generalize a / 4096 = k at *
  go_enter Try.func27, Try.ntmps27
  go_wp2_with (go_at_call 47; refine HCM.out.mono ?_; rintro e w' ⟨rfl, rfl⟩)
  clear HCM
  go_loopg [10, 21] m (fun f x y wr => ∃ j : Nat, y = .int .u64 (j : Int) ∧ Hid (j + f = m) ∧ Hid (VKept S w wr ∧ VmAt wr mb S q c (protV V k j perm) g F))
  case atStart => exact ⟨0, rfl, Lib.hid (by omega), Lib.hid ⟨VKept.refl _ _, by rw [protV_zero]; exact H.out⟩⟩
  case round =>
    clear H
    obtain ⟨j, rfl, HJ, HR⟩ := hrel
    have hjm := HJ.out
    cases gk with
    | zero =>
      obtain rfl : j = m := by omega
      clear hjm HJ
      go_wp2_with fail
      go_ret
      exact ⟨rfl, HR.out⟩
    | succ f =>
      have hjl : (j : Int) < (m : Int) := by omega
      obtain ⟨r1, r2⟩ := HR.out
      have hq9 := HQ.out
      obtain ⟨p, hp⟩ := HALL.out j (by omega)
      have hpj : protV V k j perm (k + j) = some p := by rw [protV_off (by omega)]; exact hp
      obtain ⟨b, hf, hSb, hok, hpb⟩ := r2.at_page hpj
      have m1 : wr.cell? ⟨mb, 1, none⟩ = some (.map (some g)) := by rw [cell_of_row _ _ 1 _ _ _ r2.box]; rfl
      have hl0 := r2.map.look (T := 75) Try.underlying22 Try.underlying75 (page_zero wr) (k := k + j) (by omega)
      rw [hf] at hl0
      have hl : (Instr.lookup 75 (.map (some g)) (.int .u64 ((k + j : Nat) : Int)) false).run Try.prog wr = .ok (.pointer (some ⟨b, 0, none⟩)) wr := hl0
      have hpc : wr.cell? ⟨b, 4096, none⟩ = some (.int .i64 (p.perm : Int)) := page_perm hok hpb
      have hfr : wr.frozen? ⟨b, 4096, none⟩ = false := frozen_of_row _ _ _ _ _ hpb
      have hset := setCell_eq_setRow wr b 4096 _ _ _ (.int .i64 (perm : Int)) hpb
      rw [perm_cells p hok.len perm] at hset
      have hnew := r2.set_page (p' := ⟨p.bytes, perm⟩) hf hpb ⟨hok.len, hok.byte, hq9.2.2⟩
      rw [← hset] at hnew
      have HN : Hid (VKept S w (wr.setCell ⟨b, 4096, none⟩ (.int .i64 (perm : Int))) ∧ VmAt (wr.setCell ⟨b, 4096, none⟩ (.int .i64 (perm : Int))) mb S q c (protV V k (j + 1) perm) g F) := Lib.hid (by
        rw [protV_succ hp]
        refine ⟨r1.trans (S' := S) ?_ (fun _ _ hs => hs), hnew⟩
        exact ⟨rfl, rfl, rfl, by simp [World.setCell], fun i hi hn => heap_setCell_other _ _ _ _ (fun e => hn (e ▸ hSb))⟩)
      have e7 : IntKind.u64.wrap ((k : Int) + (j : Int)) = ((k + j : Nat) : Int) := by rw [IntKind.wrap_u64]; omega
      have e9 : IntKind.u64.wrap (k : Int) = (k : Int) := by rw [IntKind.wrap_u64]; omega
      have HJ2 : Hid ((j + 1) + f = m) := Lib.hid (by omega)
      have e8 : IntKind.u64.wrap ((j : Int) + 1) = ((j + 1 : Nat) : Int) := by rw [IntKind.wrap_u64]; omega
      clear r1 r2 hq9 hp hpj hf hSb hok hpb hl0 hset hnew hjm HJ HR
      generalize k + j = kj at *
      obtain ⟨j2, hj2⟩ : ∃ j2, j + 1 = j2 := ⟨_, rfl⟩
      rw [hj2] at HN HJ2 e8
      clear hj2
      go_wp2_with fail
      go_roundg f
      case measure => omega
      case rel => exact ⟨j2, rfl, HJ2, HN⟩
end Go.Proofs.Ytjiifaeehhpkcaa
/- Layer 2: a page that is new. -/
namespace Go.Proofs.Ytjiifaeehhpkcaa
open Go.RowKit
set_option linter.unusedVariables false
set_option linter.unusedSimpArgs false

theorem wp_buildas {P : Program} {o : Oper} {a : Act} {w : World} {K : Act → World → Prop} {Q : Exit → Act → World → Prop} (t : TypeId) (parts : Array (Nat × Operand)) (ho : o.op = .build t parts)
    (vals : List (Nat × Value)) (cells : Array Value) (hv : (parts.map fun (i, x) => (i, a.eval x)).toList = vals) (hb : P.built t vals = some cells) (h : K (a.put o.dst (.agg cells)) w) : o.wp P a w K Q := by
  subst hv
  exact wp_build t parts ho (by rw [hb]; rfl) (by rw [hb]; exact h)

/-- a new page -/
def newPg (perm : Nat) : Pg := ⟨List.replicate 4096 0, perm⟩
theorem newPg_ok {perm : Nat} (h : perm < 8) : (newPg perm).Ok := ⟨List.length_replicate, fun b hb => by
  obtain rfl := (List.mem_replicate.1 hb).2
  omega, h⟩
set_option maxRecDepth 1000000 in
theorem page_built (perm : Nat) : Try.prog.built 85 [(1, .int .i64 (perm : Int))] = some (newPg perm).cells.toArray := by kernel_rfl
theorem page_cells (perm : Nat) : (Value.agg (newPg perm).cells.toArray).cells = (newPg perm).cells.toArray := rfl

/-- a page more: its block is laid, and told to the map -/
theorem VmAt.add_page {w w2 : World} {mb : Nat} {S : Nat → Prop} {q c : Nat} {V : Nat → Option Pg} {g : Nat} {F : Nat → Option Nat} (h : VmAt w mb S q c V g F) {k : Nat} {p : Pg} (hk : V k = none) (hlow : k < 34359738368) (hc : c < q) (ho : p.Ok)
    (hm : PM w2 Try.prog 22 g (upd F k (some w.heap.size)) (c + 1)) (ht : (w.alloc (.cells p.cells.toArray 85)).mapTurned w2 g) :
    VmAt w2 mb (fun b => S b ∨ b = w.heap.size) q (c + 1) (updV V k (some p)) g (upd F k (some w.heap.size)) := by
  have hg := ht.grown
  have hmb : mb < w.heap.size := h.lt
  have hfk := h.at_none hk
  have old : ∀ b, b < w.heap.size → b ≠ g → w2.heap[b]? = w.heap[b]? := fun b hb hne => (hg.block b (by simp; omega) (by simpa using hne)).trans (heap_alloc_old _ _ hb)
  have hbg : mb ≠ g := by
    intro e
    obtain ⟨D, ⟨es, cl, h1, -⟩, -⟩ := h.map
    rw [← e, h.box] at h1
    cases h1
  have hnew : w2.heap[w.heap.size]? = some (.cells p.cells.toArray 85) := (hg.block _ (by simp) (by have := h.map.lt; simp; omega)).trans (heap_alloc_new _ _)
  refine ⟨(old mb hmb hbg).trans h.box, hm, ?_, ?_, ?_, .inl h.own, ?_, h.quota, by omega⟩
  · intro j b hj
    by_cases e : j = k
    · subst e
      rw [upd_same] at hj
      obtain rfl := Option.some.inj hj
      exact ⟨.inr rfl, p, updV_same _ _ _, ho, hnew⟩
    · rw [upd_other e] at hj
      obtain ⟨h0, p1, h1, h2, h3⟩ := h.page j b hj
      have hblt : b < w.heap.size := (Array.getElem?_eq_some_iff.1 h3).1
      have hne : b ≠ g := by
        intro e2
        obtain ⟨D, ⟨es, cl, h4, -⟩, -⟩ := h.map
        rw [← e2, h3] at h4
        cases h4
      exact ⟨.inl h0, p1, (updV_other e).trans h1, h2, (old b hblt hne).trans h3⟩
  · intro j hj
    by_cases e : j = k
    · subst e; rw [upd_same] at hj; cases hj
    · rw [upd_other e] at hj; rw [updV_other e]; exact h.out j hj
  · intro j j' b hj hj'
    by_cases e : j = k
    · by_cases e' : j' = k
      · rw [e, e']
      · subst e
        rw [upd_same] at hj
        obtain rfl := Option.some.inj hj
        rw [upd_other e'] at hj'
        obtain ⟨-, p1, -, -, h3⟩ := h.page j' _ hj'
        have : w.heap.size < w.heap.size := (Array.getElem?_eq_some_iff.1 h3).1
        omega
    · by_cases e' : j' = k
      · subst e'
        rw [upd_same] at hj'
        obtain rfl := Option.some.inj hj'
        rw [upd_other e] at hj
        obtain ⟨-, p1, -, -, h3⟩ := h.page j _ hj
        have : w.heap.size < w.heap.size := (Array.getElem?_eq_some_iff.1 h3).1
        omega
      · rw [upd_other e] at hj
        rw [upd_other e'] at hj'
        exact h.inj j j' b hj hj'
  · intro j hj
    by_cases e : j = k
    · subst e; exact hlow
    · rw [updV_other e] at hj; exact h.low j hj
end Go.Proofs.Ytjiifaeehhpkcaa
/- Layer 2: pages are taken away. -/
namespace Go.Proofs.Ytjiifaeehhpkcaa
open Go.RowKit
set_option linter.unusedVariables false
set_option linter.unusedSimpArgs false

/-- a page less -/
theorem VmAt.drop_page {w w2 : World} {mb : Nat} {S : Nat → Prop} {q c c' : Nat} {V : Nat → Option Pg} {g : Nat} {F : Nat → Option Nat} (h : VmAt w mb S q c V g F) {k : Nat} (hc : c = c' + 1)
    (hm : PM w2 Try.prog 22 g (upd F k none) c') (ht : w.mapTurned w2 g) : VmAt w2 mb S q c' (updV V k none) g (upd F k none) := by
  have hg := ht.grown
  have hcq := h.count
  have old : ∀ b, b < w.heap.size → b ≠ g → w2.heap[b]? = w.heap[b]? := fun b hb hne => hg.block b hb (by simpa using hne)
  have hbg : mb ≠ g := by
    intro e
    obtain ⟨D, ⟨es, cl, h1, -⟩, -⟩ := h.map
    rw [← e, h.box] at h1
    cases h1
  refine ⟨(old mb h.lt hbg).trans h.box, hm, ?_, ?_, ?_, h.own, ?_, h.quota, by omega⟩
  · intro j b hj
    by_cases e : j = k
    · subst e; rw [upd_same] at hj; cases hj
    · rw [upd_other e] at hj
      obtain ⟨h0, p1, h1, h2, h3⟩ := h.page j b hj
      have hblt : b < w.heap.size := (Array.getElem?_eq_some_iff.1 h3).1
      have hne : b ≠ g := by
        intro e2
        obtain ⟨D, ⟨es, cl, h4, -⟩, -⟩ := h.map
        rw [← e2, h3] at h4
        cases h4
      exact ⟨h0, p1, (updV_other e).trans h1, h2, (old b hblt hne).trans h3⟩
  · intro j hj
    by_cases e : j = k
    · subst e; exact updV_same _ _ _
    · rw [upd_other e] at hj; rw [updV_other e]; exact h.out j hj
  · intro j j' b hj hj'
    by_cases e : j = k
    · subst e; rw [upd_same] at hj; cases hj
    · by_cases e' : j' = k
      · subst e'; rw [upd_same] at hj'; cases hj'
      · rw [upd_other e] at hj
        rw [upd_other e'] at hj'
        exact h.inj j j' b hj hj'
  · intro j hj
    by_cases e : j = k
    · subst e; rw [updV_same] at hj; exact absurd rfl hj
    · rw [updV_other e] at hj; exact h.low j hj

/-- pages away -/
def freeV (V : Nat → Option Pg) (k m : Nat) : Nat → Option Pg := fun j => if k ≤ j ∧ j < k + m then none else V j
theorem freeV_zero (V : Nat → Option Pg) (k : Nat) : freeV V k 0 = V := by
  funext j
  unfold freeV
  rw [if_neg (by omega)]
theorem freeV_off {V : Nat → Option Pg} {k m j : Nat} (h : ¬ (k ≤ j ∧ j < k + m)) : freeV V k m j = V j := if_neg h
theorem freeV_succ (V : Nat → Option Pg) (k m : Nat) : freeV V k (m + 1) = updV (freeV V k m) (k + m) none := by
  funext j
  unfold freeV updV
  by_cases e : j = k + m
  · rw [if_pos (by omega), if_pos e]
  · rw [if_neg e]
    by_cases h : k ≤ j ∧ j < k + m
    · rw [if_pos (by omega)]
      exact (if_pos h).symm
    · rw [if_neg (by omega)]
      exact (if_neg h).symm

set_option maxRecDepth 100000 in
set_option maxHeartbeats 8000000 in
theorem unmap_ok (mb : Nat) (S : Nat → Prop) (q c : Nat) (V : Nat → Option Pg) (g : Nat) (F : Nat → Option Nat) (a m : Nat) (w : World) (h : VmAt w mb S q c V g F) (ha : a < 18446744073709551616) (hn : m ≤ 34359738368) (hc : checkF a m 0 = 0) (hbar : barredF V 0 a (m * 4096) = none) :
    Calls Try.prog 26 #[.pointer (some ⟨mb, 0, none⟩), .int .u64 (a : Int), .int .i64 (m : Int)] w fun e w' => e = .returned .nilIface ∧ VKept S w w' ∧ ∃ c' F', c = c' + m ∧ VmAt w' mb S q c' (freeV V (a / 4096) m) g F' := by
  obtain ⟨c1, c2, c3, c4, c5, c6⟩ := checkF_ok2 (perm := 0) hc
  have HCM : Hid (Calls Try.prog 47 #[.pointer (some ⟨mb, 0, none⟩), .int .u64 (a : Int), .int .i64 (m : Int), .int .i64 0] w fun e w' => e = .returned .nilIface ∧ w = w') := Lib.hid (cm_ok mb S q c V g F a w m 0 h ha hn hc hbar)
  have HALL : Hid (∀ j, j < m → ∃ p, V (a / 4096 + j) = some p) := Lib.hid (fun j hj => by
    obtain ⟨p, h1, -⟩ := barredF_none hbar (i := j * 4096) (by omega)
    refine ⟨p, ?_⟩
    rw [show (a + j * 4096) / 4096 = a / 4096 + j by omega] at h1
    exact h1)
  have H := Lib.hid h
  have HQ : Hid (m ≤ 34359738368 ∧ a / 4096 < 4503599627370496) := Lib.hid (by omega)
  have e1 : IntKind.u64.wrap (m : Int) = (m : Int) := by rw [IntKind.wrap_u64]; omega
  have e2 : (a : Int) / 4096 = ((a / 4096 : Nat) : Int) := by omega
  have e3 : (a : Int).tdiv 4096 = ((a / 4096 : Nat) : Int) := by rw [Int.tdiv_eq_ediv_of_nonneg (by omega)]; omega
  clear h ha hn hc hbar c1 c2 c3 c4 c5 c6
  generalize a / 4096 = k at *
  go_enter Try.func26, Try.ntmps26
  go_wp2_with (go_at_call 47; refine HCM.out.mono ?_; rintro e w' ⟨rfl, rfl⟩)
  clear HCM
  go_loopg [8, 18] m (fun f x y wr => ∃ j : Nat, y = .int .u64 (j : Int) ∧ Hid (j + f = m) ∧ Hid (VKept S w wr ∧ ∃ c' F', c = c' + j ∧ VmAt wr mb S q c' (freeV V k j) g F'))
  case atStart => exact ⟨0, rfl, Lib.hid (by omega), Lib.hid ⟨VKept.refl _ _, c, F, rfl, by rw [freeV_zero]; exact H.out⟩⟩
  case round =>
    clear H
    obtain ⟨j, rfl, HJ, HR⟩ := hrel
    have hjm := HJ.out
    cases gk with
    | zero =>
      obtain rfl : j = m := by omega
      clear hjm HJ
      go_wp2_with fail
      go_ret
      exact ⟨rfl, HR.out⟩
    | succ f =>
      have hjl : (j : Int) < (m : Int) := by omega
      obtain ⟨r1, c', F', hcc, r2⟩ := HR.out
      have hq9 := HQ.out
      obtain ⟨p, hp⟩ := HALL.out j (by omega)
      have hpj : freeV V k j (k + j) = some p := by rw [freeV_off (by omega)]; exact hp
      obtain ⟨b, hf, hSb, hok, hpb⟩ := r2.at_page hpj
      have m1 : wr.cell? ⟨mb, 1, none⟩ = some (.map (some g)) := by rw [cell_of_row _ _ 1 _ _ _ r2.box]; rfl
      obtain ⟨w2, c2, hc2, hrun0, hpm, hturn⟩ := r2.map.drop (T := 75) (E := 81) Try.underlying22 Try.underlying75 (k := k + j) (by omega) (by rw [hf]; exact fun e => by cases e) 0
      have hnew := r2.drop_page hc2 hpm hturn
      have hgr := hturn.grown
      have hrun : ∀ ty, (Builtin.delete_ #[75, 22] ty #[.map (some g), .int .u64 ((k + j : Nat) : Int)]).run Try.prog wr = .ok (.tuple #[]) w2 := fun ty => hrun0
      have HN : Hid (VKept S w w2 ∧ ∃ c' F', c = c' + (j + 1) ∧ VmAt w2 mb S q c' (freeV V k (j + 1)) g F') := Lib.hid (by
        rw [freeV_succ]
        refine ⟨r1.trans (S' := S) ?_ (fun _ _ hs => hs), c2, _, by omega, hnew⟩
        exact ⟨hgr.os, hgr.tape, hgr.output, hgr.size, fun i hi hn => hgr.block i hi (fun e => by obtain rfl := Option.some.inj e; exact hn r2.own)⟩)
      have e7 : IntKind.u64.wrap ((k : Int) + (j : Int)) = ((k + j : Nat) : Int) := by rw [IntKind.wrap_u64]; omega
      have e9 : IntKind.u64.wrap (k : Int) = (k : Int) := by rw [IntKind.wrap_u64]; omega
      have HJ2 : Hid ((j + 1) + f = m) := Lib.hid (by omega)
      have e8 : IntKind.u64.wrap ((j : Int) + 1) = ((j + 1 : Nat) : Int) := by rw [IntKind.wrap_u64]; omega
      clear r1 r2 hq9 hp hpj hf hSb hok hpb hpm hturn hnew hgr hrun0 hcc hc2 hjm HJ HR
      generalize k + j = kj at *
      obtain ⟨j2, hj2⟩ : ∃ j2, j + 1 = j2 := ⟨_, rfl⟩
      rw [hj2] at HN HJ2 e8
      clear hj2
      go_wp2_with fail
      go_roundg f
      case measure => omega
      case rel => exact ⟨j2, rfl, HJ2, HN⟩
end Go.Proofs.Ytjiifaeehhpkcaa
/- Layer 2: Protect and Unmap, whatever they are asked. -/
namespace Go.Proofs.Ytjiifaeehhpkcaa
open Go.RowKit
set_option linter.unusedVariables false
set_option linter.unusedSimpArgs false

section
variable (mb : Nat) (S : Nat → Prop) (q c : Nat) (V : Nat → Option Pg) (g : Nat) (F : Nat → Option Nat) (a : Nat) (w : World)

theorem protect_bad (m perm : Int) (ha : a < 18446744073709551616) (h1 : -9223372036854775808 ≤ m) (h2 : m < 9223372036854775808) (hc : checkF a m perm ≠ 0) :
    Calls Try.prog 27 #[.pointer (some ⟨mb, 0, none⟩), .int .u64 (a : Int), .int .i64 m, .int .i64 perm] w fun e w' => e = .returned (errV (checkF a m perm : Int)) ∧ w = w' := by
  have hcx := cm_bad mb a w m perm ha h1 h2 hc
  obtain ⟨C, hC⟩ : ∃ C, checkF a m perm = C := ⟨_, rfl⟩
  rw [hC] at hc hcx ⊢
  have he : errV (C : Int) = .iface 51 (.int .i64 (C : Int)) := by unfold errV; rw [if_neg (by omega)]
  rw [he] at hcx ⊢
  have HC := Lib.hid hcx
  clear hcx hC h1 h2 ha hc he
  go_enter Try.func27, Try.ntmps27
  go_wp2_with (go_at_call 47; refine HC.out.mono ?_; rintro e w' ⟨rfl, rfl⟩)
  go_ret
  exact ⟨rfl, rfl⟩
theorem unmap_bad (m : Int) (ha : a < 18446744073709551616) (h1 : -9223372036854775808 ≤ m) (h2 : m < 9223372036854775808) (hc : checkF a m 0 ≠ 0) :
    Calls Try.prog 26 #[.pointer (some ⟨mb, 0, none⟩), .int .u64 (a : Int), .int .i64 m] w fun e w' => e = .returned (errV (checkF a m 0 : Int)) ∧ w = w' := by
  have hcx := cm_bad mb a w m 0 ha h1 h2 hc
  obtain ⟨C, hC⟩ : ∃ C, checkF a m 0 = C := ⟨_, rfl⟩
  rw [hC] at hc hcx ⊢
  have he : errV (C : Int) = .iface 51 (.int .i64 (C : Int)) := by unfold errV; rw [if_neg (by omega)]
  rw [he] at hcx ⊢
  have HC := Lib.hid hcx
  clear hcx hC h1 h2 ha hc he
  go_enter Try.func26, Try.ntmps26
  go_wp2_with (go_at_call 47; refine HC.out.mono ?_; rintro e w' ⟨rfl, rfl⟩)
  go_ret
  exact ⟨rfl, rfl⟩
theorem protect_off (n perm x : Nat) (h : VmAt w mb S q c V g F) (ha : a < 18446744073709551616) (hn : n ≤ 34359738368) (hc : checkF a n perm = 0) (hbar : barredF V 0 a (n * 4096) = some x) :
    Calls Try.prog 27 #[.pointer (some ⟨mb, 0, none⟩), .int .u64 (a : Int), .int .i64 (n : Int), .int .i64 (perm : Int)] w fun e w' => e = .returned (spotV w.heap.size) ∧ w' = w.alloc (SpotObj x 6) := by
  have hcx := cm_off mb S q c V g F a w n perm x h ha hn hc hbar
  unfold spotV at hcx ⊢
  have HC := Lib.hid hcx
  clear hcx h ha hn hc hbar
  go_enter Try.func27, Try.ntmps27
  go_wp2_with (go_at_call 47; refine HC.out.mono ?_; rintro e w' ⟨rfl, rfl⟩)
  go_ret
  exact ⟨rfl, rfl⟩
theorem unmap_off (n x : Nat) (h : VmAt w mb S q c V g F) (ha : a < 18446744073709551616) (hn : n ≤ 34359738368) (hc : checkF a n 0 = 0) (hbar : barredF V 0 a (n * 4096) = some x) :
    Calls Try.prog 26 #[.pointer (some ⟨mb, 0, none⟩), .int .u64 (a : Int), .int .i64 (n : Int)] w fun e w' => e = .returned (spotV w.heap.size) ∧ w' = w.alloc (SpotObj x 6) := by
  have hcx : Calls Try.prog 47 #[.pointer (some ⟨mb, 0, none⟩), .int .u64 (a : Int), .int .i64 (n : Int), .int .i64 0] w fun e w' => e = .returned (spotV w.heap.size) ∧ w' = w.alloc (SpotObj x 6) := cm_off mb S q c V g F a w n 0 x h ha hn hc hbar
  unfold spotV at hcx ⊢
  have HC := Lib.hid hcx
  clear hcx h ha hn hc hbar
  go_enter Try.func26, Try.ntmps26
  go_wp2_with (go_at_call 47; refine HC.out.mono ?_; rintro e w' ⟨rfl, rfl⟩)
  go_ret
  exact ⟨rfl, rfl⟩
end
end Go.Proofs.Ytjiifaeehhpkcaa
