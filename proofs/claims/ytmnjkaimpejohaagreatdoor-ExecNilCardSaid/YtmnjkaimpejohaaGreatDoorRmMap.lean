/- The document's memory: one page more, behind all others. -/
import Derived.Test.YtmnjkaimpejohaaGreatDoorRmMem
import Derived.Test.YtmnjkaimpejohaaGreatDoorVmPage
import Derived.BigQuiet
import Derived.Laws.CopyOwn
import Derived.Deep.WholeRow
namespace Go.Proofs.YtmnjkaimpejohaaGreatDoor
open Go.RowKit
set_option linter.unusedVariables false
set_option linter.unusedSimpArgs false

def rPgC (a pm : Nat) : Array Value := ([Value.int .u64 (a : Int), Value.int .i64 (pm : Int)] ++ List.replicate 4096 (Value.int .u8 0)).toArray
set_option maxRecDepth 1000000 in
theorem rpage_built (a pm : Nat) : Tryz.prog.built 78 [(0, .int .u64 (a : Int)), (1, .int .i64 (pm : Int))] = some (rPgC a pm) := by kernel_rfl
theorem rpg_new {w : World} {a pm b : Nat} (h : w.heap[b]? = some (.cells (rPgC a pm) 78)) : RPg w (a, b) := by
  refine ⟨_, h, ?_, by simp only [rPgC, List.cons_append, List.nil_append, List.getElem?_toArray, List.getElem?_cons_zero], ⟨pm, by simp only [rPgC, List.cons_append, List.nil_append, List.getElem?_toArray, List.getElem?_cons_zero, List.getElem?_cons_succ]⟩, fun j hj => ⟨0, by omega, ?_⟩⟩
  · simp only [rPgC, List.size_toArray, List.length_append, List.length_replicate, List.length_cons, List.length_nil]
  · simp only [rPgC, List.getElem?_toArray]
    rw [List.getElem?_append_right (by simp only [List.length_cons, List.length_nil]; omega), List.getElem?_replicate, if_pos (by simp only [List.length_cons, List.length_nil]; omega)]
    rfl
def rBadZ : Array Value := #[.int .i64 0, .bool false, .int .u64 0]
theorem rbad_info : (Tryz.prog.info? 47).map (·.size) = some rBadZ.size := by kernel_rfl
theorem rbad_one : rBadZ.all (·.oneCell') = true := by simp [rBadZ, Value.oneCell']
theorem ptrSlice : RowSlice Tryz.prog 64 79 (.pointer none) 1 8 := ⟨Tryz.underlying64, by kernel_rfl, rfl, by decide⟩
/-- append(out, l...), l without rows -/
theorem wpList_rows_none {P : Program} {w : World} {ops : Array Oper} {rest : List Oper} {o : Oper} {a : Act} {Q : Exit → Act → World → Prop} (hgd : o.guard = none) (s x : Operand) {t e : TypeId} {z : Value} {sz bytes : Nat} (F : RowSlice P t e z sz bytes)
    (ho : o.op = .call { callee := .builtin .append, args := #[s, x], argTypes := #[t, t] })
    (B : Nat) (v : Value) (rows : List (List Value)) (n : Nat) (ad : Option Addr) (cap : Nat) (hs : a.eval s = v) (hx : a.eval x = .slice ad 0 cap) (hn0 : rows.length = n) (hnn : ad = none → cap = 0)
    (hown : OwnS w B e sz v rows) (h63 : n ≤ maxLen) (hlen : n * bytes ≤ 140737488355328) (hb : B ≤ w.heap.size)
    (h : ∀ ad' cap' w', OwnS w' B e sz (.slice ad' n cap') rows → w.grownBy w' v.ownBlock → wpList P ops Q rest (a.put o.dst (.slice ad' n cap')) w') : wpList P ops Q (o :: rest) a w := by
  cases ad with
  | none =>
    obtain rfl := hnn rfl
    obtain ⟨ht, hinfo, hz, hsz⟩ := F
    obtain ⟨i, hi, hz0, hz1, hz2⟩ := info_parts hinfo
    refine wpList_append_own_none hgd s x t ho B e i sz ht hi v rows.length rows.flatten hs hown.1 hx ?_
    obtain ⟨ad', cap', hv, -⟩ := hown.row
    subst hv
    subst hn0
    exact h ad' cap' w hown ⟨rfl, rfl, rfl, Nat.le_refl _, fun _ _ _ => rfl⟩
  | some ad =>
    refine wpList_rows hgd s x F ho B w v rows n ad cap 0 [] hs hx hn0 rfl (fun i hi => by simp at hi) (fun r hr => by cases hr) hown (by omega) (by simpa using hlen) (Below.mono (Below.refl _ _) hb) hb ?_
    intro ad' cap' w' h1 _ h3
    rw [List.append_nil] at h1
    exact h ad' cap' w' h1 h3
theorem three_stores {w : World} {b : Nat} {T : TypeId} {u0 u1 u2 : Value} (E : w.heap[b]? = some (.cells #[u0, u1, u2] T)) (v0 v1 v2 : Value) :
    (((w.setCell ⟨b, 0, none⟩ v0).setCell ⟨b, 1, none⟩ v1).setCell ⟨b, 2, none⟩ v2) = w.setRow b #[v0, v1, v2] := by
  have step : ∀ (cs : Array Value) (i : Nat) (v : Value), (w.setRow b cs).setCell ⟨b, i, none⟩ v = w.setRow b (cs.setIfInBounds i v) := fun cs i v => by
    rw [setCell_eq_setRow _ _ _ _ _ _ _ (setRow_heap w b _ cs T (0, 0) E), setRow_setRow]
  rw [setCell_eq_setRow w b 0 _ _ _ _ E, step, step]
  simp only [List.setIfInBounds_toArray, List.set_cons_zero, List.set_cons_succ]
theorem Near.setNewer {bo g : Nat} {a b : World} (h : Near bo a b) (hg : a.heap.size ≤ g) (hb : bo < a.heap.size) (cs : Array Value) : Near bo a (b.setRow g cs) :=
  ⟨below_setRow h.below (by omega) _, fun k h1 h2 => (setRow_other _ _ _ _ (by omega)).trans (h.rest k h1 h2)⟩
theorem VKept.of_near {bo : Nat} {a b : World} (h : Near bo a b) : VKept (fun k => k = bo) a b := ⟨h.below.os, h.below.tape, h.below.output, h.size, fun k hk hn => h.block hk hn⟩
theorem RM.put {w : World} {rb : Nat} {R R' : Nat → Prop} {ad : Option Addr} {n c : Nat} {L : List RP} (h : RM w rb R ad n c L) {ad3 : Option Addr} {m c3 B a pb : Nat}
    (ho : OwnS w B 79 1 (.slice ad3 m c3) ((L.map fun p => [p.v]) ++ [[Value.pointer (some ⟨pb, 0, none⟩)]])) (hp : RPg w (a, pb)) (ha : a < 140737488355328) (hm : L.length + 1 ≤ 8)
    (hs : ∀ k, R k → R' k) (h1 : R' pb) (h2 : ∀ g, B ≤ g → g < w.heap.size → R' g) : RM (w.setCell ⟨rb, 1, none⟩ (.slice ad3 m c3)) rb R' ad3 m c3 (L ++ [(a, pb)]) := by
  have hpg : ∀ p, RPg w p → RPg (w.setCell ⟨rb, 1, none⟩ (.slice ad3 m c3)) p := fun p hx => by
    have hne : p.2 ≠ rb := fun e => by
      obtain ⟨C, h3, -⟩ := hx
      rw [e, h.box] at h3
      simp only [Option.some.injEq, Obj.cells.injEq] at h3
      exact absurd h3.2.1 (by decide)
    exact hx.of (Below.heap_setCell _ _ _ _ hne)
  refine ⟨block_set h.box, ?_, ?_, hs _ h.self, fun g hg => ?_, by simp; omega⟩
  · have := ownS_of_block (w' := w.setCell ⟨rb, 1, none⟩ (.slice ad3 m c3)) ho (fun g hg => Below.heap_setCell _ _ _ _ (fun e => own_off ho.1 h.box (by decide) (by rw [hg]; exact congrArg some e)))
    rw [List.map_append]
    exact this.mono (Nat.zero_le _)
  · intro p hp'
    rcases List.mem_append.1 hp' with h' | h'
    · obtain ⟨q1, q2, q3⟩ := h.page p h'
      exact ⟨q1, hs _ q2, hpg p q3⟩
    · obtain rfl : p = (a, pb) := by simpa using h'
      exact ⟨ha, h1, hpg _ hp⟩
  · have := World.ownsRow.lt ho.1 g hg
    exact h2 g this.1 this.2
set_option maxRecDepth 100000 in
set_option maxHeartbeats 16000000 in
theorem rmap_ok (rb : Nat) (R : Nat → Prop) (ad : Option Addr) (n c : Nat) (L : List RP) (a pm : Nat) (w : World) (h : RM w rb R ad n c L) (hR : ∀ k, R k → k < w.heap.size) (ha : a % 4096 = 0) (h1 : 4096 ≤ a) (h2 : a < 140737488355328) (hp : pm < 8) (hgt : ∀ p ∈ L, p.1 < a) (hn8 : n < 8) :
    Calls Tryz.prog 13 #[.pointer (some ⟨rb, 0, none⟩), .int .u64 (a : Int), .int .i64 1, .int .i64 (pm : Int)] w fun e w' => (∃ v, e = .returned v) ∧ VKept (fun k => k = rb) w w' ∧ ∃ b, w.heap.size ≤ b ∧ ∃ ad' c', RM w' rb (VGrow R w w') ad' (n + 1) c' (L ++ [(a, b)]) := by
  have hn := h.len
  have H : Hid (∀ wx, Below w.heap.size w wx → RM wx rb R ad n c L) := Lib.hid fun wx hb => h.below hb
  have HLT : Hid (rb < w.heap.size ∧ ∀ k, R k → k < w.heap.size) := Lib.hid ⟨h.lt, hR⟩
  have HAS := Lib.hid (fun wx => rasked_ok a pm wx ha h1 h2 hp)
  have HGT : Hid (∀ (k : Nat) (p : RP), L[k]? = some p → p.1 < a) := Lib.hid fun k p hk => hgt p (List.mem_of_getElem? hk)
  have HN : Hid (L.length = n ∧ n < 8) := Lib.hid ⟨hn, hn8⟩
  have HA : Hid (a < 140737488355328) := Lib.hid h2
  have w0 : IntKind.u64.wrap 0 = 0 := by decide
  have w0b : IntKind.u64.wrap (0 * 4096) = 0 := by decide
  have w1 : IntKind.u64.wrap (a : Int) = (a : Int) := by rw [IntKind.wrap_u64]; omega
  have w2 : IntKind.i64.wrap (0 + 1) = 1 := by decide
  have w3 : IntKind.i64.wrap (8 - (n : Int)) = ((8 - n : Nat) : Int) := by rw [IntKind.wrap_i64]; omega
  have t8 : decide (((8 - n : Nat) : Int) < 1) = false := by simp; omega
  have t8' : ¬ ((8 - n : Nat) : Int) < 1 := by omega
  generalize 8 - n = n8 at *
  obtain ⟨PG, hPG⟩ : ∃ PG, rPgC a pm = PG := ⟨_, rfl⟩
  have HBLT : Hid (Tryz.prog.built 78 [(0, .int .u64 (a : Int)), (1, .int .i64 (pm : Int))] = some PG) := Lib.hid (by rw [← hPG]; exact rpage_built a pm)
  have HPG : Hid (rPgC a pm = PG) := Lib.hid hPG
  clear h hR ha h1 h2 hp hgt hn hn8 hPG
  go_enter Tryz.func13, Tryz.ntmps13
  go_wp2_with fail
  refine (HAS.out _).mono ?_
  rintro e w1 ⟨rfl, b1⟩
  go_wp2_with fail
  have BD2 : Hid (Below w.heap.size w (w1.alloc (.cells #[.int .i64 0, .bool false, .int .u64 0] 47))) := Lib.hid (Below.alloc (Below.trans (by go_grown) (b1.mono (by simp))) (by have := b1.size; simp at this; omega) _)
  have Z2 : Hid ((w1.alloc (.cells #[.int .i64 0, .bool false, .int .u64 0] 47)).heap[w.heap.size]? = some (.cells rBadZ 47)) := Lib.hid ((heap_alloc_old _ _ (by have := b1.size; simp at this; omega)).trans ((b1.block _ (by simp)).trans (heap_alloc_new _ _)))
  clear b1
  generalize w1.alloc (.cells #[.int .i64 0, .bool false, .int .u64 0] 47) = w2 at *
  clear HAS
  have HM : Hid (∀ wx, Below w2.heap.size w2 wx → RM wx rb R ad n c L) := Lib.hid fun wx hb => H.out wx (BD2.out.trans (hb.mono BD2.out.size))
  obtain ⟨c0, c1, -⟩ := (HM.out w2 (Below.refl _ _)).cells
  go_loopg [10] n (fun g x wr => ∃ k : Nat, k + g = n ∧ x = .int .i64 (k : Int) ∧ w2 = wr)
  case atStart => exact ⟨0, by omega, rfl, rfl⟩
  case round =>
    obtain ⟨k, hk, rfl, rfl⟩ := hrel
    cases gk with
    | succ f =>
      obtain ⟨p, hpk⟩ : ∃ p, L[k]? = some p := ⟨L[k]'(by have := HN.out.1; omega), by simp⟩
      obtain ⟨⟨b, o, rfl, q0⟩, m0⟩ := (HM.out w2 (Below.refl _ _)).at_ hpk
      have hpa := HGT.out k p hpk
      have e1 : decide ((a : Int) ≤ (p.1 : Int)) = false := by simp; omega
      have e2 : ¬ (a : Int) ≤ (p.1 : Int) := by omega
      have i1 : (k : Int) < (n : Int) := by omega
      have e3 : IntKind.i64.wrap ((k : Int) + 1) = ((k + 1 : Nat) : Int) := by have := HN.out.2; rw [IntKind.wrap_i64]; omega
      have hk2 : k + 1 + f = n := by omega
      obtain ⟨k2, hkk⟩ : ∃ k2, k + 1 = k2 := ⟨_, rfl⟩
      rw [hkk] at e3 hk2
      obtain ⟨⟨pa, pb⟩, hpp⟩ : ∃ q, p = q := ⟨_, rfl⟩
      subst hpp
      simp only [Nat.mul_one] at m0 e1 e2 q0
      clear hpa hpk hkk
      go_wp2_with fail
      go_roundg f
      case measure => omega
      case rel => exact ⟨k2, hk2, rfl, rfl⟩
    | zero =>
      obtain rfl : k = n := by omega
      go_wp2_with fail
      go_quiet (fail)
      go_wp2_with fail
      generalize hwd : w2.drewN _ = wd
      have WLT : Hid (w.heap.size < w2.heap.size) := Lib.hid (lt_of_block Z2.out)
      have BD3 : Hid (Below w2.heap.size w2 wd) := Lib.hid (by rw [← hwd]; exact below_drewN (Below.refl _ _) _)
      clear hwd c0 c1 t8 t8' w3
      go_loopg [11, 12] k (fun g x11 x12 wr => ∃ (j : Nat) (ad' : Option Addr) (c' : Nat), j + g = k ∧ x12 = .int .i64 (j : Int) ∧ x11 = .slice ad' j c' ∧ Hid (OwnS wr w2.heap.size 79 1 (.slice ad' j c') ((L.map fun p => [p.v]).take j) ∧ Below w2.heap.size w2 wr))
      case atStart => exact ⟨0, none, 0, by omega, rfl, rfl, Lib.hid ⟨by rw [List.take_zero]; exact OwnS.nil _ _ _ _, BD3.out⟩⟩
      case round =>
        obtain ⟨j, ad', c', hj, rfl, rfl, HR⟩ := hrel
        cases gk with
        | succ f =>
          obtain ⟨p, hpk⟩ : ∃ p, L[j]? = some p := ⟨L[j]'(by have := HN.out.1; omega), by simp⟩
          have hrm := HM.out wr HR.out.2
          obtain ⟨c0, c1, -⟩ := hrm.cells
          obtain ⟨⟨b, o, rfl, q0⟩, m0⟩ := hrm.at_ hpk
          have hpa := HGT.out j p hpk
          have e1 : decide ((p.1 : Int) < (a : Int)) = true := by simp; omega
          have e2 : (p.1 : Int) < (a : Int) := by omega
          have i1 : (j : Int) < (k : Int) := by omega
          have e3 : IntKind.i64.wrap ((j : Int) + 1) = ((j + 1 : Nat) : Int) := by have := HN.out.2; rw [IntKind.wrap_i64]; omega
          have hj2 : j + 1 + f = k := by omega
          have HST : Hid ((L.map fun p => [p.v]).take (j + 1) = (L.map fun p => [p.v]).take j ++ [[p.v]]) := Lib.hid (by
            have hjl := (List.getElem?_eq_some_iff.1 hpk).1
            rw [List.take_add_one, List.getElem?_map, hpk]
            rfl)
          have HJ : Hid (((L.map fun p => [p.v]).take j).length = j ∧ j < 8) := Lib.hid ⟨by have := HN.out.1; simp; omega, by have := HN.out.2; omega⟩
          obtain ⟨⟨pa, pb⟩, hpp⟩ : ∃ q, p = q := ⟨_, rfl⟩
          subst hpp
          simp only [Nat.mul_one] at m0 e1 e2 q0
          obtain ⟨j2, hjj⟩ : ∃ j2, j + 1 = j2 := ⟨_, rfl⟩
          have hjj2 := Lib.hid hjj
          rw [hjj] at e3 hj2 HST
          clear hpa hpk hjj hrm
          generalize (L.map fun p => [p.v]).take j = rws at *
          go_wp2_with (show wpList _ _ _ ({ dst := some 118, .. } :: _) _ _; refine wpList_grow_row rfl (.tmp 109) (.tmp 117) ptrSlice rfl w2.heap.size _ rws j [.pointer (some ⟨pb, 0, none⟩)] (by rfl) (by rfl) HJ.out.1 rfl (by simp [Value.oneCell']) HR.out.1 (by have := HJ.out.2; unfold maxLen; omega) (by have := HJ.out.2; omega) HR.out.2.size ?_; intro ad2 c2 wq hown hgr; have HQ := Lib.hid (And.intro hown hgr); clear hown hgr; rw [hjj2.out])
          go_roundg f
          case measure => omega
          case rel => exact ⟨j2, ad2, c2, hj2, rfl, rfl, Lib.hid ⟨by rw [HST.out, ← hjj2.out]; exact HQ.out.1, below_keepS (HR.out.2.alloc HR.out.2.size _) HQ.out.2 (HR.out.1.allocO _) (by have := HR.out.2.size; simp; omega)⟩⟩
        | zero =>
          obtain rfl : j = k := by omega
          have HF : Hid ((L.map fun p => [p.v]).take j = L.map fun p => [p.v]) := Lib.hid (List.take_of_length_le (by have := HN.out.1; simp; omega))
          have HOW : Hid (OwnS wr w2.heap.size 79 1 (.slice ad' j c') (L.map fun p => [p.v])) := Lib.hid (by have := HR.out.1; rwa [HF.out] at this)
          have HB : Hid (Below w2.heap.size w2 wr) := Lib.hid HR.out.2
          have hrm := HM.out wr HR.out.2
          obtain ⟨c0, c1, -⟩ := hrm.cells
          clear HR HF hrm hk hj
          go_wp2_with fail
          clear c0 c1
          obtain ⟨m, hm⟩ : ∃ m, j + 1 = m := ⟨_, rfl⟩
          have hmm := Lib.hid hm
          go_loopg [11, 14] 1 (fun g x11 x14 wz => (g = 1 ∧ x14 = .int .i64 0 ∧ x11 = .slice ad' j c' ∧ wr = wz) ∨ (g = 0 ∧ x14 = .int .i64 1 ∧ ∃ (pb : Nat) (ad2 : Option Addr) (c2 : Nat), x11 = .slice ad2 m c2 ∧ Hid (OwnS wz w2.heap.size 79 1 (.slice ad2 m c2) ((L.map fun p => [p.v]) ++ [[.pointer (some ⟨pb, 0, none⟩)]]) ∧ Below w2.heap.size w2 wz ∧ w2.heap.size ≤ pb ∧ pb < wz.heap.size ∧ wz.heap[pb]? = some (.cells PG 78))))
          case atStart => exact .inl ⟨rfl, rfl, rfl, rfl⟩
          case round =>
            rcases hrel with ⟨rfl, rfl, rfl, rfl⟩ | ⟨rfl, rfl, pb, ad2, c2, rfl, HZ⟩
            · have HLn : Hid ((L.map fun p => [p.v]).length = j ∧ j < 8) := Lib.hid ⟨by have := HN.out.1; simpa using this, HN.out.2⟩
              clear hm
              have BA : Hid (Below w2.heap.size w2 (wr.alloc (.cells PG 78))) := Lib.hid (HB.out.alloc HB.out.size _)
              have PA : Hid ((wr.alloc (.cells PG 78)).heap[wr.heap.size]? = some (.cells PG 78)) := Lib.hid (heap_alloc_new _ _)
              have OA : Hid (OwnS (wr.alloc (.cells PG 78)) w2.heap.size 79 1 (.slice ad' j c') (L.map fun p => [p.v])) := Lib.hid (HOW.out.allocO _)
              have SA : Hid (w2.heap.size ≤ wr.heap.size) := Lib.hid HB.out.size
              have NA : Hid ((Value.slice ad' j c').ownBlock ≠ some wr.heap.size) := Lib.hid (HOW.out.notNew (Nat.le_refl _))
              generalize L.map (fun p => [p.v]) = rws at *
              go_wp2_with (first
                | (show wpList _ _ _ ({ dst := some 133, .. } :: _) _ _; refine wpList_plain rfl fun _ hK => wp_buildas 78 _ rfl [(0, .int .u64 (a : Int)), (1, .int .i64 (pm : Int))] PG (by rw [Array.toList_map]; rfl) HBLT.out (hK _ _ ?_))
                | (show wpList _ _ _ ({ dst := some 136, .. } :: _) _ _; refine wpList_grow_row rfl (.tmp 126) (.tmp 135) ptrSlice rfl w2.heap.size _ rws j [.pointer (some ⟨wr.heap.size, 0, none⟩)] (by rfl) (by rw [World.size_alloc]; rfl) HLn.out.1 rfl (by simp [Value.oneCell']) OA.out (by have := HLn.out.2; unfold maxLen; omega) (by have := HLn.out.2; omega) BA.out.size ?_; intro ad2 c2 wq hown hgr; have HQ := Lib.hid (And.intro hown hgr); clear hown hgr; rw [hmm.out]))
              go_roundg 0
              case measure => omega
              case rel => exact .inr ⟨rfl, rfl, wr.heap.size, ad2, c2, rfl, Lib.hid (by
                obtain ⟨q1, q2⟩ := HQ.out
                have hpl := lt_of_block PA.out
                have hps : wr.heap.size < wq.heap.size := by have := q2.size; simp at this; omega
                refine ⟨by rw [← hmm.out]; exact q1, below_keepS (BA.out.alloc BA.out.size _) q2 (OA.out.allocO _) (by have := HB.out.size; simp; omega), SA.out, hps, (q2.block wr.heap.size (by simp; omega) (fun e => NA.out e.symm)).trans ((heap_alloc_old _ _ hpl).trans PA.out)⟩)⟩
            · clear hm HOW HB
              have hrm := HM.out wr HZ.out.2.1
              obtain ⟨c0, c1, f1⟩ := hrm.cells
              have HNN : Hid (ad = none → j = 0 ∧ c = 0) := Lib.hid (fun e => by have := hrm.row.at.2.2.2 e; have h2 := HN.out.1; simp only [List.length_map] at this; omega)
              have HJC : Hid (j ≤ c) := Lib.hid hrm.row.at.2.2.1
              clear hrm
              have HML : Hid (((L.map fun p => [p.v]) ++ [[Value.pointer (some ⟨pb, 0, none⟩)]]).length = m ∧ m ≤ 8) := Lib.hid ⟨by have := HN.out.1; have := hmm.out; simp; omega, by have := HN.out.2; have := hmm.out; omega⟩
              have e0 : (j : Int) ≤ (j : Int) := Int.le_refl _
              have hjc := HJC.out
              have hjc2 : (j : Int) ≤ (c : Int) := by omega
              go_wp2_with (show wpList _ _ _ ({ dst := some 145, .. } :: _) _ _
                           refine wpList_rows_none rfl (.tmp 138) (.tmp 144) ptrSlice rfl w2.heap.size _ ((L.map fun p => [p.v]) ++ [[.pointer (some ⟨pb, 0, none⟩)]]) m (if c = j then ad else Option.map (fun x => x.add j) ad) (c - j) (by rfl) (by simp [Act.eval]) HML.out.1 (fun hh => by
                             by_cases hc : c = j
                             · omega
                             · rw [if_neg hc, Option.map_eq_none_iff] at hh
                               have := HNN.out hh
                               omega) HZ.out.1 (by have := HML.out.2; unfold maxLen; omega) (by have := HML.out.2; omega) HZ.out.2.1.size ?_
                           intro ad3 c3 w3 hown hgr
                           have HW : Hid (OwnS w3 w2.heap.size 79 1 (.slice ad3 m c3) ((L.map fun p => [p.v]) ++ [[Value.pointer (some ⟨pb, 0, none⟩)]]) ∧ Below w2.heap.size w2 w3 ∧ w2.heap.size ≤ pb ∧ w3.heap[pb]? = some (.cells PG 78)) := Lib.hid ⟨hown, below_keepS HZ.out.2.1 hgr HZ.out.1 HZ.out.2.1.size, HZ.out.2.2.1, (hgr.block pb HZ.out.2.2.2.1 (fun e => by
                             have := own_off HZ.out.1.1 HZ.out.2.2.2.2 (by decide)
                             exact this e.symm)).trans HZ.out.2.2.2.2⟩
                           clear hown hgr
                           have Z4 : Hid ((w3.setCell ⟨rb, 1, none⟩ (.slice ad3 m c3)).heap[w.heap.size]? = some (.cells rBadZ 47)) := Lib.hid ((Below.heap_setCell _ _ _ _ (by show w.heap.size ≠ rb; have := HLT.out.1; omega)).trans ((HW.out.2.1.block _ WLT.out).trans Z2.out))
                           have HLW : Hid (m = j + 1) := Lib.hid hmm.out.symm
                           have hz3 := (HW.out.2.1.block _ WLT.out).trans Z2.out
                           have z0 : w3.cell? ⟨w.heap.size, 0, none⟩ = some (.int .i64 0) := by rw [cell_of_row _ _ 0 _ _ _ hz3]; rfl
                           have z1 : w3.cell? ⟨w.heap.size, 1, none⟩ = some (.bool false) := by rw [cell_of_row _ _ 1 _ _ _ hz3]; rfl
                           have z2 : w3.cell? ⟨w.heap.size, 2, none⟩ = some (.int .u64 0) := by rw [cell_of_row _ _ 2 _ _ _ hz3]; rfl
                           have y0 : w3.frozen? ⟨w.heap.size, 0, none⟩ = false := frozen_of_row _ _ _ _ _ hz3
                           have y1 : w3.frozen? ⟨w.heap.size, 1, none⟩ = false := frozen_of_row _ _ _ _ _ hz3
                           have y2 : w3.frozen? ⟨w.heap.size, 2, none⟩ = false := frozen_of_row _ _ _ _ _ hz3
                           clear hz3
                           have hne1 : w.heap.size ≠ rb := by have := HLT.out.1; omega
                           have hne2 : rb ≠ w.heap.size := hne1.symm
                           obtain ⟨d0, d1, g1⟩ := (HM.out w3 HW.out.2.1).cells)

              all_goals
                rw [three_stores Z4.out]
                rw [show (#[.int .i64 0, .bool false, .int .u64 0] : Array Value) = rBadZ from rfl]
                refine bodyPost_ret_by (results_cell_row Tryz.results13 _ _ w.heap.size 47 rBadZ (0, 0) _ rfl (setRow_heap _ _ _ _ _ _ Z4.out) Tryz.underlying47 rfl rbad_info) (by rfl) ?_
                have hnear : Near rb w ((w3.setCell ⟨rb, 1, none⟩ (.slice ad3 m c3)).setRow w.heap.size rBadZ) := (((Near.of (BD2.out.trans (HW.out.2.1.mono BD2.out.size)) HLT.out.1).set _ _).setNewer (Nat.le_refl _) HLT.out.1 _)
                have hq := ((HM.out w3 HW.out.2.1).put (R' := fun k => R k ∨ (w2.heap.size ≤ k ∧ k < w3.heap.size)) (a := a) (pb := pb) HW.out.1 (rpg_new (pm := pm) (by rw [HPG.out]; exact HW.out.2.2.2)) HA.out (by have := HN.out; omega) (fun k hk => .inl hk) (.inr ⟨HW.out.2.2.1, lt_of_block HW.out.2.2.2⟩) (fun g h1 h2 => .inr ⟨h1, h2⟩)).kept (w' := (w3.setCell ⟨rb, 1, none⟩ (.slice ad3 m c3)).setRow w.heap.size rBadZ) (fun k _ hk => setRow_other _ _ _ _ (by
                  have := WLT.out
                  rcases hk with hk | hk
                  · have := HLT.out.2 k hk; omega
                  · omega))
                have hsz : ((w3.setCell ⟨rb, 1, none⟩ (.slice ad3 m c3)).setRow w.heap.size rBadZ).heap.size = w3.heap.size := by simp
                refine ⟨⟨_, rfl⟩, VKept.of_near hnear, pb, by have := WLT.out; have := HW.out.2.2.1; omega, ad3, c3, ?_⟩
                rw [← HLW.out]
                refine hq.mono (fun k hk => ?_)
                rcases hk with hk | hk
                · exact .inl hk
                · exact .inr ⟨by have := WLT.out; omega, by rw [hsz]; exact hk.2⟩
end Go.Proofs.YtmnjkaimpejohaaGreatDoor
