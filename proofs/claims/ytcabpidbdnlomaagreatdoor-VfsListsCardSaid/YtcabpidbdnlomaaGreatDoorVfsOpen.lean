/- Layer 3: the file at a path, of whatever tree and path. -/
import Derived.Test.YtcabpidbdnlomaaGreatDoorVfsFolM
import Derived.Test.YtcabpidbdnlomaaGreatDoorVfsEntry
namespace Go.Proofs.YtcabpidbdnlomaaGreatDoor
open Go.RowKit
set_option linter.unusedVariables false
set_option linter.unusedSimpArgs false

/-- what is shared lies in memory -/
def ShAt (w : World) (F : ByteArray → Option Ent) (S : Shares) : Prop :=
  ∀ k x, F k = some x → x.kind = 0 → ∃ sb ad c, x.sh = some sb ∧ w.heap[sb]? = some (.cells #[.int .i64 (S sb).1, .slice ad (S sb).2.2.length c, .bool (S sb).2.1] 76) ∧ Row .u8 w ad (toI (S sb).2.2) ∧ (S sb).2.2.length ≤ 140737488355328 ∧ (ad = none → (S sb).2.2.length = 0 ∧ c = 0)
theorem ShAt.below {w w' : World} {F : ByteArray → Option Ent} {S : Shares} (h : ShAt w F S) (hb : Below w.heap.size w w') : ShAt w' F S := by
  intro k x hx h0
  obtain ⟨sb, ad, c, h1, h2, h3, h4, h5⟩ := h k x hx h0
  exact ⟨sb, ad, c, h1, (hb.block _ (lt_of_block h2)).trans h2, h3.below hb, h4, h5⟩
/-- bytes.Clone, of whatever slice -/
theorem vclone_own (a : Option Addr) (n cap : Nat) (bs : List Nat) (w : World) (hx : bs.length = n) (h : Row .u8 w a (toI bs)) (hl : n ≤ 140737488355328) (hn : a = none → n = 0 ∧ cap = 0) :
    Calls Tryz.prog 26 #[.slice a n cap] w fun e w' => ∃ ad c, e = .returned (.slice ad n c) ∧ OwnI w' w.heap.size 5 .u8 (.slice ad n c) (toI bs) ∧ Below w.heap.size w w' := by
  subst hx
  have key : ∀ (v : Value) (w' : World), w'.ownsRow w.heap.size 5 1 v bs.length ((toI bs).map (Value.int .u8)) → ∃ ad c, v = .slice ad bs.length c ∧ OwnI w' w.heap.size 5 .u8 (.slice ad bs.length c) (toI bs) := by
    intro v w' ho
    have ho' : OwnI w' w.heap.size 5 .u8 v (toI bs) := by unfold OwnI; rw [toI_length]; exact ho
    obtain ⟨ad, c, hv⟩ := ho'.len_le
    rw [toI_length] at hv
    subst hv
    exact ⟨ad, c, rfl, ho'⟩
  cases a with
  | none =>
    obtain ⟨h0, rfl⟩ := hn rfl
    obtain rfl : bs = [] := List.length_eq_zero_iff.1 h0
    refine (Tryz.bytes_Clone_nil 0 0 w).mono ?_
    rintro e w' ⟨rfl, rfl⟩
    exact ⟨none, 0, rfl, OwnI.nil _ _ _ _, Below.refl _ _⟩
  | some a =>
    have := Tryz.bytes_Clone_at a bs.length cap (toI bs) w (toI_length bs) hl (by
      intro i hi
      obtain ⟨b, off, e, hc⟩ := h i (by rw [toI_length]; exact hi)
      simp only [Option.some.injEq] at e
      subst e
      rw [WideShapes.add_plain]
      exact hc)
    refine this.mono ?_
    rintro e w' ⟨v, rfl, ho, -, hb⟩
    obtain ⟨ad, c, rfl, ho'⟩ := key v w' ho
    exact ⟨ad, c, rfl, ho', hb⟩
theorem below_setRowV {n : Nat} {w w' : World} {g : Nat} {cs : Array Value} (h : Below n w w') (hg : n ≤ g) : Below n w (w'.setRow g cs) :=
  ⟨h.os, h.tape, h.output, by rw [setRow_size]; exact h.size, fun k hk => (setRow_other _ _ _ _ (by omega)).trans (h.block k hk)⟩
theorem results_cell2 {P : Program} {fn : Func} {p q : Tmp} {ty : TypeId} (h : fn.results = #[.cell p ty, .tmp q]) (tmps : Array Value) (w : World) (g : Nat) (t : TypeId) (cs : Array Value) (fr : Nat × Nat) (d : TypeDesc)
    (hp : tmps.getD p undef = .pointer (some ⟨g, 0, none⟩)) (hg : w.heap[g]? = some (.cells cs t fr))
    (hu : P.underlying ty = some d) (hd : (match d with | .struct _ | .array _ _ => true | _ => false) = true) (hi : (P.info? ty).map (·.size) = some cs.size) :
    (results fn tmps).run P w = .ok (.tuple #[.agg cs, tmps.getD q undef]) w := by
  have hp' : tmps[p]?.getD undef = .pointer (some ⟨g, 0, none⟩) := by simpa using hp
  simp [results, h, hp', asAddr, run_loadVar_row w g t ty cs fr d hg hu hd hi]
theorem four_stores {w : World} {b : Nat} {T : TypeId} {u0 u1 u2 u3 : Value} (E : w.heap[b]? = some (.cells #[u0, u1, u2, u3] T)) (v0 v1 v2 v3 : Value) :
    ((((w.setCell ⟨b, 0, none⟩ v0).setCell ⟨b, 1, none⟩ v1).setCell ⟨b, 2, none⟩ v2).setCell ⟨b, 3, none⟩ v3) = w.setRow b #[v0, v1, v2, v3] := by
  have step : ∀ (cs : Array Value) (i : Nat) (v : Value), (w.setRow b cs).setCell ⟨b, i, none⟩ v = w.setRow b (cs.setIfInBounds i v) := fun cs i v => by
    rw [setCell_eq_setRow _ _ _ _ _ _ _ (setRow_heap w b _ cs T (0, 0) E), setRow_setRow]
  rw [setCell_eq_setRow w b 0 _ _ _ _ E, step, step, step]
  simp only [List.setIfInBounds_toArray, List.set_cons_zero, List.set_cons_succ]
theorem four_facts {w : World} {b : Nat} {T : TypeId} {u0 u1 u2 u3 : Value} (E : w.heap[b]? = some (.cells #[u0, u1, u2, u3] T)) (v0 v1 v2 : Value) :
    w.cell? ⟨b, 0, none⟩ = some u0 ∧ w.frozen? ⟨b, 0, none⟩ = false ∧ (w.setCell ⟨b, 0, none⟩ v0).cell? ⟨b, 1, none⟩ = some u1 ∧ (w.setCell ⟨b, 0, none⟩ v0).frozen? ⟨b, 1, none⟩ = false ∧ ((w.setCell ⟨b, 0, none⟩ v0).setCell ⟨b, 1, none⟩ v1).cell? ⟨b, 2, none⟩ = some u2 ∧ ((w.setCell ⟨b, 0, none⟩ v0).setCell ⟨b, 1, none⟩ v1).frozen? ⟨b, 2, none⟩ = false ∧ (((w.setCell ⟨b, 0, none⟩ v0).setCell ⟨b, 1, none⟩ v1).setCell ⟨b, 2, none⟩ v2).cell? ⟨b, 3, none⟩ = some u3 ∧ (((w.setCell ⟨b, 0, none⟩ v0).setCell ⟨b, 1, none⟩ v1).setCell ⟨b, 2, none⟩ v2).frozen? ⟨b, 3, none⟩ = false := by
  have e1 : (w.setCell ⟨b, 0, none⟩ v0).heap[b]? = some (.cells #[v0, u1, u2, u3] T) := by
    rw [setCell_eq_setRow w b 0 _ _ _ _ E]
    exact setRow_heap _ _ _ _ _ _ E
  have e2 : ((w.setCell ⟨b, 0, none⟩ v0).setCell ⟨b, 1, none⟩ v1).heap[b]? = some (.cells #[v0, v1, u2, u3] T) := by
    rw [setCell_eq_setRow _ b 1 _ _ _ _ e1]
    exact setRow_heap _ _ _ _ _ _ e1
  have e3 : (((w.setCell ⟨b, 0, none⟩ v0).setCell ⟨b, 1, none⟩ v1).setCell ⟨b, 2, none⟩ v2).heap[b]? = some (.cells #[v0, v1, v2, u3] T) := by
    rw [setCell_eq_setRow _ b 2 _ _ _ _ e2]
    exact setRow_heap _ _ _ _ _ _ e2
  refine ⟨?_, frozen_of_row _ _ _ _ _ E, ?_, frozen_of_row _ _ _ _ _ e1, ?_, frozen_of_row _ _ _ _ _ e2, ?_, frozen_of_row _ _ _ _ _ e3⟩
  · rw [cell_of_row _ _ 0 _ _ _ E]; rfl
  · rw [cell_of_row _ _ 1 _ _ _ e1]; rfl
  · rw [cell_of_row _ _ 2 _ _ _ e2]; rfl
  · rw [cell_of_row _ _ 3 _ _ _ e3]; rfl
/-- what Open answers -/
def OpenPost (w : World) (e : Ending) (w' : World) : Except Nat (ByteArray × Int × Bool × List Nat) → Prop
  | .error n => e = .returned (.tuple #[.agg #[.string ⟨#[]⟩, .int .i64 0, .slice none 0 0, .bool false], errV (n : Int)])
  | .ok (p, i, su, bs) => ∃ ad c, e = .returned (.tuple #[.agg #[.string p, .int .i64 i, .slice ad bs.length c, .bool su], .nilIface]) ∧ OwnI w' w.heap.size 5 .u8 (.slice ad bs.length c) (toI bs)

set_option maxRecDepth 100000 in
set_option maxHeartbeats 8000000 in
theorem open_err (tb g c : Nat) (F : ByteArray → Option Ent) (path : ByteArray) (w : World) (h : TreeAt w tb g c F) (hF : TreeOk F) (hp : path.size ≤ 140737488355328) (n : Nat) (hn : folF F path = .error n) :
    Calls Tryz.prog 11 #[.pointer (some ⟨tb, 0, none⟩), .string path] w fun e w' => e = .returned (.tuple #[.agg #[.string ⟨#[]⟩, .int .i64 0, .slice none 0 0, .bool false], errV (n : Int)]) ∧ Below w.heap.size w w' := by
  have B1 : Hid (Below w.heap.size w (w.alloc (.cells #[.string ⟨#[]⟩, .int .i64 0, .slice none 0 0, .bool false] 43))) := Lib.hid ((Below.refl _ _).alloc (Nat.le_refl _) _)
  have X1 : Hid ((w.alloc (.cells #[.string ⟨#[]⟩, .int .i64 0, .slice none 0 0, .bool false] 43)).heap[w.heap.size]? = some (.cells #[.string ⟨#[]⟩, .int .i64 0, .slice none 0 0, .bool false] 43)) := Lib.hid (heap_alloc_new _ _)
  have HF : Hid (∀ wx, Below w.heap.size w wx → Calls Tryz.prog 15 #[.pointer (some ⟨tb, 0, none⟩), .string path] wx fun e w' => e = .returned (.tuple #[.string ⟨#[]⟩, errV (n : Int)]) ∧ Below wx.heap.size wx w') := Lib.hid (fun wx hb => by
    have := follow_any tb g c F path wx (h.below hb) hF hp
    rw [hn] at this
    exact this)
  have HI : Hid ((Tryz.prog.info? 43).map (·.size) = some (#[.string ⟨#[]⟩, .int .i64 0, .slice none 0 0, .bool false] : Array Value).size) := Lib.hid (by kernel_rfl)
  have HO : Hid ((#[.string ⟨#[]⟩, .int .i64 0, .slice none 0 0, .bool false] : Array Value).all (·.oneCell') = true) := Lib.hid (by simp [Value.oneCell'])
  have hcs := folF_err hF hn
  obtain ⟨vb, hvb⟩ : ∃ vb, w.heap.size = vb := ⟨_, rfl⟩
  clear h hF hp hn
  rcases hcs with rfl | rfl | rfl | rfl
  all_goals (
    first | rw [errV30] at HF ⊢ | rw [errV16] at HF ⊢ | rw [errV6] at HF ⊢ | rw [errV15] at HF ⊢
    go_enter Tryz.func11, Tryz.ntmps11
    go_wp2_with fail
    refine (HF.out _ B1.out).mono ?_
    rintro e w2 ⟨rfl, hb2⟩
    have B2 := Lib.hid (bstep B1.out hb2)
    have X2 := Lib.hid ((hb2.block _ (lt_of_block X1.out)).trans X1.out)
    clear hb2 B1 X1 HF
    rw [hvb] at X2
    obtain ⟨w8, hw8⟩ : ∃ w8, w2.setRow vb #[.string ⟨#[]⟩, .int .i64 0, .slice none 0 0, .bool false] = w8 := ⟨_, rfl⟩
    have HW8 := Lib.hid hw8
    have Y8 : Hid (w8.heap[vb]? = some (.cells #[.string ⟨#[]⟩, .int .i64 0, .slice none 0 0, .bool false] 43)) := Lib.hid (by rw [← hw8]; exact setRow_heap _ _ _ _ _ _ X2.out)
    have B8 : Hid (Below w.heap.size w w8) := Lib.hid (by rw [← hw8]; exact below_setRowV B2.out (by omega))
    clear hw8
    go_wp2_with (refine wpList_store_row rfl 43 _ _ rfl vb #[.string ⟨#[]⟩, .int .i64 0, .slice none 0 0, .bool false] rfl rfl 43 _ X2.out HI.out rfl HO.out ?_; rw [HW8.out])
    refine bodyPost_ret_by (results_cell2 Tryz.results11 _ _ vb 43 #[.string ⟨#[]⟩, .int .i64 0, .slice none 0 0, .bool false] (0, 0) _ rfl Y8.out Tryz.underlying43 rfl HI.out) (by rfl) ?_
    exact ⟨rfl, B8.out⟩)

set_option maxRecDepth 100000 in
set_option maxHeartbeats 8000000 in
theorem open_dir (tb g c : Nat) (F : ByteArray → Option Ent) (path p : ByteArray) (w : World) (h : TreeAt w tb g c F) (hF : TreeOk F) (hp : path.size ≤ 140737488355328) (hn : folF F path = .ok p) (hps : p.size ≤ 1048576) (hk : ((F p).getD Ent.zero).kind = 1) :
    Calls Tryz.prog 11 #[.pointer (some ⟨tb, 0, none⟩), .string path] w fun e w' => e = .returned (.tuple #[.agg #[.string ⟨#[]⟩, .int .i64 0, .slice none 0 0, .bool false], errV ((16 : Nat) : Int)]) ∧ Below w.heap.size w w' := by
  have B1 : Hid (Below w.heap.size w (w.alloc (.cells #[.string ⟨#[]⟩, .int .i64 0, .slice none 0 0, .bool false] 43))) := Lib.hid ((Below.refl _ _).alloc (Nat.le_refl _) _)
  have X1 : Hid ((w.alloc (.cells #[.string ⟨#[]⟩, .int .i64 0, .slice none 0 0, .bool false] 43)).heap[w.heap.size]? = some (.cells #[.string ⟨#[]⟩, .int .i64 0, .slice none 0 0, .bool false] 43)) := Lib.hid (heap_alloc_new _ _)
  have HF : Hid (∀ wx, Below w.heap.size w wx → Calls Tryz.prog 15 #[.pointer (some ⟨tb, 0, none⟩), .string path] wx fun e w' => e = .returned (.tuple #[.string p, .nilIface]) ∧ Below wx.heap.size wx w') := Lib.hid (fun wx hb => by
    have := follow_any tb g c F path wx (h.below hb) hF hp
    rw [hn] at this
    exact this)
  have HI : Hid ((Tryz.prog.info? 43).map (·.size) = some (#[.string ⟨#[]⟩, .int .i64 0, .slice none 0 0, .bool false] : Array Value).size) := Lib.hid (by kernel_rfl)
  have HO : Hid ((#[.string ⟨#[]⟩, .int .i64 0, .slice none 0 0, .bool false] : Array Value).all (·.oneCell') = true) := Lib.hid (by simp [Value.oneCell'])
  have HT := Lib.hid h
  obtain ⟨vb, hvb⟩ : ∃ vb, w.heap.size = vb := ⟨_, rfl⟩
  obtain ⟨e2, he2⟩ : ∃ e2, (F p).getD Ent.zero = e2 := ⟨_, rfl⟩
  rw [he2] at hk
  have HE2 := Lib.hid he2
  have HIE : Hid ((Tryz.prog.info? 56).map (·.size) = some (#[ptrV e2.sh, .int .i64 e2.kind, .string e2.to] : Array Value).size) := Lib.hid (by kernel_rfl)
  have HOE : Hid ((#[ptrV e2.sh, .int .i64 e2.kind, .string e2.to] : Array Value).all (·.oneCell') = true) := Lib.hid (by obtain ⟨s', k', t'⟩ := e2; cases s' <;> simp [ptrV, Value.oneCell'])
  clear h hF hp hn he2
  go_enter Tryz.func11, Tryz.ntmps11
  go_wp2_with fail
  refine (HF.out _ B1.out).mono ?_
  rintro e w2 ⟨rfl, hb2⟩
  have B2 := Lib.hid (bstep B1.out hb2)
  have X2 := Lib.hid ((hb2.block _ (lt_of_block X1.out)).trans X1.out)
  have T2 := HT.out.below B2.out
  have m0 : w2.cell? ⟨tb, 0, none⟩ = some (.map (some g)) := by
    have := cell_of_row _ _ 0 _ _ _ T2.box
    simpa using this
  have hl2 := T2.map.look (T := 57) (E := 56) Tryz.underlying9 Tryz.underlying57 (ent_zeroV w2) (k := p) (by unfold maxLen; omega)
  rw [HE2.out] at hl2
  unfold Ent.v at hl2
  have HZ : Hid ((w2.alloc (.cells #[.pointer none, .int .i64 0, .string ⟨#[]⟩] 56)).heap[w2.heap.size]? = some (.cells #[.pointer none, .int .i64 0, .string ⟨#[]⟩] 56)) := Lib.hid (heap_alloc_new _ _)
  obtain ⟨w3, hw3⟩ : ∃ w3, (w2.alloc (.cells #[.pointer none, .int .i64 0, .string ⟨#[]⟩] 56)).setRow w2.heap.size #[ptrV e2.sh, .int .i64 e2.kind, .string e2.to] = w3 := ⟨_, rfl⟩
  have HW3 := Lib.hid hw3
  have hx3 : w3.heap[w2.heap.size]? = some (.cells #[ptrV e2.sh, .int .i64 e2.kind, .string e2.to] 56) := by rw [← hw3]; exact setRow_heap _ _ _ _ _ _ HZ.out
  have b3 : Below w2.heap.size w2 w3 := by
    rw [← hw3]
    exact below_setRowV ((Below.refl w2.heap.size w2).alloc (Nat.le_refl _) _) (Nat.le_refl _)
  have B3 := Lib.hid (bstep B2.out b3)
  have d1 : w3.cell? ⟨w2.heap.size, 1, none⟩ = some (.int .i64 1) := by rw [cell_of_row _ _ 1 _ _ _ hx3, ← hk]; rfl
  have X3 := Lib.hid ((b3.block _ (lt_of_block X2.out)).trans X2.out)
  rw [hvb] at X3
  obtain ⟨w8, hw8⟩ : ∃ w8, w3.setRow vb #[.string ⟨#[]⟩, .int .i64 0, .slice none 0 0, .bool false] = w8 := ⟨_, rfl⟩
  have HW8 := Lib.hid hw8
  have Y8 : Hid (w8.heap[vb]? = some (.cells #[.string ⟨#[]⟩, .int .i64 0, .slice none 0 0, .bool false] 43)) := Lib.hid (by rw [← hw8]; exact setRow_heap _ _ _ _ _ _ X3.out)
  have B8 : Hid (Below w.heap.size w w8) := Lib.hid (by rw [← hw8]; exact below_setRowV B3.out (by omega))
  clear hb2 B1 X1 HF hw8 hw3 hx3 b3 T2 hk
  go_wp2_with (first | (refine wpList_store_row rfl 56 _ _ rfl w2.heap.size #[ptrV e2.sh, .int .i64 e2.kind, .string e2.to] rfl rfl 56 _ HZ.out HIE.out rfl HOE.out ?_; rw [HW3.out]) | (refine wpList_store_row rfl 43 _ _ rfl vb #[.string ⟨#[]⟩, .int .i64 0, .slice none 0 0, .bool false] rfl rfl 43 _ X3.out HI.out rfl HO.out ?_; rw [HW8.out]))
  refine bodyPost_ret_by (results_cell2 Tryz.results11 _ _ vb 43 #[.string ⟨#[]⟩, .int .i64 0, .slice none 0 0, .bool false] (0, 0) _ rfl Y8.out Tryz.underlying43 rfl HI.out) (by rfl) ?_
  exact ⟨rfl, B8.out⟩
end Go.Proofs.YtcabpidbdnlomaaGreatDoor
