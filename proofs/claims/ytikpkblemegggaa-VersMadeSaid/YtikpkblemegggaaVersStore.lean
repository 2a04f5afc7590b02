/- Layer 8: what a reading function keeps while it goes: its result's place, the reader's box, the bytes it reads. -/
import Derived.Test.YtikpkblemegggaaVersNames
import Derived.Deep.AppendLies
import Derived.Laws.Tables
namespace Go.Proofs.Ytikpkblemegggaa
open Go.RowKit Go.Maps
set_option linter.unusedVariables false
set_option linter.unusedSimpArgs false

theorem four_stores {w : World} {b : Nat} {T : TypeId} {u0 u1 u2 u3 : Value} (E : w.heap[b]? = some (.cells #[u0, u1, u2, u3] T)) (v0 v1 v2 v3 : Value) :
    ((((w.setCell ⟨b, 0, none⟩ v0).setCell ⟨b, 1, none⟩ v1).setCell ⟨b, 2, none⟩ v2).setCell ⟨b, 3, none⟩ v3) = w.setRow b #[v0, v1, v2, v3] := by
  have step : ∀ (cs : Array Value) (i : Nat) (v : Value), (w.setRow b cs).setCell ⟨b, i, none⟩ v = w.setRow b (cs.setIfInBounds i v) := fun cs i v => by
    rw [setCell_eq_setRow _ _ _ _ _ _ _ (setRow_heap w b _ cs T (0, 0) E), setRow_setRow]
  rw [setCell_eq_setRow w b 0 _ _ _ _ E, step, step, step]
  simp only [List.setIfInBounds_toArray, List.set_cons_zero, List.set_cons_succ]
theorem three_stores {w : World} {b : Nat} {T : TypeId} {u0 u1 u2 : Value} (E : w.heap[b]? = some (.cells #[u0, u1, u2] T)) (v0 v1 v2 : Value) :
    (((w.setCell ⟨b, 0, none⟩ v0).setCell ⟨b, 1, none⟩ v1).setCell ⟨b, 2, none⟩ v2) = w.setRow b #[v0, v1, v2] := by
  have step : ∀ (cs : Array Value) (i : Nat) (v : Value), (w.setRow b cs).setCell ⟨b, i, none⟩ v = w.setRow b (cs.setIfInBounds i v) := fun cs i v => by
    rw [setCell_eq_setRow _ _ _ _ _ _ _ (setRow_heap w b _ cs T (0, 0) E), setRow_setRow]
  rw [setCell_eq_setRow w b 0 _ _ _ _ E, step, step]
  simp only [List.setIfInBounds_toArray, List.set_cons_zero, List.set_cons_succ]
theorem two_stores {w : World} {b : Nat} {T : TypeId} {u0 u1 : Value} (E : w.heap[b]? = some (.cells #[u0, u1] T)) (v0 v1 : Value) :
    ((w.setCell ⟨b, 0, none⟩ v0).setCell ⟨b, 1, none⟩ v1) = w.setRow b #[v0, v1] := by
  have step : ∀ (cs : Array Value) (i : Nat) (v : Value), (w.setRow b cs).setCell ⟨b, i, none⟩ v = w.setRow b (cs.setIfInBounds i v) := fun cs i v => by
    rw [setCell_eq_setRow _ _ _ _ _ _ _ (setRow_heap w b _ cs T (0, 0) E), setRow_setRow]
  rw [setCell_eq_setRow w b 0 _ _ _ _ E, step]
  simp only [List.setIfInBounds_toArray, List.set_cons_zero, List.set_cons_succ]

theorem setRow_grown (w : World) (V : Nat) (cs : Array Value) : w.grownBy (w.setRow V cs) (some V) := ⟨rfl, rfl, rfl, by simp, fun i hi hne => setRow_other w V i cs (fun e => hne (by rw [e]))⟩
theorem Kp.setRow {B V : Nat} {a w : World} (h : Kp B a w) (hV : a.heap.size ≤ V) (cs : Array Value) : Kp B a (w.setRow V cs) := h.grown (setRow_grown w V cs) (fun k hk => by simp only [Option.some.injEq] at hk; omega)
theorem MapN.setRow {w : World} {B V : Nat} {told : List Nat} (h : MapN w B told) (hV : B ≠ V) (cs : Array Value) : MapN (w.setRow V cs) B told := h.kept (setRow_grown w V cs) (by simpa using hV)
theorem BRow.kp {w w' : World} {B : Nat} {a : Option Addr} {xs : List Nat} (h : BRow w a xs) (k : Kp B w w') (hm : ∃ es c, w.heap[B]? = some (.map es c)) : BRow w' a xs := by
  obtain ⟨es, c, hB⟩ := hm
  refine ⟨fun i hi => ?_, h.2⟩
  obtain ⟨b, o, e, hc⟩ := h.1 i hi
  refine ⟨b, o, e, k.cell hc (fun e => ?_)⟩
  simp only [Option.some.injEq] at e
  subst e
  exact cell_no_map hB _ hc
theorem block_kp {w w' : World} {B V : Nat} {cs : Array Value} {T : TypeId} (h : w.heap[V]? = some (.cells cs T)) (k : Kp B w w') (hm : ∃ es c, w.heap[B]? = some (.map es c)) : w'.heap[V]? = some (.cells cs T) := by
  obtain ⟨es, c, hB⟩ := hm
  refine (k.block V (lt_of_block h) (fun e => ?_)).trans h
  simp only [Option.some.injEq] at e
  rw [e, hB] at h
  cases h

/-- while a thing is read -/
structure DW (r : RD) (w : World) (V g : Nat) (cs : Array Value) (T : TypeId) (b : List Nat) (told : List Nat) (wx : World) : Prop where
  okw : r.ok w
  kp : Kp r.B w wx
  map : MapN wx r.B told
  box : wx.heap[V]? = some (.cells cs T)
  row : BRow wx (some ⟨g, 0, none⟩) b
  ge : w.heap.size ≤ V
section
variable {r : RD} {w wx wy : World} {V g : Nat} {cs : Array Value} {T : TypeId} {b told told' : List Nat}
theorem DW.ok (h : DW r w V g cs T b told wx) : r.ok wx := h.okw.kept h.kp h.map.isMap
theorem DW.on (h : DW r w V g cs T b told wx) (k : Kp r.B wx wy) (hm : MapN wy r.B told') : DW r w V g cs T b told' wy :=
  ⟨h.okw, h.kp.trans k, hm, block_kp h.box k h.map.isMap, h.row.kp k h.map.isMap, h.ge⟩
theorem DW.below (h : DW r w V g cs T b told wx) (hb : Below wx.heap.size wx wy) : DW r w V g cs T b told wy := h.on (Kp.below hb) (h.map.below hb)
theorem DW.neV (h : DW r w V g cs T b told wx) : r.B ≠ V := fun e => by
  obtain ⟨es, c, hB⟩ := h.map.isMap
  have := h.box
  rw [← e, hB] at this
  cases this
theorem DW.done (h : DW r w V g cs T b told wx) (cs' : Array Value) : MapN (wx.setRow V cs') r.B told ∧ Kp r.B w (wx.setRow V cs') := ⟨h.map.setRow h.neV _, h.kp.setRow h.ge _⟩
end

theorem and_index (n : Nat) (h : n < 65536) : bits .and .u64 (n : Int) 32767 = ((n % 32768 : Nat) : Int) := by
  rw [show (32767 : Int) = ((32767 : Nat) : Int) from rfl, u64_and_nat n _ (by omega) (by omega)]
  congr 1
  exact Nat.and_two_pow_sub_one_eq_mod n 15
theorem numOf_two (b : List Nat) (h : ∀ x ∈ b, x < 256) (o : Nat) : numOf ((b.drop o).take 2) < 65536 := by
  have h1 := numOf_lt ((b.drop o).take 2) (fun x hx => h x (List.mem_of_mem_drop (List.mem_of_mem_take hx)))
  have h2 : (256 : Nat) ^ ((b.drop o).take 2).length ≤ 256 ^ 2 := Nat.pow_le_pow_right (by decide) (by simp; omega)
  omega
theorem numOf_four (b : List Nat) (h : ∀ x ∈ b, x < 256) (o : Nat) : numOf ((b.drop o).take 4) < 4294967296 := by
  have h1 := numOf_lt ((b.drop o).take 4) (fun x hx => h x (List.mem_of_mem_drop (List.mem_of_mem_take hx)))
  have h2 : (256 : Nat) ^ ((b.drop o).take 4).length ≤ 256 ^ 4 := Nat.pow_le_pow_right (by decide) (by simp; omega)
  omega
/-- the numbers of bytes that are read -/
theorem part_any (g : Nat) (b : List Nat) (w : World) (h : BRow w (some ⟨g, 0, none⟩) b) (o n q : Nat) (hn : n ≤ 8) (hl : o + n ≤ b.length) :
    Calls Try.prog 36 #[.slice (some ⟨g, o, none⟩) n q] w fun e w' => e = .returned (.int .u64 ((numOf ((b.drop o).take n) : Nat) : Int)) ∧ w = w' := by
  have h1 := h.cut o n
  simp only [Option.map_some, WideShapes.add_plain, Nat.zero_add] at h1
  have e : ((b.drop o).take n).length = n := by simp; omega
  have := number_any (some ⟨g, o, none⟩) q ((b.drop o).take n) w h1 (by omega)
  rw [e] at this
  refine this.mono ?_
  rintro e w' ⟨h1, h2⟩
  exact ⟨h1, h2⟩

/-- append(nothing, texts...) in a statement whose order is left open -/
theorem step_copy_texts {P : Program} {w : World} {ops : Array Oper} {o : Oper} {a : Act} {K : Act → World → Prop} {Q : Exit → Act → World → Prop} {E : Prop} (hgd : o.guard = none) (s x : Operand) {t e : TypeId} (ht : P.underlying t = some (.slice e)) (hinfo : (P.info? e).map (fun i => (i.zero, i.size, i.bytes)) = some (some (.string .empty), 1, 16))
    (ho : o.op = .call { callee := .builtin .append, args := #[s, x], argTypes := #[t, t] })
    (ad : Addr) (m c : Nat) (T : List ByteArray) (hs : a.eval s = .slice none 0 0) (hx : a.eval x = .slice (some ad) m c) (hl : T.length = m) (hnews : ∀ j t, T[j]? = some t → w.cell? (ad.add j) = some (.string t)) (h63 : m ≤ maxLen) (hlen : m * 16 ≤ 140737488355328)
    (h : ∀ pa pc w', OwnT w' w.heap.size e (.slice pa m pc) T → Below w.heap.size w w' → K (a.put o.dst (.slice pa m pc)) w') :
    if Region.wanted o (yielded ops a.tmps) = true then Oper.wp P o a w K Q else E := by
  subst hl
  obtain ⟨i, hi, hz0, hz1, hz2⟩ := info_parts hinfo
  have hw : Region.wanted o (yielded ops a.tmps) = true := by simp [Region.wanted, hgd]
  rw [if_pos hw]
  refine wp_append_own w s x t ho w.heap.size e i (.string .empty) 1 16 ht hi hz0 hz1 hz2 rfl (by decide) (.slice none 0 0) 0 [] hs (World.ownsRow_nil _ _ _ _) ad T.length c (T.map Value.string) hx (by simp) ?_ (texts_one T) (by omega) (by omega) (Nat.le_refl _) ?_
  · intro j u hj
    rw [List.getElem?_map] at hj
    cases hT : T[j]? with
    | none => rw [hT] at hj; cases hj
    | some t =>
      rw [hT] at hj
      simp only [Option.map_some, Option.some.injEq] at hj
      rw [← hj]
      exact hnews j t hT
  · intro v' w' hown hgr _
    rw [Nat.zero_add, List.nil_append] at hown
    have hO : OwnT w' w.heap.size e v' T := hown
    obtain ⟨pa, pc, rfl⟩ := hO.form
    exact h pa pc w' hO ((Below.refl _ _).grown hgr (Nat.le_refl _) (fun k hk => by cases hk))

theorem sysOf_small (l : List UInt8) : sysOf l < 268435456 := by
  induction l using snocInd with
  | nil => simp [sysOf]
  | snoc l b _ => rw [sysOf_snoc]; exact sysStep_lt _ _
theorem textF_size (s : List Nat) (off : Nat) : (textF s off).1.size ≤ 255 := by
  unfold textF
  split
  · split
    · decide
    · split
      · decide
      · rename_i h1 h2 h3
        have e : (cutOf (toI s) off (Lib.indexByte (Lib.bytesOf ((toI s).drop off)) 0).toNat).length ≤ (Lib.indexByte (Lib.bytesOf ((toI s).drop off)) 0).toNat := by
          simp [cutOf]; omega
        have e2 : (Lib.bytesOf (cutOf (toI s) off (Lib.indexByte (Lib.bytesOf ((toI s).drop off)) 0).toNat)).length = (cutOf (toI s) off (Lib.indexByte (Lib.bytesOf ((toI s).drop off)) 0).toNat).length := by simp [Lib.bytesOf]
        show (ByteArray.size ⟨_⟩) ≤ 255
        have : (ByteArray.size ⟨(Lib.bytesOf (cutOf (toI s) off (Lib.indexByte (Lib.bytesOf ((toI s).drop off)) 0).toNat)).toArray⟩) = (Lib.bytesOf (cutOf (toI s) off (Lib.indexByte (Lib.bytesOf ((toI s).drop off)) 0).toNat)).length := by simp [ByteArray.size]
        omega
  · decide
end Go.Proofs.Ytikpkblemegggaa
