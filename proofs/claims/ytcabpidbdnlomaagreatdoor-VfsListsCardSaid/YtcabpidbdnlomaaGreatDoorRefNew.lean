/- Layer 3, the document's answer: the tree of whatever nodes. -/
import Derived.Test.YtcabpidbdnlomaaGreatDoorRefLay
import Derived.Test.YtcabpidbdnlomaaGreatDoorKit1
import Derived.Laws.AppendOwnNone
namespace Go.Proofs.YtcabpidbdnlomaaGreatDoor
open Go.RowKit
set_option linter.unusedVariables false
set_option linter.unusedSimpArgs false

/-- append(nothing, b...): an own copy of whatever slice of numbers -/
theorem wpList_copy_none {P : Program} {w : World} {ops : Array Oper} {rest : List Oper} {o : Oper} {a : Act} {Q : Exit → Act → World → Prop} (hgd : o.guard = none) (s x : Operand) (t : TypeId)
    (ho : o.op = .call { callee := .builtin .append, args := #[s, x], argTypes := #[t, t] })
    (e : TypeId) (i : TypeInfo) (z : Value) (bytes : Nat) (ht : P.underlying t = some (.slice e)) (hi : P.info? e = some i) (hz : i.zero = some z)
    (hsize : i.size = 1) (hby : i.bytes = bytes) (hzs : z.cells.size = 1)
    (k : IntKind) (ad : Option Addr) (len cap : Nat) (xs : List Int) (hs : a.eval s = .slice none 0 0) (hx : a.eval x = .slice ad len cap) (hlen : len = xs.length) (hrow : Row k w ad xs) (hn : ad = none → xs.length = 0 ∧ cap = 0)
    (h63 : xs.length ≤ maxLen) (hbytes : xs.length * bytes ≤ 140737488355328)
    (h : ∀ ad' c' w', OwnI w' w.heap.size e k (.slice ad' len c') xs → Below w.heap.size w w' → wpList P ops Q rest (a.put o.dst (.slice ad' len c')) w') : wpList P ops Q (o :: rest) a w := by
  subst hlen
  cases ad with
  | none =>
    obtain ⟨h0, rfl⟩ := hn rfl
    obtain rfl : xs = [] := List.length_eq_zero_iff.1 h0
    refine wpList_append_own_none hgd s x t ho w.heap.size e i 1 ht hi (.slice none 0 0) 0 [] hs (World.ownsRow_nil _ _ _ _) hx ?_
    exact h _ _ _ (OwnI.nil _ _ _ _) (Below.refl _ _)
  | some ad =>
    refine wpList_append_own w hgd s x t ho w.heap.size e i z 1 bytes ht hi hz hsize hby hzs (by decide) (.slice none 0 0) 0 [] hs (World.ownsRow_nil _ _ _ _) ad xs.length cap (xs.map (Value.int k)) hx (by simp) ?_ (by
        intro u hu
        obtain ⟨x, -, rfl⟩ := List.mem_map.1 hu
        rfl) (by omega) (by rw [Nat.zero_add]; exact hbytes) (Nat.le_refl _) ?_
    · intro j u hj
      have hl : j < xs.length := by
        have := (List.getElem?_eq_some_iff.1 hj).1
        simpa using this
      obtain ⟨b', o', e', hc⟩ := hrow j hl
      simp only [Option.some.injEq] at e'
      subst e'
      rw [WideShapes.add_plain, hc]
      rw [List.getElem?_map, List.getElem?_eq_getElem hl] at hj
      simp only [Option.map_some, Option.some.injEq] at hj
      rw [← hj]
      simp [List.getD, hl]
    · intro v' w' hown hgr _
      rw [Nat.zero_add, List.nil_append] at hown
      have ho' : OwnI w' w.heap.size e k v' xs := hown
      obtain ⟨ad', c', hv⟩ := ho'.len_le
      subst hv
      exact h ad' c' w' ho' ((Below.refl _ _).grown hgr (Nat.le_refl _) (fun k hk => by cases hk))

theorem nodeRow : RowSlice Tryz.prog 22 49 (.agg #[.string .empty, .int .i64 0, .slice none 0 0, .string .empty, .bool false]) 5 72 := ⟨Tryz.underlying22, by kernel_rfl, rfl, by decide⟩
/-- two nodes but for where their bytes lie -/
structure Alike (m n : Nd) : Prop where
  path : m.path = n.path
  kind : m.kind = n.kind
  tgt : m.tgt = n.tgt
  su : m.su = n.su
  dn : m.dn = n.dn
/-- where the laying stands -/
structure RSt (w0 : World) (tb : Nat) (L : List Nd) (D : Nat → List Nat) (k : Nat) (L' : List Nd) (ad : Option Addr) (c : Nat) (wr : World) : Prop where
  box : InBox wr tb (.slice ad k c) 68
  own : OwnS wr w0.heap.size 49 5 (.slice ad k c) (L'.map fun n => n.cells.toList)
  len : L'.length = k
  alike : ∀ i, (h : i < L'.length) → (h2 : i < L.length) → Alike L'[i] L[i]
  data : ∀ i, (h : i < L'.length) → OwnI wr w0.heap.size 5 .u8 (.slice L'[i].da L'[i].dn L'[i].dc) (toI (D i))
  hard : HardOk L'
  laid : ∀ i, (h : i < L'.length) → (h2 : i < L.length) → layR (L'.take i) L[i] = 0
  blw : Below w0.heap.size w0 wr
theorem RSt.ref {w0 : World} {tb : Nat} {L : List Nd} {D : Nat → List Nat} {k : Nat} {L' : List Nd} {ad : Option Addr} {c : Nat} {wr : World} (h : RSt w0 tb L D k L' ad c wr) (hk : k ≤ 1024) : RefAt wr tb ad c L' := by
  refine ⟨by have := h.box; rw [h.len]; exact this, ?_, by rw [h.len]; exact hk⟩
  obtain ⟨h1, h2, h3, h4⟩ := h.own.at
  intro i hi
  obtain ⟨b, o, e, hb, hc⟩ := h2 i (by rw [List.length_map]; exact hi)
  refine ⟨b, o, e, hb, fun j hj => ?_⟩
  rw [hc j hj]
  simp
theorem idxR_append {L : List Nd} {n : Nd} {p : ByteArray} (h : idxR L p < L.length) : idxR (L ++ [n]) p = idxR L p := by
  unfold idxR at *
  rw [List.findIdx_append, if_pos h]
theorem HardOk.snoc {L : List Nd} {n : Nd} (h : HardOk L) (hn : n.kind = 3 → idxR L n.tgt < L.length) : HardOk (L ++ [n]) := by
  intro i hi h3
  rw [List.length_append] at hi
  by_cases hl : i < L.length
  · rw [List.getElem_append_left hl] at h3 ⊢
    have := h i hl h3
    rw [idxR_append (by omega)]
    exact this
  · have hi' : i = L.length := by simp at hi; omega
    subst hi'
    rw [List.getElem_append_right (Nat.le_refl _)] at h3 ⊢
    simp only [Nat.sub_self, List.getElem_cons_zero] at h3 ⊢
    have := hn h3
    rw [idxR_append this]
    exact this
theorem layR_hard {L : List Nd} {n : Nd} (h : layR L n = 0) (h3 : n.kind = 3) : idxR L n.tgt < L.length := by
  unfold layR at h
  split at h
  · omega
  · split at h
    · omega
    · split at h
      · omega
      · split at h
        · omega
        · split at h
          · omega
          · rw [if_neg (by omega)] at h
            split at h
            · omega
            · rename_i hf
              exact (findR_lt (by omega)).1

/-- what the document's New answers -/
def RNewPost (L : List Nd) (D : Nat → List Nat) (w : World) (e : Ending) (w' : World) : Prop :=
  (∃ tb ad c L', e = .returned (.tuple #[.pointer (some ⟨tb, 0, none⟩), .int .i64 0, .int .i64 0]) ∧ RSt w tb L D L.length L' ad c w') ∨
  (∃ tb ad c L' wx, ∃ (hk : L'.length < L.length), e = .returned (.tuple #[.pointer none, .int .i64 ((layR L' L[L'.length] : Nat) : Int), .int .i64 (L'.length : Int)]) ∧ RSt w tb L D L'.length L' ad c wx ∧ layR L' L[L'.length] ≠ 0) ∨
  (1024 < L.length ∧ e = .returned (.tuple #[.pointer none, .int .i64 2, .int .i64 (-1)]))

set_option maxRecDepth 100000 in
set_option maxHeartbeats 8000000 in
theorem rnew_any (a : Option Addr) (n cap : Nat) (L : List Nd) (D : Nat → List Nat) (w : World) (hr : NdRow w a L) (hn : L.length = n) (hnl : n ≤ 140737488351232) (hD : ∀ i, (hi : i < L.length) → NdOk w L[i] (D i)) :
    Calls Tryz.prog 14 #[.slice a n cap] w fun e w' => RNewPost L D w e w' ∧ Below w.heap.size w w' := by
  by_cases hbig : 1024 < n
  · have hPost : ∀ w', RNewPost L D w (.returned (.tuple #[.pointer none, .int .i64 2, .int .i64 (-1)])) w' := fun w' => .inr (.inr ⟨by omega, rfl⟩)
    have HP := Lib.hid hPost
    have t1 : decide ((1024 : Int) < (n : Int)) = true := decide_eq_true (by omega)
    clear hr hn hnl hD hbig hPost
    go_enter Tryz.func14, Tryz.ntmps14
    go_wp2_with fail
    go_ret3
    exact ⟨HP.out _, Below.refl _ _⟩
  have t1 : decide ((1024 : Int) < (n : Int)) = false := decide_eq_false (by omega)
  have HNL : Hid (n ≤ 1024) := Lib.hid (by omega)
  have HLN := Lib.hid hn
  have HR := Lib.hid hr
  have HDD := Lib.hid hD
  obtain ⟨tb, htb⟩ : ∃ tb, w.heap.size = tb := ⟨_, rfl⟩
  obtain ⟨w2, hw2⟩ : ∃ w2, w.alloc (.cells #[.slice none 0 0] 68) = w2 := ⟨_, rfl⟩
  have HW2 := Lib.hid hw2
  have R0 : Hid (RSt w tb L D 0 [] none 0 w2) := Lib.hid ⟨by rw [← hw2, ← htb]; exact heap_alloc_new _ _, OwnS.nil _ _ _ _, rfl, (fun i h => by cases h), (fun i h => by cases h), (fun i h => by cases h), (fun i h => by cases h), by rw [← hw2]; exact (Below.refl _ _).alloc (Nat.le_refl _) _⟩
  obtain ⟨i8, hi8, hz0, hz1, hz2⟩ := info_parts (show (Tryz.prog.info? 5).map (fun i => (i.zero, i.size, i.bytes)) = some (some (.int .u8 0), 1, 1) by kernel_rfl)
  have HI8 := Lib.hid (And.intro hi8 (And.intro hz0 (And.intro hz1 hz2)))
  have HTB : Hid (w.heap.size = tb) := Lib.hid htb
  clear hr hn hnl hD hbig hw2 hi8 hz0 hz1 hz2
  go_enter Tryz.func14, Tryz.ntmps14
  go_wp2_with fail
  rw [HW2.out]
  go_loopg [6] n (fun g1 iv wr => ∃ (k : Nat) (L' : List Nd) (ad : Option Addr) (c : Nat), k + g1 = n ∧ iv = .int .i64 (k : Int) ∧ Hid (RSt w tb L D k L' ad c wr))
  case atStart => exact ⟨0, [], none, 0, by omega, rfl, R0⟩
  case round =>
    obtain ⟨k, L', ad, c, hk, rfl, HS⟩ := hrel
    clear R0 t1 HW2
    cases gk with
    | zero =>
      have hk' : k = n := by omega
      clear hk
      subst hk'
      go_wp2_with fail
      go_ret3
      have hs := HS.out
      rw [← HLN.out] at hs
      exact ⟨.inl ⟨tb, ad, c, L', rfl, hs⟩, HS.out.blw⟩
    | succ g2 =>
      have hlt : k < n := by omega
      have hkL : k < L.length := by rw [HLN.out]; exact hlt
      obtain ⟨b', o', rfl, hblt, hcs'⟩ := (HR.out.below HS.out.blw) k hkL
      obtain ⟨nd, hnd⟩ : ∃ nd, (L[k]'hkL) = nd := ⟨_, rfl⟩
      rw [hnd] at hcs'
      have HNK : Hid (NdOk wr nd (D k)) := Lib.hid (hnd ▸ (HDD.out k hkL).below HS.out.blw)
      have HLY : Hid (∀ wx, Below wr.heap.size wr wx → Calls Tryz.prog 29 #[.pointer (some ⟨tb, 0, none⟩), nd.v] wx fun e w' => e = .returned (.int .i64 ((layR L' nd : Nat) : Int)) ∧ Below wx.heap.size wx w') := Lib.hid (fun wx hb => lay_any tb c ad L' nd wx ((HS.out.ref (by have := HNL.out; omega)).below hb) HS.out.hard HNK.out.path HNK.out.tgt)
      have HER : Hid (layR L' nd ≠ 0 → ∀ e w', e = .returned (.tuple #[.pointer none, .int .i64 ((layR L' nd : Nat) : Int), .int .i64 (k : Int)]) → RNewPost L D w e w') := Lib.hid (fun h0 e w' he => by
        have hl := HS.out.len
        subst hl
        exact .inr (.inl ⟨tb, ad, c, L', wr, hkL, by rw [hnd]; exact he, HS.out, by rw [hnd]; exact h0⟩))
      obtain ⟨path, kind, da, dn, dc, tgt, su⟩ := nd
      unfold Nd.v Nd.cells at HLY
      simp only [] at HLY
      have c0 : wr.cell? ⟨b', o' + k * 5, none⟩ = some (.string path) := hcs' 0 (by omega)
      have c1 : wr.cell? ⟨b', o' + k * 5 + 1, none⟩ = some (.int .i64 kind) := hcs' 1 (by omega)
      have c2 : wr.cell? ⟨b', o' + k * 5 + 2, none⟩ = some (.slice da dn dc) := hcs' 2 (by omega)
      have c3 : wr.cell? ⟨b', o' + k * 5 + 3, none⟩ = some (.string tgt) := hcs' 3 (by omega)
      have c4 : wr.cell? ⟨b', o' + k * 5 + 4, none⟩ = some (.bool su) := hcs' 4 (by omega)
      have HCC : Hid (∀ wx, Below wr.heap.size wr wx → wx.cell? ⟨b', o' + k * 5, none⟩ = some (.string path) ∧ wx.cell? ⟨b', o' + k * 5 + 1, none⟩ = some (.int .i64 kind) ∧ wx.cell? ⟨b', o' + k * 5 + 2, none⟩ = some (.slice da dn dc) ∧ wx.cell? ⟨b', o' + k * 5 + 3, none⟩ = some (.string tgt) ∧ wx.cell? ⟨b', o' + k * 5 + 4, none⟩ = some (.bool su)) := Lib.hid (fun wx hb => ⟨(hb.cell (p := ⟨b', o' + k * 5, none⟩) hblt).trans c0, (hb.cell (p := ⟨b', o' + k * 5 + 1, none⟩) hblt).trans c1, (hb.cell (p := ⟨b', o' + k * 5 + 2, none⟩) hblt).trans c2, (hb.cell (p := ⟨b', o' + k * 5 + 3, none⟩) hblt).trans c3, (hb.cell (p := ⟨b', o' + k * 5 + 4, none⟩) hblt).trans c4⟩)
      have HKK := Lib.hid (And.intro hk hkL)
      have HND := Lib.hid hnd
      clear hcs' hk hnd
      go_wp2_with fail
      refine (HLY.out wr (Below.refl _ _)).mono ?_
      rintro e w3 ⟨rfl, hb3⟩
      have B3 := Lib.hid hb3
      clear hb3 c0 c1 c2 c3 c4
      by_cases hc : layR L' ⟨path, kind, da, dn, dc, tgt, su⟩ = 0
      · have HC0 := Lib.hid hc
        rw [hc]
        obtain ⟨c0, c1, c2, c3, c4⟩ := HCC.out w3 B3.out
        obtain ⟨xb, hxb⟩ : ∃ xb, w3.heap.size = xb := ⟨_, rfl⟩
        obtain ⟨w5, hw5⟩ : ∃ w5, w3.alloc (.cells #[.string path, .int .i64 kind, .slice da dn dc, .string tgt, .bool su] 49) = w5 := ⟨_, rfl⟩
        have HW5 := Lib.hid hw5
        have X5 : Hid (w5.heap[xb]? = some (.cells #[.string path, .int .i64 kind, .slice da dn dc, .string tgt, .bool su] 49)) := Lib.hid (by rw [← hw5, ← hxb]; exact heap_alloc_new _ _)
        have B5 : Hid (Below wr.heap.size wr w5 ∧ wr.heap.size ≤ xb) := Lib.hid ⟨by rw [← hw5]; exact B3.out.alloc B3.out.size _, by rw [← hxb]; exact B3.out.size⟩
        clear hc HLY HER hw5
        go_upto_region 12 with fail
        rw [HW5.out]
        try rw [hxb]
        clear c0 c1 c2 c3 c4
        have d2 : w5.cell? ⟨xb, 2, none⟩ = some (.slice da dn dc) := by rw [cell_of_row _ _ 2 _ _ _ X5.out]; rfl
        have HNR : Hid (Row .u8 w5 da (toI (D k)) ∧ dn = (toI (D k)).length ∧ (toI (D k)).length ≤ 140737488355328 ∧ (da = none → (toI (D k)).length = 0 ∧ dc = 0)) := Lib.hid ⟨HNK.out.row.below B5.out.1, by rw [toI_length]; exact HNK.out.len.symm, by rw [toI_length, HNK.out.len]; exact HNK.out.most, fun h => by rw [toI_length, HNK.out.len]; exact HNK.out.none h⟩
        go_upto_region 14 with (at_builtin; refine wpList_copy_none rfl (.tmp 35) (.tmp 37) 41 rfl 5 i8 (.int .u8 0) 1 Tryz.underlying41 HI8.out.1 HI8.out.2.1 HI8.out.2.2.1 HI8.out.2.2.2 rfl .u8 da dn dc (toI (D k)) rfl rfl HNR.out.2.1 HNR.out.1 HNR.out.2.2.2 (by have := HNR.out.2.2.1; unfold maxLen; omega) (by have := HNR.out.2.2.1; omega) ?_; intro ad6 c6 w6 ho6 hb6; have X6 := (hb6.block _ (lt_of_block X5.out)).trans X5.out; have f6 : w6.frozen? ⟨xb, 2, none⟩ = false := frozen_of_row _ _ _ _ _ X6; have d6 : w6.cell? ⟨xb, 2, none⟩ = some (.slice da dn dc) := (by rw [cell_of_row _ _ 2 _ _ _ X6]; rfl); have HX6 := Lib.hid X6; have O6 := Lib.hid ho6; have B6 := Lib.hid hb6; clear X6 ho6 hb6)
        clear f6 d6 d2
        obtain ⟨w7, hw7⟩ : ∃ w7, w6.setCell ⟨xb, 2, none⟩ (.slice ad6 dn c6) = w7 := ⟨_, rfl⟩
        have hset : w7 = w6.setRow xb #[.string path, .int .i64 kind, .slice ad6 dn c6, .string tgt, .bool su] := by
          rw [← hw7, setCell_eq_setRow _ _ _ _ _ _ _ HX6.out]
          rfl
        rw [hw7]
        have HO7 : Hid (∀ q, ¬ q = xb → w7.heap[q]? = w6.heap[q]?) := Lib.hid (fun q hq => by rw [hset]; exact setRow_other _ _ _ _ hq)
        have X7 : Hid (w7.heap[xb]? = some (.cells #[.string path, .int .i64 kind, .slice ad6 dn c6, .string tgt, .bool su] 49)) := Lib.hid (by rw [hset]; exact setRow_heap _ _ _ _ _ _ HX6.out)
        have hlo : wr.heap.size ≤ w6.heap.size := Nat.le_trans B5.out.1.size B6.out.size
        have B7 : Hid (Below wr.heap.size wr w7) := Lib.hid (by
          rw [hset]
          exact below_setRowV (bstep B5.out.1 B6.out) B5.out.2)
        have S7 : Hid (InBox w7 tb (.slice ad k c) 68 ∧ OwnS w7 w.heap.size 49 5 (.slice ad k c) (L'.map fun n => n.cells.toList)) := Lib.hid ⟨HS.out.box.below B7.out, HS.out.own.below B7.out⟩
        have O7 : Hid (OwnI w7 w.heap.size 5 .u8 (.slice ad6 dn c6) (toI (D k))) := Lib.hid (by
          rw [← hw7]
          exact (OwnI.setO O6.out (a := ⟨xb, 2, none⟩) (fun e => by
            have h1 := (World.ownsRow.lt O6.out xb e).1
            have h2 := lt_of_block X5.out
            omega) _).mono (Nat.le_trans HS.out.blw.size B5.out.1.size))
        clear hw7 hset
        have e0 : w7.cell? ⟨tb, 0, none⟩ = some (.slice ad k c) := S7.out.1.cell
        have x0 : w7.cell? ⟨xb, 0, none⟩ = some (.string path) := by rw [cell_of_row _ _ 0 _ _ _ X7.out]; rfl
        have x1 : w7.cell? ⟨xb, 1, none⟩ = some (.int .i64 kind) := by rw [cell_of_row _ _ 1 _ _ _ X7.out]; rfl
        have x2 : w7.cell? ⟨xb, 2, none⟩ = some (.slice ad6 dn c6) := by rw [cell_of_row _ _ 2 _ _ _ X7.out]; rfl
        have x3 : w7.cell? ⟨xb, 3, none⟩ = some (.string tgt) := by rw [cell_of_row _ _ 3 _ _ _ X7.out]; rfl
        have x4 : w7.cell? ⟨xb, 4, none⟩ = some (.bool su) := by rw [cell_of_row _ _ 4 _ _ _ X7.out]; rfl
        have HB1 : Hid (Below w7.heap.size w7 (w7.alloc (.cells #[.string path, .int .i64 kind, .slice ad6 dn c6, .string tgt, .bool su] 49)).drew) := Lib.hid ((Below.refl _ _).alloc (Nat.le_refl _) _).drew
        have HNW : Hid (∀ j u, [Value.string path, .int .i64 kind, .slice ad6 dn c6, .string tgt, .bool su][j]? = some u → ((w7.alloc (.cells #[.string path, .int .i64 kind, .slice ad6 dn c6, .string tgt, .bool su] 49)).drew).cell? ((⟨w7.heap.size, 0, none⟩ : Addr).add j) = some u) := Lib.hid (fun j u h => news_alloc w7 _ _ j u h)
        have HOA := Lib.hid (S7.out.2.below HB1.out)
        have HTA := Lib.hid (S7.out.1.below HB1.out)
        have HNE := Lib.hid (S7.out.1.apart S7.out.2.1 (by decide))
        have e0a := HTA.out.cell
        have e0b : (w7.alloc (.cells #[.string path, .int .i64 kind, .slice ad6 dn c6, .string tgt, .bool su] 49)).cell? ⟨tb, 0, none⟩ = some (.slice ad k c) := HTA.out.cell
        have HNEA := Lib.hid (HTA.out.apart HOA.out.1 (by decide))
        have HLEN : Hid ((L'.map fun n => n.cells.toList).length = k) := Lib.hid (by rw [List.length_map]; exact HS.out.len)
        have HKM : Hid (k + 1 ≤ maxLen ∧ (k + 1) * 72 ≤ 140737488355328) := Lib.hid (by have := HNL.out; unfold maxLen; omega)
        have HSZ : Hid (w.heap.size ≤ (w7.alloc (.cells #[.string path, .int .i64 kind, .slice ad6 dn c6, .string tgt, .bool su] 49)).drew.heap.size) := Lib.hid (Nat.le_trans (Nat.le_trans HS.out.blw.size B7.out.size) HB1.out.size)
        have HFIN : Hid (∀ ad8 c8 w8, OwnS w8 w.heap.size 49 5 (.slice ad8 (k + 1) c8) ((L'.map fun n => n.cells.toList) ++ [[.string path, .int .i64 kind, .slice ad6 dn c6, .string tgt, .bool su]]) → (w7.alloc (.cells #[.string path, .int .i64 kind, .slice ad6 dn c6, .string tgt, .bool su] 49)).drew.grownBy w8 (Value.slice ad k c).ownBlock → RSt w tb L D (k + 1) (L' ++ [⟨path, kind, ad6, dn, c6, tgt, su⟩]) ad8 c8 (w8.setCell ⟨tb, 0, none⟩ (.slice ad8 (k + 1) c8))) := Lib.hid (fun ad8 c8 w8 ho8 hg8 => by
          have hT8 := HTA.out.grown hg8 HNEA.out
          have hlen := HS.out.len
          have last : ∀ i, (h : i < (L' ++ [(⟨path, kind, ad6, dn, c6, tgt, su⟩ : Nd)]).length) → ¬ i < L'.length → i = k := fun i h hn => by
            rw [List.length_append] at h
            simp at h
            omega
          refine ⟨hT8.set _, ⟨?_, ?_⟩, ?_, ?_, ?_, ?_, ?_, ?_⟩
          · have hcat : (L' ++ [(⟨path, kind, ad6, dn, c6, tgt, su⟩ : Nd)]).map (fun n => n.cells.toList) = (L'.map fun n => n.cells.toList) ++ [[.string path, .int .i64 kind, .slice ad6 dn c6, .string tgt, .bool su]] := by
              rw [List.map_append]
              rfl
            rw [hcat]
            exact ownsRow_setCell_other ho8.1 (hT8.apart ho8.1 (by decide)) _
          · intro r hr
            obtain ⟨x, -, rfl⟩ := List.mem_map.1 hr
            rfl
          · rw [List.length_append, hlen]; rfl
          · intro i h h2
            by_cases hi : i < L'.length
            · rw [List.getElem_append_left hi]; exact HS.out.alike i hi h2
            · obtain rfl := last i h hi
              have hx : (L' ++ [(⟨path, kind, ad6, dn, c6, tgt, su⟩ : Nd)])[i] = ⟨path, kind, ad6, dn, c6, tgt, su⟩ := by
                rw [List.getElem_append_right (by omega)]
                simp [hlen]
              rw [hx, HND.out]
              exact ⟨rfl, rfl, rfl, rfl, rfl⟩
          · intro i h
            have fly : ∀ v xs, OwnI w7 w.heap.size 5 .u8 v xs → OwnI (w8.setCell ⟨tb, 0, none⟩ (.slice ad8 (k + 1) c8)) w.heap.size 5 .u8 v xs := fun v xs ho => by
              have h1 := (ho.below HB1.out).keepS hg8 HOA.out (by decide)
              exact OwnI.setO h1 (a := ⟨tb, 0, none⟩) (hT8.apart h1 (by decide)) _
            by_cases hi : i < L'.length
            · rw [List.getElem_append_left hi]
              exact fly _ _ ((HS.out.data i hi).below B7.out)
            · obtain rfl := last i h hi
              have hx : (L' ++ [(⟨path, kind, ad6, dn, c6, tgt, su⟩ : Nd)])[i] = ⟨path, kind, ad6, dn, c6, tgt, su⟩ := by
                rw [List.getElem_append_right (by omega)]
                simp [hlen]
              rw [hx]
              exact fly _ _ O7.out
          · exact HS.out.hard.snoc (fun h3 => layR_hard HC0.out h3)
          · intro i h h2
            by_cases hi : i < L'.length
            · rw [List.take_append_of_le_length (by omega)]
              exact HS.out.laid i hi h2
            · obtain rfl := last i h hi
              rw [List.take_append_of_le_length (by omega), List.take_of_length_le (by omega), HND.out]
              exact HC0.out
          · have hw7 : w.heap.size ≤ w7.heap.size := Nat.le_trans HS.out.blw.size B7.out.size
            have b1 : Below w.heap.size w (w7.alloc (.cells #[.string path, .int .i64 kind, .slice ad6 dn c6, .string tgt, .bool su] 49)).drew := (HS.out.blw.trans (B7.out.mono HS.out.blw.size)).trans (HB1.out.mono hw7)
            exact (b1.grown hg8 (Nat.le_trans hw7 HB1.out.size) (fun j hj => (World.ownsRow.lt HOA.out.1 j hj).1)).setCell (p := ⟨tb, 0, none⟩) (Nat.le_of_eq HTB.out) _)
        go_region_law (refine step_grow_row rfl (.tmp 45) (.tmp 47) nodeRow rfl w.heap.size (.slice ad k c) (L'.map fun n => n.cells.toList) k [.string path, .int .i64 kind, .slice ad6 dn c6, .string tgt, .bool su] rfl ⟨w7.heap.size, 0, none⟩ 1 rfl HNW.out HLEN.out rfl (by intro u hu; simp only [List.mem_cons, List.not_mem_nil, or_false] at hu; rcases hu with rfl | rfl | rfl | rfl | rfl <;> rfl) HOA.out HKM.out.1 HKM.out.2 HSZ.out ?_; intro ad8 c8 w8 ho8 hg8; have HO8 := Lib.hid ho8; have HG8 := Lib.hid hg8; have e8 := (HTA.out.grown hg8 HNEA.out).cell; have f8 := (HTA.out.grown hg8 HNEA.out).free; clear ho8 hg8)
        all_goals (
          have HX := Lib.hid (HFIN.out _ _ _ HO8.out HG8.out)
          go_wp2_with fail
          go_roundg g2
          case measure => have := HKK.out; omega
          case rel => exact ⟨k + 1, _, ad8, c8, by have := HKK.out; omega, by have := HNL.out; rw [IntWalk.wrap64_in _ ⟨by omega, by omega⟩]; rfl, HX⟩)
      · have HNC := Lib.hid hc
        obtain ⟨cn, hcn⟩ : ∃ cn, layR L' ⟨path, kind, da, dn, dc, tgt, su⟩ = cn := ⟨_, rfl⟩
        rw [hcn] at HER HNC ⊢
        have tq : ((cn : Int) != 0) = true := by
          have := HNC.out
          simp only [bne_iff_ne, ne_eq]
          omega
        have B4 := Lib.hid (HS.out.blw.trans (B3.out.mono HS.out.blw.size))
        clear hc hcn HLY HCC
        go_wp2_with fail
        go_ret3
        exact ⟨HER.out HNC.out _ _ rfl, B4.out⟩
end Go.Proofs.YtcabpidbdnlomaaGreatDoor
