/- Layer 3: the tree of whatever nodes. -/
import Derived.Test.YtcabpidbdnlomaaGreatDoorVfsOpenF
namespace Go.Proofs.YtcabpidbdnlomaaGreatDoor
open Go.RowKit
set_option linter.unusedVariables false
set_option linter.unusedSimpArgs false

/-- nodes in memory -/
def NdRow (w : World) (a : Option Addr) (L : List Nd) : Prop := ∀ i, (hi : i < L.length) → ∃ b off, a = some ⟨b, off, none⟩ ∧ b < w.heap.size ∧ ∀ j, j < 5 → w.cell? ⟨b, off + i * 5 + j, none⟩ = L[i].cells[j]?
theorem NdRow.below {w w' : World} {a : Option Addr} {L : List Nd} (h : NdRow w a L) (hb : Below w.heap.size w w') : NdRow w' a L := by
  intro i hi
  obtain ⟨b, off, e, hlt, hc⟩ := h i hi
  exact ⟨b, off, e, Nat.lt_of_lt_of_le hlt hb.size, fun j hj => by rw [hb.cell (p := ⟨b, off + i * 5 + j, none⟩) hlt]; exact hc j hj⟩
/-- a node's bytes, its texts' lengths -/
structure NdOk (w : World) (n : Nd) (bs : List Nat) : Prop where
  row : Row .u8 w n.da (toI bs)
  len : bs.length = n.dn
  most : n.dn ≤ 140737488355328
  none : n.da = none → n.dn = 0 ∧ n.dc = 0
  path : n.path.size ≤ 140737488355328
  tgt : n.tgt.size ≤ 140737488355328
theorem NdOk.below {w w' : World} {n : Nd} {bs : List Nat} (h : NdOk w n bs) (hb : Below w.heap.size w w') : NdOk w' n bs := ⟨h.row.below hb, h.len, h.most, h.none, h.path, h.tgt⟩
/-- what a file's node shares -/
def ShN (w : World) (B : Nat) (n : Nd) (i : Nat) (bs : List Nat) (x : Ent) : Prop :=
  n.kind = 0 → ∃ sb ad c, x.sh = some sb ∧ B ≤ sb ∧ w.heap[sb]? = some (.cells #[.int .i64 (i : Int), .slice ad n.dn c, .bool n.su] 76) ∧ OwnI w B 5 .u8 (.slice ad n.dn c) (toI bs)
theorem OwnI.keepCells {w w' : World} {B : Nat} {e : TypeId} {k : IntKind} {v : Value} {xs : List Int} (h : OwnI w B e k v xs) (hb : ∀ (g : Nat) cs t (fr : Nat × Nat), w.heap[g]? = some (.cells cs t fr) → w'.heap[g]? = w.heap[g]?) : OwnI w' B e k v xs := by
  obtain ⟨h1, h2⟩ := h
  refine ⟨h1, ?_⟩
  rcases h2 with h2 | ⟨g, cap, cur, hv, hB, hg, r⟩
  · exact .inl h2
  · exact .inr ⟨g, cap, cur, hv, hB, by rw [hb g _ _ _ hg]; exact hg, r⟩
theorem ShN.keep {w w' : World} {B : Nat} {n : Nd} {i : Nat} {bs : List Nat} {x : Ent} (h : ShN w B n i bs x) (hb : ∀ (g : Nat) cs t (fr : Nat × Nat), w.heap[g]? = some (.cells cs t fr) → w'.heap[g]? = w.heap[g]?) : ShN w' B n i bs x := by
  intro h0
  obtain ⟨sb, ad, c, h1, h2, h3, h4⟩ := h h0
  exact ⟨sb, ad, c, h1, h2, (hb _ _ _ _ h3).trans h3, h4.keepCells hb⟩
theorem ShN.below {w w' : World} {B : Nat} {n : Nd} {i : Nat} {bs : List Nat} {x : Ent} (h : ShN w B n i bs x) (hb : Below w.heap.size w w') : ShN w' B n i bs x :=
  h.keep (fun g cs t fr hg => hb.block g (lt_of_block hg))
theorem ShN.mono {w : World} {B B' : Nat} {n : Nd} {i : Nat} {bs : List Nat} {x : Ent} (h : ShN w B n i bs x) (hB : B' ≤ B) : ShN w B' n i bs x := by
  intro h0
  obtain ⟨sb, ad, c, h1, h2, h3, h4⟩ := h h0
  exact ⟨sb, ad, c, h1, Nat.le_trans hB h2, h3, h4.mono hB⟩
def ShL (w : World) (B : Nat) (L : List Nd) (es : List Ent) (D : Nat → List Nat) : Prop := ∀ i, (h1 : i < es.length) → (h2 : i < L.length) → ShN w B L[i] i (D i) es[i]
theorem SM.block {w : World} {P : Program} {K : TypeId} {g : Nat} {F : ByteArray → Option Ent} {c : Nat} (h : SM w P K g F c) : ∃ es cl, w.heap[g]? = some (.map es cl) := by
  obtain ⟨D, ⟨es, cl, h1, -⟩, -⟩ := h
  exact ⟨es, cl, h1⟩
/-- what changes the map's block alone keeps what cells there are -/
theorem grown_cells {w w' : World} {P : Program} {K : TypeId} {g : Nat} {F : ByteArray → Option Ent} {c : Nat} (h : SM w P K g F c) (hg : w.grownBy w' (some g)) : ∀ (q : Nat) cs t (fr : Nat × Nat), w.heap[q]? = some (.cells cs t fr) → w'.heap[q]? = w.heap[q]? := by
  intro q cs t fr hq
  obtain ⟨es, cl, hm⟩ := h.block
  exact hg.block q (lt_of_block hq) (fun e => by
    cases e
    rw [hm] at hq
    cases hq)

theorem entry_any (tb g c : Nat) (F : ByteArray → Option Ent) (n : Nd) (w : World) (i : Nat) (bs : List Nat) (h : TreeAt w tb g c F) (hc : checkF F n = 0) (hd : NdOk w n bs) :
    Calls Tryz.prog 25 #[.pointer (some ⟨tb, 0, none⟩), .int .i64 (i : Int), n.v] w fun e w' => ∃ x : Ent, e = .returned x.v ∧ Leaves F n x ∧ ShN w' w.heap.size n i bs x ∧ Below w.heap.size w w' := by
  obtain ⟨hk, hn, hf, hd1, h3⟩ := check_zero hc
  rcases (show n.kind = 0 ∨ n.kind = 1 ∨ n.kind = 2 ∨ n.kind = 3 by omega) with q | q | q | q
  · refine (entry_file n w _ i bs q (Lib.hid (fun wx hb => vclone_own n.da n.dn n.dc bs wx hd.len (hd.row.below hb) hd.most hd.none))).mono ?_
    rintro e w' ⟨sb, ad, c', rfl, h1, h2, h4, h5⟩
    exact ⟨_, rfl, ⟨fun _ => ⟨rfl, rfl, rfl⟩, fun h => by omega, fun h => by omega, fun h => by omega⟩, fun _ => ⟨sb, ad, c', rfl, h1, h2, h4⟩, h5⟩
  · refine (entry_dir n w _ i q).mono ?_
    rintro e w' ⟨rfl, h5⟩
    exact ⟨_, rfl, ⟨fun h => by omega, fun _ => rfl, fun h => by omega, fun h => by omega⟩, fun h => by omega, h5⟩
  · refine (entry_link n w _ i q).mono ?_
    rintro e w' ⟨rfl, h5⟩
    exact ⟨_, rfl, ⟨fun h => by omega, fun h => by omega, fun _ => rfl, fun h => by omega⟩, fun h => by omega, h5⟩
  · have hs3 : n.tgt.size ≤ 4096 := by
      unfold namedF at hn
      rw [if_neg (by omega), if_pos q, Bool.and_eq_true] at hn
      exact (clean_size hn.2).2
    refine (entry_hard tb g c F n w i h q (by omega)).mono ?_
    rintro e w' ⟨rfl, h5⟩
    exact ⟨_, rfl, ⟨fun h => by omega, fun h => by omega, fun h => by omega, fun _ => rfl⟩, fun h => by omega, h5⟩

/-- what New answers -/
def NewPost (L : List Nd) (D : Nat → List Nat) (w : World) (e : Ending) (w' : World) : Prop :=
  (∃ tb gm es, e = .returned (.tuple #[.pointer (some ⟨tb, 0, none⟩), .nilIface]) ∧ es.length = L.length ∧ Laid L es ∧ TreeAt w' tb gm (L.length + 1) (treeE L es) ∧ ShL w' w.heap.size L es D) ∨
  (∃ es sp, ∃ (hk : es.length < L.length), e = .returned (.tuple #[.pointer none, .iface 71 (.pointer (some ⟨sp, 0, none⟩))]) ∧ Laid L es ∧ checkF (treeE L es) L[es.length] ≠ 0 ∧ w.heap.size ≤ sp ∧ w'.heap[sp]? = some (.cells #[.int .u64 (es.length : Int), errV ((checkF (treeE L es) L[es.length] : Nat) : Int)] 73)) ∨
  (1024 < L.length ∧ e = .returned (.tuple #[.pointer none, errV ((2 : Nat) : Int)]))
theorem errV_yes {n : Nat} (h : n ≠ 0) : errV ((n : Nat) : Int) = .iface 33 (.int .i64 (n : Int)) := by unfold errV; rw [if_neg (by omega)]

set_option maxRecDepth 100000 in
set_option maxHeartbeats 8000000 in
theorem new_any (a : Option Addr) (n cap : Nat) (L : List Nd) (D : Nat → List Nat) (w : World) (hr : NdRow w a L) (hn : L.length = n) (hnl : n ≤ 140737488351232) (hD : ∀ i, (hi : i < L.length) → NdOk w L[i] (D i)) :
    Calls Tryz.prog 9 #[.slice a n cap] w fun e w' => NewPost L D w e w' ∧ Below w.heap.size w w' := by
  by_cases hbig : 1024 < n
  · have hPost : ∀ w', NewPost L D w (.returned (.tuple #[.pointer none, .iface 33 (.int .i64 2)])) w' := fun w' => .inr (.inr ⟨by omega, rfl⟩)
    have HP := Lib.hid hPost
    have t1 : decide ((1024 : Int) < (n : Int)) = true := decide_eq_true (by omega)
    clear hr hn hnl hD hbig hPost
    go_enter Tryz.func9, Tryz.ntmps9
    go_wp2_with fail
    go_ret2
    exact ⟨HP.out _, Below.refl _ _⟩
  have t1 : decide ((1024 : Int) < (n : Int)) = false := decide_eq_false (by omega)
  have HNL : Hid (n ≤ 1024) := Lib.hid (by omega)
  have HLN := Lib.hid hn
  have HR := Lib.hid hr
  have HDD := Lib.hid hD
  have hmm := @run_makeMap Tryz.prog
  obtain ⟨w1, r1, u1, g1⟩ := (SM.made w Tryz.prog 9).put (T := 57) (E := 56) Tryz.underlying9 Tryz.underlying57 (k := slash) ⟨none, 1, ⟨#[]⟩⟩ (by unfold maxLen; rw [slash_one]; omega) (by unfold maxLen; omega)
  have s1 : (Instr.mapUpdate 57 (.map (some w.heap.size)) (.string ⟨#[47]⟩) (.agg #[.pointer none, .int .i64 1, .string ⟨#[]⟩])).run Tryz.prog (w.alloc (.map #[] 0)) = .ok () w1 := r1
  have b1 : Below w.heap.size w w1 := by
    have b0 : Below w.heap.size w (w.alloc (.map #[] 0)) := (Below.refl _ _).alloc (Nat.le_refl _) _
    exact b0.grown g1 b0.size (fun j hj => by cases hj; exact Nat.le_refl _)
  obtain ⟨gm, hgm⟩ : ∃ gm, w.heap.size = gm := ⟨_, rfl⟩
  obtain ⟨tb, htb⟩ : ∃ tb, w1.heap.size = tb := ⟨_, rfl⟩
  obtain ⟨w2, hw2⟩ : ∃ w2, w1.alloc (.cells #[.map (some gm)] 59) = w2 := ⟨_, rfl⟩
  have HW2 := Lib.hid hw2
  have T2 : Hid (TreeAt w2 tb gm 1 (treeE L [])) := Lib.hid ⟨by rw [← hw2, ← htb]; exact heap_alloc_new _ _, by
    rw [treeE_nil, ← hw2, ← hgm]
    exact u1.of_block (heap_alloc_old _ _ u1.lt)⟩
  have B2 : Hid (Below w.heap.size w w2) := Lib.hid (by rw [← hw2]; exact b1.alloc b1.size _)
  have HTB : Hid (w.heap.size ≤ tb ∧ w.heap.size ≤ gm) := Lib.hid ⟨by rw [← htb]; exact b1.size, Nat.le_of_eq hgm⟩
  rw [hgm] at s1
  clear hr hn hnl hD hbig r1 u1 g1 b1 hw2
  go_enter Tryz.func9, Tryz.ntmps9
  go_wp2_with fail
  rw [HW2.out]
  go_loopg [19] n (fun g1 iv wr => ∃ (k : Nat) (es : List Ent), k + g1 = n ∧ iv = .int .i64 (k : Int) ∧ Hid (es.length = k) ∧ Hid (Laid L es) ∧ Hid (TreeAt wr tb gm (k + 1) (treeE L es)) ∧ Hid (ShL wr w.heap.size L es D) ∧ Hid (Below w.heap.size w wr))
  case atStart => exact ⟨0, [], by omega, rfl, Lib.hid rfl, Lib.hid (.nil _), T2, Lib.hid (fun i h1 => by cases h1), B2⟩
  case round =>
    obtain ⟨k, es, hk, rfl, HES, HLA, HT, HSH, HB⟩ := hrel
    clear T2 B2 s1 t1 hmm HW2
    cases gk with
    | zero =>
      have hk' : k = n := by omega
      clear hk
      subst hk'
      go_wp2_with fail
      go_ret2
      have he : es.length = L.length := by rw [HES.out, HLN.out]
      have ht := HT.out
      rw [← HLN.out] at ht
      exact ⟨.inl ⟨tb, gm, es, rfl, he, HLA.out, ht, HSH.out⟩, HB.out⟩
    | succ g2 =>
      have hlt : k < n := by omega
      have hkL : k < L.length := by rw [HLN.out]; exact hlt
      have heL : es.length < L.length := by rw [HES.out]; exact hkL
      obtain ⟨b', o', rfl, hblt, hcs'⟩ := (HR.out.below HB.out) k hkL
      have HND : Hid (NdOk wr L[k] (D k)) := Lib.hid ((HDD.out k hkL).below HB.out)
      have HSN : Hid (∀ x, checkF (treeE L es) L[k] = 0 → Leaves (treeE L es) L[k] x → Laid L (es ++ [x]) ∧ treeE L (es ++ [x]) = updE (treeE L es) L[k].path x) := Lib.hid (fun x hc hl => by
        have e := HES.out
        subst e
        exact ⟨.snoc L es x HLA.out heL hc hl, treeE_snoc L es x heL⟩)
      have HER : Hid (∀ e w' sp, e = .returned (.tuple #[.pointer none, .iface 71 (.pointer (some ⟨sp, 0, none⟩))]) → checkF (treeE L es) L[k] ≠ 0 → w.heap.size ≤ sp → w'.heap[sp]? = some (.cells #[.int .u64 (k : Int), errV ((checkF (treeE L es) L[k] : Nat) : Int)] 73) → NewPost L D w e w') := Lib.hid (fun e w' sp h1 h2 h3 h4 => by
        have e0 := HES.out
        subst e0
        exact .inr (.inl ⟨es, sp, heL, h1, HLA.out, h2, h3, h4⟩))
      have HLK : Hid (∀ (w' : World) (x : Ent), ShL w' w.heap.size L es D → ShN w' w.heap.size L[k] k (D k) x → ShL w' w.heap.size L (es ++ [x]) D) := Lib.hid (fun w' x h1 h2 => by
        intro i i1 i2
        have e0 := HES.out
        by_cases hi : i < es.length
        · rw [List.getElem_append_left hi]; exact h1 i hi i2
        · have : i = es.length := by rw [List.length_append] at i1; simp at i1; omega
          subst this
          rw [List.getElem_append_right (Nat.le_refl _)]
          simp only [Nat.sub_self, List.getElem_cons_zero]
          subst e0
          exact h2)
      obtain ⟨F, hF⟩ : ∃ F, treeE L es = F := ⟨_, rfl⟩
      rw [hF] at HT HSN HER
      have HCH : Hid (∀ wx, Below wr.heap.size wr wx → Calls Tryz.prog 24 #[.pointer (some ⟨tb, 0, none⟩), L[k].v] wx fun e w' => e = .returned (errV ((checkF F L[k] : Nat) : Int)) ∧ Below wx.heap.size wx w') := Lib.hid (fun wx hb => vcheck_any tb gm (k + 1) F L[k] wx (HT.out.below hb) HND.out.path HND.out.tgt)
      have HEN : Hid (checkF F L[k] = 0 → ∀ wx, Below wr.heap.size wr wx → Calls Tryz.prog 25 #[.pointer (some ⟨tb, 0, none⟩), .int .i64 (k : Int), L[k].v] wx fun e w' => ∃ x : Ent, e = .returned x.v ∧ Leaves F L[k] x ∧ ShN w' wx.heap.size L[k] k (D k) x ∧ Below wx.heap.size wx w') := Lib.hid (fun hc wx hb => entry_any tb gm (k + 1) F L[k] wx k (D k) (HT.out.below hb) hc (HND.out.below hb))
      have HPS : Hid (checkF F L[k] = 0 → L[k].path.size ≤ 4096) := Lib.hid (fun hc => (named_size (check_zero hc).2.1).2)
      generalize L[k] = nd at *
      obtain ⟨path, kind, da, dn, dc, tgt, su⟩ := nd
      have c0 : wr.cell? ⟨b', o' + k * 5, none⟩ = some (.string path) := hcs' 0 (by omega)
      have c1 : wr.cell? ⟨b', o' + k * 5 + 1, none⟩ = some (.int .i64 kind) := hcs' 1 (by omega)
      have c2 : wr.cell? ⟨b', o' + k * 5 + 2, none⟩ = some (.slice da dn dc) := hcs' 2 (by omega)
      have c3 : wr.cell? ⟨b', o' + k * 5 + 3, none⟩ = some (.string tgt) := hcs' 3 (by omega)
      have c4 : wr.cell? ⟨b', o' + k * 5 + 4, none⟩ = some (.bool su) := hcs' 4 (by omega)
      unfold Nd.v Nd.cells at HCH HEN
      simp only [] at HCH HEN HPS
      obtain ⟨xb, hxb⟩ : ∃ xb, wr.heap.size = xb := ⟨_, rfl⟩
      obtain ⟨w5, hw5⟩ : ∃ w5, wr.alloc (.cells #[.string path, .int .i64 kind, .slice da dn dc, .string tgt, .bool su] 49) = w5 := ⟨_, rfl⟩
      have HW5 := Lib.hid hw5
      have b5 : Hid (Below wr.heap.size wr w5) := Lib.hid (by rw [← hw5]; exact (Below.refl _ _).alloc (Nat.le_refl _) _)
      have X5 : Hid (w5.heap[xb]? = some (.cells #[.string path, .int .i64 kind, .slice da dn dc, .string tgt, .bool su] 49)) := Lib.hid (by rw [← hw5, ← hxb]; exact heap_alloc_new _ _)
      have HI : Hid ((Tryz.prog.info? 49).map (·.size) = some (#[.string path, .int .i64 kind, .slice da dn dc, .string tgt, .bool su] : Array Value).size) := Lib.hid (by kernel_rfl)
      have HKK := Lib.hid (And.intro hk hkL)
      clear hcs' hw5 hF hk hkL heL
      go_upto_region 7 with fail
      rw [HW5.out]
      try rw [hxb]
      clear c0 c1 c2 c3 c4
      go_wp2_with (refine wpList_load_row rfl 49 _ rfl xb rfl 49 #[.string path, .int .i64 kind, .slice da dn dc, .string tgt, .bool su] (0, 0) _ X5.out Tryz.underlying49 rfl HI.out ?_)
      refine (HCH.out _ b5.out).mono ?_
      rintro e w6 ⟨rfl, hb6⟩
      have b6 := Lib.hid (bstep b5.out hb6)
      have X6 := Lib.hid ((hb6.block _ (lt_of_block X5.out)).trans X5.out)
      clear hb6
      by_cases hc : checkF F ⟨path, kind, da, dn, dc, tgt, su⟩ = 0
      · have HC0 := Lib.hid hc
        have T6 := Lib.hid (HT.out.below b6.out)
        have S6 : Hid (ShL w6 w.heap.size L es D) := Lib.hid (fun i h1 h2 => (HSH.out i h1 h2).below b6.out)
        have KX : Hid (∀ wx : World, wx.heap[tb]? = some (.cells #[.map (some gm)] 59) → wx.heap[xb]? = some (.cells #[.string path, .int .i64 kind, .slice da dn dc, .string tgt, .bool su] 49) → wx.cell? ⟨tb, 0, none⟩ = some (.map (some gm)) ∧ wx.cell? ⟨xb, 0, none⟩ = some (.string path) ∧ wx.cell? ⟨xb, 1, none⟩ = some (.int .i64 kind) ∧ wx.cell? ⟨xb, 2, none⟩ = some (.slice da dn dc) ∧ wx.cell? ⟨xb, 3, none⟩ = some (.string tgt) ∧ wx.cell? ⟨xb, 4, none⟩ = some (.bool su)) := Lib.hid (fun wx hr hs => ⟨by (have := cell_of_row _ _ 0 _ _ _ hr); simpa using this, by rw [cell_of_row _ _ 0 _ _ _ hs]; rfl, by rw [cell_of_row _ _ 1 _ _ _ hs]; rfl, by rw [cell_of_row _ _ 2 _ _ _ hs]; rfl, by rw [cell_of_row _ _ 3 _ _ _ hs]; rfl, by rw [cell_of_row _ _ 4 _ _ _ hs]; rfl⟩)
        have KS : Hid (∀ wx, Below w6.heap.size w6 wx → wx.cell? ⟨tb, 0, none⟩ = some (.map (some gm)) ∧ wx.cell? ⟨xb, 0, none⟩ = some (.string path) ∧ wx.cell? ⟨xb, 1, none⟩ = some (.int .i64 kind) ∧ wx.cell? ⟨xb, 2, none⟩ = some (.slice da dn dc) ∧ wx.cell? ⟨xb, 3, none⟩ = some (.string tgt) ∧ wx.cell? ⟨xb, 4, none⟩ = some (.bool su)) := Lib.hid (fun wx hb => KX.out wx ((hb.block _ (lt_of_block T6.out.box)).trans T6.out.box) ((hb.block _ (lt_of_block X6.out)).trans X6.out))
        have HP4 := Lib.hid (HPS.out hc)
        rw [hc, errV0z]
        clear hc HCH b5 X5 HW5 HI HPS HER
        go_upto_region 10 with fail
        go_region_held3 (fun wx => wx.cell? ⟨tb, 0, none⟩ = some (.map (some gm)) ∧ wx.cell? ⟨xb, 0, none⟩ = some (.string path) ∧ wx.cell? ⟨xb, 1, none⟩ = some (.int .i64 kind) ∧ wx.cell? ⟨xb, 2, none⟩ = some (.slice da dn dc) ∧ wx.cell? ⟨xb, 3, none⟩ = some (.string tgt) ∧ wx.cell? ⟨xb, 4, none⟩ = some (.bool su))
          (first | exact KS.out _ (Below.refl _ _).drew | exact k8 | exact KS.out _ b7)
          (first | (go_at_call 25; refine (HEN.out HC0.out _ b6.out.drew).mono ?_; rintro e w7 ⟨x, rfl, hL, hS, hb7⟩; have b7 : Below w6.heap.size w6 w7 := bstep (Below.refl w6.heap.size w6).drew hb7; have T7 := T6.out.below b7; have HS7 := Lib.hid hS; have HL7 := Lib.hid hL; have HT7 := Lib.hid T7; have P4 := HP4.out; have N4 := HNL.out; obtain ⟨w8, r8, u8, g8⟩ := T7.map.put (T := 57) (E := 56) Tryz.underlying9 Tryz.underlying57 (k := path) x (by unfold maxLen; omega) (by unfold maxLen; omega); have GC := Lib.hid (grown_cells T7.map g8); have HU8 := Lib.hid u8; have HG8 := Lib.hid g8; have k8 := KX.out w8 ((GC.out _ _ _ _ T7.box).trans T7.box) ((GC.out _ _ _ _ ((b7.block _ (lt_of_block X6.out)).trans X6.out)).trans ((b7.block _ (lt_of_block X6.out)).trans X6.out)); clear T7 hS hL u8 g8 P4 N4))
        all_goals (
          go_wp2_with fail
          go_roundg g2
          case measure => have := HKK.out; omega
          case rel =>
            obtain ⟨l1, l2⟩ := HSN.out x HC0.out HL7.out
            have hw6 : w.heap.size ≤ w6.heap.size := Nat.le_trans HB.out.size b6.out.size
            have B7 : Below w.heap.size w w7 := bstep (bstep HB.out b6.out) b7
            refine ⟨k + 1, es ++ [x], by have := HKK.out; omega, (by (have := HNL.out); rw [IntWalk.wrap64_in _ ⟨by omega, by omega⟩]; rfl), Lib.hid (by rw [List.length_append, HES.out]; rfl), Lib.hid l1, Lib.hid ⟨(GC.out _ _ _ _ HT7.out.box).trans HT7.out.box, by rw [l2]; exact HU8.out⟩, Lib.hid (HLK.out w8 x ?_ ?_), Lib.hid (B7.grown HG8.out B7.size (fun j hj => by cases hj; exact HTB.out.2))⟩
            · exact fun i h1 h2 => ((S6.out i h1 h2).below b7).keep GC.out
            · exact (HS7.out.keep GC.out).mono hw6)
      · rw [errV_yes hc]
        have HNC := Lib.hid hc
        obtain ⟨cn, hcn⟩ : ∃ cn, checkF F ⟨path, kind, da, dn, dc, tgt, su⟩ = cn := ⟨_, rfl⟩
        rw [hcn] at HER HNC ⊢
        have hw6 : Hid (w.heap.size ≤ w6.heap.size) := Lib.hid (Nat.le_trans HB.out.size b6.out.size)
        have B6 : Hid (Below w.heap.size w w6) := Lib.hid (bstep HB.out b6.out)
        have HXP := Lib.hid (heap_alloc_new w6 (.cells #[.int .u64 (k : Int), .iface 33 (.int .i64 (cn : Int))] 73))
        have HB7 : Hid (Below w.heap.size w (w6.alloc (.cells #[.int .u64 (k : Int), .iface 33 (.int .i64 (cn : Int))] 73))) := Lib.hid (B6.out.alloc hw6.out _)
        have HWK : Hid (IntKind.u64.wrap (k : Int) = (k : Int)) := Lib.hid (by have := HNL.out; simp [IntKind.wrap, IntKind.signed, IntKind.bits]; omega)
        have hwk := HWK.out
        clear hc hcn HCH b5 X5 HW5 HI HPS HEN HSN HLK
        go_wp2_with fail
        go_ret2
        exact ⟨HER.out _ _ w6.heap.size rfl HNC.out hw6.out (by rw [errV_yes HNC.out]; exact HXP.out), HB7.out⟩
end Go.Proofs.YtcabpidbdnlomaaGreatDoor
