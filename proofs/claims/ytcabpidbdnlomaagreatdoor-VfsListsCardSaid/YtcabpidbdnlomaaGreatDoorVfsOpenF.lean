/- Layer 3: the file at a path: a file; then whatever path. -/
import Derived.Test.YtcabpidbdnlomaaGreatDoorVfsOpen
namespace Go.Proofs.YtcabpidbdnlomaaGreatDoor
open Go.RowKit
set_option linter.unusedVariables false
set_option linter.unusedSimpArgs false

set_option maxRecDepth 100000 in
set_option maxHeartbeats 8000000 in
theorem open_file (tb g c : Nat) (F : ByteArray → Option Ent) (S : Shares) (path p : ByteArray) (x : Ent) (w : World) (h : TreeAt w tb g c F) (hS : ShAt w F S) (hF : TreeOk F) (hp : path.size ≤ 140737488355328) (hn : folF F path = .ok p) (hps : p.size ≤ 1048576) (hx : F p = some x) (hk : x.kind = 0) :
    Calls Tryz.prog 11 #[.pointer (some ⟨tb, 0, none⟩), .string path] w fun e w' => (∃ ad c, e = .returned (.tuple #[.agg #[.string p, .int .i64 (S (x.sh.getD 0)).1, .slice ad (S (x.sh.getD 0)).2.2.length c, .bool (S (x.sh.getD 0)).2.1], .nilIface]) ∧ OwnI w' w.heap.size 5 .u8 (.slice ad (S (x.sh.getD 0)).2.2.length c) (toI (S (x.sh.getD 0)).2.2)) ∧ Below w.heap.size w w' := by
  have B1 : Hid (Below w.heap.size w (w.alloc (.cells #[.string ⟨#[]⟩, .int .i64 0, .slice none 0 0, .bool false] 43))) := Lib.hid ((Below.refl _ _).alloc (Nat.le_refl _) _)
  have X1 : Hid ((w.alloc (.cells #[.string ⟨#[]⟩, .int .i64 0, .slice none 0 0, .bool false] 43)).heap[w.heap.size]? = some (.cells #[.string ⟨#[]⟩, .int .i64 0, .slice none 0 0, .bool false] 43)) := Lib.hid (heap_alloc_new _ _)
  have HF : Hid (∀ wx, Below w.heap.size w wx → Calls Tryz.prog 15 #[.pointer (some ⟨tb, 0, none⟩), .string path] wx fun e w' => e = .returned (.tuple #[.string p, .nilIface]) ∧ Below wx.heap.size wx w') := Lib.hid (fun wx hb => by
    have := follow_any tb g c F path wx (h.below hb) hF hp
    rw [hn] at this
    exact this)
  obtain ⟨sb, ad, sc, hsh, hsb, hrow, hml, hnil⟩ := hS p x hx hk
  obtain ⟨sh, kind, to'⟩ := x
  simp only [] at hsh hk
  subst hsh hk
  simp only [Option.getD_some]
  rcases hSS : S sb with ⟨ino, su, bs⟩
  rw [hSS] at hsb hrow hml hnil
  simp only [] at hsb hrow hml hnil ⊢
  clear hSS
  obtain ⟨m, hm⟩ : ∃ m, bs.length = m := ⟨_, rfl⟩
  rw [hm] at hsb hml hnil ⊢
  have HSB := Lib.hid hsb
  have HC : Hid (∀ wx, Below w.heap.size w wx → Calls Tryz.prog 26 #[.slice ad m sc] wx fun e w' => ∃ ad' c', e = .returned (.slice ad' m c') ∧ OwnI w' wx.heap.size 5 .u8 (.slice ad' m c') (toI bs) ∧ Below wx.heap.size wx w') := Lib.hid (fun wx hb => vclone_own ad m sc bs wx hm (hrow.below hb) hml hnil)
  have HT := Lib.hid h
  obtain ⟨vb, hvb⟩ : ∃ vb, w.heap.size = vb := ⟨_, rfl⟩
  have HE2 := Lib.hid hx
  clear h hF hp hn hx hS hsb hrow hml hnil hm
  go_enter Tryz.func11, Tryz.ntmps11
  go_wp2_with fail
  refine (HF.out _ B1.out).mono ?_
  rintro e w2 ⟨rfl, hb2⟩
  have B2 := Lib.hid (bstep B1.out hb2)
  have X2 := Lib.hid ((hb2.block _ (lt_of_block X1.out)).trans X1.out)
  have T2 := HT.out.below B2.out
  have m0 : w2.cell? ⟨tb, 0, none⟩ = some (.map (some g)) := by
    have := cell_of_row _ _ 0 _ _ _ T2.box
    simpa using this
  have hl2 := T2.map.look (T := 57) (E := 56) Tryz.underlying9 Tryz.underlying57 (ent_zeroV w2) (k := p) (by unfold maxLen; omega)
  rw [HE2.out] at hl2
  simp only [Option.getD_some, Ent.v, ptrV] at hl2
  rw [hvb] at X2
  obtain ⟨yb, hyb⟩ : ∃ yb, w2.heap.size = yb := ⟨_, rfl⟩
  obtain ⟨w3, hw3⟩ : ∃ w3, w2.alloc (.cells #[.pointer (some ⟨sb, 0, none⟩), .int .i64 0, .string to'] 56) = w3 := ⟨_, rfl⟩
  have HW3 := Lib.hid hw3
  have b3 : Below w2.heap.size w2 w3 := by rw [← hw3]; exact (Below.refl w2.heap.size w2).alloc (Nat.le_refl _) _
  have B3 := Lib.hid (bstep B2.out b3)
  have Y3 : Hid (w3.heap[yb]? = some (.cells #[.pointer (some ⟨sb, 0, none⟩), .int .i64 0, .string to'] 56)) := Lib.hid (by rw [← hw3, ← hyb]; exact heap_alloc_new _ _)
  have X3 : Hid (w3.heap[vb]? = some (.cells #[.string ⟨#[]⟩, .int .i64 0, .slice none 0 0, .bool false] 43)) := Lib.hid ((b3.block _ (lt_of_block X2.out)).trans X2.out)
  have S3 : Hid (w3.heap[sb]? = some (.cells #[.int .i64 ino, .slice ad m sc, .bool su] 76)) := Lib.hid ((B3.out.block _ (lt_of_block HSB.out)).trans HSB.out)
  have HNE : Hid (¬ sb = vb ∧ ¬ yb = vb) := Lib.hid ⟨fun e => by have := lt_of_block HSB.out; omega, fun e => by have := lt_of_block X2.out; omega⟩
  have d1 : w3.cell? ⟨yb, 1, none⟩ = some (.int .i64 0) := by rw [cell_of_row _ _ 1 _ _ _ Y3.out]; rfl
  have KX : Hid (∀ wx : World, wx.heap[yb]? = some (.cells #[.pointer (some ⟨sb, 0, none⟩), .int .i64 0, .string to'] 56) → wx.heap[sb]? = some (.cells #[.int .i64 ino, .slice ad m sc, .bool su] 76) → wx.cell? ⟨yb, 0, none⟩ = some (.pointer (some ⟨sb, 0, none⟩)) ∧ wx.cell? ⟨sb, 0, none⟩ = some (.int .i64 ino) ∧ wx.cell? ⟨sb, 1, none⟩ = some (.slice ad m sc) ∧ wx.cell? ⟨sb, 2, none⟩ = some (.bool su)) := Lib.hid (fun wx hr hs => ⟨by rw [cell_of_row _ _ 0 _ _ _ hr]; rfl, by rw [cell_of_row _ _ 0 _ _ _ hs]; rfl, by rw [cell_of_row _ _ 1 _ _ _ hs]; rfl, by rw [cell_of_row _ _ 2 _ _ _ hs]; rfl⟩)
  have KS : Hid (∀ wx, Below w3.heap.size w3 wx → wx.cell? ⟨yb, 0, none⟩ = some (.pointer (some ⟨sb, 0, none⟩)) ∧ wx.cell? ⟨sb, 0, none⟩ = some (.int .i64 ino) ∧ wx.cell? ⟨sb, 1, none⟩ = some (.slice ad m sc) ∧ wx.cell? ⟨sb, 2, none⟩ = some (.bool su)) := Lib.hid (fun wx hb => KX.out wx ((hb.block _ (lt_of_block Y3.out)).trans Y3.out) ((hb.block _ (lt_of_block S3.out)).trans S3.out))
  have HI : Hid (∀ (a' : Option Addr) (c' : Nat), (Tryz.prog.info? 43).map (·.size) = some (#[.string p, .int .i64 ino, .slice a' m c', .bool su] : Array Value).size) := Lib.hid (fun a' c' => by kernel_rfl)
  clear hb2 B1 X1 HF hw3 b3 T2 HT HE2
  go_upto_region 5 with fail
  rw [HW3.out]
  try rw [hyb]
  go_upto_region 7 with fail
  go_region_held3 (fun wx => wx.cell? ⟨yb, 0, none⟩ = some (.pointer (some ⟨sb, 0, none⟩)) ∧ wx.cell? ⟨sb, 0, none⟩ = some (.int .i64 ino) ∧ wx.cell? ⟨sb, 1, none⟩ = some (.slice ad m sc) ∧ wx.cell? ⟨sb, 2, none⟩ = some (.bool su))
    (first | exact KS.out _ (Below.refl _ _).drew | exact k9 | exact KS.out _ b6)
    (first | (go_at_call 26; refine (HC.out _ B3.out.drew).mono ?_; rintro e w6 ⟨ad', c', rfl, ho, hb6⟩; have b6 : Below w3.heap.size w3 w6 := bstep (Below.refl w3.heap.size w3).drew hb6; have X6 := (b6.block _ (lt_of_block X3.out)).trans X3.out; have HX6 := Lib.hid X6; obtain ⟨s1, s2, s3, s4, s5, s6, s7, s8⟩ := four_facts X6 (.string p) (.int .i64 ino) (.slice ad' m c'); have E9 := Lib.hid (four_stores X6 (.string p) (.int .i64 ino) (.slice ad' m c') (.bool su)); have k9 := KX.out ((((w6.setCell ⟨vb, 0, none⟩ (.string p)).setCell ⟨vb, 1, none⟩ (.int .i64 ino)).setCell ⟨vb, 2, none⟩ (.slice ad' m c')).setCell ⟨vb, 3, none⟩ (.bool su)) (by rw [E9.out, setRow_other _ _ _ _ HNE.out.2]; exact (b6.block _ (lt_of_block Y3.out)).trans Y3.out) (by rw [E9.out, setRow_other _ _ _ _ HNE.out.1]; exact (b6.block _ (lt_of_block S3.out)).trans S3.out); clear X6))
  all_goals (
    go_wp2_with fail
    have R9 : ((((w6.setCell ⟨vb, 0, none⟩ (.string p)).setCell ⟨vb, 1, none⟩ (.int .i64 ino)).setCell ⟨vb, 2, none⟩ (.slice ad' m c')).setCell ⟨vb, 3, none⟩ (.bool su)).heap[vb]? = some (.cells #[.string p, .int .i64 ino, .slice ad' m c', .bool su] 43) := by rw [E9.out]; exact setRow_heap _ _ _ _ _ _ HX6.out
    refine bodyPost_ret_by (results_cell2 Tryz.results11 _ _ vb 43 #[.string p, .int .i64 ino, .slice ad' m c', .bool su] (0, 0) _ rfl R9 Tryz.underlying43 rfl (HI.out ad' c')) (by rfl) ?_
    refine ⟨⟨ad', c', rfl, ?_⟩, ?_⟩
    · rw [E9.out]
      have hv3 : vb < w3.drew.heap.size := lt_of_block X3.out
      exact (ho.keepAt (fun g h1 h2 => setRow_other _ _ _ _ (by omega))).mono B3.out.size
    · rw [E9.out]
      exact below_setRowV (bstep B3.out b6) (Nat.le_of_eq hvb))

theorem open_any (tb g c : Nat) (F : ByteArray → Option Ent) (S : Shares) (path : ByteArray) (w : World) (h : TreeAt w tb g c F) (hS : ShAt w F S) (hF : TreeIn F) (hp : path.size ≤ 140737488355328) :
    Calls Tryz.prog 11 #[.pointer (some ⟨tb, 0, none⟩), .string path] w fun e w' => OpenPost w e w' (openF F S path) ∧ Below w.heap.size w w' := by
  cases hf : folF F path with
  | error n =>
    have hE : openF F S path = .error n := by unfold openF; rw [hf]
    rw [hE]
    exact open_err tb g c F path w h hF.ok hp n hf
  | ok p =>
    obtain ⟨x, hx, hk⟩ := folF_end hF hf
    have hps := hF.ok.keys _ _ hx
    rcases hk with hk | hk
    · have hE : openF F S path = .ok (p, S (x.sh.getD 0)) := by
        unfold openF
        rw [hf]
        simp only []
        rw [hx, Option.getD_some, if_neg (by omega)]
      rw [hE]
      exact open_file tb g c F S path p x w h hS hF.ok hp hf (by omega) hx hk
    · have hE : openF F S path = .error 16 := by
        unfold openF
        rw [hf]
        simp only []
        rw [hx, Option.getD_some, if_pos hk]
      rw [hE]
      exact open_dir tb g c F path p w h hF.ok hp hf (by omega) (by rw [hx]; exact hk)
end Go.Proofs.YtcabpidbdnlomaaGreatDoor
