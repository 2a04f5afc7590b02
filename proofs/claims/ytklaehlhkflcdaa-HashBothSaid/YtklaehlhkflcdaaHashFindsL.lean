/- Layer 7: the statement on tables of the first kind. -/
import Derived.Test.YtklaehlhkflcdaaHashFindsW
import Derived.Deep.WholeRow
namespace Go.Proofs.Ytklaehlhkflcdaa
open Go.RowKit
set_option linter.unusedVariables false
set_option linter.unusedSimpArgs false

set_option maxRecDepth 100000 in
set_option maxHeartbeats 4000000 in
theorem same_eq (a b : Option Addr) (c d m : Nat) (xs : List Int) (w : World) (hm : xs.length = m) (hml : m ≤ 140737488351232) (ha : Row .i64 w a xs) (hb : Row .i64 w b xs) :
    Calls Try.prog 9 #[.slice a m c, .slice b m d] w fun e w' => e = .returned (.bool true) ∧ Below w.heap.size w w' := by
  have HA := Lib.hid ha; clear ha
  have HB := Lib.hid hb; clear hb
  have HM := Lib.hid hm; clear hm
  go_enter Try.func9, Try.ntmps9
  go_wp2
  go_loopg [5] m (fun g i wr => ∃ k : Nat, k + g = m ∧ i = .int .i64 k ∧ Hid (Below w.heap.size w wr))
  case atStart => exact ⟨0, by omega, rfl, Lib.hid (Below.refl _ _)⟩
  case round =>
    obtain ⟨k, hk, rfl, hdr⟩ := hrel
    cases gk with
    | zero =>
      have hk' : k = m := by omega
      clear hk
      subst hk'
      go_wp2
      go_ret
      exact ⟨rfl, hdr.out⟩
    | succ g =>
      have hlt : k < m := by omega
      obtain ⟨b1, o1, rfl, p0⟩ := (HA.out.below hdr.out) k (by rw [HM.out]; exact hlt)
      obtain ⟨b2, o2, rfl, q0⟩ := (HB.out.below hdr.out) k (by rw [HM.out]; exact hlt)
      generalize xs.getD k 0 = x at *
      go_wp2
      go_quiet (fail)
      go_wp2
      go_roundg g
      case measure => omega
      case rel => exact ⟨k + 1, by omega, by go_num, Lib.hid (below_drewN hdr.out _)⟩

/-- what the statement tells of the dynamic section -/
def dynH : Array Value := #[.slice none 0 0, .int .u64 0, .int .u64 0, .int .u64 256, .int .u64 0, .int .u64 0, .int .u64 0, .int .u64 0, .int .u64 0, .int .u64 0, .int .u64 0, .int .u64 0, .int .u64 0, .int .u64 0, .bool false, .bool false, .bool false,
  .int .u64 0, .int .u64 0, .int .u64 0, .int .u64 0, .int .u64 0, .int .u64 0, .int .u64 0, .int .u64 0, .int .u64 0, .int .u64 0, .int .u64 0, .int .u64 0, .int .u64 0, .int .u64 0, .int .u64 0, .bool false, .bool false, .bool false, .bool false, .bool false]
theorem OwnT.form {w : World} {B : Nat} {e : TypeId} {v : Value} {T : List ByteArray} (h : OwnT w B e v T) : ∃ ad c, v = .slice ad T.length c := by
  rcases h.2 with ⟨rfl, h0⟩ | ⟨g, c, cur, rfl, -⟩
  · exact ⟨none, 0, by rw [h0]⟩
  · exact ⟨_, c, rfl⟩
theorem dynH_built : Try.prog.built 35 [(3, .int .u64 256)] = some dynH := by kernel_rfl
theorem wp_build_as {P : Program} {o : Oper} {a : Act} {w : World} {K : Act → World → Prop} {Q : Exit → Act → World → Prop} (t : TypeId) (parts : Array (Nat × Operand)) (ho : o.op = .build t parts)
    (vals : List (Nat × Value)) (cells : Array Value) (hv : (parts.map fun (i, x) => (i, a.eval x)).toList = vals) (hb : P.built t vals = some cells) (h : K (a.put o.dst (.agg cells)) w) : o.wp P a w K Q := by
  subst hv
  exact wp_build t parts ho (by rw [hb]; rfl) (by rw [hb]; exact h)
def oneP (S : Nat) : PT := ⟨1, 0, 0, 256, S, 0, 0⟩
theorem one_prow {w : World} {b : Nat} {T : TypeId} {S : Nat} (h : w.heap[b]? = some (.cells #[.int .u32 1, .int .u32 0, .int .u64 0, .int .u64 256, .int .u64 (S : Int), .int .u64 0, .int .u64 0] T)) (hS : S < 18446744073709551616) : PRow w (some ⟨b, 0, none⟩) [oneP S] := by
  intro i hi
  have hi0 : i = 0 := by simpa using hi
  subst hi0
  refine ⟨?_, b, 0, rfl, lt_of_block h, fun j hj => ?_⟩
  · simp [oneP, PT.wf]
    omega
  · rw [Nat.zero_mul, Nat.zero_add, cell_of_row _ _ _ _ _ _ h]
    match j, hj with
    | 0, _ => rfl
    | 1, _ => rfl
    | 2, _ => rfl
    | 3, _ => rfl
    | 4, _ => rfl
    | 5, _ => rfl
    | 6, _ => rfl

set_option maxRecDepth 100000 in
set_option maxHeartbeats 4000000 in
theorem finds_at (a : Option Addr) (cap : Nat) (T : List ByteArray) (b : Int) (name : ByteArray) (w : World) (h : TRow w a T) (hn : a = none → T.length = 0 ∧ cap = 0) (hs : ∀ t ∈ T, t.size ≤ 140737488351232) (hns : name.size ≤ 140737488351232) (hTl : T.length ≤ 140737488351232) (hb1 : -9223372036854775808 ≤ b) (hb2 : b < 9223372036854775808) :
    Calls Try.prog 3 #[.slice a T.length cap, .int .i64 b, .string name] w fun e w' => e = .returned (.bool true) ∧ Below w.heap.size w w' := by
  obtain ⟨r1, hr1⟩ : ∃ r1, b.tmod 64 = r1 := ⟨_, rfl⟩
  have hr1b : -64 < r1 ∧ r1 < 64 := by
    rw [← hr1]
    have := Int.tmod_lt_of_pos b (show (0:Int) < 64 by omega)
    have := Int.lt_tmod_of_pos b (show (0:Int) < 64 by omega)
    omega
  obtain ⟨m, hm⟩ : ∃ m : Nat, (r1 + 64).tmod 64 = (m : Int) := ⟨((r1 + 64).tmod 64).toNat, by
    have := Int.tmod_nonneg 64 (show 0 ≤ r1 + 64 by omega)
    omega⟩
  have hm64 : m < 64 := by
    have := Int.tmod_lt_of_pos (r1 + 64) (show (0:Int) < 64 by omega)
    omega
  have H := Lib.hid h
  have HN := Lib.hid hn
  have HS := Lib.hid hs
  have HB := Lib.hid (And.intro hb1 hb2)
  clear h hn hs hb1 hb2
  by_cases hlen : (1000 : Int) < (T.length : Int)
  · clear hm hr1
    go_enter Try.func3, Try.ntmps3
    go_wp2_with fail
    refine (up_true w).mono ?_
    rintro e w1 ⟨rfl, rfl⟩
    go_wp2_with fail
    go_ret
    exact ⟨rfl, Below.refl _ _⟩
  · have hl2 : T.length ≤ 1000 := by omega
    have hwr : IntKind.u32.wrap (1 + (m : Int)) = 1 + (m : Int) := by rw [IntKind.wrap_u32]; omega
    have hcap : T.length ≤ 1000 := hl2
    have OL := Lib.hid (OwnT.lit w w.heap.size 9 [⟨#[]⟩] #[.string ⟨#[]⟩] rfl (Nat.le_refl _) (by unfold maxLen; simp))
    have BA : Hid (Below w.heap.size w (w.alloc (.cells #[.string ⟨#[]⟩] 9))) := Lib.hid ((Below.refl _ _).alloc (Nat.le_refl _) _)
    have H1 := Lib.hid (H.out.below BA.out)
    have BAS := Lib.hid BA.out.size
    have h63 : 1 + T.length ≤ maxLen := by unfold maxLen; omega
    clear hlen
    go_enter Try.func3, Try.ntmps3
    go_wp2_with fail
    refine (up_true w).mono ?_
    rintro e w1 ⟨rfl, rfl⟩
    go_wp2_with (at_builtin; go_loud (refine wpList_texts rfl (.tmp 31) (.tmp 32) texts_t text_info rfl w.heap.size w (.slice (some ⟨w.heap.size, 0, none⟩) 1 1) [⟨#[]⟩] 1 a cap T.length T rfl (by rfl) rfl rfl H1.out HN.out OL.out h63 (by omega) BA.out BAS.out ?_); intro v5 w5 hown5 hbe5; have O5 := Lib.hid hown5; have B5 := Lib.hid hbe5; clear hown5 hbe5)
    obtain ⟨all, hall⟩ : ∃ all, ([⟨#[]⟩] ++ T : List ByteArray) = all := ⟨_, rfl⟩
    rw [hall] at O5
    obtain ⟨ad, c, rfl⟩ := O5.out.form
    obtain ⟨hTR, -, hTc⟩ := O5.out.row
    have hNl : all.length = T.length + 1 := by rw [← hall]; simp
    have hasz : ∀ t ∈ all, t.size ≤ 140737488351232 := by
      rw [← hall]
      intro t ht
      rcases List.mem_append.1 ht with ht | ht
      · simp only [List.mem_singleton] at ht
        subst ht
        exact Nat.zero_le _
      · exact HS.out t ht
    have HASZ := Lib.hid hasz
    have hN0 : 0 < all.length := by omega
    have hN1 : all.length ≤ 1001 := by omega
    have HTR := Lib.hid hTR
    have hf := first_any ad c all (1 + m) w5 hTR (fun t ht => Nat.le_trans (hasz t ht) (by decide)) hN0 (by omega) (by omega) (by omega)
    have hc1 : ((1 + m : Nat) : Int) = 1 + (m : Int) := by omega
    rw [hc1] at hf
    have HF := Lib.hid hf
    obtain ⟨hb, hhb⟩ : ∃ hb : Nat → Nat, (fun x => sysOf (all.getD x .empty).data.toList % (1 + m)) = hb := ⟨_, rfl⟩
    rw [hhb] at HF
    have HHB : Hid (∀ x, hb x = sysOf (all.getD x .empty).data.toList % (1 + m)) := Lib.hid (fun x => by rw [← hhb])
    obtain ⟨N, hN⟩ : ∃ N, all.length = N := ⟨_, rfl⟩
    have HNN := Lib.hid hN
    rw [hN] at HF hN0 hN1 hTc ⊢
    have HCH := Lib.hid (chains_made (hb := hb) (n := 1 + m) (N := N) (S := 4 * (2 + (1 + m) + N)) (by omega) (by omega) hN0 (by omega) rfl)
    have HLK := Lib.hid (look_made (hb := hb) (n := 1 + m) (all := all) (name := name) (k := sysOf name.data.toList) (by omega) (by rw [hN]; exact hN0) (fun x hx he => by rw [HHB.out, he]))
    rw [hN] at HLK
    have HFL : Hid ((fourF (tabW hb (1 + m) N 0)).length = 4 * (2 + (1 + m) + N)) := Lib.hid (by rw [fourF_length, tabW_length])
    have HFB := Lib.hid (fourF_lt (tabW hb (1 + m) N 0))
    obtain ⟨F, hF⟩ : ∃ F, fourF (tabW hb (1 + m) N 0) = F := ⟨_, rfl⟩
    rw [hF] at HF HCH HFL HFB
    clear hall hNl hasz hTR hf hhb hN hF OL BA H1 BAS h63 H HN HS hm hr1 hwr
    refine HF.out.mono ?_
    rintro e w6 ⟨fa, fc, rfl, ho6, hb6⟩
    have hfc := ho6.cap2
    have hfn : fa = none → F.length = 0 ∧ fc = 0 := by
      obtain ⟨a', c', hv, -, -, hn', -⟩ := ho6.row
      simp only [Value.slice.injEq] at hv
      obtain ⟨rfl, -, rfl⟩ := hv
      rw [toI_length] at hn'
      exact hn'
    have HFN := Lib.hid hfn
    have HBR : Hid (BRow w6 fa F) := Lib.hid ⟨ho6.row2, HFB.out⟩
    have B6 := Lib.hid (bstep B5.out hb6)
    have HTR6 := Lib.hid (HTR.out.below hb6)
    clear ho6 hb6 HF hfn HTR B5 O5
    rw [HFL.out] at hfc ⊢
    obtain ⟨S, hS⟩ : ∃ S, 4 * (2 + (1 + m) + N) = S := ⟨_, rfl⟩
    rw [hS] at HCH HFL hfc ⊢
    have hSl : S ≤ 5000 := by omega
    clear hS
    go_wp2_with fail
    refine wp_build_as 35 _ rfl [(3, .int .u64 256)] dynH (by rw [Array.toList_map]; rfl) dynH_built ?_
    have HDS : Hid (dynH.size = 37) := Lib.hid rfl
    have HD3 : Hid (dynH[3]? = some (.int .u64 ((256 : Nat) : Int))) := Lib.hid rfl
    have HD25 : Hid (dynH[25]? = some (.int .u64 0)) := Lib.hid rfl
    have HD1 : Hid (dynH.all (·.oneCell') = true) := Lib.hid (by simp [dynH, Value.oneCell'])
    have PR : Hid (PRow ((w6.alloc (.cells #[.int .u32 1, .int .u32 0, .int .u64 0, .int .u64 256, .int .u64 (S : Int), .int .u64 0, .int .u64 0] 29)).alloc (.cells #[.int .i64 0, .int .u64 0, .slice (some ⟨w6.heap.size, 0, none⟩) 1 1] 32)) (some ⟨w6.heap.size, 0, none⟩) [oneP S]) := Lib.hid (one_prow (two_boxes (Below.refl _ _)).1 (by omega))
    have HH7 : Hid (((w6.alloc (.cells #[.int .u32 1, .int .u32 0, .int .u64 0, .int .u64 256, .int .u64 (S : Int), .int .u64 0, .int .u64 0] 29)).alloc (.cells #[.int .i64 0, .int .u64 0, .slice (some ⟨w6.heap.size, 0, none⟩) 1 1] 32)).heap[w6.heap.size + 1]? = some (.cells #[.int .i64 0, .int .u64 0, .slice (some ⟨w6.heap.size, 0, none⟩) 1 1] 32)) := Lib.hid (two_boxes (Below.refl _ _)).2
    have B7 : Hid (Below w6.heap.size w6 ((w6.alloc (.cells #[.int .u32 1, .int .u32 0, .int .u64 0, .int .u64 256, .int .u64 (S : Int), .int .u64 0, .int .u64 0] 29)).alloc (.cells #[.int .i64 0, .int .u64 0, .slice (some ⟨w6.heap.size, 0, none⟩) 1 1] 32))) := Lib.hid (((Below.refl _ _).alloc (Nat.le_refl _) _).alloc (by simp) _)
    generalize ((w6.alloc (.cells #[.int .u32 1, .int .u32 0, .int .u64 0, .int .u64 256, .int .u64 (S : Int), .int .u64 0, .int .u64 0] 29)).alloc (.cells #[.int .i64 0, .int .u64 0, .slice (some ⟨w6.heap.size, 0, none⟩) 1 1] 32)) = w7 at *
    have hsc : (storeCells ⟨w7.heap.size, 0, none⟩ dynH.toList).run Try.prog (w7.alloc (.cells #[.slice none 0 0, .int .u64 0, .int .u64 0, .int .u64 0, .int .u64 0, .int .u64 0, .int .u64 0, .int .u64 0, .int .u64 0, .int .u64 0, .int .u64 0, .int .u64 0, .int .u64 0, .int .u64 0, .bool false, .bool false, .bool false, .int .u64 0, .int .u64 0, .int .u64 0, .int .u64 0, .int .u64 0, .int .u64 0, .int .u64 0, .int .u64 0, .int .u64 0, .int .u64 0, .int .u64 0, .int .u64 0, .int .u64 0, .int .u64 0, .int .u64 0, .bool false, .bool false, .bool false, .bool false, .bool false] 35)) = .ok () (w7.alloc (.cells dynH 35)) := run_storeCells_new w7 35 #[.slice none 0 0, .int .u64 0, .int .u64 0, .int .u64 0, .int .u64 0, .int .u64 0, .int .u64 0, .int .u64 0, .int .u64 0, .int .u64 0, .int .u64 0, .int .u64 0, .int .u64 0, .int .u64 0, .bool false, .bool false, .bool false, .int .u64 0, .int .u64 0, .int .u64 0, .int .u64 0, .int .u64 0, .int .u64 0, .int .u64 0, .int .u64 0, .int .u64 0, .int .u64 0, .int .u64 0, .int .u64 0, .int .u64 0, .int .u64 0, .int .u64 0, .bool false, .bool false, .bool false, .bool false, .bool false] dynH (by rw [HDS.out]; kernel_rfl) rfl HD1.out
    generalize dynH = D at *
    have hdsz := HDS.out
    have B8 : Hid (Below w6.heap.size w6 (w7.alloc (.cells D 35))) := Lib.hid (B7.out.alloc B7.out.size _)
    have B8S := Lib.hid B8.out.size
    have HD8 : Hid ((w7.alloc (.cells D 35)).heap[w7.heap.size]? = some (.cells D 35)) := Lib.hid (heap_alloc_new _ _)
    have PR8 := Lib.hid (PR.out.below ((Below.refl w7.heap.size w7).alloc (Nat.le_refl _) (.cells D 35)))
    have HH8 : Hid ((w7.alloc (.cells D 35)).heap[w6.heap.size + 1]? = some (.cells #[.int .i64 0, .int .u64 0, .slice (some ⟨w6.heap.size, 0, none⟩) 1 1] 32)) := Lib.hid ((heap_alloc_old _ _ (lt_of_block HH7.out)).trans HH7.out)
    have HRF := Lib.hid (Below.refl (w7.alloc (.cells D 35)).heap.size (w7.alloc (.cells D 35)))
    go_wp2_with (at_make; go_loud (refine wpList_make_row rfl (.tmp 46) (.tmp 46) symSlice rfl symNil rfl (w7.alloc (.cells D 35)).heap.size (w7.alloc (.cells D 35)) N .i64 .i64 (N : Int) (N : Int) rfl rfl rfl rfl (by omega) (by unfold maxLen; omega) HRF.out (Nat.le_refl _) ?_); intro g w9 ho9 hg9 hb9 hb9'; have O9 := Lib.hid ho9; have B9 := Lib.hid hb9; clear ho9 hg9 hb9 hb9')
    clear hsc B7 HH7 PR HD1
    obtain ⟨w8, hw8⟩ : ∃ w8, w7.alloc (.cells D 35) = w8 := ⟨_, rfl⟩
    rw [hw8] at B8 B8S HD8 PR8 HH8 O9 B9 HRF
    clear hw8
    have HTR8 := Lib.hid (HTR6.out.below B8.out)
    rw [← HNN.out, ← symsTo_zero] at O9
    rw [HNN.out] at O9
    have HWS := Lib.hid (fun k => wantTo_succ all name k)
    have HWL := Lib.hid (fun k => wantTo_le all name k)
    go_loopg [14, 15] N (fun gg u i wr => ∃ (k : Nat) (wa : Option Addr) (wc : Nat), k + gg = N ∧ i = .int .i64 (k : Int) ∧ u = .slice wa (wantTo all name k).length wc ∧ Hid (OwnS wr w8.heap.size 39 7 (.slice (some ⟨g, 0, none⟩) N N) (symsTo all k)) ∧
      Hid (OwnI wr w8.heap.size 3 .i64 (.slice wa (wantTo all name k).length wc) (toI (wantTo all name k))) ∧ Hid (Below w8.heap.size w8 wr))
    case atStart => exact ⟨0, none, 0, by omega, rfl, rfl, O9, Lib.hid (OwnI.nil _ _ _ _), B9⟩
    case round =>
      obtain ⟨k, wa, wc, hk, rfl, rfl, OS, OI, BW⟩ := hrel
      cases gk with
      | zero =>
        have hke : k = N := by omega
        subst hke
        have hwa : wantTo all name k = wantF all name 0 := by rw [← HNN.out]; exact wantTo_all all name (by rw [HNN.out]; exact hN0)
        rw [hwa] at OI
        have hnr : NameRow wr (some ⟨g, 0, none⟩) all := by
          have h1 := OS.out
          rw [show symsTo all k = symsTo all all.length from by rw [HNN.out]] at h1
          exact h1.names
        have HNRW := Lib.hid hnr
        have B68 := Lib.hid (bstep B8.out BW.out)
        have BB := Lib.hid (bstep B6.out B68.out)
        have HBW : Hid (BRow wr fa F) := Lib.hid (HBR.out.below B68.out)
        have HPW := Lib.hid (PR8.out.below BW.out)
        have HDW : Hid (∀ w', Below wr.heap.size wr w' → w'.heap[w7.heap.size]? = some (.cells D 35)) := Lib.hid (fun w' h => by
          have hlt := lt_of_block HD8.out
          rw [h.block _ (Nat.lt_of_lt_of_le hlt BW.out.size), BW.out.block _ hlt]
          exact HD8.out)
        have HHW : Hid (∀ w', Below wr.heap.size wr w' → w'.cell? ⟨w6.heap.size + 1, 0, none⟩ = some (.int .i64 0) ∧ w'.cell? ⟨w6.heap.size + 1, 1, none⟩ = some (.int .u64 0) ∧ w'.cell? ⟨w6.heap.size + 1, 2, none⟩ = some (.slice (some ⟨w6.heap.size, 0, none⟩) 1 1)) := Lib.hid (fun w' h => by
          have hlt := lt_of_block HH8.out
          have e : w'.heap[w6.heap.size + 1]? = some (.cells #[.int .i64 0, .int .u64 0, .slice (some ⟨w6.heap.size, 0, none⟩) 1 1] 32) := by
            rw [h.block _ (Nat.lt_of_lt_of_le hlt BW.out.size), BW.out.block _ hlt]
            exact HH8.out
          exact ⟨by rw [cell_of_row _ _ _ _ _ _ e]; rfl, by rw [cell_of_row _ _ _ _ _ _ e]; rfl, by rw [cell_of_row _ _ _ _ _ _ e]; rfl⟩)
        have HI : Hid ((Try.prog.info? 35).map (·.size) = some D.size) := Lib.hid (by rw [HDS.out]; kernel_rfl)
        have hlen2 : (List.map (fun x => if x ≤ 0 then 0 else nxt hb k x (hb x)) (List.range k)).length = k := by simp
        have HCN := Lib.hid (fun (w1 : World) (h : Below wr.heap.size wr w1) => count_first fa fc F 0 0 (some ⟨w6.heap.size, 0, none⟩) 1 [oneP S] D 256 _ w1 (HBW.out.below h) (by rw [HFL.out]; omega) (by rw [HFL.out]; exact hfc) HFN.out (HPW.out.below h) (by simp) (by decide) (by decide) HDS.out HD3.out HCH.out)
        rw [hlen2, HFL.out] at HCN
        have HLO := Lib.hid (fun (w1 : World) (h : Below wr.heap.size wr w1) => look_first fa fc F 0 0 (some ⟨w6.heap.size, 0, none⟩) 1 [oneP S] D 256 _ (some ⟨g, 0, none⟩) k all name w1 (HBW.out.below h) (by rw [HFL.out]; omega) (by rw [HFL.out]; exact hfc) HFN.out (HPW.out.below h) (by simp) (by decide) (by decide) HDS.out HD3.out HD25.out HCH.out (HNRW.out.below h) (by rw [HNN.out]; omega) hns)
        rw [HLK.out, HFL.out, HNN.out] at HLO
        have HRW := Lib.hid (Below.refl wr.heap.size wr)
        have hwl : (wantF all name 0).length ≤ k := by rw [← hwa]; exact HWL.out k
        obtain ⟨L, hL⟩ : ∃ L, wantF all name 0 = L := ⟨_, rfl⟩
        rw [hwa, hL]
        rw [hL] at OI HLO hwl
        obtain ⟨k0, k1, k2⟩ := HHW.out wr HRW.out
        have hDw := HDW.out wr HRW.out
        have HDw := Lib.hid hDw
        clear hwa hnr hlen2 hL hDw HCH HLK HTR8 HTR6 HWS HWL HNRW OS
        unfold headV at *
        go_wp2_with (refine wpList_load_row rfl 35 _ rfl w7.heap.size rfl 35 D (0, 0) _ HDw.out Try.underlying35 rfl HI.out ?_)
        refine (HCN.out wr HRW.out).mono ?_
        rintro e w11 ⟨rfl, hb11⟩
        obtain ⟨m0, m1, m2⟩ := HHW.out w11 hb11
        have HDw2 := Lib.hid (HDW.out w11 hb11)
        have B11 := Lib.hid hb11
        have OI11 := Lib.hid (OI.out.below hb11)
        clear hb11 k0 k1 k2 HDw
        go_wp2_with (refine wpList_load_row rfl 35 _ rfl w7.heap.size rfl 35 D (0, 0) _ HDw2.out Try.underlying35 rfl HI.out ?_)
        refine (HLO.out w11 B11.out).mono ?_
        rintro e w12 ⟨ma, mc, he, ho12, hb12⟩
        replace he : e = .returned (.tuple #[.slice ma L.length mc, .nilIface]) := he
        replace ho12 : OwnI w12 _ 3 .i64 (.slice ma L.length mc) (toI L) := ho12
        subst he
        have B12 := Lib.hid (bstep B11.out hb12)
        have HSM := Lib.hid (same_eq ma wa mc wc L.length (toI L) w12 (toI_length _) (by omega) ho12.row2 (OI11.out.below hb12).row2)
        clear ho12 hb12 m0 m1 m2 HDw2
        go_wp2_with fail
        refine HSM.out.mono ?_
        rintro e w13 ⟨rfl, hb13⟩
        have B13 := Lib.hid (bstep BB.out (bstep B12.out hb13))
        clear hb13
        go_wp2_with fail
        go_ret
        exact ⟨rfl, B13.out⟩
      | succ gg =>
        have hlk : k < N := by omega
        obtain ⟨tb, to, rfl, -, htc⟩ := (HTR8.out.below BW.out) k (by rw [HNN.out]; exact hlk)
        have hs0 := OS.out.cellAt k 0 (by rw [symsTo_length, HNN.out]; exact hlk) (by omega)
        have hsv : (symsTo all k)[k]? = some symNil := by
          have := symsTo_at (k := k) (show k < all.length by rw [HNN.out]; exact hlk)
          rw [if_neg (by omega)] at this
          exact this
        have hsv2 : (symsTo all k)[k]'(by rw [symsTo_length, HNN.out]; exact hlk) = symNil := by
          rw [List.getElem?_eq_getElem (by rw [symsTo_length, HNN.out]; exact hlk)] at hsv
          exact Option.some.inj hsv
        rw [hsv2] at hs0
        replace hs0 : wr.cell? ⟨g, k * 7, none⟩ = some (.string .empty) := hs0
        have hsf : wr.frozen? ⟨g, k * 7, none⟩ = false := OS.out.freeAt (k * 7)
        have OSP := Lib.hid (OS.out.putText HNN.out hlk)
        have hap : (Value.slice wa (wantTo all name k).length wc).ownBlock ≠ some g := by
          rcases own_apart (v' := .slice wa (wantTo all name k).length wc) OS.out.1 OI.out (by decide) with h1 | h1
          · rw [h1]; simp
          · exact h1
        have OIP := Lib.hid (OI.out.setO (a := ⟨g, k * 7, none⟩) hap (.string (all.getD k .empty)))
        have BWP := Lib.hid (BW.out.setCell (p := ⟨g, k * 7, none⟩) (OS.out.blockGe).1 (.string (all.getD k .empty)))
        have htg : ¬ g = tb := by
          intro e
          have h1 := (OS.out.blockGe).1
          have h2 : tb < w8.heap.size := by
            obtain ⟨tb', to', e', hlt', -⟩ := HTR8.out k (by rw [HNN.out]; exact hlk)
            cases e'
            exact hlt'
          omega
        have htg' : ¬ tb = g := fun e => htg e.symm
        have HK := Lib.hid (HWS.out k)
        have hwl := HWL.out k
        clear hap hsv hsv2
        generalize all.getD k .empty = nm at *
        by_cases hk0 : k = 0
        · rw [if_neg (by omega)] at HK
          have hk0' : ¬ (0 : Int) < (k : Int) := by omega
          have HK0 := Lib.hid hk0
          clear hk0
          go_wp2_with fail
          go_roundg gg
          case measure => omega
          case rel => exact ⟨k + 1, wa, wc, by omega, by go_num, by rw [HK.out], OSP, by rw [HK.out]; exact OIP, BWP⟩
        · have hk0' : (0 : Int) < (k : Int) := by omega
          by_cases hnm : nm = name
          · rw [if_pos ⟨by omega, hnm⟩] at HK
            subst hnm
            have BWS := Lib.hid BWP.out.size
            have hwl2 : (wantTo all nm k).length ≤ 1001 := by omega
            obtain ⟨L, hL⟩ : ∃ L, wantTo all nm k = L := ⟨_, rfl⟩
            rw [hL] at OIP hwl2 HK ⊢
            clear hL hk0
            go_wp2_with (at_builtin; go_loud (refine wpList_grow rfl (.tmp 72) (.tmp 74) slice64h rfl w8.heap.size (.slice wa L.length wc) (toI L) L.length (k : Int) rfl (by change Value.slice (some ⟨wr.heap.size, 0, none⟩) 1 1 = _; simp [World.setCell]) (toI_length _) OIP.out (by unfold maxLen; omega) (by omega) BWS.out ?_); intro ad5 c5 w10 hown5 hgr5; have O5 := Lib.hid hown5; have G5 := Lib.hid hgr5; clear hown5 hgr5)
            go_roundg gg
            case measure => omega
            case rel =>
              have hT : toI L ++ [(k : Int)] = toI (L ++ [k]) := by simp [toI]
              have o5 := O5.out
              rw [hT] at o5
              refine ⟨k + 1, ad5, c5, by omega, by go_num, by rw [HK.out]; simp, Lib.hid ?_, Lib.hid (by rw [HK.out]; simpa using o5), Lib.hid ?_⟩
              · exact (OSP.out.allocO _).keepI G5.out (OIP.out.allocO _) (by decide)
              · exact below_keepI (BWP.out.alloc BWP.out.size _) G5.out (OIP.out.allocO _) (by have := BWP.out.size; simp at this ⊢; omega)
          · rw [if_neg (fun h => hnm h.2)] at HK
            have hnmb := text_ne hnm
            clear hnm hk0
            go_wp2_with fail
            go_roundg gg
            case measure => omega
            case rel => exact ⟨k + 1, wa, wc, by omega, by go_num, by rw [HK.out], OSP, by rw [HK.out]; exact OIP, BWP⟩
end Go.Proofs.Ytklaehlhkflcdaa
