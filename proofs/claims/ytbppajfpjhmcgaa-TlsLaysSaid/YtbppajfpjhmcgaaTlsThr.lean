/- tls.Thread: of a store without images, in a memory of at most one page. -/
import Derived.Test.YtbppajfpjhmcgaaTlsPush2
import Derived.Test.YtbppajfpjhmcgaaStepL
import Derived.Test.YtbppajfpjhmcgaaTlsClaim
import Derived.Test.YtbppajfpjhmcgaaTlsBytes
import Derived.Deep.DeepCutAuto
import Derived.BigQuiet
namespace Go.Proofs.Ytbppajfpjhmcgaa
open Go.RowKit
set_option linter.unusedVariables false
set_option linter.unusedSimpArgs false

theorem write_ok (mb : Nat) (S : Nat → Prop) (q c : Nat) (V : Nat → Option Pg) (g : Nat) (F : Nat → Option Nat) (a : Nat) (fa : Option Addr) (fl fc : Nat) (bs : List Nat) (w : World) (h : VmAt w mb S q c V g F) (ha : a < 18446744073709551616) (hb : BRow w fa bs) (hbl : bs.length = fl) (hlc : fl ≤ fc) (hl : fl ≤ 140737488355328) (hsrc : ∀ b o, fa = some ⟨b, o, none⟩ → ¬ S b)
    (hbar : ∀ i, i < fl → ∃ p, V ((a + i) / 4096) = some p ∧ p.perm &&& 2 = 2) :
    Calls Try.prog 23 #[.pointer (some ⟨mb, 0, none⟩), .int .u64 (a : Int), .slice fa fl fc] w fun e w' => e = .returned .nilIface ∧ ∃ V', VmAt w' mb S q c V' g F ∧ VKept S w w' ∧ SamePerm V V' ∧ ∀ x, byteAt V' x = if a ≤ x ∧ x < a + fl then bs.getD (x - a) 0 else byteAt V x := by
  refine (write_any mb S q c V g F a fa fl fc bs w h ha hb hbl hlc hl hsrc).mono ?_
  intro e w' hh
  have hn : barredF V 2 a fl = none := barF_all hbar
  rw [hn] at hh
  obtain ⟨h1, V', h2, h3, h4, h5, h6⟩ := hh
  exact ⟨h1, V', h2, h3, h5, h6⟩
theorem BRow.nil (w : World) : BRow w none [] := ⟨fun i hi => by simp [toI] at hi, fun b hb => by cases hb⟩
def pages64 (blw : Nat) : Nat := (blw + 64 + 4095) / 4096
/-- the offset of a thread's pointer in its block -/
def blwF (last : Nat) : Nat := (last + (64 - 1)) / 64 * 64

set_option maxRecDepth 100000 in
set_option maxHeartbeats 8000000 in
theorem thread_few (sb st last gr : Nat) (ms : List TM) (ts : List (Nat × Nat)) (ma ta : Option Addr) (mc tc : Nat) (mb : Nat) (S : Nat → Prop) (q c : Nat) (V : Nat → Option Pg) (g : Nat) (F : Nat → Option Nat) (n at_ p t : Nat) (w : World)
    (hs : StAt w sb st last gr ms ts ma mc ta tc) (hm : VmAt w mb S q c V g F) (hd : ∀ k, stD sb ma ta k → ¬ (k = mb ∨ S k)) (hS : ∀ k, S k → k < w.heap.size)
    (hg : gr ≤ 64) (hla : last ≤ 1048576) (hst : st ≤ ms.length) (hml : ms.length ≤ 1048576) (hoff : ∀ m ∈ ms, m.off ≤ last) (ht : ts.length = t) (ht1 : t ≤ 1048576)
    (hc : c ≤ 1) (hn : (blwF last + 64 + 4095) / 4096 = n) (hp : at_ + blwF last = p)
    (hfind : ∀ xs, AllOf (fun k => V k ≠ none) c xs → findL n xs 1073741824 = at_) (hb : belowF at_ n = true) (ha : at_ < 140737488355328) (hck : checkF at_ n 6 = 0) (htk : takeF V n (at_ / 4096) = none) (hq : c + n ≤ q) :
    Calls Try.prog 13 #[.pointer (some ⟨sb, 0, none⟩), .pointer (some ⟨mb, 0, none⟩)] w fun e w' => e = .returned (.tuple #[.int .i64 (t : Int), .nilIface]) ∧
      VKept (fun k => S k ∨ stD sb ma ta k) w w' ∧ ∃ mg ta' tc' S' V' F', StAt w' sb st last gr ms (ts ++ [(p, mg)]) ma mc ta' tc' ∧ VmAt w' mb S' q (c + n) V' g F' ∧ SamePerm (mapV V (at_ / 4096) n 6) V' ∧ w'.heap[mg]? = some (.map #[] 0) ∧ w.heap.size ≤ mg ∧ (∀ k, stD sb ma ta' k → ¬ (k = mb ∨ S' k)) ∧ ¬ stD sb ma ta' mg ∧ ¬ S' mg ∧ (∀ k, S' k → S k ∨ w.heap.size ≤ k ∧ k < w'.heap.size) ∧ (∀ k, stD sb ma ta' k → stD sb ma ta k ∨ w.heap.size ≤ k) := by
  have hu := fun wx => tup_any last 64 6 wx (by omega) (by omega) (by decide) (by omega)
  change ∀ wx, Calls _ _ _ wx fun e w' => e = .returned (.int .u64 ((blwF last : Nat) : Int)) ∧ wx = w' at hu
  have hbw : blwF last ≤ last + 63 := by unfold blwF; omega
  have hlb : last ≤ blwF last := by unfold blwF; omega
  have hat : at_ % 4096 = 0 := (checkF_ok hck).2.2.2.1
  have HU := Lib.hid hu
  have HCL := Lib.hid (fun (wx : World) (hx : Below w.heap.size w wx) => claim_few mb S q c V g F (blwF last + 64) n at_ wx (hm.below hx) hc (by omega) hn (by omega) hfind hb (by omega) hck htk hq)
  have HPG : Hid (at_ % 4096 = 0 ∧ blwF last + 64 ≤ n * 4096 ∧ at_ + blwF last = p ∧ last ≤ blwF last ∧ blwF last ≤ 1048639 ∧ at_ < 140737488355328) := Lib.hid (by omega)
  have HST := Lib.hid hs
  have HD := Lib.hid hd
  have HSS := Lib.hid hS
  have HOF := Lib.hid hoff
  have HT := Lib.hid (And.intro ht ht1)
  have HM1 := Lib.hid (And.intro hst hml)
  have c2 := hs.c2
  have c3 := hs.c3
  have g1 : ¬ (64 : Int) < (gr : Int) := by omega
  have e1 : IntKind.u64.wrap ((blwF last : Nat) : Int) = ((blwF last : Nat) : Int) := by rw [IntKind.wrap_u64]; omega
  have e2 : IntKind.u64.wrap (((blwF last : Nat) : Int) + 64) = ((blwF last + 64 : Nat) : Int) := by rw [IntKind.wrap_u64]; omega
  have e3 : IntKind.u64.wrap ((at_ : Int) + ((blwF last : Nat) : Int)) = (p : Int) := by rw [IntKind.wrap_u64]; omega
  clear hu hm hc hn hfind hb ha hck htk hq hg hla hst hml hoff ht ht1 hp hbw hlb hat hs hd hS
  obtain ⟨blw, hblw⟩ : ∃ blw, blwF last = blw := ⟨_, rfl⟩
  rw [hblw] at HU HCL HPG e1 e2 e3
  clear hblw
  go_enter Try.func13, Try.ntmps13
  go_wp2_with fail
  go_quiet ((go_at_call 19; exact Calls.quiet_of_same ((HU.out _).mono (by rintro e w' ⟨rfl, rfl⟩; exact ⟨rfl, rfl⟩))))
  have hB0 : Below w.heap.size w (w.drewN nq) := below_drewN (Below.refl _ _) _
  generalize w.drewN nq = w0 at hB0 ⊢
  have B0 := Lib.hid hB0
  have HC0 := Lib.hid (HCL.out w0 hB0)
  have HS0 := Lib.hid (HST.out.below hB0)
  have HL0 : Hid (w.heap.size ≤ w0.heap.size) := Lib.hid hB0.size
  clear hB0 HCL HU c2 c3 g1 e1
  go_wp2_with (go_at_call 22; refine HC0.out.mono ?_; rintro e w2 ⟨rfl, hk2, F2, hm2⟩; have HK2 := Lib.hid hk2; have HM2 := Lib.hid hm2; clear hk2 hm2)
  have HS2 := Lib.hid (HS0.out.kept HK2.out (fun k hk hs => HD.out k hk (.inr hs)))
  have c0 := HS2.out.c0
  have c1 := HS2.out.c1
  obtain ⟨L, hL⟩ : ∃ L, ms.length = L := ⟨_, rfl⟩
  rw [hL] at c0
  have f1 : L ≤ mc := by rw [← hL]; exact HS2.out.mods.at.2.2.1
  have f2 : (st : Int) ≤ (mc : Int) := by have := HM1.out.1; omega
  have f3 : (L : Int) ≤ (mc : Int) := by omega
  have f4 : (0 : Int) ≤ (st : Int) := by omega
  have HLL := Lib.hid hL
  clear hL e2 HC0
  go_wp2_with fail
  go_quiet (fail)
  have hB3 : Below w2.heap.size w2 (w2.drewN nq) := below_drewN (Below.refl _ _) _
  generalize w2.drewN nq = w3 at hB3 ⊢
  have HV3 := Lib.hid (HM2.out.below hB3)
  have HK3 : Hid (VKept (VGrow S w0 w2) w2 w3) := Lib.hid (VKept.of_below hB3)
  have HDIS : Hid (∀ k, stD sb ma ta k → ¬ VGrow S w0 w2 k) := Lib.hid (fun k hk hv => by
    rcases hv with hv | ⟨hv, -⟩
    · exact HD.out k hk (.inr hv)
    · have := (HST.out.blk hk).2; have := HL0.out; omega)
  have HW := Lib.hid (fun (wx : World) (V' : Nat → Option Pg) (a : Nat) (hx : VmAt wx mb (VGrow S w0 w2) q (c + n) V' g F2) (hax : a < 18446744073709551616) => write_ok mb (VGrow S w0 w2) q (c + n) V' g F2 a none 0 0 [] wx hx hax (BRow.nil _) rfl (Nat.le_refl _) (by omega) (fun b o e => by cases e) (fun i hi => by omega))
  clear hB3 c0 c1 f1 f2 f3 f4 e3
  go_wp2_with fail
  go_loopg [50] st (fun f s50 wr => ∃ k : Nat, s50 = .int .i64 (k : Int) ∧ Hid (k + f = st) ∧ Hid (VKept (VGrow S w0 w2) w2 wr ∧ ∃ V', VmAt wr mb (VGrow S w0 w2) q (c + n) V' g F2 ∧ SamePerm (mapV V (at_ / 4096) n 6) V'))
  case atStart => exact ⟨0, rfl, Lib.hid (by omega), Lib.hid ⟨HK3.out, _, HV3.out, SamePerm.refl _⟩⟩
  case round =>
    clear HK3 HV3
    obtain ⟨k, rfl, HK, HR⟩ := hrel
    have hk := HK.out
    cases gk with
    | zero =>
      obtain rfl : k = st := by omega
      obtain ⟨r1, V', r2, r3⟩ := HR.out
      have HR1 := Lib.hid r1
      have HR2 := Lib.hid r2
      have HR3 := Lib.hid r3
      have HLW : Hid (w2.heap.size ≤ wr.heap.size) := Lib.hid r1.size
      have HSR := Lib.hid (HS2.out.kept r1 HDIS.out)
      have HPB : Hid (p < 18446744073709551616) := Lib.hid (by have := HPG.out; omega)
      have HBY : Hid (Calls Try.prog 24 #[.int .u64 (p : Int), .int .i64 8] wr fun e w' => ∃ g, e = .returned (.slice (some ⟨g, 0, none⟩) 8 8) ∧ wr.heap.size ≤ g ∧ BRow w' (some ⟨g, 0, none⟩) (leL p 8) ∧ Below wr.heap.size wr w') := Lib.hid (bytes_any p 8 wr HPB.out (by omega))
      have HBAR : Hid (∀ i, i < 8 → ∃ pg, V' ((p + i) / 4096) = some pg ∧ pg.perm &&& 2 = 2) := Lib.hid (fun i hi => by
        have hpg := HPG.out
        obtain ⟨pg, h1, h2⟩ := r3.get (k := (p + i) / 4096) (mapV_at (by omega) (by omega))
        refine ⟨pg, h1, ?_⟩
        rw [h2]
        rfl)
      clear r1 r2 r3 HR HK hk HW
      have hmm := @run_makeMap Try.prog
      go_wp2_with (first
        | (go_at_call 24; refine HBY.out.mono ?_; rintro e w5 ⟨gb, rfl, hgb, hrow, hb5⟩; have HGB := Lib.hid hgb; have HRW := Lib.hid hrow; have B5 := Lib.hid hb5; clear hgb hrow hb5)
        | (go_at_call 23; refine (write_ok mb (VGrow S w0 w2) q (c + n) V' g F2 p (some ⟨gb, 0, none⟩) 8 8 (leL p 8) w5 (HR2.out.below B5.out) HPB.out HRW.out (leL_length _ _) (Nat.le_refl _) (by omega) (fun b o e => by simp only [Option.some.injEq, Addr.mk.injEq] at e; obtain ⟨rfl, -⟩ := e; rintro (h | ⟨h, h'⟩); (have := HSS.out _ h; have := HL0.out; have := HGB.out; have := HLW.out; have := HK2.out.size; omega); (have := HGB.out; have := HLW.out; omega)) HBAR.out).mono ?_; rintro e w6 ⟨rfl, V6, hv6, hk6, hp6, -⟩; have HV6 := Lib.hid hv6; have HK6 := Lib.hid hk6; have HP6 := Lib.hid hp6; clear hv6 hk6 hp6; have HSN := Lib.hid ((HSR.out.below B5.out).kept HK6.out HDIS.out); have c4 := HSN.out.c4; rw [HT.out.1] at c4)
        | (at_builtin; refine wpList_lies_row ?_ (.tmp 79) (.tmp 83) thrSlice ?_ (sb + 1) (.slice ta t tc) (ts.map thrRow) t [.int .u64 (p : Int), .map (some w6.heap.size)] ?_ ⟨w6.heap.size + 1, 0, none⟩ 1 ?_ ?_ ?_ ?_ ?_ ?_ ?_ ?_ ?_ (w6.heap.size + 2) ?_ ?_
           rfl; rfl; rfl; rfl
           (intro j u hu; have := news_alloc (w6.alloc (.map #[] 0)) [.int .u64 (p : Int), .map (some w6.heap.size)] 71 j u hu; simpa using this)
           (rw [List.length_map]; exact HT.out.1)
           rfl
           (intro u hu; simp only [List.mem_cons, List.not_mem_nil, or_false] at hu; rcases hu with rfl | rfl <;> rfl)
           (have h1 := (HSN.out.thr.allocO (.map #[] 0)).allocO (.cells #[.int .u64 (p : Int), .map (some w6.heap.size)] 71); rw [HT.out.1] at h1; exact h1)
           (have := HT.out.2; unfold maxLen; omega)
           (have := HT.out.2; omega)
           (have := (HSN.out.blk (.inl rfl)).2; simp; omega)
           (simp)
           intro g7 c7 w7 hown7 hgr7 hat7
           have hba : Below w6.heap.size w6 (w6.alloc (.map #[] 0)) := (Below.refl _ _).alloc (Nat.le_refl _) _
           have hP := HSN.out.push_thr HT.out.1 hba (p, w6.heap.size) hown7 hgr7 (by simpa using hat7)
           have HP := Lib.hid hP
           have ns : (Value.slice ta t tc).ownBlock ≠ some sb := fun e => by have := HSN.out.thr.1; rw [← HT.out.1] at e; exact Nat.not_succ_le_self _ (World.ownsRow.lt HSN.out.thr.1 _ e).1
           have X7 := (hgr7.block sb (by have := (HSN.out.blk (.inl rfl)).2; simp; omega) (fun e => ns e.symm)).trans ((heap_alloc_old _ _ (by have := (HSN.out.blk (.inl rfl)).2; simp; omega)).trans ((heap_alloc_old _ _ (HSN.out.blk (.inl rfl)).2).trans HSN.out.box))
           have hf7 : w7.frozen? ⟨sb, 4, none⟩ = false := frozen_of_row _ _ _ _ _ X7
           have hc7 : w7.cell? ⟨sb, 4, none⟩ = some (.slice ta t tc) := by rw [cell_of_row _ _ 4 _ _ _ X7, ← HT.out.1]; rfl
           have c8 : (w7.setCell ⟨sb, 4, none⟩ (.slice (some ⟨g7, 0, none⟩) (t + 1) c7)).cell? ⟨sb, 4, none⟩ = some (.slice (some ⟨g7, 0, none⟩) (t + 1) c7) := by
             have := hP.1.c4
             rw [List.length_append, HT.out.1] at this
             exact this
           have htb : (t : Int) < 2097152 := by have := HT.out.2; omega
           clear hP hown7 hgr7 hat7 hba ns X7))
      go_ret2
      have A1 : VKept (fun k => S k ∨ stD sb ma ta k) w w0 := VKept.of_below B0.out
      have A2 : VKept (fun k => S k ∨ stD sb ma ta k) w w2 := A1.trans HK2.out (fun j _ h => .inl h)
      have hs2 : ∀ j, j < w.heap.size → VGrow S w0 w2 j → S j ∨ stD sb ma ta j := fun j hj h => by
        rcases h with h | ⟨h, -⟩
        · exact .inl h
        · have := HL0.out; omega
      have A3 := A2.trans HR1.out hs2
      have A4 : VKept (fun k => S k ∨ stD sb ma ta k) w w5 := A3.trans (VKept.of_below (S := fun k => S k ∨ stD sb ma ta k) B5.out) (fun j _ h => h)
      have A5 := A4.trans HK6.out hs2
      obtain ⟨P1, P2, P3, P4, P5, P6⟩ := HP.out
      have A6 := A5.trans P2 (fun j _ h => .inr h)
      have z6 : w2.heap.size ≤ w6.heap.size := Nat.le_trans HLW.out (Nat.le_trans B5.out.size HK6.out.size)
      have z0 := HL0.out
      have z1 : w0.heap.size ≤ w2.heap.size := HK2.out.size
      have z9 := A6.size
      have z8 := P2.size
      refine ⟨rfl, A6, w6.heap.size, _, c7, VGrow S w0 w2, V6, F2, P1, HV6.out.kept (fun j hj h => P2.block j hj (fun hst => ?_)), HR3.out.trans HP6.out, (P4 _ (Nat.le_refl _) (by simp)).trans (heap_alloc_new _ _), A5.size, fun j hj => ?_, P6 _ (Nat.le_refl _) (by simp), ?_, fun j hj => ?_, fun j hj => ?_⟩
      · rcases h with h | h
        · exact HD.out j hst (.inl h)
        · exact HDIS.out j hst h
      · rcases P3 j hj with h | h
        · rintro (h' | h')
          · exact HD.out j h (.inl h')
          · exact HDIS.out j h h'
        · rintro (h' | h' | ⟨-, h'⟩)
          · have := HV6.out.lt; omega
          · have := HSS.out _ h'; omega
          · omega
      · rintro (h' | ⟨-, h'⟩)
        · have := HSS.out _ h'; omega
        · omega
      · rcases hj with h | ⟨h, h'⟩
        · exact .inl h
        · exact .inr ⟨by omega, by omega⟩
      · rcases P3 j hj with h | h
        · exact .inl h
        · exact .inr (by omega)
    | succ f =>
      have hkn : (k : Int) < (st : Int) := by omega
      have hkL : k < ms.length := by have := HM1.out.1; omega
      obtain ⟨r1, V', r2, r3⟩ := HR.out
      have hsr := HS2.out.kept r1 HDIS.out
      obtain ⟨m, hme⟩ : ∃ m, ms[k]? = some m := ⟨_, List.getElem?_eq_getElem hkL⟩
      obtain ⟨b, o, rfl, hbl, hcc⟩ := hsr.mod_at hme
      have hmo : m.off ≤ last := HOF.out m (List.mem_of_getElem? hme)
      have q0 := hcc 0 (by omega)
      have q1 := hcc 1 (by omega)
      have q2 := hcc 2 (by omega)
      have q3 := hcc 3 (by omega)
      have q4 := hcc 4 (by omega)
      simp only [TM.row] at q0 q1 q2 q3 q4
      replace q0 : wr.cell? ⟨b, o + k * 5, none⟩ = some (.slice none 0 0) := q0
      replace q1 : wr.cell? ⟨b, o + k * 5 + 1, none⟩ = some (.int .u64 (m.size : Int)) := q1
      replace q2 : wr.cell? ⟨b, o + k * 5 + 2, none⟩ = some (.int .u64 (m.al : Int)) := q2
      replace q3 : wr.cell? ⟨b, o + k * 5 + 3, none⟩ = some (.int .u64 (m.off : Int)) := q3
      replace q4 : wr.cell? ⟨b, o + k * 5 + 4, none⟩ = some (.bool m.dr) := q4
      obtain ⟨d, hd⟩ : ∃ d, p - m.off = d := ⟨_, rfl⟩
      have e4 : IntKind.u64.wrap ((p : Int) - (m.off : Int)) = (d : Int) := by have := HPG.out; rw [IntKind.wrap_u64]; omega
      have HDD : Hid (d < 18446744073709551616) := Lib.hid (by have := HPG.out; omega)
      have HR1 := Lib.hid r1
      have HR2 := Lib.hid r2
      have HR3 := Lib.hid r3
      have HKF : Hid (k + 1 + f = st ∧ st ≤ 1048576) := Lib.hid (by have := HM1.out; omega)
      clear r1 r2 r3 hsr hcc hme hmo hbl hkL hd HR HK hk
      generalize m.off = off at *
      generalize m.size = msz at *
      generalize m.al = mal at *
      generalize m.dr = mdr at *
      have hkb : (k : Int) < 1048576 := by have := HKF.out; omega
      have HA : Hid (Below wr.heap.size wr (wr.alloc (.cells #[.slice none 0 0, .int .u64 (msz : Int), .int .u64 (mal : Int), .int .u64 (off : Int), .bool mdr] 62))) := Lib.hid ((Below.refl _ _).alloc (Nat.le_refl _) _)
      go_wp2_with (go_at_call 23; refine (HW.out _ V' d (HR2.out.below HA.out) HDD.out).mono ?_; rintro e w5 ⟨rfl, V5, hv5, hk5, hp5, -⟩; have HV5 := Lib.hid hv5; have HK5 := Lib.hid hk5; have HP5 := Lib.hid hp5; clear hv5 hk5 hp5)
      go_roundg f
      case measure => omega
      case rel => exact ⟨k + 1, by go_num, Lib.hid (by have := HKF.out; omega), Lib.hid ⟨HR1.out.trans ((VKept.of_below HA.out).trans HK5.out (fun j _ h => h)) (fun j _ h => h), V5, HV5.out, HR3.out.trans HP5.out⟩⟩
end Go.Proofs.Ytbppajfpjhmcgaa
