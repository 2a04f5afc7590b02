/- Layer 2: bytes into pages: store (Write and Poke). -/
import Derived.Test.YtmnjkaimpejohaaGreatDoorVmByte
import Derived.Deep.RegionHeld3
import Derived.Deep.DeepCutAuto
namespace Go.Proofs.YtmnjkaimpejohaaGreatDoor
open Go.RowKit
set_option linter.unusedVariables false
set_option linter.unusedSimpArgs false

/-- an error that tells a place -/
def spotV (b : Nat) : Value := .iface 69 (.pointer (some ⟨b, 0, none⟩))
def SpotObj (x code : Nat) : Obj := .cells #[.int .u64 (x : Int), .iface 36 (.int .i64 (code : Int))] 71

set_option maxRecDepth 100000 in
set_option maxHeartbeats 16000000 in
theorem store_bad (mb : Nat) (S : Nat → Prop) (q c : Nat) (V : Nat → Option Pg) (g : Nat) (F : Nat → Option Nat) (a : Nat) (fa : Option Addr) (fl fc perm code x : Nat) (w : World) (h : VmAt w mb S q c V g F) (ha : a < 18446744073709551616) (hl : fl ≤ 140737488355328) (hp : perm < 8) (hbar : barredF V perm a fl = some x) :
    Calls Tryz.prog 21 #[.pointer (some ⟨mb, 0, none⟩), .int .u64 (a : Int), .slice fa fl fc, .int .i64 (perm : Int), .int .i64 (code : Int)] w fun e w' => e = .returned (spotV w.heap.size) ∧ w' = w.alloc (SpotObj x code) := by
  have HB := barred_any mb S q c V g F a fl perm w h ha (by omega) hp
  rw [hbar] at HB
  simp only [barV] at HB
  have HBR := Lib.hid HB
  have e1 : IntKind.u64.wrap (fl : Int) = (fl : Int) := by rw [IntKind.wrap_u64]; omega
  clear h ha hl hp hbar HB
  go_enter Tryz.func21, Tryz.ntmps21
  go_wp2_with (go_at_call 32; refine HBR.out.mono ?_; rintro e w' ⟨rfl, rfl⟩)
  go_ret
  exact ⟨rfl, rfl⟩

set_option maxRecDepth 100000 in
set_option maxHeartbeats 16000000 in
theorem store_good0 (mb : Nat) (S : Nat → Prop) (q c : Nat) (V : Nat → Option Pg) (g : Nat) (F : Nat → Option Nat) (a : Nat) (fa : Option Addr) (fl fc perm code : Nat) (bs : List Nat) (w : World) (h : VmAt w mb S q c V g F) (ha : a < 18446744073709551616) (hb : BRow w fa bs) (hbl : bs.length = fl) (hlc : fl ≤ fc) (hl : fl ≤ 140737488355328) (hp : perm < 8) (hbar : barredF V perm a fl = none)
    (hsrc : 0 < fl → ∀ b o, fa = some ⟨b, o, none⟩ → ¬ S b) :
    Calls Tryz.prog 21 #[.pointer (some ⟨mb, 0, none⟩), .int .u64 (a : Int), .slice fa fl fc, .int .i64 (perm : Int), .int .i64 (code : Int)] w fun e w' => e = .returned .nilIface ∧ ∃ V', VmAt w' mb S q c V' g F ∧ VKept S w w' ∧ w'.heap.size = w.heap.size ∧ SamePerm V V' ∧ ∀ x, byteAt V' x = if a ≤ x ∧ x < a + fl then bs.getD (x - a) 0 else byteAt V x := by
  have HB := barred_any mb S q c V g F a fl perm w h ha (by omega) hp
  rw [hbar] at HB
  simp only [barV] at HB
  have HBR := Lib.hid HB
  have HALL : Hid (∀ i, i < fl → ∃ p, V ((a + i) / 4096) = some p) := Lib.hid (fun i hi => by
    obtain ⟨p, h1, -⟩ := barredF_none hbar hi
    exact ⟨p, h1⟩)
  have HLOW : Hid (∀ k, V k ≠ none → k < 34359738368) := Lib.hid h.low
  have H := Lib.hid h
  have HBB := Lib.hid hb
  have HBL := Lib.hid hbl
  have HLC := Lib.hid (And.intro hlc hl)
  have HSRC := Lib.hid hsrc
  have e1 : IntKind.u64.wrap (fl : Int) = (fl : Int) := by rw [IntKind.wrap_u64]; omega
  clear h ha hb hlc hl hp hbar hsrc HB
  go_enter Tryz.func21, Tryz.ntmps21
  go_wp2_with (go_at_call 32; refine HBR.out.mono ?_; rintro e w' ⟨rfl, rfl⟩)
  clear HBR e1
  go_loopg [13] fl (fun f y wr => ∃ d : Nat, y = .int .i64 (d : Int) ∧ Hid (d ≤ fl ∧ fl - d ≤ f) ∧ ∃ V', Hid (VmAt wr mb S q c V' g F ∧ VKept S w wr ∧ wr.heap.size = w.heap.size ∧ SamePerm V V' ∧ ∀ x, byteAt V' x = if a ≤ x ∧ x < a + d then bs.getD (x - a) 0 else byteAt V x))
  case atStart => exact ⟨0, rfl, Lib.hid ⟨by omega, by omega⟩, V, Lib.hid ⟨H.out, VKept.refl _ _, rfl, SamePerm.refl V, fun x => by rw [if_neg (by omega)]⟩⟩
  case round =>
    clear H
    obtain ⟨d, rfl, HD, V', HV⟩ := hrel
    obtain ⟨hd1, hd2⟩ := HD.out
    by_cases hend : d = fl
    · subst hend
      have HE := Lib.hid HV.out
      clear hd1 hd2 HD HV HALL hbl
      go_wp2_with fail
      go_ret
      exact ⟨rfl, V', HE.out⟩
    · have hdl : d < fl := by omega
      cases gk with
      | zero => omega
      | succ f =>
        obtain ⟨p0, hp0⟩ := HALL.out d hdl
        have hk35 := HLOW.out _ (by rw [hp0]; simp)
        obtain ⟨hVm0, hKp, hsz, hsp, hby⟩ := HV.out
        have hVm : VmAt wr.drew mb S q c V' g F := hVm0.below (Below.refl _ _).drew
        obtain ⟨p, hpv, -⟩ := hsp.get hp0
        obtain ⟨b, hf, hSb, hok, hpb⟩ := hVm.at_page hpv
        obtain ⟨fb, fo, rfl, hfc⟩ := HBB.out.1 d (by rw [toI_length, HBL.out]; exact hdl)
        have hfS := HSRC.out (by omega) fb fo rfl
        have m1 : wr.drew.cell? ⟨mb, 1, none⟩ = some (.map (some g)) := by rw [cell_of_row _ _ 1 _ _ _ hVm.box]; rfl
        have hl0 := hVm.map.look (T := 61) Tryz.underlying22 Tryz.underlying61 (page_zero wr.drew) (k := (a + d) / 4096) (by omega)
        rw [hf] at hl0
        have hl : (Instr.lookup 61 (.map (some g)) (.int .u64 (((a + d) / 4096 : Nat) : Int)) false).run Tryz.prog wr.drew = .ok (.pointer (some ⟨b, 0, none⟩)) wr.drew := hl0
        have hsrow : BRow wr (some ⟨fb, fo + d, none⟩) (bs.drop d) := by
          refine ⟨fun i hi => ?_, fun x hx => HBB.out.2 x (List.mem_of_mem_drop hx)⟩
          rw [toI_length, List.length_drop, HBL.out] at hi
          obtain ⟨b9, o9, e9, hc9⟩ := HBB.out.1 (d + i) (by rw [toI_length, HBL.out]; omega)
          cases e9
          refine ⟨fb, fo + d, rfl, ?_⟩
          have hblk := hKp.block fb (by simpa using World.block_lt_of_cell? w _ hc9) hfS
          rw [World.cell?_of_block (w := w) (a := ⟨fb, fo + d + i, none⟩) hblk, Nat.add_assoc, hc9]
          rw [toI_getD, toI_getD]
          simp [List.getD]
        obtain ⟨K, hK⟩ : ∃ K, K = min (fl - d) (4096 - (a + d) % 4096) := ⟨_, rfl⟩
        have HPUT := Lib.hid (put_any b ((a + d) % 4096) p fb (fo + d) (fl - d) (fc - d) (bs.drop d) K wr.drew hpb hok (by omega) ⟨hsrow.1, hsrow.2⟩ (by rw [List.length_drop, HBL.out]) hK)
        have hok2 := put_ok hok ((a + d) % 4096) (r := (bs.drop d).take K) (fun x hx => hsrow.2 x (List.mem_of_mem_take hx))
        have hby2 := byteAt_put hby hpv hok.len (show K = min (bs.length - d) (4096 - (a + d) % 4096) by rw [HBL.out]; exact hK)
        have hVm2 := hVm.set_page hf hpb hok2
        have m1w : (wr.drew.setRow b (Pg.mk (putB p.bytes ((a + d) % 4096) ((bs.drop d).take K)) p.perm).cells.toArray).cell? ⟨mb, 1, none⟩ = some (.map (some g)) := by rw [cell_of_row _ _ 1 _ _ _ hVm2.box]; rfl
        have hlw0 := hVm2.map.look (T := 61) Tryz.underlying22 Tryz.underlying61 (page_zero _) (k := (a + d) / 4096) (by omega)
        rw [hf] at hlw0
        have hlw : (Instr.lookup 61 (.map (some g)) (.int .u64 (((a + d) / 4096 : Nat) : Int)) false).run Tryz.prog (wr.drew.setRow b (Pg.mk (putB p.bytes ((a + d) % 4096) ((bs.drop d).take K)) p.perm).cells.toArray) = .ok (.pointer (some ⟨b, 0, none⟩)) (wr.drew.setRow b (Pg.mk (putB p.bytes ((a + d) % 4096) ((bs.drop d).take K)) p.perm).cells.toArray) := hlw0
        have HN : Hid (d + K ≤ fl ∧ fl - (d + K) ≤ f ∧ ∃ V2, VmAt (wr.drew.setRow b (Pg.mk (putB p.bytes ((a + d) % 4096) ((bs.drop d).take K)) p.perm).cells.toArray) mb S q c V2 g F ∧ VKept S w (wr.drew.setRow b (Pg.mk (putB p.bytes ((a + d) % 4096) ((bs.drop d).take K)) p.perm).cells.toArray) ∧ (wr.drew.setRow b (Pg.mk (putB p.bytes ((a + d) % 4096) ((bs.drop d).take K)) p.perm).cells.toArray).heap.size = w.heap.size ∧ SamePerm V V2 ∧ ∀ x, byteAt V2 x = if a ≤ x ∧ x < a + (d + K) then bs.getD (x - a) 0 else byteAt V x) :=
          Lib.hid ⟨by omega, by omega, _, hVm2, hKp.trans ⟨rfl, rfl, rfl, by simp, fun k hk hn => setRow_other _ _ _ _ (fun e => hn (e ▸ hSb))⟩ (fun _ _ hs => hs), by simp [hsz], hsp.trans (SamePerm.upd hpv rfl), hby2⟩
        have e2 : IntKind.u64.wrap (d : Int) = (d : Int) := by rw [IntKind.wrap_u64]; have := HLC.out; omega
        have e3 : IntKind.u64.wrap ((a : Int) + (d : Int)) = ((a + d : Nat) : Int) := by rw [IntKind.wrap_u64]; omega
        have e4 : ((a + d : Nat) : Int).tdiv 4096 = (((a + d) / 4096 : Nat) : Int) := by rw [Int.tdiv_eq_ediv_of_nonneg (by omega)]; omega
        have e5 : ((a + d : Nat) : Int).tmod 4096 = (((a + d) % 4096 : Nat) : Int) := by rw [Int.tmod_eq_emod_of_nonneg (by omega)]; omega
        have e6 : IntKind.u64.wrap (((a + d) / 4096 : Nat) : Int) = (((a + d) / 4096 : Nat) : Int) := by rw [IntKind.wrap_u64]; omega
        have e7 : IntKind.u64.wrap (((a + d) % 4096 : Nat) : Int) = (((a + d) % 4096 : Nat) : Int) := by rw [IntKind.wrap_u64]; omega
        have e8 : IntKind.i64.wrap ((d : Int) + (K : Int)) = ((d + K : Nat) : Int) := by rw [IntKind.wrap_i64]; have := HLC.out; omega
        have i1 : (d : Int) < (fl : Int) := by omega
        have i2 : (0 : Int) ≤ (d : Int) := by omega
        have i3 : (d : Int) ≤ (fl : Int) := by omega
        have i4 : d ≤ fl := by omega
        have i5 : ¬ fc = d := by have := HLC.out; omega
        clear hlw0 hVm0 hd1 hd2 HD HV hp0 hk35 hVm hKp hsz hsp hby hpv hf hSb hok hpb hfc hfS hl0 hsrow hK hok2 hby2 hVm2 hend hdl
        generalize wr.drew.setRow b (Pg.mk (putB p.bytes ((a + d) % 4096) ((bs.drop d).take K)) p.perm).cells.toArray = w2 at *
        generalize (a + d) / 4096 = k at *
        generalize (a + d) % 4096 = r at *
        generalize hrl : fl - d = rl at *
        generalize hrc : fc - d = rc at *
        generalize d + K = d2 at *
        generalize a + d = x2 at *
        go_upto_region 7 with fail
        go_region_held3 (fun wx => wx.cell? ⟨mb, 1, none⟩ = some (.map (some g)) ∧ (Instr.lookup 61 (.map (some g)) (.int .u64 (k : Int)) false).run Tryz.prog wx = .ok (.pointer (some ⟨b, 0, none⟩)) wx) (first | exact ⟨m1, hl⟩ | exact ⟨m1w, hlw⟩) (first | (go_at_call 33; refine HPUT.out.mono ?_; rintro e w6 ⟨rfl, rfl⟩))
        obtain ⟨n1, n2, V2, n3, n4, n5, n6, n7⟩ := HN.out
        clear HN HPUT m1 hl m1w hlw
        go_wp2_with fail
        go_roundg f
        case measure => omega
        case rel => exact ⟨d2, rfl, Lib.hid ⟨n1, n2⟩, V2, Lib.hid ⟨n3, n4, n5, n6, n7⟩⟩
theorem store_good (mb : Nat) (S : Nat → Prop) (q c : Nat) (V : Nat → Option Pg) (g : Nat) (F : Nat → Option Nat) (a : Nat) (fa : Option Addr) (fl fc perm code : Nat) (bs : List Nat) (w : World) (h : VmAt w mb S q c V g F) (ha : a < 18446744073709551616) (hb : BRow w fa bs) (hbl : bs.length = fl) (hlc : fl ≤ fc) (hl : fl ≤ 140737488355328) (hp : perm < 8) (hbar : barredF V perm a fl = none)
    (hsrc : ∀ b o, fa = some ⟨b, o, none⟩ → ¬ S b) :
    Calls Tryz.prog 21 #[.pointer (some ⟨mb, 0, none⟩), .int .u64 (a : Int), .slice fa fl fc, .int .i64 (perm : Int), .int .i64 (code : Int)] w fun e w' => e = .returned .nilIface ∧ ∃ V', VmAt w' mb S q c V' g F ∧ VKept S w w' ∧ w'.heap.size = w.heap.size ∧ SamePerm V V' ∧ ∀ x, byteAt V' x = if a ≤ x ∧ x < a + fl then bs.getD (x - a) 0 else byteAt V x :=
  store_good0 mb S q c V g F a fa fl fc perm code bs w h ha hb hbl hlc hl hp hbar (fun _ => hsrc)

/-- what Write and Poke do -/
def stored (w : World) (mb : Nat) (S : Nat → Prop) (q c : Nat) (V : Nat → Option Pg) (g : Nat) (F : Nat → Option Nat) (a fl : Nat) (bs : List Nat) (code : Nat) (o : Option Nat) (e : Ending) (w' : World) : Prop :=
  match o with
  | some x => e = .returned (spotV w.heap.size) ∧ w' = w.alloc (SpotObj x code)
  | none => e = .returned .nilIface ∧ ∃ V', VmAt w' mb S q c V' g F ∧ VKept S w w' ∧ w'.heap.size = w.heap.size ∧ SamePerm V V' ∧ ∀ x, byteAt V' x = if a ≤ x ∧ x < a + fl then bs.getD (x - a) 0 else byteAt V x
theorem store_any0 (mb : Nat) (S : Nat → Prop) (q c : Nat) (V : Nat → Option Pg) (g : Nat) (F : Nat → Option Nat) (a : Nat) (fa : Option Addr) (fl fc perm code : Nat) (bs : List Nat) (w : World) (h : VmAt w mb S q c V g F) (ha : a < 18446744073709551616) (hb : BRow w fa bs) (hbl : bs.length = fl) (hlc : fl ≤ fc) (hl : fl ≤ 140737488355328) (hp : perm < 8) (hsrc : 0 < fl → ∀ b o, fa = some ⟨b, o, none⟩ → ¬ S b) :
    Calls Tryz.prog 21 #[.pointer (some ⟨mb, 0, none⟩), .int .u64 (a : Int), .slice fa fl fc, .int .i64 (perm : Int), .int .i64 (code : Int)] w (stored w mb S q c V g F a fl bs code (barredF V perm a fl)) := by
  cases hbar : barredF V perm a fl with
  | some x => exact store_bad mb S q c V g F a fa fl fc perm code x w h ha hl hp hbar
  | none => exact store_good0 mb S q c V g F a fa fl fc perm code bs w h ha hb hbl hlc hl hp hbar hsrc
theorem store_any (mb : Nat) (S : Nat → Prop) (q c : Nat) (V : Nat → Option Pg) (g : Nat) (F : Nat → Option Nat) (a : Nat) (fa : Option Addr) (fl fc perm code : Nat) (bs : List Nat) (w : World) (h : VmAt w mb S q c V g F) (ha : a < 18446744073709551616) (hb : BRow w fa bs) (hbl : bs.length = fl) (hlc : fl ≤ fc) (hl : fl ≤ 140737488355328) (hp : perm < 8) (hsrc : ∀ b o, fa = some ⟨b, o, none⟩ → ¬ S b) :
    Calls Tryz.prog 21 #[.pointer (some ⟨mb, 0, none⟩), .int .u64 (a : Int), .slice fa fl fc, .int .i64 (perm : Int), .int .i64 (code : Int)] w (stored w mb S q c V g F a fl bs code (barredF V perm a fl)) :=
  store_any0 mb S q c V g F a fa fl fc perm code bs w h ha hb hbl hlc hl hp (fun _ => hsrc)

theorem write_any (mb : Nat) (S : Nat → Prop) (q c : Nat) (V : Nat → Option Pg) (g : Nat) (F : Nat → Option Nat) (a : Nat) (fa : Option Addr) (fl fc : Nat) (bs : List Nat) (w : World) (h : VmAt w mb S q c V g F) (ha : a < 18446744073709551616) (hb : BRow w fa bs) (hbl : bs.length = fl) (hlc : fl ≤ fc) (hl : fl ≤ 140737488355328) (hsrc : ∀ b o, fa = some ⟨b, o, none⟩ → ¬ S b) :
    Calls Tryz.prog 92 #[.pointer (some ⟨mb, 0, none⟩), .int .u64 (a : Int), .slice fa fl fc] w (stored w mb S q c V g F a fl bs 11 (barredF V 2 a fl)) := by
  have HS := Lib.hid (store_any mb S q c V g F a fa fl fc 2 11 bs w h ha hb hbl hlc hl (by omega) hsrc)
  obtain ⟨P, hP⟩ : ∃ P, stored w mb S q c V g F a fl bs 11 (barredF V 2 a fl) = P := ⟨_, rfl⟩
  have HR : Hid (∀ e w', P e w' → ∃ v, e = .returned v) := Lib.hid (fun e w' hh => by
    rw [← hP] at hh
    unfold stored at hh
    split at hh
    · exact ⟨_, hh.1⟩
    · exact ⟨_, hh.1⟩)
  rw [hP] at HS ⊢
  clear h hb hsrc hP
  go_enter Tryz.func92, Tryz.ntmps92
  go_wp2_with fail
  refine HS.out.mono ?_
  intro e w' he
  obtain ⟨v, rfl⟩ := HR.out e w' he
  have HE := Lib.hid he
  clear he HS HR
  go_wp2_with fail
  exact HE.out

end Go.Proofs.YtmnjkaimpejohaaGreatDoor
