/- Layer 4: the law HeadInterps. -/
import Derived.Test.YtmjfkcclhbpclaaDoorHeadShown
namespace Go.Proofs.YtmjfkcclhbpclaaDoor
open Go.RowKit
set_option linter.unusedVariables false
set_option linter.unusedSimpArgs false
set_option maxRecDepth 100000

theorem interp_code {bs : List Nat} {ps : List PT} {x : HErr} (h : interpF bs ps = .error x) : ∀ c, x = .code c → 0 < c ∧ c ≤ 30 := by
  rintro c rfl
  unfold interpF at h
  split at h
  · injection h with h
    injection h with h
    omega
  · split at h
    · split at h
      · injection h with h; cases h
      · split at h
        · injection h with h; cases h
        · cases h
    · injection h with h; cases h
set_option maxHeartbeats 16000000 in
theorem interps_at (K : Int) (e : Nat) (pa : Option Addr) (pn pc : Nat) (ps : List PT) (a : Option Addr) (m cap : Nat) (bs : List Nat) (w : World) (h : BAny w a m cap bs) (hp : PRow w pa ps) (hl : ps.length = pn) (hpn : pn ≤ 140737488351232) (hg : ErrType w) (hf : FixAt w) :
    Calls Tryd.prog 4 #[.slice a m cap, .agg #[.int .i64 K, .int .u64 (e : Int), .slice pa pn pc]] w fun e w' => e = .returned (.bool true) ∧ Below w.heap.size w w' := by
  obtain ⟨w1, hw1⟩ : ∃ w1, w.alloc (.cells #[.int .i64 K, .int .u64 (e : Int), .slice pa pn pc] 25) = w1 := ⟨_, rfl⟩
  obtain ⟨hbk, hhbk⟩ : ∃ hbk, w.heap.size = hbk := ⟨_, rfl⟩
  have B1 : Hid (Below w.heap.size w w1) := Lib.hid (by rw [← hw1]; exact ballo (Below.refl _ _) _)
  have H1 : Hid (w1.heap[hbk]? = some (.cells #[.int .i64 K, .int .u64 (e : Int), .slice pa pn pc] 25)) := Lib.hid (by rw [← hw1, ← hhbk]; exact heap_alloc_new _ _)
  have HSH := Lib.hid (shown_any w1 (hg.below B1.out) (hf.below B1.out))
  have HIN : Hid (∀ wx, Below w.heap.size w wx → Calls Tryd.prog 11 #[.slice a m cap, .agg #[.int .i64 K, .int .u64 (e : Int), .slice pa pn pc]] wx (IntPost wx bs ps)) := Lib.hid (fun wx hb => interp_any K e pa pn pc ps a m cap bs wx (h.below hb) (hp.below hb) hl hpn)
  have HRI : Hid (∀ wx, Below w.heap.size w wx → Calls Tryd.prog 12 #[.slice a m cap, .agg #[.int .i64 K, .int .u64 (e : Int), .slice pa pn pc]] wx (RIntPost wx bs ps)) := Lib.hid (fun wx hb => rinterp_any K e pa pn pc ps a m cap bs wx (h.below hb) (hp.below hb) hl hpn)
  have HGT : Hid (∀ wx, Below w.heap.size w wx → ErrType wx) := Lib.hid (fun wx hb => hg.below hb)
  unfold IntPost at HIN
  unfold RIntPost at HRI
  have HCO : Hid (∀ x, interpF bs ps = .error x → ∀ c, x = .code c → 0 < c ∧ c ≤ 30) := Lib.hid (fun x hx => interp_code hx)
  generalize interpF bs ps = R at *
  clear h hp hl hpn hg hf
  go_enter Tryd.func4, Tryd.ntmps4
  go_wp2_with fail
  refine HSH.out.mono ?_
  rintro e2 w2 ⟨rfl, b2⟩
  have B2 := Lib.hid (bstep B1.out b2)
  have H2 := Lib.hid ((b2.block _ (lt_of_block H1.out)).trans H1.out)
  have q0 : w2.cell? ⟨hbk, 0, none⟩ = some (.int .i64 K) := by rw [cell_of_row _ _ 0 _ _ _ H2.out]; rfl
  have q1 : w2.cell? ⟨hbk, 1, none⟩ = some (.int .u64 (e : Int)) := by rw [cell_of_row _ _ 1 _ _ _ H2.out]; rfl
  have q2 : w2.cell? ⟨hbk, 2, none⟩ = some (.slice pa pn pc) := by rw [cell_of_row _ _ 2 _ _ _ H2.out]; rfl
  clear b2 hw1 hhbk HSH
  go_wp2_with fail
  refine (HIN.out w2 B2.out).mono ?_
  rintro e3 w3 ⟨hans, b3⟩
  have B3 := Lib.hid (bstep B2.out b3)
  have H3 := Lib.hid ((b3.block _ (lt_of_block H2.out)).trans H2.out)
  clear b3 q0 q1 q2
  have q0 : w3.cell? ⟨hbk, 0, none⟩ = some (.int .i64 K) := by rw [cell_of_row _ _ 0 _ _ _ H3.out]; rfl
  have q1 : w3.cell? ⟨hbk, 1, none⟩ = some (.int .u64 (e : Int)) := by rw [cell_of_row _ _ 1 _ _ _ H3.out]; rfl
  have q2 : w3.cell? ⟨hbk, 2, none⟩ = some (.slice pa pn pc) := by rw [cell_of_row _ _ 2 _ _ _ H3.out]; rfl
  cases R with
  | ok s =>
    obtain rfl : e3 = .returned (.tuple #[.string s, .nilIface]) := hans
    go_wp2_with fail
    refine (HRI.out w3 B3.out).mono ?_
    rintro e4 w4 ⟨hret, b4⟩
    obtain rfl : e4 = .returned (.tuple #[.string s, .agg #[.int .i64 0, .bool false, .int .u64 0]]) := hret
    have B4 := Lib.hid (bstep B3.out b4)
    have C4 : Hid (Below w4.heap.size w4 (w4.alloc (.cells #[.int .i64 0, .bool false, .int .u64 0] 43))) := Lib.hid (ballo (Below.refl _ _) _)
    have HRT := Lib.hid (hright_ok (w4.alloc (.cells #[.int .i64 0, .bool false, .int .u64 0] 43)))
    unfold badV at HRT
    clear b4 q0 q1 q2 HIN HRI
    go_wp2_with fail
    refine HRT.out.mono ?_
    rintro e5 w5 ⟨rfl, b5⟩
    have B5 := Lib.hid (bstep B4.out (bstep C4.out b5))
    clear b5
    go_wp2_with fail
    go_ret
    exact ⟨by first | rfl | simp, B5.out⟩
  | error x =>
    obtain ⟨v, rfl, hv⟩ := hans
    have HV := Lib.hid hv
    have HC := HCO.out x rfl
    have hev := hv.ev
    clear hv
    cases x with
    | spot sa sc =>
      obtain ⟨sb, rfl, hsb⟩ := (show ErrAt w3 v (some (sa, sc)) from HV.out)
      clear hev hsb
      go_wp2_with fail
      refine (HRI.out w3 B3.out).mono ?_
      rintro e4 w4 ⟨hret, b4⟩
      obtain rfl : e4 = .returned (.tuple #[.string ⟨#[]⟩, .agg #[.int .i64 (sc : Int), .bool true, .int .u64 (sa : Int)]]) := hret
      have B4 := Lib.hid (bstep B3.out b4)
      have C4 : Hid (Below w4.heap.size w4 (w4.alloc (.cells #[.int .i64 (sc : Int), .bool true, .int .u64 (sa : Int)] 43))) := Lib.hid (ballo (Below.refl _ _) _)
      have HRT := Lib.hid (hright_bad (.spot sa sc) _ (w4.alloc (.cells #[.int .i64 (sc : Int), .bool true, .int .u64 (sa : Int)] 43)) ((HV.out.below b4).below C4.out) (HGT.out _ (bstep B4.out C4.out)) HC)
      unfold badV at HRT
      simp only [] at HRT
      clear b4 q0 q1 q2 HIN HRI HC
      go_wp2_with fail
      refine HRT.out.mono ?_
      rintro e5 w5 ⟨rfl, b5⟩
      have B5 := Lib.hid (bstep B4.out (bstep C4.out b5))
      clear b5
      go_wp2_with fail
      go_ret
      exact ⟨by first | rfl | simp, B5.out⟩
    | code c =>
      obtain rfl : v = .iface 38 (.int .i64 (c : Int)) := HV.out
      clear hev
      go_wp2_with fail
      refine (HRI.out w3 B3.out).mono ?_
      rintro e4 w4 ⟨hret, b4⟩
      obtain rfl : e4 = .returned (.tuple #[.string ⟨#[]⟩, .agg #[.int .i64 (c : Int), .bool false, .int .u64 0]]) := hret
      have B4 := Lib.hid (bstep B3.out b4)
      have C4 : Hid (Below w4.heap.size w4 (w4.alloc (.cells #[.int .i64 (c : Int), .bool false, .int .u64 0] 43))) := Lib.hid (ballo (Below.refl _ _) _)
      have HRT := Lib.hid (hright_bad (.code c) _ (w4.alloc (.cells #[.int .i64 (c : Int), .bool false, .int .u64 0] 43)) ((HV.out.below b4).below C4.out) (HGT.out _ (bstep B4.out C4.out)) HC)
      unfold badV at HRT
      simp only [] at HRT
      clear b4 q0 q1 q2 HIN HRI HC
      go_wp2_with fail
      refine HRT.out.mono ?_
      rintro e5 w5 ⟨rfl, b5⟩
      have B5 := Lib.hid (bstep B4.out (bstep C4.out b5))
      clear b5
      go_wp2_with fail
      go_ret
      exact ⟨by first | rfl | simp, B5.out⟩
end Go.Proofs.YtmjfkcclhbpclaaDoor
