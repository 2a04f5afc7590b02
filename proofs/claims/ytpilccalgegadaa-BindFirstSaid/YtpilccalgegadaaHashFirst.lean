/- Layer 7: Count and Look where there is a table of the first kind alone, and it is whole. -/
import Derived.Test.YtpilccalgegadaaHashLook
namespace Go.Proofs.Ytpilccalgegadaa
open Go.RowKit
set_option linter.unusedVariables false
set_option linter.unusedSimpArgs false

theorem chainsF_shape {bs : List Nat} {ps : List PT} {addr : Nat} {t : List Nat × List Nat} (hb : ∀ b ∈ bs, b < 256) (h : chainsF bs ps addr = (t, 0)) : 0 < t.1.length ∧ t.1.length ≤ 4096 ∧ 0 < t.2.length ∧ t.2.length ≤ 4096 ∧ (∀ x ∈ t.1, x < 4294967296) ∧ ∀ x ∈ t.2, x < 4294967296 := by
  rcases wordsF_alt bs ps addr 2 with ⟨f, hf, hfl⟩ | hf
  · match f, hfl with
    | [nb, ns], _ =>
      by_cases h0 : nb = 0 ∨ ns = 0
      · rw [chainsF_zero hf h0] at h; simp at h
      · by_cases h1 : 4096 < nb ∨ 4096 < ns
        · rw [chainsF_long hf h0 h1] at h; simp at h
        · rcases wordsF_alt bs ps addr (2 + nb + ns) with ⟨all, hall, hl⟩ | hall
          · rw [chainsF_yes hf h0 h1 hall] at h
            simp only [Prod.mk.injEq, and_true] at h
            subst h
            have hlt := wordsF_lt (ps := ps) (addr := addr) (n := 2 + nb + ns) hb
            rw [hall] at hlt
            refine ⟨by simp; omega, by simp; omega, by simp; omega, by simp; omega, fun x hx => hlt x (List.mem_of_mem_take (List.mem_of_mem_drop hx)), fun x hx => hlt x (List.mem_of_mem_drop hx)⟩
          · rw [chainsF_out hf h0 h1 hall] at h; simp at h
  · rw [chainsF_no hf] at h; simp at h



























set_option maxRecDepth 100000 in
set_option maxHeartbeats 4000000 in
theorem look_first (a : Option Addr) (cap : Nat) (bs : List Nat) (ty en : Int) (p : Option Addr) (pc : Nat) (ps : List PT) (D : Array Value) (addr : Nat) (t : List Nat × List Nat) (la : Option Addr) (lc : Nat) (names : List ByteArray) (name : ByteArray) (w : World) (hb : BRow w a bs) (hbl : bs.length ≤ 140737488351232) (hbc : bs.length ≤ cap) (hbn : a = none → bs.length = 0 ∧ cap = 0)
    (h : PRow w p ps) (hl : ps.length ≤ 140737488351232) (ha : addr < 18446744073709551616) (ha0 : ¬ addr = 0) (hD : D.size = 37) (hD3 : D[3]? = some (.int .u64 (addr : Int))) (hD25 : D[25]? = some (.int .u64 0)) (hF : chainsF bs ps addr = (t, 0))
    (hnr : NameRow w la names) (hnl : names.length ≤ 140737488351232) (hns : name.size ≤ 140737488351232) :
    Calls Try.prog 10 #[.slice a bs.length cap, headV ty en p ps.length pc, .agg D, .slice la names.length lc, .string name] w (NumsErr 3 .i64 (lookF t names name (sysOf name.data.toList)) w) := by
  have HRC := Lib.hid (fun (w1 : World) (hb1 : Below w.heap.size w w1) => readChains_any a cap bs ty en p pc ps addr w1 (hb.below hb1) hbl hbc hbn (h.below hb1) hl ha)
  have HSH := Lib.hid (chainsF_shape hb.2 hF)
  have HNR := Lib.hid hnr
  rw [hF] at HRC
  clear hb h hbn hF hnr
  have HI : Hid ((Try.prog.info? 47).map (·.size) = some D.size) := Lib.hid (show _ by rw [hD]; kernel_rfl)
  have B1 : Hid (Below w.heap.size w ((w.alloc (.cells #[.int .i64 ty, .int .u64 en, .slice p ps.length pc] 44)).alloc (.cells D 47))) := Lib.hid (((Below.refl _ _).alloc (Nat.le_refl _) _).alloc (by simp) _)
  clear hD
  obtain ⟨t1, t2⟩ := t
  simp only at HSH HRC ⊢
  unfold headV fileV at *
  go_enter Try.func10, Try.ntmps10
  go_wp2_with fail
  refine (HRC.out _ (B1.out.alloc B1.out.size _)).mono ?_
  rintro e w2 ⟨b1, c1, b2, c2, he, hr1, hr2, hb2⟩
  replace he : e = .returned (.tuple #[.agg #[.slice b1 t1.length c1, .slice b2 t2.length c2], .nilIface]) := he
  subst he
  have B2 := Lib.hid (bstep (B1.out.alloc B1.out.size _) hb2)
  have B3 : Hid (Below w2.heap.size w2 (w2.alloc (.cells #[.slice b1 t1.length c1, .slice b2 t2.length c2] 73))) := Lib.hid ((Below.refl _ _).alloc (Nat.le_refl _) _)
  obtain ⟨h1, h2, h3, h4, h5, h6⟩ := HSH.out
  have HLK := Lib.hid (clook_any b1 c1 t1 b2 c2 t2 la lc names name _ (Row.below hr1 B3.out) (Row.below hr2 B3.out) ⟨h5, h6⟩ ((HNR.out.below B2.out).below B3.out) h1 h2 h4 hnl hns)
  clear hb2 HRC B1 h1 h2 h3 h4 h5 h6 hr1 hr2 HSH
  generalize lookF (t1, t2) names name (sysOf name.data.toList) = R at *
  go_wp2_with fail
  refine HLK.out.mono ?_
  rintro e w4 ⟨ad, c, rfl, ho, hb4⟩
  have B4 := Lib.hid (bstep (bstep B2.out B3.out) hb4)
  have HO := Lib.hid (ho.mono (bstep B2.out B3.out).size)
  clear ho hb4
  go_wp2_with fail
  go_ret2
  exact ⟨ad, c, rfl, HO.out, B4.out⟩
end Go.Proofs.Ytpilccalgegadaa
