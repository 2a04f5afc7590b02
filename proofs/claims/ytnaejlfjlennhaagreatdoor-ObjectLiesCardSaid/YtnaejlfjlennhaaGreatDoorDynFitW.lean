/- Layer 5: is a tag one that has a meaning? -/
import Derived.Test.YtnaejlfjlennhaaGreatDoorDynStill
import Derived.WalkMore
import Derived.Test.YtnaejlfjlennhaaGreatDoorDynCut
import Derived.Deep.LoopGhost
import Derived.Deep.QuietTactic
import Derived.BigQuiet
import Derived.Carry
namespace Go.Proofs.YtnaejlfjlennhaaGreatDoor
open Go.RowKit
set_option linter.unusedVariables false
set_option linter.unusedSimpArgs false

theorem knF_true {t : Nat} (h : (t = 20 ∨ t = 22 ∨ t = 23 ∨ t = 24 ∨ t = 1879047925 ∨ t = 1879048176 ∨ (1 ≤ t ∧ t ≤ 16) ∨ (25 ≤ t ∧ t ≤ 30) ∨ (35 ≤ t ∧ t ≤ 37) ∨ (1879048187 ≤ t ∧ t ≤ 1879048191))) : knF t = true := decide_eq_true h
theorem knF_false {t : Nat} (h : ¬ (t = 20 ∨ t = 22 ∨ t = 23 ∨ t = 24 ∨ t = 1879047925 ∨ t = 1879048176 ∨ (1 ≤ t ∧ t ≤ 16) ∨ (25 ≤ t ∧ t ≤ 30) ∨ (35 ≤ t ∧ t ≤ 37) ∨ (1879048187 ≤ t ∧ t ≤ 1879048191))) : knF t = false := decide_eq_false h

set_option maxRecDepth 100000 in
set_option maxHeartbeats 4000000 in
theorem known_any (t : Nat) (w : World) :
    Calls Tryz.prog 49 #[.int .u64 (t : Int)] w fun e w' => e = .returned (.bool (knF t)) ∧ w = w' := by
  obtain ⟨r, hr⟩ : ∃ r, knF t = r := ⟨_, rfl⟩
  rw [hr]
  have HR := Lib.hid hr
  clear hr
  by_cases hs : t = 20 ∨ t = 22 ∨ t = 23 ∨ t = 24 ∨ t = 1879047925 ∨ t = 1879048176
  · have e : r = true := by rw [← HR.out]; exact knF_true (by omega)
    subst e
    clear HR
    rcases hs with rfl | rfl | rfl | rfl | rfl | rfl <;>
    · go_enter Tryz.func49, Tryz.ntmps49
      go_wp2
      go_ret
      exact ⟨rfl, rfl⟩
  · obtain ⟨x, hx⟩ : ∃ x : Int, (t : Int) = x := ⟨_, rfl⟩
    have n0 : ¬ x = 20 := by omega
    have n1 : ¬ x = 22 := by omega
    have n2 : ¬ x = 23 := by omega
    have n3 : ¬ x = 24 := by omega
    have n4 : ¬ x = 1879047925 := by omega
    have n5 : ¬ x = 1879048176 := by omega
    rw [hx]
    have hall : (t = 0) ∨ (1 ≤ t ∧ t ≤ 16) ∨ (17 ≤ t ∧ t ≤ 24) ∨ (25 ≤ t ∧ t ≤ 30) ∨ (31 ≤ t ∧ t ≤ 34) ∨ (35 ≤ t ∧ t ≤ 37) ∨ (38 ≤ t ∧ t ≤ 1879048186) ∨ (1879048187 ≤ t ∧ t ≤ 1879048191) ∨ (1879048192 ≤ t) := by omega
    rcases hall with hc | hc | hc | hc | hc | hc | hc | hc | hc
    · have e : r = false := by rw [← HR.out]; exact knF_false (by omega)
      subst e
      have g0 : decide (x ≥ 1) = false := decide_eq_false (by omega)
      have g1 : decide (x ≥ 25) = false := decide_eq_false (by omega)
      have g2 : decide (x ≥ 35) = false := decide_eq_false (by omega)
      have g3 : decide (x ≥ 1879048187) = false := decide_eq_false (by omega)
      have l0 : decide (x ≤ 16) = true := decide_eq_true (by omega)
      have l1 : decide (x ≤ 30) = true := decide_eq_true (by omega)
      have l2 : decide (x ≤ 37) = true := decide_eq_true (by omega)
      have l3 : decide (x ≤ 1879048191) = true := decide_eq_true (by omega)
      clear HR hs hc hx
      go_enter Tryz.func49, Tryz.ntmps49
      go_wp2
      go_ret
      exact ⟨rfl, rfl⟩
    · have e : r = true := by rw [← HR.out]; exact knF_true (by omega)
      subst e
      have g0 : decide (x ≥ 1) = true := decide_eq_true (by omega)
      have g1 : decide (x ≥ 25) = false := decide_eq_false (by omega)
      have g2 : decide (x ≥ 35) = false := decide_eq_false (by omega)
      have g3 : decide (x ≥ 1879048187) = false := decide_eq_false (by omega)
      have l0 : decide (x ≤ 16) = true := decide_eq_true (by omega)
      have l1 : decide (x ≤ 30) = true := decide_eq_true (by omega)
      have l2 : decide (x ≤ 37) = true := decide_eq_true (by omega)
      have l3 : decide (x ≤ 1879048191) = true := decide_eq_true (by omega)
      clear HR hs hc hx
      go_enter Tryz.func49, Tryz.ntmps49
      go_wp2
      go_ret
      exact ⟨rfl, rfl⟩
    · have e : r = false := by rw [← HR.out]; exact knF_false (by omega)
      subst e
      have g0 : decide (x ≥ 1) = true := decide_eq_true (by omega)
      have g1 : decide (x ≥ 25) = false := decide_eq_false (by omega)
      have g2 : decide (x ≥ 35) = false := decide_eq_false (by omega)
      have g3 : decide (x ≥ 1879048187) = false := decide_eq_false (by omega)
      have l0 : decide (x ≤ 16) = false := decide_eq_false (by omega)
      have l1 : decide (x ≤ 30) = true := decide_eq_true (by omega)
      have l2 : decide (x ≤ 37) = true := decide_eq_true (by omega)
      have l3 : decide (x ≤ 1879048191) = true := decide_eq_true (by omega)
      clear HR hs hc hx
      go_enter Tryz.func49, Tryz.ntmps49
      go_wp2
      go_ret
      exact ⟨rfl, rfl⟩
    · have e : r = true := by rw [← HR.out]; exact knF_true (by omega)
      subst e
      have g0 : decide (x ≥ 1) = true := decide_eq_true (by omega)
      have g1 : decide (x ≥ 25) = true := decide_eq_true (by omega)
      have g2 : decide (x ≥ 35) = false := decide_eq_false (by omega)
      have g3 : decide (x ≥ 1879048187) = false := decide_eq_false (by omega)
      have l0 : decide (x ≤ 16) = false := decide_eq_false (by omega)
      have l1 : decide (x ≤ 30) = true := decide_eq_true (by omega)
      have l2 : decide (x ≤ 37) = true := decide_eq_true (by omega)
      have l3 : decide (x ≤ 1879048191) = true := decide_eq_true (by omega)
      clear HR hs hc hx
      go_enter Tryz.func49, Tryz.ntmps49
      go_wp2
      go_ret
      exact ⟨rfl, rfl⟩
    · have e : r = false := by rw [← HR.out]; exact knF_false (by omega)
      subst e
      have g0 : decide (x ≥ 1) = true := decide_eq_true (by omega)
      have g1 : decide (x ≥ 25) = true := decide_eq_true (by omega)
      have g2 : decide (x ≥ 35) = false := decide_eq_false (by omega)
      have g3 : decide (x ≥ 1879048187) = false := decide_eq_false (by omega)
      have l0 : decide (x ≤ 16) = false := decide_eq_false (by omega)
      have l1 : decide (x ≤ 30) = false := decide_eq_false (by omega)
      have l2 : decide (x ≤ 37) = true := decide_eq_true (by omega)
      have l3 : decide (x ≤ 1879048191) = true := decide_eq_true (by omega)
      clear HR hs hc hx
      go_enter Tryz.func49, Tryz.ntmps49
      go_wp2
      go_ret
      exact ⟨rfl, rfl⟩
    · have e : r = true := by rw [← HR.out]; exact knF_true (by omega)
      subst e
      have g0 : decide (x ≥ 1) = true := decide_eq_true (by omega)
      have g1 : decide (x ≥ 25) = true := decide_eq_true (by omega)
      have g2 : decide (x ≥ 35) = true := decide_eq_true (by omega)
      have g3 : decide (x ≥ 1879048187) = false := decide_eq_false (by omega)
      have l0 : decide (x ≤ 16) = false := decide_eq_false (by omega)
      have l1 : decide (x ≤ 30) = false := decide_eq_false (by omega)
      have l2 : decide (x ≤ 37) = true := decide_eq_true (by omega)
      have l3 : decide (x ≤ 1879048191) = true := decide_eq_true (by omega)
      clear HR hs hc hx
      go_enter Tryz.func49, Tryz.ntmps49
      go_wp2
      go_ret
      exact ⟨rfl, rfl⟩
    · have e : r = false := by rw [← HR.out]; exact knF_false (by omega)
      subst e
      have g0 : decide (x ≥ 1) = true := decide_eq_true (by omega)
      have g1 : decide (x ≥ 25) = true := decide_eq_true (by omega)
      have g2 : decide (x ≥ 35) = true := decide_eq_true (by omega)
      have g3 : decide (x ≥ 1879048187) = false := decide_eq_false (by omega)
      have l0 : decide (x ≤ 16) = false := decide_eq_false (by omega)
      have l1 : decide (x ≤ 30) = false := decide_eq_false (by omega)
      have l2 : decide (x ≤ 37) = false := decide_eq_false (by omega)
      have l3 : decide (x ≤ 1879048191) = true := decide_eq_true (by omega)
      clear HR hs hc hx
      go_enter Tryz.func49, Tryz.ntmps49
      go_wp2
      go_ret
      exact ⟨rfl, rfl⟩
    · have e : r = true := by rw [← HR.out]; exact knF_true (by omega)
      subst e
      have g0 : decide (x ≥ 1) = true := decide_eq_true (by omega)
      have g1 : decide (x ≥ 25) = true := decide_eq_true (by omega)
      have g2 : decide (x ≥ 35) = true := decide_eq_true (by omega)
      have g3 : decide (x ≥ 1879048187) = true := decide_eq_true (by omega)
      have l0 : decide (x ≤ 16) = false := decide_eq_false (by omega)
      have l1 : decide (x ≤ 30) = false := decide_eq_false (by omega)
      have l2 : decide (x ≤ 37) = false := decide_eq_false (by omega)
      have l3 : decide (x ≤ 1879048191) = true := decide_eq_true (by omega)
      clear HR hs hc hx
      go_enter Tryz.func49, Tryz.ntmps49
      go_wp2
      go_ret
      exact ⟨rfl, rfl⟩
    · have e : r = false := by rw [← HR.out]; exact knF_false (by omega)
      subst e
      have g0 : decide (x ≥ 1) = true := decide_eq_true (by omega)
      have g1 : decide (x ≥ 25) = true := decide_eq_true (by omega)
      have g2 : decide (x ≥ 35) = true := decide_eq_true (by omega)
      have g3 : decide (x ≥ 1879048187) = true := decide_eq_true (by omega)
      have l0 : decide (x ≤ 16) = false := decide_eq_false (by omega)
      have l1 : decide (x ≤ 30) = false := decide_eq_false (by omega)
      have l2 : decide (x ≤ 37) = false := decide_eq_false (by omega)
      have l3 : decide (x ≤ 1879048191) = false := decide_eq_false (by omega)
      clear HR hs hc hx
      go_enter Tryz.func49, Tryz.ntmps49
      go_wp2
      go_ret
      exact ⟨rfl, rfl⟩
end Go.Proofs.YtnaejlfjlennhaaGreatDoor
/- Layer 5: the entries of a dynamic section. -/
namespace Go.Proofs.YtnaejlfjlennhaaGreatDoor
open Go.RowKit
set_option linter.unusedVariables false
set_option linter.unusedSimpArgs false

theorem slice64d : IntSlice Tryz.prog 28 24 .u64 8 := ⟨Tryz.underlying28, by kernel_rfl⟩
theorem u64_zero (w : World) : (zeroValue 24).run Tryz.prog w = .ok (.int .u64 0) w := by kernel_rfl

/-- what is answered to entries, in the world behind -/
def EntPost (B : Nat) (w' : World) (e : Ending) : Except Nat (List Nat × (Nat → Option Nat)) → Prop
  | .error n => e = .returned (.tuple #[.slice none 0 0, .map none, errV (n : Int)])
  | .ok (ns, m) => ∃ ad n c cm, e = .returned (.tuple #[.slice ad n c, .map (some B), .nilIface]) ∧ OwnI w' (B + 1) 24 .u64 (.slice ad n c) (toI ns) ∧ UM w' Tryz.prog 24 B m cm ∧ n = ns.length

theorem entGo_out {bs : List Nat} {f i : Nat} {ns : List Nat} {m : Nat → Option Nat} (h : bs.length < 16 * (i + 1)) : entGo bs f i ns m = .error 3 := by
  cases f with
  | zero => rfl
  | succ f => rw [entGo, if_pos h]

set_option maxRecDepth 100000 in
set_option maxHeartbeats 4000000 in
theorem entries_any (a : Option Addr) (cap : Nat) (bs : List Nat) (w : World) (h : BRow w a bs) (hc : bs.length ≤ cap) (hl : bs.length ≤ 140737488355328) :
    Calls Tryz.prog 25 #[.slice a bs.length cap] w fun e w' => EntPost w.heap.size w' e (entF bs) ∧ Below w.heap.size w w' := by
  obtain ⟨r, hr⟩ : ∃ r, entF bs = r := ⟨_, rfl⟩
  rw [hr]
  have HR : Hid (entGo bs (bs.length / 16 + 1) 0 [] (fun _ => none) = r) := Lib.hid hr
  have H := Lib.hid h
  obtain ⟨N, hN⟩ : ∃ N, bs.length = N := ⟨_, rfl⟩
  rw [hN] at hc hl HR ⊢
  have HN := Lib.hid hN
  have hmm := @run_makeMap Tryz.prog
  have HW1 : Hid (UM (w.alloc (.map #[] 0)) Tryz.prog 24 w.heap.size (fun _ => none) 0) := Lib.hid (UM.made w _ _)
  have HB1 : Hid (Below w.heap.size w (w.alloc (.map #[] 0))) := Lib.hid ((Below.refl _ _).alloc (Nat.le_refl _) _)
  have HS1 : Hid ((w.alloc (.map #[] 0)).heap.size = w.heap.size + 1) := Lib.hid (by simp)
  clear hr h hN
  go_enter Tryz.func25, Tryz.ntmps25
  go_wp2_with fail
  generalize w.alloc (.map #[] 0) = w1 at *
  go_loopg [5, 7] (N / 16 + 1) (fun g x i wr => ∃ (k : Nat) (ad : Option Addr) (n c : Nat) (ns : List Nat) (m : Nat → Option Nat) (cm : Nat), i = .int .i64 k ∧ x = .slice ad n c ∧ Hid (k + g = N / 16 + 1 ∧ ns.length = n ∧ n ≤ k ∧ cm ≤ k) ∧ Hid (OwnI wr (w.heap.size + 1) 24 .u64 (.slice ad n c) (toI ns)) ∧ Hid (UM wr Tryz.prog 24 w.heap.size m cm) ∧ Hid (Below w.heap.size w wr ∧ w.heap.size + 1 ≤ wr.heap.size) ∧ Hid (entGo bs g k ns m = r))
  case atStart => exact ⟨0, none, 0, 0, [], fun _ => none, 0, rfl, rfl, Lib.hid ⟨by omega, rfl, by omega, by omega⟩, Lib.hid (OwnI.nil _ _ _ _), HW1, Lib.hid ⟨HB1.out, by rw [HS1.out]; omega⟩, HR⟩
  case round =>
    obtain ⟨k, ad, n, c, ns, m, cm, rfl, rfl, HK, HO, HM, HB, HE⟩ := hrel
    clear HR HW1 HB1 HS1 hmm
    have hk0 := HK.out.1
    have i1 : IntKind.i64.wrap ((k : Int) + 1) = ((k + 1 : Nat) : Int) := by rw [IntKind.wrap_i64]; omega
    have i2 : IntKind.i64.wrap (16 * ((k + 1 : Nat) : Int)) = ((16 * (k + 1) : Nat) : Int) := by rw [IntKind.wrap_i64]; omega
    by_cases hle : 16 * (k + 1) ≤ N
    · have hleI : ((16 * (k + 1) : Nat) : Int) ≤ (N : Int) := by omega
      obtain ⟨g, rfl⟩ : ∃ g, gk = g + 1 := ⟨gk - 1, by omega⟩
      obtain ⟨b, o, rfl, -⟩ := (H.out.below HB.out.1).at (i := 16 * k) (by rw [HN.out]; omega)
      obtain ⟨F, hF⟩ : ∃ F : Nat → Nat, (fun q => numOf ((bs.drop q).take 8)) = F := ⟨_, rfl⟩
      have HF := Lib.hid (fun q => (congrFun hF q).symm)
      have HFL : Hid (∀ q, F q < 18446744073709551616) := Lib.hid (fun q => by
        rw [HF.out]
        have h1 := numOf_lt ((bs.drop q).take 8) (fun x hx => H.out.2 x (List.mem_of_mem_drop (List.mem_of_mem_take hx)))
        have h2 : ((bs.drop q).take 8).length ≤ 8 := by simp; omega
        have h3 : (256 : Nat) ^ ((bs.drop q).take 8).length ≤ 256 ^ 8 := Nat.pow_le_pow_right (by omega) h2
        have h5 : (256 : Nat) ^ 8 = 18446744073709551616 := by decide
        omega)
      have HNUM : Hid (∀ (q c : Nat) (w2 : World), q + 8 ≤ N → Below w.heap.size w w2 → Calls Tryz.prog 48 #[.slice (some ⟨b, o + q, none⟩) 8 c] w2 fun e w' => e = .returned (.int .u64 ((F q : Nat) : Int)) ∧ w2 = w') := Lib.hid (fun q c w2 hq hb => by
        have hl8 : ((bs.drop q).take 8).length = 8 := by simp; have := HN.out; omega
        have h1 := number_any (some ⟨b, o + q, none⟩) c ((bs.drop q).take 8) w2 (by have := (H.out.below hb).cut q 8; simpa [WideShapes.add_plain] using this) (by omega)
        rw [hl8] at h1
        rw [HF.out]
        exact h1)
      have j1 : IntKind.i64.wrap (16 * (k : Int)) = ((16 * k : Nat) : Int) := by rw [IntKind.wrap_i64]; omega
      have j2 : IntKind.i64.wrap (((16 * k : Nat) : Int) + 8) = ((16 * k + 8 : Nat) : Int) := by rw [IntKind.wrap_i64]; omega
      have hE : entGo bs (g + 1) k ns m = (if F (16 * k) = 0 then .ok (ns, m) else if 256 ≤ k then .error 2 else if F (16 * k) = 1 then entGo bs g (k + 1) (ns ++ [F (16 * k + 8)]) m else if (m (F (16 * k))).isSome = true ∧ knF (F (16 * k)) = true then .error 5 else entGo bs g (k + 1) ns (upd m (F (16 * k)) (some (F (16 * k + 8))))) := by
        rw [entGo, if_neg (by rw [HN.out]; omega)]
        rw [HF.out, HF.out]
        rfl
      have HE2 := Lib.hid (hE.symm.trans HE.out)
      have HL1 : Hid (16 * k + 16 ≤ N ∧ N ≤ cap ∧ k + g = N / 16) := Lib.hid (by omega)
      have k1 : (0 : Int) ≤ 16 * (k : Int) := by omega
      have k2 : 16 * (k : Int) ≤ (N : Int) := by omega
      have k3 : (0 : Int) ≤ 16 * (k : Int) + 8 := by omega
      have k4 : 16 * (k : Int) + 8 ≤ (N : Int) := by omega
      have k5 : (16 * (k : Int)).toNat = 16 * k := by omega
      have k6 : (16 * (k : Int) + 8).toNat = 16 * k + 8 := by omega
      have k7 : (8 : Int) ≤ ((cap - 16 * k : Nat) : Int) := by omega
      have k8 : (8 : Int) ≤ ((cap - (16 * k + 8) : Nat) : Int) := by omega
      clear hE HE hF hle hk0 i1 i2 j1 j2
      go_wp2_with fail
      go_quiet ((go_at_call 48; exact Calls.quiet_of_same ((HNUM.out _ _ _ (by have := HL1.out; omega) (by first | exact HB.out.1 | exact below_drewN HB.out.1 _)).mono (by rintro e w9' ⟨rfl, rfl⟩; exact ⟨rfl, rfl⟩))))
      have HT := Lib.hid (HFL.out (16 * k))
      have HOd : Hid (OwnI (World.drewN wr nq) (w.heap.size + 1) 24 .u64 (.slice ad n c) (toI ns)) := Lib.hid (HO.out.below (below_drewN (Below.refl _ _) nq))
      have HMd : Hid (UM (World.drewN wr nq) Tryz.prog 24 w.heap.size m cm) := Lib.hid (HM.out.of_block rfl)
      have HBd : Hid (Below w.heap.size w (World.drewN wr nq)) := Lib.hid (below_drewN HB.out.1 nq)
      have HSd : Hid (w.heap.size + 1 ≤ (World.drewN wr nq).heap.size) := Lib.hid HB.out.2
      clear HFL HNUM k1 k2 k3 k4 k5 k6 k7 k8 hleI HF HO HM HB H
      generalize World.drewN wr nq = wd at *
      generalize F (16 * k) = tg at *
      generalize F (16 * k + 8) = vl at *
      by_cases t0 : tg = 0
      · have z0 : ((tg : Int) == 0) = true := by rw [beq_iff_eq]; omega
        have HE3 : Hid (r = .ok (ns, m)) := Lib.hid (by rw [← HE2.out, if_pos t0])
        clear t0 HE2
        go_wp2_with fail
        go_ret3
        rw [HE3.out]
        exact ⟨⟨ad, n, c, cm, rfl, HOd.out, HMd.out, HK.out.2.1.symm⟩, HBd.out⟩
      · have z0 : ((tg : Int) == 0) = false := beq_eq_false_iff_ne.2 (by omega)
        have HE3 := HE2.out
        rw [if_neg t0] at HE3
        clear t0 HE2
        by_cases t1 : 256 ≤ k
        · have z1 : (k : Int) ≥ 256 := by omega
          rw [if_pos t1] at HE3
          have HE4 := Lib.hid HE3.symm
          clear t1 HE3
          go_wp2_with fail
          go_ret3
          rw [HE4.out]
          exact ⟨rfl, HBd.out⟩
        · have z1 : ¬ (k : Int) ≥ 256 := by omega
          rw [if_neg t1] at HE3
          have HKL : Hid (k < 256) := Lib.hid (by omega)
          clear t1
          by_cases t2 : tg = 1
          · have z2 : ((tg : Int) == 1) = true := by rw [beq_iff_eq]; omega
            rw [if_pos t2] at HE3
            have HE4 := Lib.hid HE3
            have HLE : Hid ((toI ns).length = n) := Lib.hid (by rw [toI_length]; exact HK.out.2.1)
            have hn2 : n < 256 := by have := HK.out; have := HKL.out; omega
            clear t2 HE3
            go_wp2_with (at_builtin; go_loud (refine wpList_push rfl (.tmp 43) (.tmp 45) slice64d rfl (w.heap.size + 1) wd (.slice ad n c) (toI ns) n (vl : Int) rfl (by rfl) HLE.out HOd.out (by unfold maxLen; omega) (by omega) (Below.refl _ _) HSd.out ?_); intro ad5 c5 w6 hown5 hbe5; have O5 := Lib.hid hown5; have HB5 := Lib.hid hbe5; clear hown5 hbe5)
            go_roundg g
            case measure => omega
            case rel =>
              have hk := HK.out
              exact ⟨k + 1, ad5, n + 1, c5, ns ++ [vl], m, cm, by go_num, by go_num, Lib.hid ⟨by omega, by simp; omega, by omega, by omega⟩, Lib.hid (by rw [toI_append]; exact O5.out), Lib.hid (HMd.out.of_block (HB5.out.block _ (by omega))), Lib.hid ⟨HBd.out.trans (HB5.out.mono (by omega)), Nat.le_trans HSd.out HB5.out.size⟩, HE4⟩
          · have z2 : ((tg : Int) == 1) = false := beq_eq_false_iff_ne.2 (by omega)
            rw [if_neg t2] at HE3
            have hcm : cm ≤ 256 := by have := HK.out; have := HKL.out; omega
            have hl0 := HMd.out.look_ok (T := 86) (E := 24) Tryz.underlying24 Tryz.underlying86 (u64_zero wd) (k := tg) HT.out
            obtain ⟨old, hold⟩ : ∃ old, (m tg).getD 0 = old := ⟨_, rfl⟩
            rw [hold] at hl0
            clear hold t2
            obtain ⟨w7, hrun, hum, hgr⟩ := HMd.out.put (T := 86) (E := 24) Tryz.underlying24 Tryz.underlying86 (k := tg) (v := vl) HT.out (by unfold maxLen; omega)
            have HUM := Lib.hid hum
            have HO7 : Hid (OwnI w7 (w.heap.size + 1) 24 .u64 (.slice ad n c) (toI ns)) := Lib.hid (World.ownsRow.kept HOd.out hgr (.inr (fun e => by
              have h9 := (World.ownsRow.lt HOd.out w.heap.size e).1
              omega)))
            have HB7 : Hid (Below w.heap.size w w7 ∧ w.heap.size + 1 ≤ w7.heap.size) := Lib.hid ⟨HBd.out.grown hgr (Nat.le_of_succ_le HSd.out) (fun j hj => by cases hj; exact Nat.le_refl _), Nat.le_trans HSd.out hgr.size⟩
            have HKN : Hid (Hid (k + 1 + g = N / 16 + 1 ∧ ns.length = n ∧ n ≤ k + 1 ∧ cm + 1 ≤ k + 1)) := Lib.hid (Lib.hid (by have := HK.out; omega))
            clear hum hgr hcm
            cases hm : (m tg).isSome with
            | false =>
              rw [hm] at hl0
              have HE4 : Hid (entGo bs g (k + 1) ns (upd m tg (some vl)) = r) := Lib.hid (by rw [← HE3, if_neg (fun h => by rw [hm] at h; cases h.1)])
              clear hm HE3
              go_wp2_with fail
              go_roundg g
              case measure => omega
              case rel => exact ⟨k + 1, ad, n, c, ns, upd m tg (some vl), cm + 1, by go_num, rfl, HKN.out, HO7, HUM, HB7, HE4⟩
            | true =>
              rw [hm] at hl0
              cases hq : knF tg with
              | true =>
                have HE4 : Hid (r = .error 5) := Lib.hid (by rw [← HE3, if_pos ⟨hm, hq⟩])
                have KN := Lib.hid (fun (w8 : World) => known_any tg w8)
                rw [hq] at KN
                clear hm HE3 hq hrun
                go_wp2_with (go_at_call 49; refine (KN.out _).mono ?_; rintro e w9 ⟨rfl, rfl⟩)
                go_ret3
                rw [HE4.out]
                exact ⟨rfl, HBd.out⟩
              | false =>
                have HE4 : Hid (entGo bs g (k + 1) ns (upd m tg (some vl)) = r) := Lib.hid (by rw [← HE3, if_neg (fun h => by rw [hq] at h; cases h.2)])
                have KN := Lib.hid (fun (w8 : World) => known_any tg w8)
                rw [hq] at KN
                clear hm HE3 hq
                go_wp2_with (go_at_call 49; refine (KN.out _).mono ?_; rintro e w9 ⟨rfl, rfl⟩)
                go_roundg g
                case measure => omega
                case rel => exact ⟨k + 1, ad, n, c, ns, upd m tg (some vl), cm + 1, by go_num, rfl, HKN.out, HO7, HUM, HB7, HE4⟩
    · have hleI : ¬ ((16 * (k + 1) : Nat) : Int) ≤ (N : Int) := by omega
      have HE2 : Hid (r = .error 3) := Lib.hid (by rw [← HE.out, entGo_out (by rw [HN.out]; omega)])
      clear hle hk0
      generalize 16 * (k + 1) = k16 at *
      generalize k + 1 = k1 at *
      go_wp2_with fail
      go_ret3
      rw [HE2.out]
      exact ⟨rfl, HB.out.1⟩
end Go.Proofs.YtnaejlfjlennhaaGreatDoor
/- Layer 5: does what a section tells go together? -/
namespace Go.Proofs.YtnaejlfjlennhaaGreatDoor
open Go.RowKit
open Go.Maps (Keyed)
set_option linter.unusedVariables false
set_option linter.unusedSimpArgs false

/-- an entry that comes up while a map is gone through -/
theorem um_entry {P : Program} {K : TypeId} {F : Nat → Option Nat} {D : DataW Unit} (hK : P.underlying K = some (.int .u64)) (hD : ∀ k, k < 18446744073709551616 → D.atKey (nk k) (numD none) = numD (F k) ∧ Maps.has D (nk k) = (F k).isSome)
    {x o : Int} {kl : Lit} {y : DataW Unit × List MemPlace} (hkey : keyOf P K (.int .u64 x) = some kl) (hRy : numR (.int .u64 o) = some y) (hat : ∀ zd, D.atKey kl zd = y.1) : ∃ k v : Nat, x = (k : Int) ∧ o = (v : Int) ∧ kl = nk k ∧ k < 18446744073709551616 ∧ F k = some v := by
  obtain ⟨x', ex, rfl, hwx⟩ := Maps.keyOf_int_inv hK hkey
  cases ex
  have hbx := wf_u64_bounds hwx
  obtain ⟨k, rfl⟩ : ∃ k : Nat, x = (k : Int) := ⟨x.toNat, by omega⟩
  have hk64 : k < 18446744073709551616 := by unfold M64 at hbx; omega
  obtain ⟨h1, h2⟩ := hD k hk64
  have h3 : Maps.has D (nk k) = true := Maps.has_true_of_atKey hat
  rw [h3] at h2
  cases hf : F k with
  | none => rw [hf] at h2; cases h2
  | some v =>
    have h4 := hat (numD none)
    rw [show (Lit.int .u64 (k : Int)) = nk k from rfl, h1, hf] at h4
    unfold numR at hRy
    simp only [Option.some.injEq] at hRy
    rw [← hRy] at h4
    simp only [numD, Option.getD_some, DataW.lit.injEq, Lit.int.injEq, true_and] at h4
    exact ⟨k, v, rfl, h4.symm, rfl, hk64, hf⟩

/-- those that have come up are fine -/
def Passed (F : Nat → Option Nat) (left : Lit → Bool) (ok : Nat → Nat → Prop) : Prop := ∀ k v, F k = some v → left (nk k) = false → ok k v
theorem Passed.start {F : Nat → Option Nat} {D : DataW Unit} {ok : Nat → Nat → Prop} (hD : ∀ k, k < 18446744073709551616 → D.atKey (nk k) (numD none) = numD (F k) ∧ Maps.has D (nk k) = (F k).isSome) (hF : ∀ k v, F k = some v → k < 18446744073709551616) : Passed F (Maps.has D) ok := by
  intro k v h1 h2
  rw [(hD k (hF k v h1)).2, h1] at h2
  cases h2
theorem Passed.step {F : Nat → Option Nat} {left : Lit → Bool} {ok : Nat → Nat → Prop} (h : Passed F left ok) {k v : Nat} (hF : F k = some v) (hok : ok k v) : Passed F (fun z => left z && !z.sameKey (nk k)) ok := by
  intro j u h1 h2
  by_cases e : j = k
  · subst e
    rw [hF] at h1
    cases h1
    exact hok
  · refine h j u h1 ?_
    have h3 : (left (nk j) && !(nk j).sameKey (nk k)) = false := h2
    rw [Maps.sameKey_ne (fun e2 => e (nk_inj e2))] at h3
    simpa using h3
theorem Passed.done {F : Nat → Option Nat} {left : Lit → Bool} {ok : Nat → Nat → Prop} (h : Passed F left ok) (hl : ∀ kl, left kl = false) : ∀ k v, F k = some v → ok k v := fun k v h1 => h k v h1 (hl _)

def fitA : Nat → Option Nat := upd (upd (upd (upd (fun _ => none) 20 (some 7)) 9 (some 24)) 11 (some 24)) 37 (some 8)
def fitB : Nat → Option Nat := upd (upd (upd (upd (upd (upd (upd (fun _ => none) 7 (some 8)) 23 (some 2)) 36 (some 35)) 25 (some 27)) 26 (some 28)) 1879048188 (some 1879048189)) 1879048190 (some 1879048191)
theorem fitA_iff {k v : Nat} : fitA k = some v ↔ (k, v) ∈ ([(20, 7), (9, 24), (11, 24), (37, 8)] : List (Nat × Nat)) := by
  simp only [fitA, upd, List.mem_cons, List.not_mem_nil, or_false, Prod.mk.injEq]
  constructor
  · intro h
    repeat' split at h
    all_goals (first | (cases h; done) | (simp only [Option.some.injEq] at h; omega))
  · rintro (⟨rfl, rfl⟩ | ⟨rfl, rfl⟩ | ⟨rfl, rfl⟩ | ⟨rfl, rfl⟩) <;> rfl
theorem fitB_iff {k v : Nat} : fitB k = some v ↔ (k, v) ∈ ([(7, 8), (23, 2), (36, 35), (25, 27), (26, 28), (1879048188, 1879048189), (1879048190, 1879048191)] : List (Nat × Nat)) := by
  simp only [fitB, upd, List.mem_cons, List.not_mem_nil, or_false, Prod.mk.injEq]
  constructor
  · intro h
    repeat' split at h
    all_goals (first | (cases h; done) | (simp only [Option.some.injEq] at h; omega))
  · rintro (⟨rfl, rfl⟩ | ⟨rfl, rfl⟩ | ⟨rfl, rfl⟩ | ⟨rfl, rfl⟩ | ⟨rfl, rfl⟩ | ⟨rfl, rfl⟩ | ⟨rfl, rfl⟩) <;> rfl

theorem fitF_iff (m : Nat → Option Nat) : fitF m = true ↔ (∀ k v, fitA k = some v → ((m k).isSome = true → gv m k = v)) ∧ ¬ (gv m 5 = 0 ∨ gv m 10 = 0 ∨ gv m 6 = 0 ∨ (gv m 4 = 0 ∧ gv m 1879047925 = 0)) ∧
    (∀ k v, fitB k = some v → (gv m k = 0 ↔ gv m v = 0)) ∧ ((gv m 1879048188 = 0 ∧ gv m 1879048190 = 0) ∨ gv m 1879048176 ≠ 0) := by
  unfold fitF
  rw [Bool.and_eq_true, Bool.and_eq_true, Bool.and_eq_true, List.all_eq_true, List.all_eq_true, decide_eq_true_eq, Bool.not_eq_true', decide_eq_false_iff_not]
  have hA : (∀ x, x ∈ ([(20, 7), (9, 24), (11, 24), (37, 8)] : List (Nat × Nat)) → (!(m x.1).isSome || decide (gv m x.1 = x.2)) = true) ↔ (∀ k v, fitA k = some v → ((m k).isSome = true → gv m k = v)) := by
    constructor
    · intro h k v h1 h2
      have h3 := h (k, v) (fitA_iff.1 h1)
      simp only [h2, Bool.not_true, Bool.false_or, decide_eq_true_eq] at h3
      exact h3
    · rintro h ⟨k, v⟩ h1
      cases h2 : (m k).isSome with
      | false => simp [h2]
      | true => simp [h2, h k v (fitA_iff.2 h1) h2]
  have hB : (∀ x, x ∈ ([(7, 8), (23, 2), (36, 35), (25, 27), (26, 28), (1879048188, 1879048189), (1879048190, 1879048191)] : List (Nat × Nat)) → (decide (gv m x.1 = 0) == decide (gv m x.2 = 0)) = true) ↔ (∀ k v, fitB k = some v → (gv m k = 0 ↔ gv m v = 0)) := by
    constructor
    · intro h k v h1
      have h3 := h (k, v) (fitB_iff.1 h1)
      rw [beq_iff_eq, decide_eq_decide] at h3
      exact h3
    · rintro h ⟨k, v⟩ h1
      rw [beq_iff_eq, decide_eq_decide]
      exact h k v (fitB_iff.2 h1)
  rw [hA, hB]
end Go.Proofs.YtnaejlfjlennhaaGreatDoor
/- Layer 5: does what a section tells go together? The program's answer. -/
namespace Go.Proofs.YtnaejlfjlennhaaGreatDoor
open Go.RowKit
open Go.Maps (Keyed)
set_option linter.unusedVariables false
set_option linter.unusedSimpArgs false

theorem u64_zeroF (w : World) : (zeroValue 24).run Tryz.prog w = .ok (.int .u64 0) w := by kernel_rfl
theorem numR_inv' {v : Value} {y : DataW Unit × List MemPlace} (h : numR v = some y) : ∃ o : Int, v = Value.int .u64 o := by
  unfold numR at h
  split at h
  · exact ⟨_, rfl⟩
  · cases h

set_option maxRecDepth 100000 in
set_option maxHeartbeats 8000000 in
theorem fit_any (gm c : Nat) (m : Nat → Option Nat) (w : World) (h : UM w Tryz.prog 24 gm m c) :
    Calls Tryz.prog 26 #[.map (some gm)] w fun e w' => e = .returned (.bool (fitF m)) ∧ Below w.heap.size w w' := by
  obtain ⟨R, hR⟩ : ∃ R, fitF m = R := ⟨_, rfl⟩
  have hiff := fitF_iff m
  rw [hR] at hiff ⊢
  have HI := Lib.hid hiff
  have HGL := Lib.hid h.lt
  have H := Lib.hid h
  have LAW := Lib.hid (Maps.int_keyed (P := Tryz.prog) (k := 24) Tryz.underlying24)
  have INVK : Hid (∀ key kl, keyOf Tryz.prog 24 key = some kl → ∃ x, key = Value.int .u64 x) := Lib.hid (fun key kl hh => by
    obtain ⟨x, e, -⟩ := Maps.keyOf_int_inv Tryz.underlying24 hh
    exact ⟨x, e⟩)
  have INVV : Hid (∀ v y, numR v = some y → ∃ o : Int, v = Value.int .u64 o) := Lib.hid (fun v y hh => numR_inv' hh)
  have hmm := @run_makeMap Tryz.prog
  obtain ⟨w1, r1, u1, g1⟩ := (UM.made w Tryz.prog 24).put (T := 86) (E := 24) Tryz.underlying24 Tryz.underlying86 (k := 20) (v := 7) (by omega) (by unfold maxLen; omega)
  obtain ⟨w2, r2, u2, g2⟩ := u1.put (T := 86) (E := 24) Tryz.underlying24 Tryz.underlying86 (k := 9) (v := 24) (by omega) (by unfold maxLen; omega)
  obtain ⟨w3, r3, u3, g3⟩ := u2.put (T := 86) (E := 24) Tryz.underlying24 Tryz.underlying86 (k := 11) (v := 24) (by omega) (by unfold maxLen; omega)
  obtain ⟨w4, r4, u4, g4⟩ := u3.put (T := 86) (E := 24) Tryz.underlying24 Tryz.underlying86 (k := 37) (v := 8) (by omega) (by unfold maxLen; omega)
  have s1 : (Instr.mapUpdate 86 (.map (some w.heap.size)) (.int .u64 20) (.int .u64 7)).run Tryz.prog (w.alloc (.map #[] 0)) = .ok () w1 := r1
  have s2 : (Instr.mapUpdate 86 (.map (some w.heap.size)) (.int .u64 9) (.int .u64 24)).run Tryz.prog w1 = .ok () w2 := r2
  have s3 : (Instr.mapUpdate 86 (.map (some w.heap.size)) (.int .u64 11) (.int .u64 24)).run Tryz.prog w2 = .ok () w3 := r3
  have s4 : (Instr.mapUpdate 86 (.map (some w.heap.size)) (.int .u64 37) (.int .u64 8)).run Tryz.prog w3 = .ok () w4 := r4
  have B4 : Hid (Below w.heap.size w w4 ∧ w.heap.size < w4.heap.size) := Lib.hid (by
    have b0 : Below w.heap.size w (w.alloc (.map #[] 0)) := (Below.refl _ _).alloc (Nat.le_refl _) _
    have b1 := b0.grown g1 b0.size (fun j hj => by cases hj; exact Nat.le_refl _)
    have b2 := b1.grown g2 b1.size (fun j hj => by cases hj; exact Nat.le_refl _)
    have b3 := b2.grown g3 b2.size (fun j hj => by cases hj; exact Nat.le_refl _)
    have b4 := b3.grown g4 b3.size (fun j hj => by cases hj; exact Nat.le_refl _)
    exact ⟨b4, u4.lt⟩)
  obtain ⟨DA, hown, hDA⟩ : UM w4 Tryz.prog 24 w.heap.size fitA 4 := u4
  have HOWN := Lib.hid hown
  have HDA := Lib.hid hDA
  obtain ⟨nA, hnA⟩ : ∃ nA, Maps.size DA = nA := ⟨_, rfl⟩
  clear h hR hiff r1 r2 r3 r4 u1 u2 u3 g1 g2 g3 g4 hown hDA
  go_enter Tryz.func26, Tryz.ntmps26
  go_wp2_with (first | (at_range; refine wpList_range_own _ rfl _ 86 rfl 24 24 LAW.out Tryz.underlying86 numR w.heap.size 4 DA rfl HOWN.out ?_; intro w0 hrg0 hg0 hs0))
  have B0 : Hid (Below w.heap.size w w0 ∧ w.heap.size < w0.heap.size) := Lib.hid ⟨B4.out.1.grown (hg0.but none) B4.out.1.size (fun j hj => by cases hj), by rw [hs0]; exact Nat.lt_succ_of_lt B4.out.2⟩
  rw [hnA] at hrg0
  have HRG0 := Lib.hid hrg0
  have HP0 : Hid (Passed fitA (Maps.has DA) (fun k v => (m k).isSome = true → gv m k = v)) := Lib.hid (Passed.start HDA.out (fun k v hk => by
    have := fitA_iff.1 hk
    simp at this
    omega))
  obtain ⟨r, hr⟩ : ∃ r, w4.heap.size = r := ⟨_, rfl⟩
  rw [hr] at HRG0 ⊢
  have HRL : Hid (w.heap.size ≤ r) := Lib.hid (by rw [← hr]; exact B4.out.1.size)
  clear hrg0 hg0 hs0 s1 s2 s3 s4 hnA hr B4 HOWN
  go_simp
  go_loopg [6] nA (fun f x wr => ∃ (left : Lit → Bool), Hid (Passed fitA left (fun k v => (m k).isSome = true → gv m k = v)) ∧ Hid (wr.ranges Tryz.prog 24 numR w.heap.size r 4 DA left f) ∧ Hid (Below w.heap.size w wr ∧ w.heap.size < wr.heap.size))
  case atStart => exact ⟨_, HP0, HRG0, B0⟩
  case round =>
    clear HP0 HRG0 B0
    obtain ⟨left, HP, HRG, HB⟩ := hrel
    go_wp2_with (first | (at_next; refine wpList_next_ranges _ rfl _ rfl 24 LAW.out numR (Value.int .u64) (Value.int .u64) INVK.out INVV.out w.heap.size r 4 DA left gk rfl HRG.out ?_ ?_))
    · intro hc0 hl0
      have HA := Lib.hid (HP.out.done hl0)
      clear hc0
      generalize wr = wq at *
      have HMr : Hid (UM wq Tryz.prog 24 gm m c) := Lib.hid (H.out.of_block (HB.out.1.block gm HGL.out))
      have la5 : (Instr.lookup 86 (.map (some gm)) (.int .u64 5) false).run Tryz.prog wq = .ok (.int .u64 ((gv m 5 : Nat) : Int)) wq := HMr.out.look (T := 86) (E := 24) Tryz.underlying24 Tryz.underlying86 (u64_zeroF wq) (k := 5) (by omega)
      have la10 : (Instr.lookup 86 (.map (some gm)) (.int .u64 10) false).run Tryz.prog wq = .ok (.int .u64 ((gv m 10 : Nat) : Int)) wq := HMr.out.look (T := 86) (E := 24) Tryz.underlying24 Tryz.underlying86 (u64_zeroF wq) (k := 10) (by omega)
      have la6 : (Instr.lookup 86 (.map (some gm)) (.int .u64 6) false).run Tryz.prog wq = .ok (.int .u64 ((gv m 6 : Nat) : Int)) wq := HMr.out.look (T := 86) (E := 24) Tryz.underlying24 Tryz.underlying86 (u64_zeroF wq) (k := 6) (by omega)
      have la4 : (Instr.lookup 86 (.map (some gm)) (.int .u64 4) false).run Tryz.prog wq = .ok (.int .u64 ((gv m 4 : Nat) : Int)) wq := HMr.out.look (T := 86) (E := 24) Tryz.underlying24 Tryz.underlying86 (u64_zeroF wq) (k := 4) (by omega)
      have lag : (Instr.lookup 86 (.map (some gm)) (.int .u64 1879047925) false).run Tryz.prog wq = .ok (.int .u64 ((gv m 1879047925 : Nat) : Int)) wq := HMr.out.look (T := 86) (E := 24) Tryz.underlying24 Tryz.underlying86 (u64_zeroF wq) (k := 1879047925) (by omega)
      have HBAD : Hid ((gv m 5 = 0 ∨ gv m 10 = 0 ∨ gv m 6 = 0 ∨ (gv m 4 = 0 ∧ gv m 1879047925 = 0)) → R = false) := Lib.hid (fun hb => by
        cases hR : R with
        | false => rfl
        | true => exact absurd hb (HI.out.1 hR).2.1)
      obtain ⟨a5, ea5⟩ : ∃ a, gv m 5 = a := ⟨_, rfl⟩
      rw [ea5] at la5 HBAD
      obtain ⟨a10, ea10⟩ : ∃ a, gv m 10 = a := ⟨_, rfl⟩
      rw [ea10] at la10 HBAD
      obtain ⟨a6, ea6⟩ : ∃ a, gv m 6 = a := ⟨_, rfl⟩
      rw [ea6] at la6 HBAD
      obtain ⟨a4, ea4⟩ : ∃ a, gv m 4 = a := ⟨_, rfl⟩
      rw [ea4] at la4 HBAD
      obtain ⟨ag, eag⟩ : ∃ a, gv m 1879047925 = a := ⟨_, rfl⟩
      rw [eag] at lag HBAD
      have HGOOD : Hid (¬ (a5 = 0 ∨ a10 = 0 ∨ a6 = 0 ∨ (a4 = 0 ∧ ag = 0)) → (∀ k v, fitB k = some v → (gv m k = 0 ↔ gv m v = 0)) → ((gv m 1879048188 = 0 ∧ gv m 1879048190 = 0) ∨ gv m 1879048176 ≠ 0) → R = true) := Lib.hid (fun h1 h2 h3 => HI.out.2 ⟨HA.out, by rw [ea5, ea10, ea6, ea4, eag]; exact h1, h2, h3⟩)
      clear HA HP hl0 ea5 ea10 ea6 ea4 eag
      by_cases ba5 : a5 = 0
      · have z : ((a5 : Int) == 0) = true := by rw [beq_iff_eq]; omega
        have HRF : Hid (R = false) := Lib.hid (HBAD.out (.inl ba5))
        clear ba5
        go_wp2_with fail
        go_ret
        exact ⟨by rw [HRF.out]; rfl, HB.out.1⟩
      · have za5 : ((a5 : Int) == 0) = false := beq_eq_false_iff_ne.2 (by omega)
        by_cases ba10 : a10 = 0
        · have z : ((a10 : Int) == 0) = true := by rw [beq_iff_eq]; omega
          have HRF : Hid (R = false) := Lib.hid (HBAD.out (.inr (.inl ba10)))
          clear ba10
          go_wp2_with fail
          go_ret
          exact ⟨by rw [HRF.out]; rfl, HB.out.1⟩
        · have za10 : ((a10 : Int) == 0) = false := beq_eq_false_iff_ne.2 (by omega)
          by_cases ba6 : a6 = 0
          · have z : ((a6 : Int) == 0) = true := by rw [beq_iff_eq]; omega
            have HRF : Hid (R = false) := Lib.hid (HBAD.out (.inr (.inr (.inl ba6))))
            clear ba6
            go_wp2_with fail
            go_ret
            exact ⟨by rw [HRF.out]; rfl, HB.out.1⟩
          · have za6 : ((a6 : Int) == 0) = false := beq_eq_false_iff_ne.2 (by omega)
            by_cases ba4 : a4 = 0 ∧ ag = 0
            · have z4 : ((a4 : Int) == 0) = true := by rw [beq_iff_eq]; omega
              have zg : ((ag : Int) == 0) = true := by rw [beq_iff_eq]; omega
              have HRF : Hid (R = false) := Lib.hid (HBAD.out (.inr (.inr (.inr ba4))))
              clear ba4 ba5 ba10 ba6
              go_wp2_with fail
              go_ret
              exact ⟨by rw [HRF.out]; rfl, HB.out.1⟩
            · have HGOOD2 := Lib.hid (HGOOD.out (fun hb => by rcases hb with h | h | h | h; exact ba5 h; exact ba10 h; exact ba6 h; exact ba4 h))
              have hor : ((a4 : Int) == 0) = false ∨ (((a4 : Int) == 0) = true ∧ ((ag : Int) == 0) = false) := by
                by_cases h4 : a4 = 0
                · exact .inr ⟨by rw [beq_iff_eq]; omega, beq_eq_false_iff_ne.2 (by intro hh; exact ba4 ⟨h4, by omega⟩)⟩
                · exact .inl (beq_eq_false_iff_ne.2 (by omega))
              clear ba4 ba5 ba10 ba6 HGOOD HBAD
              obtain ⟨v1, r1, u1, g1⟩ := (UM.made wq Tryz.prog 24).put (T := 86) (E := 24) Tryz.underlying24 Tryz.underlying86 (k := 7) (v := 8) (by omega) (by unfold maxLen; omega)
              have s1 : (Instr.mapUpdate 86 (.map (some wq.heap.size)) (.int .u64 7) (.int .u64 8)).run Tryz.prog (wq.alloc (.map #[] 0)) = .ok () v1 := r1
              obtain ⟨v2, r2, u2, g2⟩ := u1.put (T := 86) (E := 24) Tryz.underlying24 Tryz.underlying86 (k := 23) (v := 2) (by omega) (by unfold maxLen; omega)
              have s2 : (Instr.mapUpdate 86 (.map (some wq.heap.size)) (.int .u64 23) (.int .u64 2)).run Tryz.prog v1 = .ok () v2 := r2
              obtain ⟨v3, r3, u3, g3⟩ := u2.put (T := 86) (E := 24) Tryz.underlying24 Tryz.underlying86 (k := 36) (v := 35) (by omega) (by unfold maxLen; omega)
              have s3 : (Instr.mapUpdate 86 (.map (some wq.heap.size)) (.int .u64 36) (.int .u64 35)).run Tryz.prog v2 = .ok () v3 := r3
              obtain ⟨v4, r4, u4, g4⟩ := u3.put (T := 86) (E := 24) Tryz.underlying24 Tryz.underlying86 (k := 25) (v := 27) (by omega) (by unfold maxLen; omega)
              have s4 : (Instr.mapUpdate 86 (.map (some wq.heap.size)) (.int .u64 25) (.int .u64 27)).run Tryz.prog v3 = .ok () v4 := r4
              obtain ⟨v5, r5, u5, g5⟩ := u4.put (T := 86) (E := 24) Tryz.underlying24 Tryz.underlying86 (k := 26) (v := 28) (by omega) (by unfold maxLen; omega)
              have s5 : (Instr.mapUpdate 86 (.map (some wq.heap.size)) (.int .u64 26) (.int .u64 28)).run Tryz.prog v4 = .ok () v5 := r5
              obtain ⟨v6, r6, u6, g6⟩ := u5.put (T := 86) (E := 24) Tryz.underlying24 Tryz.underlying86 (k := 1879048188) (v := 1879048189) (by omega) (by unfold maxLen; omega)
              have s6 : (Instr.mapUpdate 86 (.map (some wq.heap.size)) (.int .u64 1879048188) (.int .u64 1879048189)).run Tryz.prog v5 = .ok () v6 := r6
              obtain ⟨v7, r7, u7, g7⟩ := u6.put (T := 86) (E := 24) Tryz.underlying24 Tryz.underlying86 (k := 1879048190) (v := 1879048191) (by omega) (by unfold maxLen; omega)
              have s7 : (Instr.mapUpdate 86 (.map (some wq.heap.size)) (.int .u64 1879048190) (.int .u64 1879048191)).run Tryz.prog v6 = .ok () v7 := r7
              have B7 : Hid (Below wq.heap.size wq v7 ∧ wq.heap.size < v7.heap.size) := Lib.hid (by
                have b0 : Below wq.heap.size wq (wq.alloc (.map #[] 0)) := (Below.refl _ _).alloc (Nat.le_refl _) _
                have b1 := b0.grown g1 b0.size (fun j hj => by cases hj; exact Nat.le_refl _)
                have b2 := b1.grown g2 b1.size (fun j hj => by cases hj; exact Nat.le_refl _)
                have b3 := b2.grown g3 b2.size (fun j hj => by cases hj; exact Nat.le_refl _)
                have b4 := b3.grown g4 b3.size (fun j hj => by cases hj; exact Nat.le_refl _)
                have b5 := b4.grown g5 b4.size (fun j hj => by cases hj; exact Nat.le_refl _)
                have b6 := b5.grown g6 b5.size (fun j hj => by cases hj; exact Nat.le_refl _)
                have b7 := b6.grown g7 b6.size (fun j hj => by cases hj; exact Nat.le_refl _)
                exact ⟨b7, u7.lt⟩)
              obtain ⟨DB, hown, hDB⟩ : UM v7 Tryz.prog 24 wq.heap.size fitB 7 := u7
              have HOWB := Lib.hid hown
              have HDB := Lib.hid hDB
              obtain ⟨nB, hnB⟩ : ∃ nB, Maps.size DB = nB := ⟨_, rfl⟩
              clear r1 g1 r2 g2 r3 g3 r4 g4 r5 g5 r6 g6 r7 g7 u1 u2 u3 u4 u5 u6 hown hDB
              have BW0 := Lib.hid HB.out.1
              clear HB HRG HDA HMr
              rcases hor with z4 | ⟨z4, zg⟩ <;>
              · go_wp2_with (first | (at_range; refine wpList_range_own _ rfl _ 86 rfl 24 24 LAW.out Tryz.underlying86 numR wq.heap.size 7 DB rfl HOWB.out ?_; intro w0' hrg0 hg0 hs0))
                have B0 : Hid (Below wq.heap.size wq w0') := Lib.hid (B7.out.1.grown (hg0.but none) B7.out.1.size (fun j hj => by cases hj))
                rw [hnB] at hrg0
                have HRG0 := Lib.hid hrg0
                have HP0 : Hid (Passed fitB (Maps.has DB) (fun k v => (gv m k = 0 ↔ gv m v = 0))) := Lib.hid (Passed.start HDB.out (fun k v hk => by
                  have := fitB_iff.1 hk
                  simp at this
                  omega))
                obtain ⟨rb, hrb⟩ : ∃ rb, v7.heap.size = rb := ⟨_, rfl⟩
                rw [hrb] at HRG0 ⊢
                have HRLB : Hid (wq.heap.size ≤ rb) := Lib.hid (by rw [← hrb]; exact B7.out.1.size)
                clear hrg0 hg0 hs0 s1 s2 s3 s4 s5 s6 s7 hnB hrb B7 HOWB la5 la10 la6 la4 lag z4 za5 za10 za6
                go_simp
                go_loopg [8] nB (fun f x wr => ∃ (left : Lit → Bool), Hid (Passed fitB left (fun k v => (gv m k = 0 ↔ gv m v = 0))) ∧ Hid (wr.ranges Tryz.prog 24 numR wq.heap.size rb 7 DB left f) ∧ Hid (Below wq.heap.size wq wr))
                case atStart => exact ⟨_, HP0, HRG0, B0⟩
                case round =>
                  clear HP0 HRG0 B0
                  obtain ⟨left, HP, HRG, HB⟩ := hrel
                  go_wp2_with (first | (at_next; refine wpList_next_ranges _ rfl _ rfl 24 LAW.out numR (Value.int .u64) (Value.int .u64) INVK.out INVV.out wq.heap.size rb 7 DB left gk rfl HRG.out ?_ ?_))
                  · intro hc0 hl0
                    have HPD := HP.out.done hl0
                    have HMz : Hid (UM wr Tryz.prog 24 gm m c) := Lib.hid ((H.out.of_block (BW0.out.block gm HGL.out)).of_block (HB.out.block gm (Nat.lt_of_lt_of_le HGL.out BW0.out.size)))
                    have lad : (Instr.lookup 86 (.map (some gm)) (.int .u64 1879048188) false).run Tryz.prog wr = .ok (.int .u64 ((gv m 1879048188 : Nat) : Int)) wr := HMz.out.look (T := 86) (E := 24) Tryz.underlying24 Tryz.underlying86 (u64_zeroF wr) (k := 1879048188) (by omega)
                    have lan : (Instr.lookup 86 (.map (some gm)) (.int .u64 1879048190) false).run Tryz.prog wr = .ok (.int .u64 ((gv m 1879048190 : Nat) : Int)) wr := HMz.out.look (T := 86) (E := 24) Tryz.underlying24 Tryz.underlying86 (u64_zeroF wr) (k := 1879048190) (by omega)
                    have lay : (Instr.lookup 86 (.map (some gm)) (.int .u64 1879048176) false).run Tryz.prog wr = .ok (.int .u64 ((gv m 1879048176 : Nat) : Int)) wr := HMz.out.look (T := 86) (E := 24) Tryz.underlying24 Tryz.underlying86 (u64_zeroF wr) (k := 1879048176) (by omega)
                    have HRT : Hid (((gv m 1879048188 = 0 ∧ gv m 1879048190 = 0) ∨ gv m 1879048176 ≠ 0) → R = true) := Lib.hid (HGOOD2.out HPD)
                    have HRN : Hid (¬ ((gv m 1879048188 = 0 ∧ gv m 1879048190 = 0) ∨ gv m 1879048176 ≠ 0) → R = false) := Lib.hid (fun hb => by
                      cases hR : R with
                      | false => rfl
                      | true => exact absurd (HI.out.1 hR).2.2.2 hb)
                    obtain ⟨ad, ead⟩ : ∃ a, gv m 1879048188 = a := ⟨_, rfl⟩
                    rw [ead] at lad HRT HRN
                    obtain ⟨an, ean⟩ : ∃ a, gv m 1879048190 = a := ⟨_, rfl⟩
                    rw [ean] at lan HRT HRN
                    obtain ⟨ay, eas⟩ : ∃ a, gv m 1879048176 = a := ⟨_, rfl⟩
                    rw [eas] at lay HRT HRN
                    have BF : Hid (Below w.heap.size w wr) := Lib.hid (bstep BW0.out HB.out)
                    clear HPD HP hl0 ead ean eas
                    have zs : ∀ b, (((ay : Int) != 0) = b) → ((ay : Int) != 0) = b := fun b h => h
                    by_cases d0 : ad = 0
                    · have zd : ((ad : Int) == 0) = true := by rw [beq_iff_eq]; omega
                      by_cases n0 : an = 0
                      · have zn : ((an : Int) == 0) = true := by rw [beq_iff_eq]; omega
                        obtain rfl : R = true := HRT.out (.inl ⟨d0, n0⟩)
                        clear d0 n0 zs HRT HRN
                        go_wp2_with fail
                        go_ret
                        exact ⟨rfl, BF.out⟩
                      · have zn : ((an : Int) == 0) = false := beq_eq_false_iff_ne.2 (by omega)
                        obtain rfl : R = ((ay : Int) != 0) := by
                          by_cases s0 : ay = 0
                          · rw [HRN.out (fun h => h.elim (fun h => n0 h.2) (fun h => h s0)), s0]; rfl
                          · rw [HRT.out (.inr s0)]; exact (bne_iff_ne.2 (by omega)).symm
                        clear d0 n0 zs HRT HRN
                        go_wp2_with fail
                        go_ret
                        exact ⟨rfl, BF.out⟩
                    · have zd : ((ad : Int) == 0) = false := beq_eq_false_iff_ne.2 (by omega)
                      obtain rfl : R = ((ay : Int) != 0) := by
                        by_cases s0 : ay = 0
                        · rw [HRN.out (fun h => h.elim (fun h => d0 h.1) (fun h => h s0)), s0]; rfl
                        · rw [HRT.out (.inr s0)]; exact (bne_iff_ne.2 (by omega)).symm
                      clear d0 zs HRT HRN
                      go_wp2_with fail
                      go_ret
                      exact ⟨rfl, BF.out⟩
                  · intro x o kl y ps wn cnt1 hkey hlk hRy hat hrg1 hlt hg1 hs1 hen
                    obtain ⟨k, v, rfl, rfl, rfl, hk64, hF⟩ := um_entry Tryz.underlying24 HDB.out hkey hRy hat
                    have BN : Hid (Below wq.heap.size wq wn) := Lib.hid (HB.out.grown hg1 HB.out.size (fun j hj => by cases hj; exact HRLB.out))
                    have HMz : Hid (UM wn Tryz.prog 24 gm m c) := Lib.hid ((H.out.of_block (BW0.out.block gm HGL.out)).of_block (BN.out.block gm (Nat.lt_of_lt_of_le HGL.out BW0.out.size)))
                    have hv64 : v < 18446744073709551616 := by
                      have := fitB_iff.1 hF
                      simp at this
                      omega
                    have hlk1 : (Instr.lookup 86 (.map (some gm)) (.int .u64 (k : Int)) false).run Tryz.prog wn = .ok (.int .u64 ((gv m k : Nat) : Int)) wn := HMz.out.look (T := 86) (E := 24) Tryz.underlying24 Tryz.underlying86 (u64_zeroF wn) (k := k) hk64
                    have hlk2 : (Instr.lookup 86 (.map (some gm)) (.int .u64 (v : Int)) false).run Tryz.prog wn = .ok (.int .u64 ((gv m v : Nat) : Int)) wn := HMz.out.look (T := 86) (E := 24) Tryz.underlying24 Tryz.underlying86 (u64_zeroF wn) (k := v) hv64
                    have HRN := Lib.hid hrg1
                    have hlt9 := Lib.hid hlt
                    have HFK := Lib.hid hF
                    obtain ⟨ak, hak⟩ : ∃ a, gv m k = a := ⟨_, rfl⟩
                    obtain ⟨av, hav⟩ : ∃ a, gv m v = a := ⟨_, rfl⟩
                    rw [hak] at hlk1
                    rw [hav] at hlk2
                    have HST : Hid ((ak = 0 ↔ av = 0) → Passed fitB (fun z => left z && !z.sameKey (nk k)) (fun k v => (gv m k = 0 ↔ gv m v = 0))) := Lib.hid (fun hh => HP.out.step HFK.out (by rw [hak, hav]; exact hh))
                    have HBAD : Hid (¬ (ak = 0 ↔ av = 0) → R = false) := Lib.hid (fun hh => by
                      cases hR : R with
                      | false => rfl
                      | true => exact absurd ((HI.out.1 hR).2.2.1 k v HFK.out) (by rw [hak, hav]; exact hh))
                    have BF : Hid (Below w.heap.size w wn) := Lib.hid (bstep BW0.out BN.out)
                    clear hrg1 hlt hg1 hs1 hat hRy hlk hkey hF hk64 hv64 hak hav HMz
                    by_cases c1 : ak = 0
                    · by_cases c2 : av = 0
                      · have y1 : ((ak : Int) == 0) = true := by rw [beq_iff_eq]; omega
                        have y2 : ((av : Int) == 0) = true := by rw [beq_iff_eq]; omega
                        have HPN := Lib.hid (HST.out (by omega))
                        clear c1 c2
                        go_wp2_with fail
                        go_roundg cnt1
                        case measure => exact hlt9.out
                        case rel => exact ⟨_, HPN, HRN, BN⟩
                      · have y1 : ((ak : Int) == 0) = true := by rw [beq_iff_eq]; omega
                        have y2 : ((av : Int) == 0) = false := beq_eq_false_iff_ne.2 (by omega)
                        obtain rfl : R = false := HBAD.out (by omega)
                        clear c1 c2
                        go_wp2_with fail
                        go_ret
                        exact ⟨rfl, BF.out⟩
                    · by_cases c2 : av = 0
                      · have y1 : ((ak : Int) == 0) = false := beq_eq_false_iff_ne.2 (by omega)
                        have y2 : ((av : Int) == 0) = true := by rw [beq_iff_eq]; omega
                        obtain rfl : R = false := HBAD.out (by omega)
                        clear c1 c2
                        go_wp2_with fail
                        go_ret
                        exact ⟨rfl, BF.out⟩
                      · have y1 : ((ak : Int) == 0) = false := beq_eq_false_iff_ne.2 (by omega)
                        have y2 : ((av : Int) == 0) = false := beq_eq_false_iff_ne.2 (by omega)
                        have HPN := Lib.hid (HST.out (by omega))
                        clear c1 c2
                        go_wp2_with fail
                        go_roundg cnt1
                        case measure => exact hlt9.out
                        case rel => exact ⟨_, HPN, HRN, BN⟩
    · intro x o kl y ps wn cnt1 hkey hlk hRy hat hrg1 hlt hg1 hs1 hen
      obtain ⟨k, v, rfl, rfl, rfl, hk64, hF⟩ := um_entry Tryz.underlying24 HDA.out hkey hRy hat
      have BN : Hid (Below w.heap.size w wn ∧ w.heap.size < wn.heap.size) := Lib.hid ⟨HB.out.1.grown hg1 HB.out.1.size (fun j hj => by cases hj; exact HRL.out), by rw [hs1]; exact HB.out.2⟩
      have hl0 := (H.out.of_block (BN.out.1.block gm HGL.out)).look_ok (T := 86) (E := 24) Tryz.underlying24 Tryz.underlying86 (u64_zeroF wn) (k := k) hk64
      obtain ⟨old, hold⟩ : ∃ old, (m k).getD 0 = old := ⟨_, rfl⟩
      rw [hold] at hl0
      have HRN := Lib.hid hrg1
      have hlt9 := Lib.hid hlt
      have HFK := Lib.hid hF
      have HOLD : Hid (gv m k = old) := Lib.hid hold
      clear hrg1 hlt hg1 hs1 hat hRy hlk hkey hF hold hk64
      cases hm : (m k).isSome with
      | false =>
        rw [hm] at hl0
        have HPN := Lib.hid (HP.out.step HFK.out (fun h => by rw [hm] at h; cases h))
        clear hm
        go_wp2_with fail
        go_roundg cnt1
        case measure => exact hlt9.out
        case rel => exact ⟨_, HPN, HRN, BN⟩
      | true =>
        rw [hm] at hl0
        by_cases ho : old = v
        · have z : ((old : Int) != (v : Int)) = false := by rw [ho]; simp
          have HPN := Lib.hid (HP.out.step HFK.out (fun _ => by rw [HOLD.out]; exact ho))
          clear hm ho
          go_wp2_with fail
          go_roundg cnt1
          case measure => exact hlt9.out
          case rel => exact ⟨_, HPN, HRN, BN⟩
        · have z : ((old : Int) != (v : Int)) = true := bne_iff_ne.2 (by omega)
          have HRF : Hid (R = false) := Lib.hid (by
            cases hR : R with
            | false => rfl
            | true => exact absurd (((HI.out.1 hR).1 k v HFK.out hm)) (by rw [HOLD.out]; exact ho))
          clear hm ho
          go_wp2_with fail
          go_ret
          exact ⟨by rw [HRF.out]; rfl, BN.out.1⟩
end Go.Proofs.YtnaejlfjlennhaaGreatDoor
