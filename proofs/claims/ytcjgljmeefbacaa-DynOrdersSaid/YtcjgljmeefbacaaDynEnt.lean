/- Layer 5: the entries of a dynamic section. -/
import Derived.Test.YtcjgljmeefbacaaDynKnown
import Derived.Test.YtcjgljmeefbacaaUMap
import Derived.Test.YtcjgljmeefbacaaDynCut
import Derived.Deep.LoopGhost
import Derived.Deep.QuietTactic
import Derived.BigQuiet
import Derived.Carry
namespace Go.Proofs.Ytcjgljmeefbacaa
open Go.RowKit
set_option linter.unusedVariables false
set_option linter.unusedSimpArgs false

theorem slice64d : IntSlice Try.prog 31 26 .u64 8 := ⟨Try.underlying31, by kernel_rfl⟩
theorem u64_zero (w : World) : (zeroValue 26).run Try.prog w = .ok (.int .u64 0) w := by kernel_rfl

/-- what is answered to entries, in the world behind -/
def EntPost (B : Nat) (w' : World) (e : Ending) : Except Nat (List Nat × (Nat → Option Nat)) → Prop
  | .error n => e = .returned (.tuple #[.slice none 0 0, .map none, errV (n : Int)])
  | .ok (ns, m) => ∃ ad n c cm, e = .returned (.tuple #[.slice ad n c, .map (some B), .nilIface]) ∧ OwnI w' (B + 1) 26 .u64 (.slice ad n c) (toI ns) ∧ UM w' Try.prog 26 B m cm ∧ n = ns.length

theorem entGo_out {bs : List Nat} {f i : Nat} {ns : List Nat} {m : Nat → Option Nat} (h : bs.length < 16 * (i + 1)) : entGo bs f i ns m = .error 3 := by
  cases f with
  | zero => rfl
  | succ f => rw [entGo, if_pos h]

set_option maxRecDepth 100000 in
set_option maxHeartbeats 4000000 in
theorem entries_any (a : Option Addr) (cap : Nat) (bs : List Nat) (w : World) (h : BRow w a bs) (hc : bs.length ≤ cap) (hl : bs.length ≤ 140737488355328) :
    Calls Try.prog 14 #[.slice a bs.length cap] w fun e w' => EntPost w.heap.size w' e (entF bs) ∧ Below w.heap.size w w' := by
  obtain ⟨r, hr⟩ : ∃ r, entF bs = r := ⟨_, rfl⟩
  rw [hr]
  have HR : Hid (entGo bs (bs.length / 16 + 1) 0 [] (fun _ => none) = r) := Lib.hid hr
  have H := Lib.hid h
  obtain ⟨N, hN⟩ : ∃ N, bs.length = N := ⟨_, rfl⟩
  rw [hN] at hc hl HR ⊢
  have HN := Lib.hid hN
  have hmm := @run_makeMap Try.prog
  have HW1 : Hid (UM (w.alloc (.map #[] 0)) Try.prog 26 w.heap.size (fun _ => none) 0) := Lib.hid (UM.made w _ _)
  have HB1 : Hid (Below w.heap.size w (w.alloc (.map #[] 0))) := Lib.hid ((Below.refl _ _).alloc (Nat.le_refl _) _)
  have HS1 : Hid ((w.alloc (.map #[] 0)).heap.size = w.heap.size + 1) := Lib.hid (by simp)
  clear hr h hN
  go_enter Try.func14, Try.ntmps14
  go_wp2_with fail
  generalize w.alloc (.map #[] 0) = w1 at *
  go_loopg [5, 7] (N / 16 + 1) (fun g x i wr => ∃ (k : Nat) (ad : Option Addr) (n c : Nat) (ns : List Nat) (m : Nat → Option Nat) (cm : Nat), i = .int .i64 k ∧ x = .slice ad n c ∧ Hid (k + g = N / 16 + 1 ∧ ns.length = n ∧ n ≤ k ∧ cm ≤ k) ∧ Hid (OwnI wr (w.heap.size + 1) 26 .u64 (.slice ad n c) (toI ns)) ∧ Hid (UM wr Try.prog 26 w.heap.size m cm) ∧ Hid (Below w.heap.size w wr ∧ w.heap.size + 1 ≤ wr.heap.size) ∧ Hid (entGo bs g k ns m = r))
  case atStart => exact ⟨0, none, 0, 0, [], fun _ => none, 0, rfl, rfl, Lib.hid ⟨by omega, rfl, by omega, by omega⟩, Lib.hid (OwnI.nil _ _ _ _), HW1, Lib.hid ⟨HB1.out, by rw [HS1.out]; omega⟩, HR⟩
  case round =>
    obtain ⟨k, ad, n, c, ns, m, cm, rfl, rfl, HK, HO, HM, HB, HE⟩ := hrel
    clear HR HW1 HB1 HS1 hmm
    have hk0 := HK.out.1
    have i1 : IntKind.i64.wrap ((k : Int) + 1) = ((k + 1 : Nat) : Int) := by rw [IntKind.wrap_i64]; omega
    have i2 : IntKind.i64.wrap (16 * ((k + 1 : Nat) : Int)) = ((16 * (k + 1) : Nat) : Int) := by rw [IntKind.wrap_i64]; omega
    by_cases hle : 16 * (k + 1) ≤ N
    · have hleI : ((16 * (k + 1) : Nat) : Int) ≤ (N : Int) := by omega
      obtain ⟨g, rfl⟩ : ∃ g, gk = g + 1 := ⟨gk - 1, by omega⟩
      obtain ⟨b, o, rfl, -⟩ := (H.out.below HB.out.1).at (i := 16 * k) (by rw [HN.out]; omega)
      obtain ⟨F, hF⟩ : ∃ F : Nat → Nat, (fun q => numOf ((bs.drop q).take 8)) = F := ⟨_, rfl⟩
      have HF := Lib.hid (fun q => (congrFun hF q).symm)
      have HFL : Hid (∀ q, F q < 18446744073709551616) := Lib.hid (fun q => by
        rw [HF.out]
        have h1 := numOf_lt ((bs.drop q).take 8) (fun x hx => H.out.2 x (List.mem_of_mem_drop (List.mem_of_mem_take hx)))
        have h2 : ((bs.drop q).take 8).length ≤ 8 := by simp; omega
        have h3 : (256 : Nat) ^ ((bs.drop q).take 8).length ≤ 256 ^ 8 := Nat.pow_le_pow_right (by omega) h2
        have h5 : (256 : Nat) ^ 8 = 18446744073709551616 := by decide
        omega)
      have HNUM : Hid (∀ (q c : Nat) (w2 : World), q + 8 ≤ N → Below w.heap.size w w2 → Calls Try.prog 19 #[.slice (some ⟨b, o + q, none⟩) 8 c] w2 fun e w' => e = .returned (.int .u64 ((F q : Nat) : Int)) ∧ w2 = w') := Lib.hid (fun q c w2 hq hb => by
        have hl8 : ((bs.drop q).take 8).length = 8 := by simp; have := HN.out; omega
        have h1 := number_any (some ⟨b, o + q, none⟩) c ((bs.drop q).take 8) w2 (by have := (H.out.below hb).cut q 8; simpa [WideShapes.add_plain] using this) (by omega)
        rw [hl8] at h1
        rw [HF.out]
        exact h1)
      have j1 : IntKind.i64.wrap (16 * (k : Int)) = ((16 * k : Nat) : Int) := by rw [IntKind.wrap_i64]; omega
      have j2 : IntKind.i64.wrap (((16 * k : Nat) : Int) + 8) = ((16 * k + 8 : Nat) : Int) := by rw [IntKind.wrap_i64]; omega
      have hE : entGo bs (g + 1) k ns m = (if F (16 * k) = 0 then .ok (ns, m) else if 256 ≤ k then .error 2 else if F (16 * k) = 1 then entGo bs g (k + 1) (ns ++ [F (16 * k + 8)]) m else if (m (F (16 * k))).isSome = true ∧ knF (F (16 * k)) = true then .error 5 else entGo bs g (k + 1) ns (upd m (F (16 * k)) (some (F (16 * k + 8))))) := by
        rw [entGo, if_neg (by rw [HN.out]; omega)]
        rw [HF.out, HF.out]
        rfl
      have HE2 := Lib.hid (hE.symm.trans HE.out)
      have HL1 : Hid (16 * k + 16 ≤ N ∧ N ≤ cap ∧ k + g = N / 16) := Lib.hid (by omega)
      have k1 : (0 : Int) ≤ 16 * (k : Int) := by omega
      have k2 : 16 * (k : Int) ≤ (N : Int) := by omega
      have k3 : (0 : Int) ≤ 16 * (k : Int) + 8 := by omega
      have k4 : 16 * (k : Int) + 8 ≤ (N : Int) := by omega
      have k5 : (16 * (k : Int)).toNat = 16 * k := by omega
      have k6 : (16 * (k : Int) + 8).toNat = 16 * k + 8 := by omega
      have k7 : (8 : Int) ≤ ((cap - 16 * k : Nat) : Int) := by omega
      have k8 : (8 : Int) ≤ ((cap - (16 * k + 8) : Nat) : Int) := by omega
      clear hE HE hF hle hk0 i1 i2 j1 j2
      go_wp2_with fail
      go_quiet ((go_at_call 19; exact Calls.quiet_of_same ((HNUM.out _ _ _ (by have := HL1.out; omega) (by first | exact HB.out.1 | exact below_drewN HB.out.1 _)).mono (by rintro e w9' ⟨rfl, rfl⟩; exact ⟨rfl, rfl⟩))))
      have HT := Lib.hid (HFL.out (16 * k))
      have HOd : Hid (OwnI (World.drewN wr nq) (w.heap.size + 1) 26 .u64 (.slice ad n c) (toI ns)) := Lib.hid (HO.out.below (below_drewN (Below.refl _ _) nq))
      have HMd : Hid (UM (World.drewN wr nq) Try.prog 26 w.heap.size m cm) := Lib.hid (HM.out.of_block rfl)
      have HBd : Hid (Below w.heap.size w (World.drewN wr nq)) := Lib.hid (below_drewN HB.out.1 nq)
      have HSd : Hid (w.heap.size + 1 ≤ (World.drewN wr nq).heap.size) := Lib.hid HB.out.2
      clear HFL HNUM k1 k2 k3 k4 k5 k6 k7 k8 hleI HF HO HM HB H
      generalize World.drewN wr nq = wd at *
      generalize F (16 * k) = tg at *
      generalize F (16 * k + 8) = vl at *
      by_cases t0 : tg = 0
      · have z0 : ((tg : Int) == 0) = true := by rw [beq_iff_eq]; omega
        have HE3 : Hid (r = .ok (ns, m)) := Lib.hid (by rw [← HE2.out, if_pos t0])
        clear t0 HE2
        go_wp2_with fail
        go_ret3
        rw [HE3.out]
        exact ⟨⟨ad, n, c, cm, rfl, HOd.out, HMd.out, HK.out.2.1.symm⟩, HBd.out⟩
      · have z0 : ((tg : Int) == 0) = false := beq_eq_false_iff_ne.2 (by omega)
        have HE3 := HE2.out
        rw [if_neg t0] at HE3
        clear t0 HE2
        by_cases t1 : 256 ≤ k
        · have z1 : (k : Int) ≥ 256 := by omega
          rw [if_pos t1] at HE3
          have HE4 := Lib.hid HE3.symm
          clear t1 HE3
          go_wp2_with fail
          go_ret3
          rw [HE4.out]
          exact ⟨rfl, HBd.out⟩
        · have z1 : ¬ (k : Int) ≥ 256 := by omega
          rw [if_neg t1] at HE3
          have HKL : Hid (k < 256) := Lib.hid (by omega)
          clear t1
          by_cases t2 : tg = 1
          · have z2 : ((tg : Int) == 1) = true := by rw [beq_iff_eq]; omega
            rw [if_pos t2] at HE3
            have HE4 := Lib.hid HE3
            have HLE : Hid ((toI ns).length = n) := Lib.hid (by rw [toI_length]; exact HK.out.2.1)
            have hn2 : n < 256 := by have := HK.out; have := HKL.out; omega
            clear t2 HE3
            go_wp2_with (at_builtin; go_loud (refine wpList_push rfl (.tmp 43) (.tmp 45) slice64d rfl (w.heap.size + 1) wd (.slice ad n c) (toI ns) n (vl : Int) rfl (by rfl) HLE.out HOd.out (by unfold maxLen; omega) (by omega) (Below.refl _ _) HSd.out ?_); intro ad5 c5 w6 hown5 hbe5; have O5 := Lib.hid hown5; have HB5 := Lib.hid hbe5; clear hown5 hbe5)
            go_roundg g
            case measure => omega
            case rel =>
              have hk := HK.out
              exact ⟨k + 1, ad5, n + 1, c5, ns ++ [vl], m, cm, by go_num, by go_num, Lib.hid ⟨by omega, by simp; omega, by omega, by omega⟩, Lib.hid (by rw [toI_append]; exact O5.out), Lib.hid (HMd.out.of_block (HB5.out.block _ (by omega))), Lib.hid ⟨HBd.out.trans (HB5.out.mono (by omega)), Nat.le_trans HSd.out HB5.out.size⟩, HE4⟩
          · have z2 : ((tg : Int) == 1) = false := beq_eq_false_iff_ne.2 (by omega)
            rw [if_neg t2] at HE3
            have hcm : cm ≤ 256 := by have := HK.out; have := HKL.out; omega
            have hl0 := HMd.out.look_ok (T := 53) (E := 26) Try.underlying26 Try.underlying53 (u64_zero wd) (k := tg) HT.out
            obtain ⟨old, hold⟩ : ∃ old, (m tg).getD 0 = old := ⟨_, rfl⟩
            rw [hold] at hl0
            clear hold t2
            obtain ⟨w7, hrun, hum, hgr⟩ := HMd.out.put (T := 53) (E := 26) Try.underlying26 Try.underlying53 (k := tg) (v := vl) HT.out (by unfold maxLen; omega)
            have HUM := Lib.hid hum
            have HO7 : Hid (OwnI w7 (w.heap.size + 1) 26 .u64 (.slice ad n c) (toI ns)) := Lib.hid (World.ownsRow.kept HOd.out hgr (.inr (fun e => by
              have h9 := (World.ownsRow.lt HOd.out w.heap.size e).1
              omega)))
            have HB7 : Hid (Below w.heap.size w w7 ∧ w.heap.size + 1 ≤ w7.heap.size) := Lib.hid ⟨HBd.out.grown hgr (Nat.le_of_succ_le HSd.out) (fun j hj => by cases hj; exact Nat.le_refl _), Nat.le_trans HSd.out hgr.size⟩
            have HKN : Hid (Hid (k + 1 + g = N / 16 + 1 ∧ ns.length = n ∧ n ≤ k + 1 ∧ cm + 1 ≤ k + 1)) := Lib.hid (Lib.hid (by have := HK.out; omega))
            clear hum hgr hcm
            cases hm : (m tg).isSome with
            | false =>
              rw [hm] at hl0
              have HE4 : Hid (entGo bs g (k + 1) ns (upd m tg (some vl)) = r) := Lib.hid (by rw [← HE3, if_neg (fun h => by rw [hm] at h; cases h.1)])
              clear hm HE3
              go_wp2_with fail
              go_roundg g
              case measure => omega
              case rel => exact ⟨k + 1, ad, n, c, ns, upd m tg (some vl), cm + 1, by go_num, rfl, HKN.out, HO7, HUM, HB7, HE4⟩
            | true =>
              rw [hm] at hl0
              cases hq : knF tg with
              | true =>
                have HE4 : Hid (r = .error 5) := Lib.hid (by rw [← HE3, if_pos ⟨hm, hq⟩])
                have KN := Lib.hid (fun (w8 : World) => known_any tg w8)
                rw [hq] at KN
                clear hm HE3 hq hrun
                go_wp2_with (go_at_call 20; refine (KN.out _).mono ?_; rintro e w9 ⟨rfl, rfl⟩)
                go_ret3
                rw [HE4.out]
                exact ⟨rfl, HBd.out⟩
              | false =>
                have HE4 : Hid (entGo bs g (k + 1) ns (upd m tg (some vl)) = r) := Lib.hid (by rw [← HE3, if_neg (fun h => by rw [hq] at h; cases h.2)])
                have KN := Lib.hid (fun (w8 : World) => known_any tg w8)
                rw [hq] at KN
                clear hm HE3 hq
                go_wp2_with (go_at_call 20; refine (KN.out _).mono ?_; rintro e w9 ⟨rfl, rfl⟩)
                go_roundg g
                case measure => omega
                case rel => exact ⟨k + 1, ad, n, c, ns, upd m tg (some vl), cm + 1, by go_num, rfl, HKN.out, HO7, HUM, HB7, HE4⟩
    · have hleI : ¬ ((16 * (k + 1) : Nat) : Int) ≤ (N : Int) := by omega
      have HE2 : Hid (r = .error 3) := Lib.hid (by rw [← HE.out, entGo_out (by rw [HN.out]; omega)])
      clear hle hk0
      generalize 16 * (k + 1) = k16 at *
      generalize k + 1 = k1 at *
      go_wp2_with fail
      go_ret3
      rw [HE2.out]
      exact ⟨rfl, HB.out.1⟩
end Go.Proofs.Ytcjgljmeefbacaa
