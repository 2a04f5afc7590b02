/- Layer 7: a table of the first kind is made of names. -/
import Derived.Test.YtklaehlhkflcdaaHashFirst
import Derived.Test.YtklaehlhkflcdaaGrow
namespace Go.Proofs.Ytklaehlhkflcdaa
open Go.RowKit
set_option linter.unusedVariables false
set_option linter.unusedSimpArgs false

/-- a slice of texts that can be read -/
def TRow (w : World) (a : Option Addr) (T : List ByteArray) : Prop := ∀ i, i < T.length → ∃ b off, a = some ⟨b, off, none⟩ ∧ b < w.heap.size ∧ w.cell? ⟨b, off + i, none⟩ = some (.string (T.getD i .empty))
theorem TRow.below {w w' : World} {a : Option Addr} {T : List ByteArray} (h : TRow w a T) (hb : Below w.heap.size w w') : TRow w' a T := by
  intro i hi
  obtain ⟨b, off, e, hlt, hc⟩ := h i hi
  exact ⟨b, off, e, Nat.lt_of_lt_of_le hlt hb.size, by rw [hb.cell (p := ⟨b, off + i, none⟩) hlt]; exact hc⟩

theorem slice8f : IntSlice Try.prog 24 5 .u8 1 := ⟨Try.underlying24, by kernel_rfl⟩

/-- what is left of a word behind so many bytes -/
def rest4 (v k : Nat) : Nat := v / 256 ^ k
theorem rest4_step (v k : Nat) : rest4 v k / 256 = rest4 v (k + 1) := by unfold rest4; rw [Nat.div_div_eq_div_mul, Nat.pow_succ]
theorem rest4_zero (v : Nat) : rest4 v 0 = v := by simp [rest4]
theorem rest4_le (v k : Nat) : rest4 v k ≤ v := Nat.div_le_self _ _
def dig4To (v k : Nat) : List Nat := (List.range k).map fun j => rest4 v j % 256
theorem dig4To_succ (v k : Nat) : dig4To v (k + 1) = dig4To v k ++ [rest4 v k % 256] := by simp [dig4To, List.range_succ]
theorem dig4To_length (v k : Nat) : (dig4To v k).length = k := by simp [dig4To]
theorem dig4_to (v : Nat) : dig4To v 4 = dig4 v := by
  simp [dig4To, dig4, List.range_succ, rest4]

set_option maxRecDepth 100000 in
set_option maxHeartbeats 4000000 in
theorem four_any (a : Option Addr) (cap : Nat) (W : List Nat) (w : World) (h : Row .u32 w a (toI W)) (hlt : ∀ x ∈ W, x < 4294967296) (hl : W.length ≤ 1048576) :
    Calls Try.prog 13 #[.slice a W.length cap] w (NumsAns 5 .u8 (fourF W) w) := by
  have H := Lib.hid h
  have HLT := Lib.hid hlt
  have HTK : Hid (fourF (W.take W.length) = fourF W) := Lib.hid (by rw [List.take_length])
  have HLEN : Hid (∀ k, k ≤ W.length → (fourF (W.take k)).length = 4 * k) := Lib.hid (fun k hk => by rw [fourF_length, List.length_take]; omega)
  obtain ⟨R, hR⟩ : ∃ R, fourF W = R := ⟨_, rfl⟩
  rw [hR] at HTK ⊢
  clear h hlt hR
  go_enter Try.func13, Try.ntmps13
  go_wp2
  go_loopg [3, 4] W.length (fun g u i wr => ∃ (k : Nat) (ad : Option Addr) (c : Nat), k + g = W.length ∧ i = .int .i64 (k : Int) ∧ u = .slice ad (4 * k) c ∧ Hid (OwnI wr w.heap.size 5 .u8 (.slice ad (4 * k) c) (toI (fourF (W.take k)))) ∧ Hid (Below w.heap.size w wr))
  case atStart => exact ⟨0, none, 0, by omega, rfl, rfl, Lib.hid (OwnI.nil _ _ _ _), Lib.hid (Below.refl _ _)⟩
  case round =>
    obtain ⟨k, ad, c, hk, rfl, rfl, OW, BW⟩ := hrel
    cases gk with
    | zero =>
      have hke : k = W.length := by omega
      have HK := Lib.hid hke
      have hl2 := HLEN.out k (by omega)
      rw [hke] at OW hl2
      rw [HTK.out] at OW hl2
      have HL2 := Lib.hid hl2
      subst hke
      clear hl2
      go_wp2
      go_ret
      refine ⟨ad, c, by rw [HL2.out]; rfl, by rw [HL2.out]; exact OW.out, BW.out⟩
    | succ g =>
      have hlk : k < W.length := by omega
      obtain ⟨b, o, rfl, hc⟩ := (H.out.below BW.out) k (by rw [toI_length]; exact hlk)
      rw [toI_getD] at hc
      have hv : W.getD k 0 < 4294967296 := by
        refine HLT.out _ ?_
        rw [List.getD, List.getElem?_eq_getElem hlk]
        exact List.getElem_mem _
      have HNX : Hid (fourF (W.take (k + 1)) = fourF (W.take k) ++ dig4 (W.getD k 0)) := Lib.hid (by
        rw [List.take_succ_eq_append_getElem hlk, fourF_snoc]
        simp [List.getD, hlk])
      have hbl := HLEN.out k (by omega)
      generalize W.getD k 0 = v at *
      obtain ⟨base, hbase⟩ : ∃ base, fourF (W.take k) = base := ⟨_, rfl⟩
      rw [hbase] at OW HNX hbl
      have HBL := Lib.hid hbl
      have HV := Lib.hid hv
      clear hbl hbase hv
      go_wp2
      go_loopg [3, 5, 6] 4 (fun g u x j wr => ∃ (q : Nat) (ad : Option Addr) (c : Nat), q + g = 4 ∧ j = .int .i64 (q : Int) ∧ x = .int .u32 (rest4 v q : Int) ∧ u = .slice ad (4 * k + q) c ∧ Hid (OwnI wr w.heap.size 5 .u8 (.slice ad (4 * k + q) c) (toI (base ++ dig4To v q))) ∧ Hid (Below w.heap.size w wr))
      case atStart => exact ⟨0, ad, c, by omega, rfl, by rw [rest4_zero], rfl, by simpa [dig4To] using OW, BW⟩
      case round =>
        obtain ⟨q, ad, c, hq, rfl, rfl, rfl, OQ, BQ⟩ := hrel
        cases gk with
        | zero =>
          have hqe : q = 4 := by omega
          subst hqe
          rw [dig4_to, ← HNX.out] at OQ
          go_wp2
          go_roundg g
          case measure => omega
          case rel => exact ⟨k + 1, ad, c, by omega, by go_num, by rw [Nat.mul_add], by rw [Nat.mul_add]; exact OQ, BQ⟩
        | succ g2 =>
          have hq4 : q < 4 := by omega
          have HST := Lib.hid (rest4_step v q)
          have hle := rest4_le v q
          have HD4 := Lib.hid (dig4To_succ v q)
          have HLQ : Hid ((toI (base ++ dig4To v q)).length = 4 * k + q) := Lib.hid (by rw [toI_length, List.length_append, HBL.out, dig4To_length])
          have hv2 := HV.out
          have hrem : ((rest4 v q : Nat) : Int).tmod 256 = ((rest4 v q % 256 : Nat) : Int) := by
            rw [Int.tmod_eq_emod_of_nonneg (by omega)]; omega
          have hquo : ((rest4 v q : Nat) : Int).tdiv 256 = ((rest4 v (q + 1) : Nat) : Int) := by
            rw [Int.tdiv_eq_ediv_of_nonneg (by omega), ← HST.out]; omega
          have hm : rest4 v q % 256 < 256 := Nat.mod_lt _ (by omega)
          have hle3 := rest4_le v (q + 1)
          have h3 : rest4 v (q + 1) < 4294967296 := by omega
          have h4 : rest4 v q < 4294967296 := by omega
          obtain ⟨r2, hr2⟩ : ∃ r2, rest4 v (q + 1) = r2 := ⟨_, rfl⟩
          have HR2 := Lib.hid hr2
          rw [hr2] at hquo hle3 h3
          clear hr2
          generalize rest4 v q % 256 = d at *
          generalize rest4 v q = r1 at *
          have hwd : IntKind.u8.wrap (d : Int) = (d : Int) := by rw [IntKind.wrap_u8]; omega
          have hwd2 : IntKind.u32.wrap (d : Int) = (d : Int) := by rw [IntKind.wrap_u32]; omega
          have hwr : IntKind.u32.wrap (r2 : Int) = (r2 : Int) := by rw [IntKind.wrap_u32]; omega
          have BS := Lib.hid BQ.out.size
          clear hle hle3 h3 h4 hv2 hm HST
          go_wp2_with (at_builtin; go_loud (refine wpList_push rfl (.tmp 21) (.tmp 25) slice8f rfl w.heap.size w (.slice ad (4 * k + q) c) (toI (base ++ dig4To v q)) (4 * k + q) (d : Int) rfl (by rfl) HLQ.out OQ.out (by unfold maxLen; omega) (by omega) BQ.out BS.out ?_); intro ad5 c5 w6 hown5 hbe5; have O5 := Lib.hid hown5; have HB5 := Lib.hid hbe5; clear hown5 hbe5)
          go_roundg g2
          case measure => omega
          case rel =>
            have hT : toI (base ++ dig4To v q) ++ [(d : Int)] = toI (base ++ dig4To v (q + 1)) := by rw [HD4.out]; simp [toI]
            have o5 := O5.out
            rw [hT] at o5
            exact ⟨q + 1, ad5, c5, by omega, by go_num, by rw [HR2.out], rfl, Lib.hid o5, HB5⟩

theorem rep_get {m i : Nat} (h : i < m) : (List.replicate m (0 : Int))[i]? = some 0 := by simp [h]
theorem tab_two (hb : Nat → Nat) (n N : Nat) : (((List.replicate (2 + n + N) (0 : Int)).set 0 (n : Int)).set 1 (N : Int)) = toI (tabW hb n N (N - 1)) := by
  rw [tabW_start, show 2 + n + N = (n + N) + 1 + 1 from by omega, List.replicate_succ, List.replicate_succ]
  simp [toI]

set_option maxRecDepth 100000 in
set_option maxHeartbeats 4000000 in
theorem first_any (a : Option Addr) (cap : Nat) (all : List ByteArray) (n : Nat) (w : World) (h : TRow w a all) (hs : ∀ t ∈ all, t.size ≤ 9223372036854775807) (h0 : 0 < all.length) (hl : all.length ≤ 2000) (hn0 : 0 < n) (hn : n ≤ 64) :
    Calls Try.prog 6 #[.slice a all.length cap, .int .u32 (n : Int)] w (NumsAns 5 .u8 (fourF (tabW (fun x => sysOf (all.getD x .empty).data.toList % n) n all.length 0)) w) := by
  have H := Lib.hid h
  have HSY := Lib.hid (fun (w1 : World) (i : Nat) (hi : i < all.length) => sysv_any (all.getD i .empty) w1 (hs _ (by rw [List.getD, List.getElem?_eq_getElem hi]; exact List.getElem_mem _)))
  have HHB : Hid (∀ x, (fun x => sysOf (all.getD x .empty).data.toList % n) x < n) := Lib.hid (fun x => Nat.mod_lt _ hn0)
  have HHE : Hid (∀ x, (fun x => sysOf (all.getD x .empty).data.toList % n) x = sysOf (all.getD x .empty).data.toList % n) := Lib.hid (fun x => rfl)
  obtain ⟨hb, hhb⟩ : ∃ hb : Nat → Nat, (fun x => sysOf (all.getD x .empty).data.toList % n) = hb := ⟨_, rfl⟩
  rw [hhb] at HHB HHE ⊢
  obtain ⟨N, hN⟩ : ∃ N, all.length = N := ⟨_, rfl⟩
  have HN := Lib.hid hN
  rw [hN] at h0 hl HSY ⊢
  have hsum : ((2 : Int) + (n : Int) + (N : Int)) = ((2 + n + N : Nat) : Int) := by omega
  have HSUM := Lib.hid hsum
  have hwN : IntKind.u32.wrap (N : Int) = (N : Int) := by rw [IntKind.wrap_u32]; omega
  have hwn := wrap_word (show n < 4294967296 by omega)
  obtain ⟨R, hR⟩ : ∃ R, fourF (tabW hb n N 0) = R := ⟨_, rfl⟩
  have HR := Lib.hid hR
  rw [hR]
  clear h hs hhb hN hsum hR
  go_enter Try.func6, Try.ntmps6
  go_wp2_with (at_make; go_loud (refine wpList_make_nums rfl (.tmp 13) (.tmp 13) slice32 rfl w.heap.size w (2 + n + N) .i64 .i64 (2 + (n : Int) + (N : Int)) (2 + (n : Int) + (N : Int)) rfl rfl HSUM.out HSUM.out (by omega) (by unfold maxLen; omega) (Below.refl _ _) (Nat.le_refl _) ?_); intro g w4 ho4 hg4 hb4 hb4'; have O4 := Lib.hid ho4; have B4 := Lib.hid hb4; have hc40 := ho4.get2 0 0 (rep_get (by omega)); have hc41 := ho4.get2 1 0 (rep_get (by omega)); have hf40 := ho4.free2 0; have hf41 := ho4.free2 1; clear ho4 hg4 hb4 hb4')
  have hlr : (List.replicate (2 + n + N) (0 : Int)).length = 2 + n + N := by simp
  have P2 := Lib.hid ((O4.out.put2 hlr 0 (n : Int)).put2 (by rw [List.length_set]; exact hlr) 1 (N : Int))
  rw [tab_two hb] at P2
  have B5 := Lib.hid ((B4.out.setCell (p := ⟨g, 0, none⟩) O4.out.ge2.1 (.int .u32 (n : Int))).setCell (p := ⟨g, 1, none⟩) O4.out.ge2.1 (.int .u32 (N : Int)))
  clear O4 B4 hc40 hc41 hf40 hf41
  generalize (w4.setCell ⟨g, 0, none⟩ (.int .u32 (n : Int))).setCell ⟨g, 1, none⟩ (.int .u32 (N : Int)) = w5 at *
  have HTL := Lib.hid (fun s => tabW_length hb n N s)
  have HTLT := Lib.hid (fun s => tabW_lt (hb := hb) (n := n) (N := N) (s := s) (by omega) (by omega) h0)
  go_loopg [6] (N - 1) (fun gg i wr => gg ≤ N - 1 ∧ i = .int .i64 (gg : Int) ∧ Hid (OwnI wr w.heap.size 26 .u32 (.slice (some ⟨g, 0, none⟩) (2 + n + N) (2 + n + N)) (toI (tabW hb n N gg))) ∧ Hid (Below w.heap.size w wr))
  case atStart => exact ⟨Nat.le_refl _, by congr 1; omega, P2, B5⟩
  case round =>
    obtain ⟨hg, rfl, OW, BW⟩ := hrel
    cases gk with
    | zero =>
      have hrow := OW.out.row2
      have h4 := four_any (some ⟨g, 0, none⟩) (2 + n + N) (tabW hb n N 0) wr hrow (HTLT.out 0) (by rw [HTL.out]; omega)
      rw [HTL.out, HR.out] at h4
      have H4 := Lib.hid h4
      clear hrow h4
      go_wp2_with fail
      refine H4.out.mono ?_
      rintro e w6 ⟨ad, c, rfl, ho, hb6⟩
      have HO := Lib.hid (ho.mono BW.out.size); have B6 := Lib.hid (bstep BW.out hb6)
      clear ho hb6
      go_wp2_with fail
      go_ret
      exact ⟨ad, c, rfl, HO.out, B6.out⟩
    | succ s =>
      have hsN : s + 1 < N := by omega
      obtain ⟨b, o, rfl, -, hc⟩ := (H.out.below BW.out) (s + 1) (by rw [HN.out]; exact hsN)
      have HSI := Lib.hid (HSY.out wr (s + 1) hsN)
      have hbe := HHE.out (s + 1)
      have hblt := HHB.out (s + 1)
      have HSTEP := Lib.hid (tabW_step (n := n) hsN hblt)
      have hkb := OW.out.get2 (2 + hb (s + 1)) (nxt hb N (s + 1) (hb (s + 1)) : Int) (by simp [toI, tabW_bucket hblt])
      have hkc := OW.out.get2 (2 + n + (s + 1)) 0 (by simp [toI, tabW_chain hsN])
      have hkf := OW.out.free2
      have HF := Lib.hid hkf
      have P3 := Lib.hid ((OW.out.put2 (by rw [toI_length, HTL.out]) (2 + n + (s + 1)) (nxt hb N (s + 1) (hb (s + 1)) : Int)).put2 (by rw [List.length_set, toI_length, HTL.out]) (2 + hb (s + 1)) ((s + 1 : Nat) : Int))
      have hTT : ((toI (tabW hb n N (s + 1))).set (2 + n + (s + 1)) (nxt hb N (s + 1) (hb (s + 1)) : Int)).set (2 + hb (s + 1)) ((s + 1 : Nat) : Int) = toI (tabW hb n N s) := by
        rw [← HSTEP.out]; simp [toI, List.map_set]
      rw [hTT] at P3
      have hgl := OW.out.ge2.1
      have HGL := Lib.hid hgl
      generalize nxt hb N (s + 1) (hb (s + 1)) = v at *
      obtain ⟨q, hq⟩ : ∃ q, hb (s + 1) = q := ⟨_, rfl⟩
      rw [hq] at hbe hblt hkb P3
      obtain ⟨hh, hhh⟩ : ∃ hh, sysOf (all.getD (s + 1) .empty).data.toList = hh := ⟨_, rfl⟩
      rw [hhh] at hbe HSI
      have hsl : hh < 268435456 := by rw [← hhh]; exact sysOf_lt _
      have hrem : (hh : Int).tmod (n : Int) = (q : Int) := by
        rw [Int.tmod_eq_emod_of_nonneg (by omega), hbe]; omega
      have hwq : IntKind.u32.wrap (2 + (q : Int)) = ((2 + q : Nat) : Int) := by rw [IntKind.wrap_u32]; omega
      have hwi : IntKind.u32.wrap ((s : Int) + 1) = (s : Int) + 1 := by rw [IntKind.wrap_u32]; omega
      have hwi0 : IntKind.u32.wrap (q : Int) = (q : Int) := by rw [IntKind.wrap_u32]; omega
      have hn00 : ¬ n = 0 := by omega
      have hf1 := HF.out (2 + q)
      have hf2 := HF.out (2 + n + (s + 1))
      have hne1 : ¬ 2 + q = 2 + n + (s + 1) := by omega
      have hne2 : ¬ 2 + n + (s + 1) = 2 + q := by omega
      have hlt1 : (2 : Int) + (q : Int) < 2 + (n : Int) + (N : Int) := by omega
      have hge1 : (0 : Int) ≤ 2 + (q : Int) := by omega
      have hlt2 : (2 : Int) + (n : Int) + ((s : Int) + 1) < 2 + (n : Int) + (N : Int) := by omega
      have hge2 : (0 : Int) ≤ 2 + (n : Int) + ((s : Int) + 1) := by omega
      generalize all.getD (s + 1) .empty = nm at *
      clear hkf hTT hblt hhh hq hbe hsl hgl
      go_wp2_with fail
      refine HSI.out.mono ?_
      rintro e w6 ⟨rfl, rfl⟩
      go_wp2_with fail
      go_roundg s
      case measure => omega
      case rel => exact ⟨by omega, by go_num, P3, Lib.hid ((BW.out.setCell (p := ⟨g, 2 + n + (s + 1), none⟩) HGL.out _).setCell (p := ⟨g, 2 + q, none⟩) HGL.out _)⟩
end Go.Proofs.Ytklaehlhkflcdaa
