/- Layer 7: what a table of the second kind that was read is like; and what Look answers, whatever tables there are. Nothing of the program is named. -/
import Derived.Test.YtnaejlfjlennhaaGreatDoorBloomRd
import Derived.Test.YtnaejlfjlennhaaGreatDoorOnes
namespace Go.Proofs.YtnaejlfjlennhaaGreatDoor
open Go.RowKit
set_option linter.unusedVariables false
set_option linter.unusedSimpArgs false

theorem sliceF_mem {bs : List Nat} {ps : List PT} {addr size : Nat} (hb : ∀ b ∈ bs, b < 256) : ∀ x ∈ (sliceF bs ps addr size).1, x < 256 := by
  intro x hx
  unfold sliceF at hx
  split at hx
  · exact hb x (List.mem_of_mem_drop (List.mem_of_mem_take hx))
  · cases hx
theorem onesF_zero : ¬ onesF 0 = 1 := by decide +kernel

structure BTok (t : BT) : Prop where
  first : t.first < 4294967296
  shift : t.shift < 32
  base : t.base < 18446744073709551616
  bu0 : 0 < t.buckets.length
  bul : t.buckets.length ≤ 4096
  but : ∀ x ∈ t.buckets, x < 4294967296
  bl0 : 0 < t.bloom.length
  bll : t.bloom.length ≤ 4096
  blt : ∀ x ∈ t.bloom, x < 18446744073709551616

theorem bloomF_alt {bs : List Nat} {ps : List PT} {addr : Nat} (hb : ∀ b ∈ bs, b < 256) : (∃ t, bloomF bs ps addr = (t, 0) ∧ BTok t) ∨ (∃ c, bloomF bs ps addr = (.nil, c) ∧ (c = 2 ∨ c = 3 ∨ c = 4)) := by
  rcases wordsF_alt bs ps addr 4 with ⟨f, hf, hfl⟩ | hf
  · match f, hfl with
    | [nb, fi, wd, sh], _ =>
      by_cases h0 : nb = 0 ∨ ¬ onesF wd = 1 ∨ 31 < sh
      · exact .inr ⟨3, bloomF_form hf h0, by simp⟩
      · by_cases h1 : 4096 < nb ∨ 4096 < fi ∨ 4096 < wd
        · exact .inr ⟨2, bloomF_long hf h0 h1, by simp⟩
        · rcases sliceF_code bs ps addr (16 + 8 * wd + 4 * nb) with hc | hc
          · obtain ⟨all, hall⟩ : ∃ all, sliceF bs ps addr (16 + 8 * wd + 4 * nb) = (all, 0) := ⟨(sliceF bs ps addr (16 + 8 * wd + 4 * nb)).1, by rw [← hc]⟩
            have hal := sliceF_len bs ps addr (16 + 8 * wd + 4 * nb) hc
            have hab := sliceF_mem (ps := ps) (addr := addr) (size := 16 + 8 * wd + 4 * nb) hb
            rw [hall] at hal hab
            simp only at hal hab
            cases hl : (splitF (all.drop (16 + 8 * wd))).any (lowB fi) with
            | true => exact .inr ⟨3, bloomF_low hf h0 h1 hall hl, by simp⟩
            | false =>
              refine .inl ⟨_, bloomF_yes hf h0 h1 hall hl, ?_⟩
              have hw0 : ¬ wd = 0 := fun e => by subst e; exact h0 (.inr (.inl onesF_zero))
              have hlen : (splitF (all.drop (16 + 8 * wd))).length = nb := by rw [splitF_length, List.length_drop, hal]; omega
              refine ⟨?_, ?_, ?_, ?_, ?_, ?_, ?_, ?_, ?_⟩
              · show fi < 4294967296; omega
              · show sh < 32; omega
              · show (addr + (16 + 8 * wd + 4 * nb)) % 18446744073709551616 < 18446744073709551616; omega
              · show 0 < (splitF (all.drop (16 + 8 * wd))).length; rw [hlen]; omega
              · show (splitF (all.drop (16 + 8 * wd))).length ≤ 4096; rw [hlen]; omega
              · exact splitF_lt (fun x hx => hab x (List.mem_of_mem_drop hx))
              · show 0 < ((List.range wd).map (eightAt all)).length; simp; omega
              · show ((List.range wd).map (eightAt all)).length ≤ 4096; simp; omega
              · intro x hx
                obtain ⟨i, -, rfl⟩ := List.mem_map.1 hx
                exact eightAt_lt hab i
          · exact .inr ⟨4, bloomF_out hf h0 h1 hc, by simp⟩
  · exact .inr ⟨4, bloomF_no hf, by simp⟩

theorem maxF_lt {l : List Nat} {n : Nat} (h0 : 0 < n) (h : ∀ x ∈ l, x < n) : maxF l < n := by
  induction l using snocInd with
  | nil => simpa [maxF] using h0
  | snoc l x ih =>
    rw [maxF_snoc]
    have h1 := ih (fun y hy => h y (List.mem_append_left _ hy))
    have h2 := h x (by simp)
    show max (maxF l) x < n
    omega

/-- what Look answers -/
def lookAF (bs : List Nat) (ps : List PT) (hash gnu : Nat) (names : List ByteArray) (name : ByteArray) : List Nat × Nat :=
  if gnu = 0 then (if hash = 0 then ([], 0) else if (chainsF bs ps hash).2 = 0 then lookF (chainsF bs ps hash).1 names name (sysOf name.data.toList) else ([], (chainsF bs ps hash).2))
  else if hash ≠ 0 ∧ (chainsF bs ps hash).2 ≠ 0 then ([], (chainsF bs ps hash).2)
  else if (bloomF bs ps gnu).2 = 0 then (if (bcountF bs ps (bloomF bs ps gnu).1).2 = 0 then blookF bs ps (bloomF bs ps gnu).1 names name (gnuN name.data.toList) else ([], (bcountF bs ps (bloomF bs ps gnu).1).2))
  else ([], (bloomF bs ps gnu).2)
/-- what Count answers -/
def countAF (bs : List Nat) (ps : List PT) (hash gnu : Nat) : Nat × Nat :=
  if hash = 0 then (if gnu = 0 then (0, 0) else if (bloomF bs ps gnu).2 = 0 then bcountF bs ps (bloomF bs ps gnu).1 else (0, (bloomF bs ps gnu).2))
  else ((chainsF bs ps hash).1.2.length, (chainsF bs ps hash).2)
theorem countGo_code (bs : List Nat) (ps : List PT) (t : BT) (f i : Nat) : (countGo bs ps t f i).2 = 0 ∨ (countGo bs ps t f i) = (0, 2) ∨ (countGo bs ps t f i) = (0, 4) := by
  induction f generalizing i with
  | zero => exact .inr (.inl rfl)
  | succ f ih =>
    rcases wordF_alt bs ps (linkAt t i) with h | h
    · by_cases h1 : (linkF bs ps t i).1 % 2 = 1
      · rw [countGo_end h h1]; exact .inl rfl
      · rw [countGo_next h h1]; exact ih _
    · rw [countGo_bad h]; exact .inr (.inr rfl)
theorem bcountF_code (bs : List Nat) (ps : List PT) (t : BT) : (bcountF bs ps t).2 = 0 ∨ (bcountF bs ps t) = (0, 2) ∨ (bcountF bs ps t) = (0, 4) := by
  unfold bcountF
  split
  · exact .inl rfl
  · exact countGo_code _ _ _ _ _
theorem chainsF_alt {bs : List Nat} {ps : List PT} {addr : Nat} : (∃ t, chainsF bs ps addr = (t, 0)) ∨ (∃ c, chainsF bs ps addr = (([], []), c) ∧ (c = 2 ∨ c = 3 ∨ c = 4)) := by
  rcases wordsF_alt bs ps addr 2 with ⟨f, hf, hfl⟩ | hf
  · match f, hfl with
    | [nb, ns], _ =>
      by_cases h0 : nb = 0 ∨ ns = 0
      · exact .inr ⟨3, chainsF_zero hf h0, by simp⟩
      · by_cases h1 : 4096 < nb ∨ 4096 < ns
        · exact .inr ⟨2, chainsF_long hf h0 h1, by simp⟩
        · rcases wordsF_alt bs ps addr (2 + nb + ns) with ⟨all, hall, hl⟩ | hall
          · exact .inl ⟨_, chainsF_yes hf h0 h1 hall⟩
          · exact .inr ⟨4, chainsF_out hf h0 h1 hall, by simp⟩
  · exact .inr ⟨4, chainsF_no hf, by simp⟩
end Go.Proofs.YtnaejlfjlennhaaGreatDoor
/- Layer 7: Look, whatever tables there are. -/
namespace Go.Proofs.YtnaejlfjlennhaaGreatDoor
open Go.RowKit
set_option linter.unusedVariables false
set_option linter.unusedSimpArgs false

theorem errVc {c : Nat} (h : c = 2 ∨ c = 3 ∨ c = 4) : errV (c : Int) = .iface 56 (.int .i64 (c : Int)) := by
  rcases h with rfl | rfl | rfl <;> rfl
section
variable (a : Option Addr) (cap : Nat) (bs : List Nat) (ty en : Int) (p : Option Addr) (pc : Nat) (ps : List PT) (D : Array Value) (hash gnu : Nat) (la : Option Addr) (lc : Nat) (names : List ByteArray) (name : ByteArray) (w : World)

/-- all that the walks of Look and Count take -/
structure LookIn : Prop where
  hb : BRow w a bs
  hbl : bs.length ≤ 140737488351232
  hbc : bs.length ≤ cap
  hbn : a = none → bs.length = 0 ∧ cap = 0
  h : PRow w p ps
  hl : ps.length ≤ 140737488351232
  h1 : hash < 18446744073709551616
  h2 : gnu < 18446744073709551616
  hD : D.size = 37
  hD3 : D[3]? = some (.int .u64 (hash : Int))
  hD25 : D[25]? = some (.int .u64 (gnu : Int))






















































































































































































set_option maxRecDepth 100000 in
set_option maxHeartbeats 4000000 in
theorem count_g_ok (H : LookIn a cap bs p ps D hash gnu w) (h10 : hash = 0) (h20 : ¬ gnu = 0) (t : BT) (hF : bloomF bs ps gnu = (t, 0)) (hT : BTok t) (n : Nat) (hcc2 : bcountF bs ps t = (n, 0)) :
    Calls Tryz.prog 28 #[.slice a bs.length cap, headV ty en p ps.length pc, .agg D] w (fun e w' => e = .returned (.tuple #[.int .i64 (n : Int), .nilIface]) ∧ Below w.heap.size w w') := by
  obtain ⟨hb, hbl, hbc, hbn, h, hl, h1, h2, hD, hD3, hD25⟩ := H
  have HRC := Lib.hid (fun (w1 : World) (hb1 : Below w.heap.size w w1) => readChains_any a cap bs ty en p pc ps hash w1 (hb.below hb1) hbl hbc hbn (h.below hb1) hl h1)
  have HRB := Lib.hid (fun (w1 : World) (hb1 : Below w.heap.size w w1) => readBloomed_any a cap bs ty en p pc ps gnu w1 (hb.below hb1) hbl hbc hbn (h.below hb1) hl h2)
  have HBC := Lib.hid (fun (t : BT) (ba : Option Addr) (bc : Nat) (ua : Option Addr) (uc : Nat) (w1 : World) (hb1 : Below w.heap.size w w1) (T : BTok t) (hu : Row .u32 w1 ua (toI t.buckets)) => bcount_any a cap bs ty en p pc ps t ba bc ua uc w1 (hb.below hb1) hbl hbc (h.below hb1) hl T.first T.base hu T.bu0 T.bul (maxF_lt (by omega) T.but))
  have HBB := Lib.hid hb.2
  rw [hF] at HRB
  have HT := Lib.hid hT
  have h10i : ((hash : Int) == 0) = true := by rw [h10]; rfl
  have h10j : ((hash : Int) != 0) = false := by rw [h10]; rfl
  clear h10
  have h20i : ((gnu : Int) == 0) = false := beq_eq_false_iff_ne.2 (by omega)
  clear h20
  clear hb h hbn
  have HI : Hid ((Tryz.prog.info? 30).map (·.size) = some D.size) := Lib.hid (show _ by rw [hD]; kernel_rfl)
  have B0 : Hid (Below w.heap.size w ((w.alloc (.cells #[.int .i64 ty, .int .u64 en, .slice p ps.length pc] 27)).alloc (.cells D 30))) := Lib.hid (((Below.refl _ _).alloc (Nat.le_refl _) _).alloc (by simp) _)
  have B1 : Hid (Below w.heap.size w (((w.alloc (.cells #[.int .i64 ty, .int .u64 en, .slice p ps.length pc] 27)).alloc (.cells D 30)).alloc (.cells #[.slice a bs.length cap, .int .i64 ty, .int .u64 en, .slice p ps.length pc] 127))) := Lib.hid (B0.out.alloc B0.out.size _)
  clear hD
  unfold headV fileV bloomV at *
  go_enter Tryz.func28, Tryz.ntmps28
  go_wp2_with fail
  refine (HRB.out _ B1.out).mono ?_
  rintro e wb ⟨hbb, hzb⟩
  obtain ⟨-, ba, bc, ua, uc, heb, hr1, hr2⟩ := hzb.resolve_right (fun h => h.1 rfl)
  replace heb : e = .returned (.tuple #[.agg #[.slice a bs.length cap, .int .i64 ty, .int .u64 en, .slice p ps.length pc, .int .u32 (t.first : Int), .int .u32 (t.shift : Int), .slice ba t.bloom.length bc, .slice ua t.buckets.length uc, .int .u64 (t.base : Int)], .nilIface]) := heb
  subst heb
  have Bb := Lib.hid (bstep B1.out hbb)
  have BX : Hid (Below wb.heap.size wb (wb.alloc (.cells #[.slice a bs.length cap, .int .i64 ty, .int .u64 en, .slice p ps.length pc, .int .u32 (t.first : Int), .int .u32 (t.shift : Int), .slice ba t.bloom.length bc, .slice ua t.buckets.length uc, .int .u64 (t.base : Int)] 134))) := Lib.hid ((Below.refl _ _).alloc (Nat.le_refl _) _)
  have BY := Lib.hid (bstep Bb.out BX.out)
  have BH : Hid ((wb.alloc (.cells #[.slice a bs.length cap, .int .i64 ty, .int .u64 en, .slice p ps.length pc, .int .u32 (t.first : Int), .int .u32 (t.shift : Int), .slice ba t.bloom.length bc, .slice ua t.buckets.length uc, .int .u64 (t.base : Int)] 134)).heap[wb.heap.size]? = some (.cells #[.slice a bs.length cap, .int .i64 ty, .int .u64 en, .slice p ps.length pc, .int .u32 (t.first : Int), .int .u32 (t.shift : Int), .slice ba t.bloom.length bc, .slice ua t.buckets.length uc, .int .u64 (t.base : Int)] 134)) := Lib.hid (heap_alloc_new _ _)
  have HCN := Lib.hid (HBC.out t ba bc ua uc _ BY.out HT.out (Row.below hr2 BX.out))
  have R1 := Lib.hid (Row.below hr1 BX.out); have R2 := Lib.hid (Row.below hr2 BX.out)
  clear hbb hzb HRB hr1 hr2 HBC
  go_wp2_with fail
  refine HCN.out.mono ?_
  rintro e wc ⟨hec, hbc⟩
  rw [hcc2] at hec
  replace hec : e = .returned (.tuple #[.int .i64 (n : Int), .nilIface]) := hec
  subst hec
  have Bc := Lib.hid (bstep BY.out hbc)
  clear hbc
  go_wp2_with fail
  go_ret2
  exact ⟨rfl, Bc.out⟩


end
end Go.Proofs.YtnaejlfjlennhaaGreatDoor
/- Layer 7: Count, whatever tables there are. -/
namespace Go.Proofs.YtnaejlfjlennhaaGreatDoor
open Go.RowKit
set_option linter.unusedVariables false
set_option linter.unusedSimpArgs false

section
variable (a : Option Addr) (cap : Nat) (bs : List Nat) (ty en : Int) (p : Option Addr) (pc : Nat) (ps : List PT) (D : Array Value) (hash gnu : Nat) (w : World)

set_option maxRecDepth 100000 in
set_option maxHeartbeats 4000000 in
theorem count_none (H : LookIn a cap bs p ps D hash gnu w) (h10 : hash = 0) (h20 : gnu = 0) :
    Calls Tryz.prog 28 #[.slice a bs.length cap, headV ty en p ps.length pc, .agg D] w (fun e w' => e = .returned (.tuple #[.int .i64 ((0 : Nat) : Int), errV ((0 : Nat) : Int)]) ∧ Below w.heap.size w w') := by
  obtain ⟨hb, hbl, hbc, hbn, h, hl, h1, h2, hD, hD3, hD25⟩ := H
  have HRC := Lib.hid (fun (w1 : World) (hb1 : Below w.heap.size w w1) => readChains_any a cap bs ty en p pc ps hash w1 (hb.below hb1) hbl hbc hbn (h.below hb1) hl h1)
  have HRB := Lib.hid (fun (w1 : World) (hb1 : Below w.heap.size w w1) => readBloomed_any a cap bs ty en p pc ps gnu w1 (hb.below hb1) hbl hbc hbn (h.below hb1) hl h2)
  have HBC := Lib.hid (fun (t : BT) (ba : Option Addr) (bc : Nat) (ua : Option Addr) (uc : Nat) (w1 : World) (hb1 : Below w.heap.size w w1) (T : BTok t) (hu : Row .u32 w1 ua (toI t.buckets)) => bcount_any a cap bs ty en p pc ps t ba bc ua uc w1 (hb.below hb1) hbl hbc (h.below hb1) hl T.first T.base hu T.bu0 T.bul (maxF_lt (by omega) T.but))
  have HBB := Lib.hid hb.2
  have h10i : ((hash : Int) == 0) = true := by rw [h10]; rfl
  have h10j : ((hash : Int) != 0) = false := by rw [h10]; rfl
  clear h10
  have h20i : ((gnu : Int) == 0) = true := by rw [h20]; rfl
  have h20j : ((gnu : Int) != 0) = false := by rw [h20]; rfl
  clear h20
  clear hb h hbn
  have HI : Hid ((Tryz.prog.info? 30).map (·.size) = some D.size) := Lib.hid (show _ by rw [hD]; kernel_rfl)
  have B0 : Hid (Below w.heap.size w ((w.alloc (.cells #[.int .i64 ty, .int .u64 en, .slice p ps.length pc] 27)).alloc (.cells D 30))) := Lib.hid (((Below.refl _ _).alloc (Nat.le_refl _) _).alloc (by simp) _)
  have B1 : Hid (Below w.heap.size w (((w.alloc (.cells #[.int .i64 ty, .int .u64 en, .slice p ps.length pc] 27)).alloc (.cells D 30)).alloc (.cells #[.slice a bs.length cap, .int .i64 ty, .int .u64 en, .slice p ps.length pc] 127))) := Lib.hid (B0.out.alloc B0.out.size _)
  clear hD
  unfold headV fileV bloomV at *
  go_enter Tryz.func28, Tryz.ntmps28
  go_wp2_with fail
  go_ret2
  exact ⟨rfl, B1.out⟩
set_option maxRecDepth 100000 in
set_option maxHeartbeats 4000000 in
theorem count_c_err (H : LookIn a cap bs p ps D hash gnu w) (h10 : ¬ hash = 0) (c : Nat) (hcc : c = 2 ∨ c = 3 ∨ c = 4) (hFC : chainsF bs ps hash = (([], []), c)) :
    Calls Tryz.prog 28 #[.slice a bs.length cap, headV ty en p ps.length pc, .agg D] w (fun e w' => e = .returned (.tuple #[.int .i64 ((0 : Nat) : Int), errV (c : Int)]) ∧ Below w.heap.size w w') := by
  obtain ⟨hb, hbl, hbc, hbn, h, hl, h1, h2, hD, hD3, hD25⟩ := H
  have HRC := Lib.hid (fun (w1 : World) (hb1 : Below w.heap.size w w1) => readChains_any a cap bs ty en p pc ps hash w1 (hb.below hb1) hbl hbc hbn (h.below hb1) hl h1)
  have HRB := Lib.hid (fun (w1 : World) (hb1 : Below w.heap.size w w1) => readBloomed_any a cap bs ty en p pc ps gnu w1 (hb.below hb1) hbl hbc hbn (h.below hb1) hl h2)
  have HBC := Lib.hid (fun (t : BT) (ba : Option Addr) (bc : Nat) (ua : Option Addr) (uc : Nat) (w1 : World) (hb1 : Below w.heap.size w w1) (T : BTok t) (hu : Row .u32 w1 ua (toI t.buckets)) => bcount_any a cap bs ty en p pc ps t ba bc ua uc w1 (hb.below hb1) hbl hbc (h.below hb1) hl T.first T.base hu T.bu0 T.bul (maxF_lt (by omega) T.but))
  have HBB := Lib.hid hb.2
  rw [hFC] at HRC
  have h10i : ((hash : Int) == 0) = false := beq_eq_false_iff_ne.2 (by omega)
  have h10j : ((hash : Int) != 0) = true := by rw [bne, h10i]; rfl
  clear h10
  clear hb h hbn
  have HI : Hid ((Tryz.prog.info? 30).map (·.size) = some D.size) := Lib.hid (show _ by rw [hD]; kernel_rfl)
  have B0 : Hid (Below w.heap.size w ((w.alloc (.cells #[.int .i64 ty, .int .u64 en, .slice p ps.length pc] 27)).alloc (.cells D 30))) := Lib.hid (((Below.refl _ _).alloc (Nat.le_refl _) _).alloc (by simp) _)
  have B1 : Hid (Below w.heap.size w (((w.alloc (.cells #[.int .i64 ty, .int .u64 en, .slice p ps.length pc] 27)).alloc (.cells D 30)).alloc (.cells #[.slice a bs.length cap, .int .i64 ty, .int .u64 en, .slice p ps.length pc] 127))) := Lib.hid (B0.out.alloc B0.out.size _)
  clear hD
  unfold headV fileV bloomV at *
  go_enter Tryz.func28, Tryz.ntmps28
  go_wp2_with fail
  refine (HRC.out _ B1.out).mono ?_
  rintro e wa ⟨b1, c1, b2, c2, he, -, -, hba⟩
  replace he : e = .returned (.tuple #[.agg #[.slice b1 0 c1, .slice b2 0 c2], errV (c : Int)]) := he
  rw [errVc hcc] at he
  subst he
  have Ba := Lib.hid (bstep B1.out hba)
  clear hba HRC
  go_wp2_with fail
  go_ret2
  rw [errVc hcc]
  exact ⟨rfl, Ba.out.alloc Ba.out.size _⟩
set_option maxRecDepth 100000 in
set_option maxHeartbeats 4000000 in
theorem count_g_err (H : LookIn a cap bs p ps D hash gnu w) (h10 : hash = 0) (h20 : ¬ gnu = 0) (c : Nat) (hcc : c = 2 ∨ c = 3 ∨ c = 4) (hF : bloomF bs ps gnu = (.nil, c)) :
    Calls Tryz.prog 28 #[.slice a bs.length cap, headV ty en p ps.length pc, .agg D] w (fun e w' => e = .returned (.tuple #[.int .i64 ((0 : Nat) : Int), errV (c : Int)]) ∧ Below w.heap.size w w') := by
  obtain ⟨hb, hbl, hbc, hbn, h, hl, h1, h2, hD, hD3, hD25⟩ := H
  have HRC := Lib.hid (fun (w1 : World) (hb1 : Below w.heap.size w w1) => readChains_any a cap bs ty en p pc ps hash w1 (hb.below hb1) hbl hbc hbn (h.below hb1) hl h1)
  have HRB := Lib.hid (fun (w1 : World) (hb1 : Below w.heap.size w w1) => readBloomed_any a cap bs ty en p pc ps gnu w1 (hb.below hb1) hbl hbc hbn (h.below hb1) hl h2)
  have HBC := Lib.hid (fun (t : BT) (ba : Option Addr) (bc : Nat) (ua : Option Addr) (uc : Nat) (w1 : World) (hb1 : Below w.heap.size w w1) (T : BTok t) (hu : Row .u32 w1 ua (toI t.buckets)) => bcount_any a cap bs ty en p pc ps t ba bc ua uc w1 (hb.below hb1) hbl hbc (h.below hb1) hl T.first T.base hu T.bu0 T.bul (maxF_lt (by omega) T.but))
  have HBB := Lib.hid hb.2
  rw [hF] at HRB
  have hcb : ¬ (BT.nil, c).2 = 0 := by show ¬ c = 0; omega
  have h10i : ((hash : Int) == 0) = true := by rw [h10]; rfl
  have h10j : ((hash : Int) != 0) = false := by rw [h10]; rfl
  clear h10
  have h20i : ((gnu : Int) == 0) = false := beq_eq_false_iff_ne.2 (by omega)
  have h20j : ((gnu : Int) != 0) = true := by rw [bne, h20i]; rfl
  clear h20
  clear hb h hbn
  have HI : Hid ((Tryz.prog.info? 30).map (·.size) = some D.size) := Lib.hid (show _ by rw [hD]; kernel_rfl)
  have B0 : Hid (Below w.heap.size w ((w.alloc (.cells #[.int .i64 ty, .int .u64 en, .slice p ps.length pc] 27)).alloc (.cells D 30))) := Lib.hid (((Below.refl _ _).alloc (Nat.le_refl _) _).alloc (by simp) _)
  have B1 : Hid (Below w.heap.size w (((w.alloc (.cells #[.int .i64 ty, .int .u64 en, .slice p ps.length pc] 27)).alloc (.cells D 30)).alloc (.cells #[.slice a bs.length cap, .int .i64 ty, .int .u64 en, .slice p ps.length pc] 127))) := Lib.hid (B0.out.alloc B0.out.size _)
  clear hD
  unfold headV fileV bloomV at *
  go_enter Tryz.func28, Tryz.ntmps28
  go_wp2_with fail
  refine (HRB.out _ B1.out).mono ?_
  rintro e wb ⟨hbb, hzb⟩
  obtain ⟨-, heb⟩ := hzb.resolve_left (fun h => hcb h.1)
  replace heb : e = .returned (.tuple #[.agg #[.slice none 0 0, .int .i64 0, .int .u64 0, .slice none 0 0, .int .u32 0, .int .u32 0, .slice none 0 0, .slice none 0 0, .int .u64 0], errV (c : Int)]) := heb
  rw [errVc hcc] at heb
  subst heb
  have Bb := Lib.hid (bstep B1.out hbb)
  clear hbb hzb HRB
  go_wp2_with fail
  go_ret2
  rw [errVc hcc]
  exact ⟨rfl, by first | exact Bb.out.alloc Bb.out.size _ | exact Bb.out⟩
set_option maxRecDepth 100000 in
set_option maxHeartbeats 4000000 in
theorem count_g_cerr (H : LookIn a cap bs p ps D hash gnu w) (h10 : hash = 0) (h20 : ¬ gnu = 0) (t : BT) (hF : bloomF bs ps gnu = (t, 0)) (hT : BTok t) (c : Nat) (hcc : c = 2 ∨ c = 3 ∨ c = 4) (hcc2 : bcountF bs ps t = (0, c)) :
    Calls Tryz.prog 28 #[.slice a bs.length cap, headV ty en p ps.length pc, .agg D] w (fun e w' => e = .returned (.tuple #[.int .i64 ((0 : Nat) : Int), errV (c : Int)]) ∧ Below w.heap.size w w') := by
  obtain ⟨hb, hbl, hbc, hbn, h, hl, h1, h2, hD, hD3, hD25⟩ := H
  have HRC := Lib.hid (fun (w1 : World) (hb1 : Below w.heap.size w w1) => readChains_any a cap bs ty en p pc ps hash w1 (hb.below hb1) hbl hbc hbn (h.below hb1) hl h1)
  have HRB := Lib.hid (fun (w1 : World) (hb1 : Below w.heap.size w w1) => readBloomed_any a cap bs ty en p pc ps gnu w1 (hb.below hb1) hbl hbc hbn (h.below hb1) hl h2)
  have HBC := Lib.hid (fun (t : BT) (ba : Option Addr) (bc : Nat) (ua : Option Addr) (uc : Nat) (w1 : World) (hb1 : Below w.heap.size w w1) (T : BTok t) (hu : Row .u32 w1 ua (toI t.buckets)) => bcount_any a cap bs ty en p pc ps t ba bc ua uc w1 (hb.below hb1) hbl hbc (h.below hb1) hl T.first T.base hu T.bu0 T.bul (maxF_lt (by omega) T.but))
  have HBB := Lib.hid hb.2
  rw [hF] at HRB
  have HT := Lib.hid hT
  have h10i : ((hash : Int) == 0) = true := by rw [h10]; rfl
  have h10j : ((hash : Int) != 0) = false := by rw [h10]; rfl
  clear h10
  have h20i : ((gnu : Int) == 0) = false := beq_eq_false_iff_ne.2 (by omega)
  have h20j : ((gnu : Int) != 0) = true := by rw [bne, h20i]; rfl
  clear h20
  clear hb h hbn
  have HI : Hid ((Tryz.prog.info? 30).map (·.size) = some D.size) := Lib.hid (show _ by rw [hD]; kernel_rfl)
  have B0 : Hid (Below w.heap.size w ((w.alloc (.cells #[.int .i64 ty, .int .u64 en, .slice p ps.length pc] 27)).alloc (.cells D 30))) := Lib.hid (((Below.refl _ _).alloc (Nat.le_refl _) _).alloc (by simp) _)
  have B1 : Hid (Below w.heap.size w (((w.alloc (.cells #[.int .i64 ty, .int .u64 en, .slice p ps.length pc] 27)).alloc (.cells D 30)).alloc (.cells #[.slice a bs.length cap, .int .i64 ty, .int .u64 en, .slice p ps.length pc] 127))) := Lib.hid (B0.out.alloc B0.out.size _)
  clear hD
  unfold headV fileV bloomV at *
  go_enter Tryz.func28, Tryz.ntmps28
  go_wp2_with fail
  refine (HRB.out _ B1.out).mono ?_
  rintro e wb ⟨hbb, hzb⟩
  obtain ⟨-, ba, bc, ua, uc, heb, hr1, hr2⟩ := hzb.resolve_right (fun h => h.1 rfl)
  replace heb : e = .returned (.tuple #[.agg #[.slice a bs.length cap, .int .i64 ty, .int .u64 en, .slice p ps.length pc, .int .u32 (t.first : Int), .int .u32 (t.shift : Int), .slice ba t.bloom.length bc, .slice ua t.buckets.length uc, .int .u64 (t.base : Int)], .nilIface]) := heb
  subst heb
  have Bb := Lib.hid (bstep B1.out hbb)
  have BX : Hid (Below wb.heap.size wb (wb.alloc (.cells #[.slice a bs.length cap, .int .i64 ty, .int .u64 en, .slice p ps.length pc, .int .u32 (t.first : Int), .int .u32 (t.shift : Int), .slice ba t.bloom.length bc, .slice ua t.buckets.length uc, .int .u64 (t.base : Int)] 134))) := Lib.hid ((Below.refl _ _).alloc (Nat.le_refl _) _)
  have BY := Lib.hid (bstep Bb.out BX.out)
  have BH : Hid ((wb.alloc (.cells #[.slice a bs.length cap, .int .i64 ty, .int .u64 en, .slice p ps.length pc, .int .u32 (t.first : Int), .int .u32 (t.shift : Int), .slice ba t.bloom.length bc, .slice ua t.buckets.length uc, .int .u64 (t.base : Int)] 134)).heap[wb.heap.size]? = some (.cells #[.slice a bs.length cap, .int .i64 ty, .int .u64 en, .slice p ps.length pc, .int .u32 (t.first : Int), .int .u32 (t.shift : Int), .slice ba t.bloom.length bc, .slice ua t.buckets.length uc, .int .u64 (t.base : Int)] 134)) := Lib.hid (heap_alloc_new _ _)
  have HCN := Lib.hid (HBC.out t ba bc ua uc _ BY.out HT.out (Row.below hr2 BX.out))
  have R1 := Lib.hid (Row.below hr1 BX.out); have R2 := Lib.hid (Row.below hr2 BX.out)
  clear hbb hzb HRB hr1 hr2 HBC
  go_wp2_with fail
  refine HCN.out.mono ?_
  rintro e wc ⟨hec, hbc⟩
  rw [hcc2] at hec
  replace hec : e = .returned (.tuple #[.int .i64 0, errV (c : Int)]) := hec
  rw [errVc hcc] at hec
  subst hec
  have Bc := Lib.hid (bstep BY.out hbc)
  clear hbc
  go_wp2_with fail
  go_ret2
  rw [errVc hcc]
  exact ⟨rfl, Bc.out⟩
theorem count_any (H : LookIn a cap bs p ps D hash gnu w) :
    Calls Tryz.prog 28 #[.slice a bs.length cap, headV ty en p ps.length pc, .agg D] w (fun e w' => e = .returned (.tuple #[.int .i64 ((countAF bs ps hash gnu).1 : Int), errV ((countAF bs ps hash gnu).2 : Int)]) ∧ Below w.heap.size w w') := by
  by_cases h10 : hash = 0
  · by_cases h20 : gnu = 0
    · have h := count_none a cap bs ty en p pc ps D hash gnu w H h10 h20
      rw [show countAF bs ps hash gnu = (0, 0) by unfold countAF; rw [if_pos h10, if_pos h20]]
      exact h
    · rcases bloomF_alt (bs := bs) (ps := ps) (addr := gnu) H.hb.2 with ⟨t, ht, hT⟩ | ⟨c, ht, hc⟩
      · have hz : ∀ n c, bcountF bs ps t = (n, c) → countAF bs ps hash gnu = (n, c) := fun n c hn => by
          unfold countAF
          rw [if_pos h10, if_neg h20, ht, if_pos rfl, hn]
        rcases bcountF_code bs ps t with hn | hn | hn
        · obtain ⟨n, hn2⟩ : ∃ n, bcountF bs ps t = (n, 0) := ⟨_, Prod.ext rfl hn⟩
          rw [hz n 0 hn2]
          exact count_g_ok a cap bs ty en p pc ps D hash gnu w H h10 h20 t ht hT n hn2
        · rw [hz 0 2 hn]
          exact count_g_cerr a cap bs ty en p pc ps D hash gnu w H h10 h20 t ht hT 2 (by simp) hn
        · rw [hz 0 4 hn]
          exact count_g_cerr a cap bs ty en p pc ps D hash gnu w H h10 h20 t ht hT 4 (by simp) hn
      · rw [show countAF bs ps hash gnu = (0, c) by unfold countAF; rw [if_pos h10, if_neg h20, ht, if_neg (by show ¬ c = 0; omega)]]
        exact count_g_err a cap bs ty en p pc ps D hash gnu w H h10 h20 c hc ht
  · rcases chainsF_alt (bs := bs) (ps := ps) (addr := hash) with ⟨t, ht⟩ | ⟨c, ht, hc⟩
    · rw [show countAF bs ps hash gnu = (t.2.length, 0) by unfold countAF; rw [if_neg h10, ht]]
      exact count_first a cap bs ty en p pc ps D hash t w H.hb H.hbl H.hbc H.hbn H.h H.hl H.h1 h10 H.hD H.hD3 ht
    · rw [show countAF bs ps hash gnu = (0, c) by unfold countAF; rw [if_neg h10, ht]; rfl]
      exact count_c_err a cap bs ty en p pc ps D hash gnu w H h10 c hc ht
end
end Go.Proofs.YtnaejlfjlennhaaGreatDoor
/- Layer 10: how many symbols a hash table can tell of. -/
namespace Go.Proofs.YtnaejlfjlennhaaGreatDoor
open Go.RowKit
set_option linter.unusedVariables false
set_option linter.unusedSimpArgs false

theorem countGo_le {bs : List Nat} {ps : List PT} {t : BT} : ∀ f i, (countGo bs ps t f i).1 ≤ i + f
  | 0, i => by simp [countGo]
  | f + 1, i => by
    rw [countGo]
    split
    · split
      · show i + 1 ≤ i + (f + 1); omega
      · have := countGo_le (bs := bs) (ps := ps) (t := t) f (i + 1)
        omega
    · show (0 : Nat) ≤ _; omega
theorem countAF_lt {bs : List Nat} {ps : List PT} {hash gnu : Nat} (hb : ∀ b ∈ bs, b < 256) : (countAF bs ps hash gnu).1 < 8589934592 := by
  unfold countAF
  split
  · split
    · show (0 : Nat) < _; omega
    · split
      · rcases bloomF_alt (bs := bs) (ps := ps) (addr := gnu) hb with ⟨t, ht, hT⟩ | ⟨c, ht, hc⟩
        · rw [ht]
          show (bcountF bs ps t).1 < _
          unfold bcountF
          have h1 := hT.first
          have h2 : maxF t.buckets < 4294967296 := maxF_lt (by omega) hT.but
          have h3 := countGo_le (bs := bs) (ps := ps) (t := t) (4096 - maxF t.buckets) (maxF t.buckets)
          split
          · show t.first < _; omega
          · omega
        · rename_i h0
          rw [ht] at h0
          exfalso
          have : c = 0 := h0
          omega
      · show (0 : Nat) < _; omega
  · rcases chainsF_alt (bs := bs) (ps := ps) (addr := hash) with ⟨t, ht⟩ | ⟨c, ht, hc⟩
    · rw [ht]
      have := chainsF_shape hb ht
      show t.2.length < _
      omega
    · rw [ht]
      show (0 : Nat) < _; omega
end Go.Proofs.YtnaejlfjlennhaaGreatDoor
