/- Layer 8, the document's own answer: the indices that were told; numbers; entries. -/
import Derived.Test.YtaedeaefoeeidaaRefStrs
import Derived.Test.YtaedeaefoeeidaaVersMath
import Derived.Test.YtaedeaefoeeidaaVersStore
import Derived.Test.YtaedeaefoeeidaaRefSysv
import Derived.Test.YtaedeaefoeeidaaVersOf
namespace Go.Proofs.Ytaedeaefoeeidaa
open Go.RowKit Go.Maps
set_option linter.unusedVariables false
set_option linter.unusedSimpArgs false

/-- the document's reader in memory: a file, its header, its strings, and what was told -/
structure RRef where
  a : Option Addr
  cap : Nat
  bs : List Nat
  ty : Int
  en : Int
  p : Option Addr
  pc : Nat
  ps : List PT
  sa : Option Addr
  sc : Nat
  ss : List Nat
def RRef.cells (r : RRef) (told : Value) : Array Value := #[.slice r.a r.bs.length r.cap, .int .i64 r.ty, .int .u64 r.en, .slice r.p r.ps.length r.pc, .slice r.sa r.ss.length r.sc, told]

set_option maxRecDepth 100000 in
set_option maxHeartbeats 4000000 in
theorem refHad_any (r : RRef) (g : Nat) (ta : Option Addr) (tc : Nat) (told : List Nat) (x : Nat) (w : World) (hg : w.cell? ⟨g, 5, none⟩ = some (.slice ta told.length tc)) (ht : Row .i64 w ta (toI told)) (hx : x < 9223372036854775808) (hl : told.length ≤ 65536) (hr : ∀ y ∈ told, y < 65536) :
    Calls Try.prog 19 #[.pointer (some ⟨g, 0, none⟩), .int .i64 (x : Int)] w fun e w' => e = .returned (.bool (decide (x ∈ told))) ∧ w = w' := by
  have HT := Lib.hid ht
  have HR := Lib.hid hr
  obtain ⟨n, hn⟩ : ∃ n, told.length = n := ⟨_, rfl⟩
  have HN := Lib.hid hn
  rw [hn] at hg hl
  clear ht hr hn
  go_enter Try.func19, Try.ntmps19
  go_wp2_with fail
  go_loopg [4, 5] n (fun gg u i wr => ∃ k : Nat, k + gg = n ∧ i = .int .i64 (k : Int) ∧ Hid (∀ y ∈ told.take k, ¬ y = x) ∧ w = wr)
  case atStart => exact ⟨0, by omega, rfl, Lib.hid (by simp), rfl⟩
  case round =>
    obtain ⟨k, hk, rfl, HK, rfl⟩ := hrel
    cases gk with
    | zero =>
      obtain rfl : k = n := by omega
      go_wp2_with fail
      go_ret
      refine ⟨?_, rfl⟩
      have : ¬ x ∈ told := fun h => HK.out x (by rw [List.take_of_length_le (by rw [HN.out]; exact Nat.le_refl _)]; exact h) rfl
      rw [decide_eq_false this]
      rfl
    | succ g1 =>
      have hkn : k < n := by omega
      have hk1 : k < told.length := by rw [HN.out]; exact hkn
      obtain ⟨b, o, rfl, hc⟩ := HT.out k (by rw [toI_length]; exact hk1)
      rw [toI_getD] at hc
      have HM : Hid (told.getD k 0 ∈ told) := Lib.hid (by rw [List.getD, List.getElem?_eq_getElem hk1]; exact List.getElem_mem _)
      have HK2 : Hid (told.take (k + 1) = told.take k ++ [told.getD k 0]) := Lib.hid (by rw [List.take_succ_eq_append_getElem hk1]; simp [List.getD, List.getElem?_eq_getElem hk1])
      clear hk1
      generalize told.getD k 0 = y at hc HM HK2
      by_cases hy : y = x
      · subst hy
        go_wp2_with fail
        go_ret
        exact ⟨by rw [decide_eq_true HM.out]; rfl, rfl⟩
      · have hd : ((y : Int) == (x : Int)) = false := by rw [beq_eq_false_iff_ne]; omega
        have hd2 : ¬ (y : Int) = (x : Int) := by omega
        go_wp2_with fail
        go_roundg g1
        case measure => omega
        case rel =>
          refine ⟨k + 1, by omega, by go_num, Lib.hid (fun z hz => ?_), rfl⟩
          rw [HK2.out] at hz
          rcases List.mem_append.1 hz with h | h
          · exact HK.out z h
          · rw [List.mem_singleton.1 h]; exact hy

set_option maxRecDepth 100000 in
set_option maxHeartbeats 4000000 in
theorem refN_any (a : Option Addr) (cap : Nat) (bs : List Nat) (i j : Nat) (w : World) (h : BRow w a bs) (hc : bs.length ≤ cap) (hl : bs.length ≤ 64) (hij : i < j) (hj : j ≤ bs.length) (h8 : j - i ≤ 8) :
    Calls Try.prog 18 #[.slice a bs.length cap, .int .i64 (i : Int), .int .i64 (j : Int)] w fun e w' => e = .returned (.int .u64 ((numOf ((bs.drop i).take (j - i)) : Nat) : Int)) ∧ w = w' := by
  have hlen : ((bs.drop i).take (j - i)).length = j - i := by rw [List.length_take, List.length_drop]; omega
  have HNU := refNumber_any (a.map fun x => x.add i) (cap - i) ((bs.drop i).take (j - i)) w (h.cut i (j - i)) (by omega)
  rw [hlen] at HNU
  have HN := Lib.hid HNU
  have hci : ¬ cap = i := by omega
  generalize numOf ((bs.drop i).take (j - i)) = q at *
  clear HNU h hlen
  go_enter Try.func18, Try.ntmps18
  go_wp2_with (refine HN.out.mono ?_; rintro e w1 ⟨rfl, rfl⟩)
  go_ret
  exact ⟨rfl, rfl⟩

def EntryAns (F : List Nat × Nat × Nat) (w : World) (e : Ending) (w' : World) : Prop :=
  ∃ x ad c, e = .returned (.tuple #[.int .u64 ((x : Nat) : Int), .slice ad F.1.length c, .bool (decide (F.2.2 = 0))]) ∧ (F.2.2 = 0 → x = F.2.1) ∧ BRow w' ad F.1 ∧ F.1.length ≤ c ∧ (ad = none → F.1.length = 0 ∧ c = 0) ∧ Below w.heap.size w w'

set_option maxRecDepth 100000 in
set_option maxHeartbeats 4000000 in
theorem refEntry_any (r : RRef) (g fr step size : Nat) (w : World) (c0 : w.cell? ⟨g, 0, none⟩ = some (.slice r.a r.bs.length r.cap)) (c1 : w.cell? ⟨g, 1, none⟩ = some (.int .i64 r.ty)) (c2 : w.cell? ⟨g, 2, none⟩ = some (.int .u64 r.en)) (c3 : w.cell? ⟨g, 3, none⟩ = some (.slice r.p r.ps.length r.pc))
    (hb : BRow w r.a r.bs) (hbl : r.bs.length ≤ 140737488351232) (hbc : r.bs.length ≤ r.cap) (hbn : r.a = none → r.bs.length = 0 ∧ r.cap = 0) (h : PRow w r.p r.ps) (hl : r.ps.length ≤ 140737488351232) (hf : fr < 18446744073709551616) (hst : step < 18446744073709551616) (hs : size < 18446744073709551616) :
    Calls Try.prog 34 #[.pointer (some ⟨g, 0, none⟩), .int .u64 (fr : Int), .int .u64 (step : Int), .int .u64 (size : Int)] w (EntryAns (itemF r.bs r.ps fr step size) w) := by
  have HSL := Lib.hid (fun (hx : fr + step < 18446744073709551616) (w1 : World) (hb1 : Below w.heap.size w w1) => refSlice_any r.a r.cap r.bs r.ty r.en r.p r.pc r.ps (fr + step) size w1 (hb.below hb1) hbl hbc hbn (h.below hb1) hl hx hs)
  have HK : Hid (∀ w1, Below w.heap.size w w1 → w1.cell? ⟨g, 0, none⟩ = some (.slice r.a r.bs.length r.cap) ∧ w1.cell? ⟨g, 1, none⟩ = some (.int .i64 r.ty) ∧ w1.cell? ⟨g, 2, none⟩ = some (.int .u64 r.en) ∧ w1.cell? ⟨g, 3, none⟩ = some (.slice r.p r.ps.length r.pc)) := Lib.hid (fun w1 h1 => by
    have hlt : g < w.heap.size := by simpa using World.block_lt_of_cell? w _ c0
    exact ⟨(h1.cell hlt).trans c0, (h1.cell hlt).trans c1, (h1.cell hlt).trans c2, (h1.cell hlt).trans c3⟩)
  have HD := Lib.hid ((Below.refl w.heap.size w).drew)
  unfold headV at HSL
  clear hb hbl hbc hbn h hl
  by_cases hx : fr + step < 18446744073709551616
  · rw [itemF_in hx]
    have hw : IntKind.u64.wrap ((fr : Int) + (step : Int)) = ((fr + step : Nat) : Int) := by rw [IntKind.wrap_u64]; omega
    have HS := Lib.hid (HSL.out hx)
    have hlt : ¬ ((fr + step : Nat) : Int) < (fr : Int) := by omega
    generalize sliceF r.bs r.ps (fr + step) size = F at *
    generalize fr + step = s at *
    clear HSL hx hst hs hf
    generalize r.bs.length = bl at *
    generalize r.ps.length = pl at *
    generalize r.a = ra at *
    generalize r.cap = rcap at *
    generalize r.ty = rty at *
    generalize r.en = ren at *
    generalize r.p = rp at *
    generalize r.pc = rpc at *
    go_enter Try.func34, Try.ntmps34
    go_wp2_with fail
    go_region_held3 (fun w' => Below w.heap.size w w' ∧ w'.cell? ⟨g, 0, none⟩ = some (.slice ra bl rcap) ∧ w'.cell? ⟨g, 1, none⟩ = some (.int .i64 rty) ∧ w'.cell? ⟨g, 2, none⟩ = some (.int .u64 ren) ∧ w'.cell? ⟨g, 3, none⟩ = some (.slice rp pl rpc))
      (first | assumption | exact ⟨HD.out, HK.out _ HD.out⟩ | exact ⟨Below.drew (Below.refl _ _), HK.out _ (Below.drew (Below.refl _ _))⟩ | exact ⟨B2.out, HK.out _ B2.out⟩)
      (first
        | (go_simp; go_at_call 15; refine (HS.out _ (by assumption)).mono ?_; rintro e w3 ⟨ad, c, rfl, hrow, hcap, hnil, hb2⟩; have HO := Lib.hid hrow; have HN := Lib.hid hnil; have B2 := Lib.hid (bstep (by assumption) hb2); clear hrow hb2 hnil))
    all_goals
      have hf0 : (((F.2 : Nat) : Int) == 0) = decide (F.2 = 0) := by rw [Bool.eq_iff_iff, beq_iff_eq, decide_eq_true_eq]; omega
      go_wp2_with fail
      go_ret3
      exact ⟨s, ad, c, by rw [← hf0]; rfl, fun _ => rfl, HO.out, hcap, HN.out, B2.out⟩
  · rw [itemF_beyond (by omega)]
    have hw : IntKind.u64.wrap ((fr : Int) + (step : Int)) = ((fr + step - 18446744073709551616 : Nat) : Int) := by rw [IntKind.wrap_u64]; omega
    have hlt : ((fr + step - 18446744073709551616 : Nat) : Int) < (fr : Int) := by omega
    generalize fr + step - 18446744073709551616 = s at *
    clear HSL hx HK HD
    go_enter Try.func34, Try.ntmps34
    go_wp2_with fail
    go_ret3
    exact ⟨0, none, 0, rfl, fun h => absurd h (by decide), BRow.nil _ _, Nat.le_refl _, fun _ => ⟨rfl, rfl⟩, Below.refl _ _⟩
end Go.Proofs.Ytaedeaefoeeidaa
/- Layer 8, the document's own answer: its reader in memory; the names of a definition. -/
namespace Go.Proofs.Ytaedeaefoeeidaa
open Go.RowKit Go.Maps
set_option linter.unusedVariables false
set_option linter.unusedSimpArgs false

/-- the document's reader, where it lies, and what it reads from -/
structure RRef.ok (r : RRef) (g : Nat) (tv : Value) (w : World) : Prop where
  box : w.heap[g]? = some (.cells (r.cells tv) 66)
  hb : BRow w r.a r.bs
  h : PRow w r.p r.ps
  hs : BRow w r.sa r.ss
  hbl : r.bs.length ≤ 140737488351232
  hbc : r.bs.length ≤ r.cap
  hbn : r.a = none → r.bs.length = 0 ∧ r.cap = 0
  hl : r.ps.length ≤ 140737488351232
  ssl : r.ss.length ≤ 1048576
  ssc : r.ss.length ≤ r.sc
section
variable {r : RRef} {g : Nat} {tv : Value} {w w' : World}
theorem RRef.ok.below (h : r.ok g tv w) (hb : Below w.heap.size w w') : r.ok g tv w' :=
  ⟨(hb.block g (lt_of_block h.box)).trans h.box, h.hb.below hb, h.h.below hb, h.hs.below hb, h.hbl, h.hbc, h.hbn, h.hl, h.ssl, h.ssc⟩
theorem RRef.ok.c0 (h : r.ok g tv w) : w.cell? ⟨g, 0, none⟩ = some (.slice r.a r.bs.length r.cap) := by rw [cell_of_row w g 0 _ _ _ h.box]; rfl
theorem RRef.ok.c1 (h : r.ok g tv w) : w.cell? ⟨g, 1, none⟩ = some (.int .i64 r.ty) := by rw [cell_of_row w g 1 _ _ _ h.box]; rfl
theorem RRef.ok.c2 (h : r.ok g tv w) : w.cell? ⟨g, 2, none⟩ = some (.int .u64 r.en) := by rw [cell_of_row w g 2 _ _ _ h.box]; rfl
theorem RRef.ok.c3 (h : r.ok g tv w) : w.cell? ⟨g, 3, none⟩ = some (.slice r.p r.ps.length r.pc) := by rw [cell_of_row w g 3 _ _ _ h.box]; rfl
theorem RRef.ok.c4 (h : r.ok g tv w) : w.cell? ⟨g, 4, none⟩ = some (.slice r.sa r.ss.length r.sc) := by rw [cell_of_row w g 4 _ _ _ h.box]; rfl
theorem RRef.ok.c5 (h : r.ok g tv w) : w.cell? ⟨g, 5, none⟩ = some tv := by rw [cell_of_row w g 5 _ _ _ h.box]; rfl
theorem RRef.ok.entry (h : r.ok g tv w) (fr step size : Nat) (h1 : fr < 18446744073709551616) (h2 : step < 18446744073709551616) (h3 : size < 18446744073709551616) :
    Calls Try.prog 34 #[.pointer (some ⟨g, 0, none⟩), .int .u64 (fr : Int), .int .u64 (step : Int), .int .u64 (size : Int)] w (EntryAns (itemF r.bs r.ps fr step size) w) :=
  refEntry_any r g fr step size w h.c0 h.c1 h.c2 h.c3 h.hb h.hbl h.hbc h.hbn h.h h.hl h1 h2 h3
/-- .. where the bytes are there -/
theorem RRef.ok.entryYes (h : r.ok g tv w) {fr step size at_ : Nat} {b : List Nat} (h1 : fr < 18446744073709551616) (h2 : step < 18446744073709551616) (h3 : size < 18446744073709551616) (hI : itemF r.bs r.ps fr step size = (b, at_, 0)) (hl : b.length = size) :
    Calls Try.prog 34 #[.pointer (some ⟨g, 0, none⟩), .int .u64 (fr : Int), .int .u64 (step : Int), .int .u64 (size : Int)] w fun e w' => ∃ ad c, e = .returned (.tuple #[.int .u64 (at_ : Int), .slice ad size c, .bool true]) ∧ BRow w' ad b ∧ size ≤ c ∧ Below w.heap.size w w' := by
  refine (h.entry fr step size h1 h2 h3).mono ?_
  rw [hI]
  rintro e w' ⟨x, ad, c, rfl, hx, hr, hc, -, hb⟩
  refine ⟨ad, c, ?_, hr, by simp only at hc; omega, hb⟩
  rw [hx rfl]
  simp only [hl]
  rfl
/-- .. where they are not -/
theorem RRef.ok.entryNo (h : r.ok g tv w) {fr step size at_ : Nat} (h1 : fr < 18446744073709551616) (h2 : step < 18446744073709551616) (h3 : size < 18446744073709551616) (hI : itemF r.bs r.ps fr step size = ([], at_, 4)) :
    Calls Try.prog 34 #[.pointer (some ⟨g, 0, none⟩), .int .u64 (fr : Int), .int .u64 (step : Int), .int .u64 (size : Int)] w fun e w' => ∃ x ad c, e = .returned (.tuple #[.int .u64 x, .slice ad 0 c, .bool false]) ∧ Below w.heap.size w w' := by
  refine (h.entry fr step size h1 h2 h3).mono ?_
  rw [hI]
  rintro e w' ⟨x, ad, c, rfl, -, -, -, -, hb⟩
  exact ⟨x, ad, c, rfl, hb⟩
theorem RRef.ok.text (h : r.ok g tv w) (off : Nat) (ho : off < 18446744073709551616) {t : ByteArray} {c : Nat} (ht : textF r.ss off = (t, c)) :
    Calls Try.prog 37 #[.slice r.sa r.ss.length r.sc, .int .u64 off] w fun e w' => e = .returned (.tuple #[.string t, .int .i64 (c : Int)]) ∧ w = w' := by
  have := refText_any r.sa r.sc r.ss off w h.hs (Nat.le_trans h.ssl (by decide)) h.ssc ho
  rw [ht] at this
  exact this
end
theorem Calls.quiet_eq {P : Program} {f : FuncId} {args : Array Value} {w : World} {n : Nat} {v : Value} (h : Calls P f args (w.drewN n) fun e w' => e = .returned v ∧ w.drewN n = w') : Calls P f args (w.drewN n) fun e w'' => e = .returned v ∧ ∃ m, w'' = w.drewN m :=
  Calls.quiet_of_same (h.mono fun _ _ ⟨a, b⟩ => ⟨a, b.symm⟩)
/-- a number of an entry's bytes -/
theorem refN_at (ad : Option Addr) (c sz : Nat) (b : List Nat) (i j : Nat) (w : World) (h : BRow w ad b) (hl : b.length = sz) (hc : sz ≤ c) (h64 : sz ≤ 64) (hij : i < j) (hj : j ≤ sz) (h8 : j - i ≤ 8) :
    Calls Try.prog 18 #[.slice ad sz c, .int .i64 (i : Int), .int .i64 (j : Int)] w fun e w' => e = .returned (.int .u64 ((numOf ((b.drop i).take (j - i)) : Nat) : Int)) ∧ w = w' := by
  subst hl
  exact refN_any ad c b i j w h hc h64 hij hj h8

/-- names that are answered, and an error's number -/
def NamesAns (X : List ByteArray × Nat) (w : World) (e : Ending) (w' : World) : Prop :=
  ∃ ad c l, e = .returned (.tuple #[.slice ad (l : List ByteArray).length c, .int .i64 (X.2 : Int)]) ∧ OwnS w' w.heap.size 9 1 (.slice ad l.length c) (nameRows l) ∧ (X.2 = 0 → l = X.1) ∧ Below w.heap.size w w'
theorem NamesAns.no {X : List ByteArray × Nat} {w w' : World} {c : Nat} (hX : X.2 = c) (hc : c ≠ 0) (hb : Below w.heap.size w w') : NamesAns X w (.returned (.tuple #[.slice none 0 0, .int .i64 (c : Int)])) w' :=
  ⟨none, 0, [], by rw [hX]; rfl, OwnS.nil _ _ _ _, fun h => absurd (hX.symm.trans h) hc, hb⟩

set_option maxRecDepth 100000 in
set_option maxHeartbeats 8000000 in
theorem refNames_any (r : RRef) (g : Nat) (tv : Value) (fr0 st0 m : Nat) (w : World) (h : r.ok g tv w) (h1 : fr0 < 18446744073709551616) (h2 : st0 < 18446744073709551616) (hm : m ≤ 64) :
    Calls Try.prog 35 #[.pointer (some ⟨g, 0, none⟩), .int .u64 (fr0 : Int), .int .u64 (st0 : Int), .int .i64 (m : Int)] w (NamesAns (chainV (nameStep r.ss) r.bs r.ps 8 m fr0 st0 []) w) := by
  obtain ⟨X, hX⟩ : ∃ X, chainV (nameStep r.ss) r.bs r.ps 8 m fr0 st0 [] = X := ⟨_, rfl⟩
  have HX := Lib.hid hX
  have HOK := Lib.hid h
  have HF := Lib.hid (And.intro h1 h2)
  rw [hX]
  clear h h1 h2 hX
  go_enter Try.func35, Try.ntmps35
  go_wp2_with fail
  go_loopg [1, 2, 10, 11] m (fun gg ad by_ out i wr => ∃ (k fr st : Nat) (oa : Option Addr) (oc : Nat) (l : List ByteArray), k + gg = m ∧ ad = .int .u64 (fr : Int) ∧ by_ = .int .u64 (st : Int) ∧ out = .slice oa k oc ∧ i = .int .i64 (k : Int) ∧ Hid (fr < 18446744073709551616 ∧ st < 18446744073709551616) ∧ Hid (l.length = k) ∧ Hid (OwnS wr w.heap.size 9 1 (.slice oa k oc) (nameRows l)) ∧ Hid (Below w.heap.size w wr) ∧ Hid (chainV (nameStep r.ss) r.bs r.ps 8 gg fr st l = X))
  case atStart => exact ⟨0, fr0, st0, none, 0, [], by omega, rfl, rfl, rfl, rfl, HF, Lib.hid rfl, Lib.hid (OwnS.nil _ _ _ _), Lib.hid (Below.refl _ _), HX⟩
  case round =>
    obtain ⟨k, fr, st, oa, oc, l, hk, rfl, rfl, rfl, rfl, HFS, HL, HO, HB, HC⟩ := hrel
    clear HX HF
    have HR := Lib.hid (HOK.out.below HB.out)
    cases gk with
    | zero =>
      obtain rfl : k = m := by omega
      go_wp2_with fail
      go_ret2
      have hx := HC.out
      rw [chainV_zero] at hx
      subst hx
      refine ⟨oa, oc, l, by rw [HL.out]; rfl, by rw [HL.out]; exact HO.out, fun _ => rfl, HB.out⟩
    | succ g1 =>
      have hkm : k < m := by omega
      rcases itemF_two r.bs r.ps fr st 8 HR.out.hb.2 with ⟨b, at_, hI, hbl, hat, hb256⟩ | ⟨at_, hI⟩
      · have HE := Lib.hid (HR.out.entryYes HFS.out.1 HFS.out.2 (by decide) hI hbl)
        obtain ⟨T, hT⟩ : ∃ T, textF r.ss (numOf ((b.drop 0).take 4)) = T := ⟨_, rfl⟩
        obtain ⟨t, ct⟩ := T
        have hq4 := numOf_four b hb256 0
        have hq := numOf_four b hb256 4
        have hd4 : (b.drop 4).take 4 = b.drop (8 - 4) := List.take_of_length_le (by rw [List.length_drop, hbl]; decide)
        have hstep : nameStep r.ss l b at_ = (l ++ [t], ct) := by unfold nameStep; rw [show b.take 4 = (b.drop 0).take 4 from rfl, hT]
        have HN0 := Lib.hid (fun (wx : World) (ad : Option Addr) (c : Nat) (hr : BRow wx ad b) (hc : 8 ≤ c) => refN_at ad c 8 b 0 4 wx hr hbl hc (by decide) (by decide) (by decide) (by decide))
        have HN4 := Lib.hid (fun (wx : World) (ad : Option Addr) (c : Nat) (hr : BRow wx ad b) (hc : 8 ≤ c) => refN_at ad c 8 b 4 8 wx hr hbl hc (by decide) (by decide) (by decide) (by decide))
        have HT := Lib.hid (fun (wx : World) (hx : r.ok g tv wx) => hx.text _ (Nat.lt_trans hq4 (by decide)) hT)
        have HC0 : Hid (ct ≠ 0 → X.2 = ct) := Lib.hid (fun hc => by rw [← HC.out, chainV_read hI hstep hc])
        have HC1 : Hid (ct = 0 → numOf (b.drop (8 - 4)) = 0 → 0 < g1 → X.2 = 3) := Lib.hid (fun h0 hz hg => by rw [← HC.out, chainV_form hI (by rw [hstep, h0]) hz hg])
        have HC2 : Hid (ct = 0 → ¬ (numOf (b.drop (8 - 4)) = 0 ∧ 0 < g1) → chainV (nameStep r.ss) r.bs r.ps 8 g1 at_ (numOf (b.drop (8 - 4))) (l ++ [t]) = X) := Lib.hid (fun h0 hz => by rw [← HC.out, chainV_on hI (by rw [hstep, h0]) hz])
        rw [← hd4] at HC1 HC2
        simp only [show 4 - 0 = 4 from rfl, show 8 - 4 = 4 from rfl] at HN0 HN4
        have HAT := Lib.hid hat
        clear hI hstep hT hd4 hb256 hat HC HOK
        generalize numOf ((b.drop 0).take 4) = q0 at *
        generalize numOf ((b.drop 4).take 4) = q at *
        generalize at_ = at1 at *
        go_wp2_with fail
        refine HE.out.mono ?_
        rintro e w1 ⟨ad, c, rfl, hr, hc8, hb1⟩
        have HR1 := Lib.hid (HR.out.below hb1)
        have BR := Lib.hid hr
        have HB1 := Lib.hid (HB.out.trans (hb1.mono HB.out.size))
        have HO1 := Lib.hid (HO.out.below hb1)
        have c4 := HR1.out.c4
        clear hr hb1 HE HR HO HB
        go_wp2_with fail
        go_quiet (first | (go_at_call 18; exact Calls.quiet_eq (HN0.out _ _ _ (BR.out.below (below_drewN (Below.refl _ _) _)) hc8)) | (go_at_call 37; exact Calls.quiet_eq (HT.out _ (HR1.out.below (below_drewN (Below.refl _ _) _)))))
        have BD : Below w1.heap.size w1 (w1.drewN nq) := below_drewN (Below.refl _ _) _
        have HR2 := Lib.hid (HR1.out.below BD)
        have BR2 := Lib.hid (BR.out.below BD)
        have HB2 := Lib.hid (HB1.out.trans (BD.mono HB1.out.size))
        have HO2 := Lib.hid (HO1.out.below BD)
        clear BD HR1 BR HB1 HO1 c4 HN0 HT
        generalize w1.drewN nq = w2 at *
        by_cases h0 : ct = 0
        · subst h0
          by_cases hz : q = 0 ∧ 0 < g1
          · obtain ⟨rfl, hg1⟩ := hz
            have HX3 := Lib.hid (HC1.out rfl rfl hg1)
            clear HC0 HC1 HC2
            go_wp2_with (go_at_call 18; refine (HN4.out _ _ _ BR2.out hc8).mono ?_; rintro e w' ⟨rfl, rfl⟩)
            go_ret2
            exact NamesAns.no (c := 3) HX3.out (by decide) HB2.out
          · have HC3 := Lib.hid (HC2.out rfl hz)
            clear HC0 HC1 HC2
            have hsz := HB2.out.size
            have HSZ := Lib.hid hsz
            have HNL : Hid ((nameRows l).length = k) := Lib.hid (by rw [nameRows_length]; exact HL.out)
            have hk64 : k + 1 ≤ 64 := by omega
            clear hsz
            by_cases hq0 : q = 0
            · have hgl : ¬ 0 < g1 := fun h => hz ⟨hq0, h⟩
              subst hq0
              have hkm2 : ¬ k + 1 < m := by omega
              clear hz
              go_wp2_with (first
                | (go_at_call 18; refine (HN4.out _ _ _ BR2.out hc8).mono ?_; rintro e w' ⟨rfl, rfl⟩)
                | (at_builtin; refine wpList_push_row rfl (.tmp 56) (.tmp 58) rowT rfl w.heap.size w (.slice oa k oc) (nameRows l) k [.string t] rfl rfl HNL.out rfl (by intro u hu; simp only [List.mem_cons, List.not_mem_nil, or_false] at hu; subst hu; rfl) HO2.out (by unfold maxLen; omega) (by omega) HB2.out HSZ.out ?_; intro oa2 oc2 w3 ho3 hb3 _; have HO3 := Lib.hid ho3; have HB3 := Lib.hid hb3; clear ho3 hb3))
              go_roundg g1
              case measure => omega
              case rel => exact ⟨k + 1, at1, 0, oa2, oc2, l ++ [t], by omega, rfl, rfl, rfl, by go_num, Lib.hid ⟨HAT.out, by decide⟩, Lib.hid (by rw [List.length_append, HL.out]; rfl), Lib.hid (by rw [nameRows_snoc]; exact HO3.out), HB3, HC3⟩
            · have hqi : ((q : Int) == 0) = false := by rw [beq_eq_false_iff_ne]; omega
              clear hz
              go_wp2_with (first
                | (go_at_call 18; refine (HN4.out _ _ _ BR2.out hc8).mono ?_; rintro e w' ⟨rfl, rfl⟩)
                | (at_builtin; refine wpList_push_row rfl (.tmp 56) (.tmp 58) rowT rfl w.heap.size w (.slice oa k oc) (nameRows l) k [.string t] rfl rfl HNL.out rfl (by intro u hu; simp only [List.mem_cons, List.not_mem_nil, or_false] at hu; subst hu; rfl) HO2.out (by unfold maxLen; omega) (by omega) HB2.out HSZ.out ?_; intro oa2 oc2 w3 ho3 hb3 _; have HO3 := Lib.hid ho3; have HB3 := Lib.hid hb3; clear ho3 hb3))
              go_roundg g1
              case measure => omega
              case rel => exact ⟨k + 1, at1, q, oa2, oc2, l ++ [t], by omega, rfl, rfl, rfl, by go_num, Lib.hid ⟨HAT.out, Nat.lt_trans hq (by decide)⟩, Lib.hid (by rw [List.length_append, HL.out]; rfl), Lib.hid (by rw [nameRows_snoc]; exact HO3.out), HB3, HC3⟩
        · have hct : ((ct : Int) != 0) = true := by rw [bne_iff_ne]; omega
          have HX0 := Lib.hid (HC0.out h0)
          clear HC0 HC1 HC2
          go_wp2_with fail
          go_ret2
          exact NamesAns.no HX0.out h0 HB2.out
      · have HE := Lib.hid (HR.out.entryNo HFS.out.1 HFS.out.2 (by decide) hI)
        have HX4 : Hid (X.2 = 4) := Lib.hid (by rw [← HC.out, chainV_item hI (by decide)])
        clear hI HC HOK
        go_wp2_with fail
        refine HE.out.mono ?_
        rintro e w1 ⟨x, ad, c, rfl, hb1⟩
        have HB1 := Lib.hid (HB.out.trans (hb1.mono HB.out.size))
        clear hb1
        go_wp2_with fail
        go_ret2
        exact NamesAns.no (c := 4) HX4.out (by decide) HB1.out
end Go.Proofs.Ytaedeaefoeeidaa
/- Layers 5 and 8, the document's own answer: bytes of a file at an address, and that they lie in the file's own block. -/
namespace Go.Proofs.Ytaedeaefoeeidaa
open Go.RowKit Go.Maps
set_option linter.unusedVariables false
set_option linter.unusedSimpArgs false

theorem add_block (a : Option Addr) (off : Nat) : ∀ x, a.map (·.add off) = some x → ∃ y, a = some y ∧ x.block = y.block := by
  intro x hx
  cases a with
  | none => simp at hx
  | some y =>
    refine ⟨y, rfl, ?_⟩
    simp only [Option.map_some, Option.some.injEq] at hx
    subst hx
    unfold Addr.add
    split <;> rfl

theorem refCutB (a : Option Addr) (cap : Nat) (bs : List Nat) (off size : Nat) (w : World) (hb : BRow w a bs) (hbl : bs.length ≤ 140737488351232) (hbc : bs.length ≤ cap) (hbn : a = none → bs.length = 0 ∧ cap = 0) (ho : off < 18446744073709551616) (hs : size < 18446744073709551616) (hin : off ≤ bs.length ∧ size ≤ bs.length - off) :
    Calls Try.prog 33 #[.slice a bs.length cap, .int .u64 off, .int .u64 size] w fun e w' => (∃ ad c, e = .returned (.tuple #[.slice ad size c, .bool true]) ∧ BRow w ad ((bs.drop off).take size) ∧ size ≤ c ∧ (ad = none → size = 0 ∧ c = 0) ∧ (∀ x, ad = some x → ∃ y, a = some y ∧ x.block = y.block)) ∧ w = w' := by
  obtain ⟨h1, h2⟩ := hin
  have hcase : ¬ cap = off ∨ cap = off := by omega
  have HB := Lib.hid hb
  have HN := Lib.hid hbn
  clear hb hbn
  rcases hcase with hco | hco
  · have hos : off + size - off = size := by omega
    go_enter Try.func33, Try.ntmps33
    go_wp2
    go_ret2
    refine ⟨⟨a.map (·.add off), cap - off, ?_, HB.out.cut off size, by omega, ?_, add_block a off⟩, by first | rfl | trivial⟩
    · refine ret2 ?_ rfl
      show Value.slice _ (off + size - off) _ = _
      rw [hos]
    · intro hn
      have : a = none := by cases a with
        | none => rfl
        | some x => simp at hn
      obtain ⟨h3, h4⟩ := HN.out this
      omega
  · subst hco
    have h0 : size = 0 := by omega
    subst h0
    go_enter Try.func33, Try.ntmps33
    go_wp2
    go_ret2
    exact ⟨⟨a, 0, rfl, ⟨fun i hi => by simp [toI] at hi, fun b hb => by simp at hb⟩, Nat.le_refl _, fun _ => by simp, fun x hx => ⟨x, hx, rfl⟩⟩, by first | rfl | trivial⟩

/-- bytes that are answered, an error's number, and where the bytes lie -/
def CutAnsB (a : Option Addr) (F : List Nat × Nat) (w : World) (e : Ending) (w' : World) : Prop :=
  ∃ ad c, e = .returned (.tuple #[.slice ad F.1.length c, .int .i64 (F.2 : Int)]) ∧ BRow w' ad F.1 ∧ F.1.length ≤ c ∧ (ad = none → F.1.length = 0 ∧ c = 0) ∧ (∀ x, ad = some x → ∃ y, a = some y ∧ x.block = y.block) ∧ Below w.heap.size w w'
theorem CutAnsB.no {a : Option Addr} {F : List Nat × Nat} {c : Nat} {w w' : World} (h : F = ([], c)) (hb : Below w.heap.size w w') : CutAnsB a F w (.returned (.tuple #[.slice none 0 0, .int .i64 (c : Int)])) w' := by
  subst h
  exact ⟨none, 0, rfl, BRow.nil _ _, Nat.le_refl _, fun _ => ⟨rfl, rfl⟩, (fun x hx => by cases hx), hb⟩

set_option maxRecDepth 100000 in
set_option maxHeartbeats 4000000 in
theorem refSliceB (a : Option Addr) (cap : Nat) (bs : List Nat) (ty en : Int) (p : Option Addr) (pc : Nat) (ps : List PT) (addr size : Nat) (w : World) (hb : BRow w a bs) (hbl : bs.length ≤ 140737488351232) (hbc : bs.length ≤ cap) (hbn : a = none → bs.length = 0 ∧ cap = 0)
    (h : PRow w p ps) (hl : ps.length ≤ 140737488351232) (ha : addr < 18446744073709551616) (hs : size < 18446744073709551616) :
    Calls Try.prog 15 #[.slice a bs.length cap, headV ty en p ps.length pc, .int .u64 addr, .int .u64 size] w (CutAnsB a (sliceF bs ps addr size) w) := by
  have HO := Lib.hid (fun (w1 : World) (hb1 : Below w.heap.size w w1) => refOffset_any ty en p pc ps addr size w1 (h.below hb1) hl ha hs)
  have hlt := offF_lt ps addr size
  have B1 : Hid (Below w.heap.size w (w.alloc (.cells #[.int .i64 ty, .int .u64 en, .slice p ps.length pc] 26))) := Lib.hid ((Below.refl _ _).alloc (Nat.le_refl _) _)
  rcases offF_code ps addr size with h0 | h4
  · obtain ⟨o, ho⟩ : ∃ o, offF ps addr size = (o, 0) := ⟨(offF ps addr size).1, by rw [← h0]⟩
    rw [ho] at HO hlt
    simp only at HO hlt
    by_cases hin : o ≤ bs.length ∧ size ≤ bs.length - o
    · have hF := sliceF_yes ho hin.1 hin.2
      rw [hF]
      have HC := Lib.hid (fun (w1 : World) (hb1 : Below w.heap.size w w1) => refCutB a cap bs o size w1 (hb.below hb1) hbl hbc hbn hlt hs hin)
      have hl : ((bs.drop o).take size).length = size := by simp; omega
      have HL := Lib.hid hl
      clear hb hbn h hF ho h0 hl
      unfold headV at *
      go_enter Try.func15, Try.ntmps15
      go_wp2_with fail
      refine (HO.out _ B1.out).mono ?_
      rintro e w2 ⟨rfl, hb2⟩
      have B2 := Lib.hid (bstep B1.out hb2)
      clear hb2 HO B1
      go_wp2_with fail
      refine (HC.out _ B2.out).mono ?_
      rintro e w3 ⟨⟨ad, c, rfl, hr, hsc, hn, hal⟩, rfl⟩
      have HR := Lib.hid hr
      have HN := Lib.hid hn
      have HAL := Lib.hid hal
      clear HC hr hn hal
      go_wp2
      go_ret2
      refine ⟨ad, c, ?_, HR.out, ?_, ?_, HAL.out, B2.out⟩
      · rw [HL.out]; rfl
      · rw [HL.out]; exact hsc
      · rw [HL.out]; exact HN.out
    · have hF := sliceF_out ho hin
      rw [hF]
      have HC := Lib.hid (fun (w1 : World) => refCut_out a cap bs o size w1 hbl hlt hs hin)
      clear hb hbn h hF ho h0
      unfold headV at *
      go_enter Try.func15, Try.ntmps15
      go_wp2_with fail
      refine (HO.out _ B1.out).mono ?_
      rintro e w2 ⟨rfl, hb2⟩
      have B2 := Lib.hid (bstep B1.out hb2)
      clear hb2 HO B1
      go_wp2_with fail
      refine (HC.out _).mono ?_
      rintro e w3 ⟨rfl, rfl⟩
      go_wp2
      go_ret2
      exact CutAnsB.no (c := 4) rfl B2.out
  · have hF := sliceF_off (bs := bs) h4
    rw [hF]
    rw [h4] at HO
    simp only at HO
    clear hb hbn h hF h4 hlt
    unfold headV at *
    go_enter Try.func15, Try.ntmps15
    go_wp2_with fail
    refine (HO.out _ B1.out).mono ?_
    rintro e w2 ⟨rfl, hb2⟩
    have B2 := Lib.hid (bstep B1.out hb2)
    clear hb2 HO B1
    go_wp2
    go_ret2
    exact CutAnsB.no (c := 4) rfl B2.out


def EntryAnsB (a : Option Addr) (F : List Nat × Nat × Nat) (w : World) (e : Ending) (w' : World) : Prop :=
  ∃ x ad c, e = .returned (.tuple #[.int .u64 ((x : Nat) : Int), .slice ad F.1.length c, .bool (decide (F.2.2 = 0))]) ∧ (F.2.2 = 0 → x = F.2.1) ∧ BRow w' ad F.1 ∧ F.1.length ≤ c ∧ (ad = none → F.1.length = 0 ∧ c = 0) ∧ (∀ x, ad = some x → ∃ y, a = some y ∧ x.block = y.block) ∧ Below w.heap.size w w'

set_option maxRecDepth 100000 in
set_option maxHeartbeats 4000000 in
theorem refEntryB (r : RRef) (g fr step size : Nat) (w : World) (c0 : w.cell? ⟨g, 0, none⟩ = some (.slice r.a r.bs.length r.cap)) (c1 : w.cell? ⟨g, 1, none⟩ = some (.int .i64 r.ty)) (c2 : w.cell? ⟨g, 2, none⟩ = some (.int .u64 r.en)) (c3 : w.cell? ⟨g, 3, none⟩ = some (.slice r.p r.ps.length r.pc))
    (hb : BRow w r.a r.bs) (hbl : r.bs.length ≤ 140737488351232) (hbc : r.bs.length ≤ r.cap) (hbn : r.a = none → r.bs.length = 0 ∧ r.cap = 0) (h : PRow w r.p r.ps) (hl : r.ps.length ≤ 140737488351232) (hf : fr < 18446744073709551616) (hst : step < 18446744073709551616) (hs : size < 18446744073709551616) :
    Calls Try.prog 34 #[.pointer (some ⟨g, 0, none⟩), .int .u64 (fr : Int), .int .u64 (step : Int), .int .u64 (size : Int)] w (EntryAnsB r.a (itemF r.bs r.ps fr step size) w) := by
  have HSL := Lib.hid (fun (hx : fr + step < 18446744073709551616) (w1 : World) (hb1 : Below w.heap.size w w1) => refSliceB r.a r.cap r.bs r.ty r.en r.p r.pc r.ps (fr + step) size w1 (hb.below hb1) hbl hbc hbn (h.below hb1) hl hx hs)
  have HK : Hid (∀ w1, Below w.heap.size w w1 → w1.cell? ⟨g, 0, none⟩ = some (.slice r.a r.bs.length r.cap) ∧ w1.cell? ⟨g, 1, none⟩ = some (.int .i64 r.ty) ∧ w1.cell? ⟨g, 2, none⟩ = some (.int .u64 r.en) ∧ w1.cell? ⟨g, 3, none⟩ = some (.slice r.p r.ps.length r.pc)) := Lib.hid (fun w1 h1 => by
    have hlt : g < w.heap.size := by simpa using World.block_lt_of_cell? w _ c0
    exact ⟨(h1.cell hlt).trans c0, (h1.cell hlt).trans c1, (h1.cell hlt).trans c2, (h1.cell hlt).trans c3⟩)
  have HD := Lib.hid ((Below.refl w.heap.size w).drew)
  unfold headV at HSL
  clear hb hbl hbc hbn h hl
  by_cases hx : fr + step < 18446744073709551616
  · rw [itemF_in hx]
    have hw : IntKind.u64.wrap ((fr : Int) + (step : Int)) = ((fr + step : Nat) : Int) := by rw [IntKind.wrap_u64]; omega
    have HS := Lib.hid (HSL.out hx)
    have hlt : ¬ ((fr + step : Nat) : Int) < (fr : Int) := by omega
    generalize sliceF r.bs r.ps (fr + step) size = F at *
    generalize fr + step = s at *
    clear HSL hx hst hs hf
    generalize r.bs.length = bl at *
    generalize r.ps.length = pl at *
    generalize r.a = ra at *
    generalize r.cap = rcap at *
    generalize r.ty = rty at *
    generalize r.en = ren at *
    generalize r.p = rp at *
    generalize r.pc = rpc at *
    go_enter Try.func34, Try.ntmps34
    go_wp2_with fail
    go_region_held3 (fun w' => Below w.heap.size w w' ∧ w'.cell? ⟨g, 0, none⟩ = some (.slice ra bl rcap) ∧ w'.cell? ⟨g, 1, none⟩ = some (.int .i64 rty) ∧ w'.cell? ⟨g, 2, none⟩ = some (.int .u64 ren) ∧ w'.cell? ⟨g, 3, none⟩ = some (.slice rp pl rpc))
      (first | assumption | exact ⟨HD.out, HK.out _ HD.out⟩ | exact ⟨Below.drew (Below.refl _ _), HK.out _ (Below.drew (Below.refl _ _))⟩ | exact ⟨B2.out, HK.out _ B2.out⟩)
      (first
        | (go_simp; go_at_call 15; refine (HS.out _ (by assumption)).mono ?_; rintro e w3 ⟨ad, c, rfl, hrow, hcap, hnil, hal, hb2⟩; have HAL := Lib.hid hal; clear hal; have HO := Lib.hid hrow; have HN := Lib.hid hnil; have B2 := Lib.hid (bstep (by assumption) hb2); clear hrow hb2 hnil))
    all_goals
      have hf0 : (((F.2 : Nat) : Int) == 0) = decide (F.2 = 0) := by rw [Bool.eq_iff_iff, beq_iff_eq, decide_eq_true_eq]; omega
      go_wp2_with fail
      go_ret3
      exact ⟨s, ad, c, by rw [← hf0]; rfl, fun _ => rfl, HO.out, hcap, HN.out, HAL.out, B2.out⟩
  · rw [itemF_beyond (by omega)]
    have hw : IntKind.u64.wrap ((fr : Int) + (step : Int)) = ((fr + step - 18446744073709551616 : Nat) : Int) := by rw [IntKind.wrap_u64]; omega
    have hlt : ((fr + step - 18446744073709551616 : Nat) : Int) < (fr : Int) := by omega
    generalize fr + step - 18446744073709551616 = s at *
    clear HSL hx HK HD
    go_enter Try.func34, Try.ntmps34
    go_wp2_with fail
    go_ret3
    exact ⟨0, none, 0, rfl, fun h => absurd h (by decide), BRow.nil _ _, Nat.le_refl _, fun _ => ⟨rfl, rfl⟩, (fun x hx => by cases hx), Below.refl _ _⟩
end Go.Proofs.Ytaedeaefoeeidaa
/- Layer 8, the document's own answer: what is kept while indices are told. -/
namespace Go.Proofs.Ytaedeaefoeeidaa
open Go.RowKit Go.Maps
set_option linter.unusedVariables false
set_option linter.unusedSimpArgs false

/-- what the document's reader reads from, as it stood -/
structure RRef.good (r : RRef) (wc : World) : Prop where
  hb : BRow wc r.a r.bs
  h : PRow wc r.p r.ps
  hs : BRow wc r.sa r.ss
  hbl : r.bs.length ≤ 140737488351232
  hbc : r.bs.length ≤ r.cap
  hbn : r.a = none → r.bs.length = 0 ∧ r.cap = 0
  hl : r.ps.length ≤ 140737488351232
  ssl : r.ss.length ≤ 1048576
  ssc : r.ss.length ≤ r.sc
theorem item_some {bs : List Nat} {ps : List PT} {fr step size at_ : Nat} {b : List Nat} (hI : itemF bs ps fr step size = (b, at_, 0)) (hb : 0 < b.length) : 0 < bs.length := by
  by_cases h : fr + step < 18446744073709551616
  · rw [itemF_in h] at hI
    rcases sliceF_alt bs ps (fr + step) size with ⟨s, hs, -, hm⟩ | hs
    · rw [hs] at hI
      simp only [Prod.mk.injEq] at hI
      obtain ⟨rfl, -, -⟩ := hI
      have := hm s[0] (List.getElem_mem hb)
      exact List.length_pos_of_mem this
    · rw [hs] at hI
      simp at hI
  · rw [itemF_beyond (by omega)] at hI
    simp at hI
theorem RRef.good.lo {r : RRef} {wc : World} (h : r.good wc) (h0 : 0 < r.bs.length) : ∀ x, r.a = some x → x.block < wc.heap.size := by
  intro x hx
  obtain ⟨b0, o0, e0, hc⟩ := h.hb.1 0 (by rw [toI_length]; exact h0)
  rw [e0] at hx
  simp only [Option.some.injEq] at hx
  subst hx
  simpa using World.block_lt_of_cell? wc _ hc
def RRef.pre (r : RRef) : Array Value := #[.slice r.a r.bs.length r.cap, .int .i64 r.ty, .int .u64 r.en, .slice r.p r.ps.length r.pc, .slice r.sa r.ss.length r.sc]

/-- rows of other types stay -/
structure KT (w w' : World) : Prop where
  size : w.heap.size ≤ w'.heap.size
  keep : ∀ (i : Nat) (c : Array Value) (e : TypeId) (f : Nat × Nat), w.heap[i]? = some (.cells c e f) → e ≠ 3 → e ≠ 66 → w'.heap[i]? = some (.cells c e f)
theorem KT.refl (w : World) : KT w w := ⟨Nat.le_refl _, fun _ _ _ _ h _ _ => h⟩
theorem KT.trans {a b c : World} (h : KT a b) (k : KT b c) : KT a c := ⟨Nat.le_trans h.size k.size, fun i x e f h1 h2 h3 => k.keep i x e f (h.keep i x e f h1 h2 h3) h2 h3⟩
theorem KT.below {w w' : World} (h : Below w.heap.size w w') : KT w w' := ⟨h.size, fun i x e f h1 _ _ => (h.block i (lt_of_block h1)).trans h1⟩
theorem KT.own {w w' : World} {B sz n : Nat} {e : TypeId} {v : Value} {xs : List Value} (k : KT w w') (h : w.ownsRow B e sz v n xs) (h1 : e ≠ 3) (h2 : e ≠ 66) : w'.ownsRow B e sz v n xs := by
  obtain ⟨ha, hb⟩ := h
  refine ⟨ha, ?_⟩
  rcases hb with hb | ⟨g, cap, cur, hv, hB, hg, r⟩
  · exact .inl hb
  · exact .inr ⟨g, cap, cur, hv, hB, k.keep _ _ _ _ hg h1 h2, r⟩
theorem KT.ownS {w w' : World} {B sz : Nat} {e : TypeId} {v : Value} {rows : List (List Value)} (k : KT w w') (h : OwnS w B e sz v rows) (h1 : e ≠ 3) (h2 : e ≠ 66) : OwnS w' B e sz v rows := ⟨k.own h.1 h1 h2, h.2⟩

theorem OwnS.keepS' {w w' : World} {B B' sz sz' : Nat} {e e' : TypeId} {v v' : Value} {rows rows' : List (List Value)} (h : OwnS w B e sz v rows) (hg : w.grownBy w' v'.ownBlock) (ho : OwnS w B' e' sz' v' rows') (hne : e ≠ e') : OwnS w' B e sz v rows := ⟨World.ownsRow.kept h.1 hg (own_apart ho.1 h.1 hne), h.2⟩
/-- the document's reader while indices are told -/
structure St (r : RRef) (wc : World) (g : Nat) (told : List Nat) (w : World) : Prop where
  good : r.good wc
  bel : Below wc.heap.size wc w
  ge : wc.heap.size ≤ g
  tol : ToldOk told
  box : ∃ ta tc, InBx w g r.pre (.slice ta told.length tc) 66 ∧ OwnI w wc.heap.size 3 .i64 (.slice ta told.length tc) (toI told)
section
variable {r : RRef} {wc w w' : World} {g : Nat} {told : List Nat}
theorem St.below (h : St r wc g told w) (hb : Below w.heap.size w w') : St r wc g told w' := by
  obtain ⟨ta, tc, h1, h2⟩ := h.box
  exact ⟨h.good, h.bel.trans (hb.mono h.bel.size), h.ge, h.tol, ta, tc, h1.below hb, h2.below hb⟩
theorem St.ok (h : St r wc g told w) : ∃ ta tc, r.ok g (.slice ta told.length tc) w ∧ InBx w g r.pre (.slice ta told.length tc) 66 ∧ OwnI w wc.heap.size 3 .i64 (.slice ta told.length tc) (toI told) := by
  obtain ⟨ta, tc, h1, h2⟩ := h.box
  have k := h.good
  exact ⟨ta, tc, ⟨h1, k.hb.below h.bel, k.h.below h.bel, k.hs.below h.bel, k.hbl, k.hbc, k.hbn, k.hl, k.ssl, k.ssc⟩, h1, h2⟩
theorem St.had (h : St r wc g told w) (x : Nat) (hx : x < 32768) : Calls Try.prog 19 #[.pointer (some ⟨g, 0, none⟩), .int .i64 (x : Int)] w fun e w' => e = .returned (.bool (decide (x ∈ told))) ∧ w = w' := by
  obtain ⟨ta, tc, h1, h2, h3⟩ := h.ok
  exact refHad_any r g ta tc told x w h1.c5 h3.at.2.1 (by omega) (Nat.le_trans h.tol.len (by decide)) (fun y hy => Nat.lt_trans (h.tol.2 y hy).2 (by decide))
theorem St.text (h : St r wc g told w) (off : Nat) (ho : off < 18446744073709551616) {t : ByteArray} {c : Nat} (ht : textF r.ss off = (t, c)) :
    Calls Try.prog 37 #[.slice r.sa r.ss.length r.sc, .int .u64 off] w fun e w' => e = .returned (.tuple #[.string t, .int .i64 (c : Int)]) ∧ w = w' := by
  obtain ⟨ta, tc, h1, -, -⟩ := h.ok
  exact h1.text off ho ht
theorem St.c4 (h : St r wc g told w) : w.cell? ⟨g, 4, none⟩ = some (.slice r.sa r.ss.length r.sc) := by
  obtain ⟨ta, tc, h1, -, -⟩ := h.ok
  exact h1.c4
theorem St.yes (h : St r wc g told w) {fr step size at_ : Nat} {b : List Nat} (h1 : fr < 18446744073709551616) (h2 : step < 18446744073709551616) (h3 : size < 18446744073709551616) (hI : itemF r.bs r.ps fr step size = (b, at_, 0)) (hl : b.length = size) :
    Calls Try.prog 34 #[.pointer (some ⟨g, 0, none⟩), .int .u64 (fr : Int), .int .u64 (step : Int), .int .u64 (size : Int)] w fun e w' => ∃ ad c, e = .returned (.tuple #[.int .u64 (at_ : Int), .slice ad size c, .bool true]) ∧ BRow wc ad b ∧ size ≤ c ∧ Below w.heap.size w w' := by
  obtain ⟨ta, tc, k, -, -⟩ := h.ok
  refine (refEntryB r g fr step size w k.c0 k.c1 k.c2 k.c3 k.hb k.hbl k.hbc k.hbn k.h k.hl h1 h2 h3).mono ?_
  rw [hI]
  rintro e w' ⟨x, ad, c, rfl, hx, hr, hc, -, hal, hb⟩
  refine ⟨ad, c, ?_, ⟨fun i hi => ?_, hr.2⟩, by simp only at hc; omega, hb⟩
  · rw [hx rfl]
    simp only [hl]
    rfl
  · obtain ⟨b0, o0, e0, hc0⟩ := hr.1 i hi
    refine ⟨b0, o0, e0, ?_⟩
    obtain ⟨y, hy, hyb⟩ := hal _ e0
    have hlt := h.good.lo (item_some hI (by rw [toI_length] at hi; exact Nat.lt_of_le_of_lt (Nat.zero_le _) hi)) y hy
    rw [← hyb] at hlt
    have hB := h.bel.trans (hb.mono h.bel.size)
    rw [hB.cell (p := ⟨b0, o0 + i, none⟩) hlt] at hc0
    exact hc0
theorem St.no (h : St r wc g told w) {fr step size at_ : Nat} (h1 : fr < 18446744073709551616) (h2 : step < 18446744073709551616) (h3 : size < 18446744073709551616) (hI : itemF r.bs r.ps fr step size = ([], at_, 4)) :
    Calls Try.prog 34 #[.pointer (some ⟨g, 0, none⟩), .int .u64 (fr : Int), .int .u64 (step : Int), .int .u64 (size : Int)] w fun e w' => ∃ x ad c, e = .returned (.tuple #[.int .u64 x, .slice ad 0 c, .bool false]) ∧ Below w.heap.size w w' := by
  obtain ⟨ta, tc, k, -, -⟩ := h.ok
  exact k.entryNo h1 h2 h3 hI
theorem St.names (h : St r wc g told w) (fr0 st0 m : Nat) (h1 : fr0 < 18446744073709551616) (h2 : st0 < 18446744073709551616) (hm : m ≤ 64) :
    Calls Try.prog 35 #[.pointer (some ⟨g, 0, none⟩), .int .u64 (fr0 : Int), .int .u64 (st0 : Int), .int .i64 (m : Int)] w (NamesAns (chainV (nameStep r.ss) r.bs r.ps 8 m fr0 st0 []) w) := by
  obtain ⟨ta, tc, k, -, -⟩ := h.ok
  exact refNames_any r g _ fr0 st0 m w k h1 h2 hm
/-- one more index is told -/
theorem St.tell {ta ad' : Option Addr} {tc c' x : Nat} {w2 : World} (h : St r wc g told w) (h1 : InBx w g r.pre (.slice ta told.length tc) 66) (h2 : OwnI w wc.heap.size 3 .i64 (.slice ta told.length tc) (toI told))
    (o : Obj) (hg : (w.alloc o).grownBy w2 (Value.slice ta told.length tc).ownBlock) (ho : OwnI w2 wc.heap.size 3 .i64 (.slice ad' (told.length + 1) c') (toI told ++ [(x : Int)])) (hx1 : 1 ≤ x) (hx2 : x < 32768) (hx : x ∉ told) :
    St r wc g (told ++ [x]) (w2.setCell ⟨g, 5, none⟩ (.slice ad' (told.length + 1) c')) ∧ KT w (w2.setCell ⟨g, 5, none⟩ (.slice ad' (told.length + 1) c')) := by
  have hap : (Value.slice ta told.length tc).ownBlock ≠ some g := h1.apart h2 (by decide)
  have b2 : InBx w2 g r.pre (.slice ta told.length tc) 66 := (h1.alloc o).grown hg hap
  have hrow : ∀ k, (Value.slice ta told.length tc).ownBlock = some k → wc.heap.size ≤ k := fun k hk => (World.ownsRow.lt h2 k hk).1
  have hB : Below wc.heap.size wc w2 := (h.bel.alloc h.bel.size o).grown hg (by have := h.bel.size; simp; omega) hrow
  have b3 : InBx (w2.setCell ⟨g, 5, none⟩ (.slice ad' (told.length + 1) c')) g r.pre (.slice ad' (told.length + 1) c') 66 := b2.set _
  refine ⟨⟨h.good, hB.setCell h.ge _, h.ge, h.tol.snoc hx hx1 hx2, ad', c', ?_, ?_⟩, ?_, ?_⟩
  · rw [List.length_append]
    exact b3
  · rw [List.length_append, toI_append]
    exact ho.setO (a := ⟨g, 5, none⟩) (b2.apart ho (by decide)) _
  · have := hg.size
    simp [World.setCell] at this ⊢
    omega
  · intro i c e f hi hne1 hne2
    have hi2 : (w.alloc o).heap[i]? = some (.cells c e f) := (heap_alloc_old w o (lt_of_block hi)).trans hi
    have hig : i ≠ g := by
      intro e1
      subst e1
      unfold InBx at h1
      rw [h1] at hi
      simp only [Option.some.injEq, Obj.cells.injEq] at hi
      exact hne2 hi.2.1.symm
    rw [heap_setCell_other w2 ⟨g, 5, none⟩ i _ hig]
    rw [hg.block i (lt_of_block hi2) ?_]
    · exact hi2
    · intro e1
      have hb := h2.2
      rcases hb with ⟨hv, -⟩ | ⟨g', cap, cur, hv, -, hgg, -⟩
      · rw [hv] at e1
        cases e1
      · rw [hv] at e1
        have : i = g' := by simpa [Value.ownBlock] using e1
        subst this
        rw [hgg] at hi
        simp only [Option.some.injEq, Obj.cells.injEq] at hi
        exact hne1 hi.2.1.symm
/-- a list of another type grows -/
theorem St.grew {e : TypeId} {sz B : Nat} {v : Value} {rows : List (List Value)} (h : St r wc g told w) (hB : wc.heap.size ≤ B) (ho : OwnS w B e sz v rows) (o : Obj) (hg : (w.alloc o).grownBy w' v.ownBlock) (h1 : e ≠ 3) (h2 : e ≠ 66) : St r wc g told w' := by
  obtain ⟨ta, tc, hb, hw⟩ := h.box
  have hap : v.ownBlock ≠ some g := hb.apart ho.1 h2
  refine ⟨h.good, (h.bel.alloc h.bel.size o).grown hg (by have := h.bel.size; simp; omega) (fun k hk => Nat.le_trans hB (World.ownsRow.lt ho.1 k hk).1), h.ge, h.tol, ta, tc, (hb.alloc o).grown hg hap, ?_⟩
  exact (hw.allocO o).keepS hg (ho.allocO o) (Ne.symm h1)
theorem KT.grew {e : TypeId} {sz : Nat} {v : Value} {rows : List (List Value)} {w0 : World} (k : KT w0 w) (ho : OwnS w w0.heap.size e sz v rows) (o : Obj) (hg : (w.alloc o).grownBy w' v.ownBlock) : KT w0 w' := by
  refine ⟨Nat.le_trans k.size (Nat.le_trans (by simp) hg.size), fun i c e' f hi hn1 hn2 => ?_⟩
  have h1 := k.keep i c e' f hi hn1 hn2
  have h2 : (w.alloc o).heap[i]? = some (.cells c e' f) := (heap_alloc_old w o (lt_of_block h1)).trans h1
  rw [hg.block i (lt_of_block h2) ?_]
  · exact h2
  · intro e1
    have := (World.ownsRow.lt ho.1 i e1.symm).1
    have := lt_of_block hi
    omega
/-- rows of a third type stay while a list grows -/
theorem own_grew {e e' : TypeId} {sz sz' B B' : Nat} {v v' : Value} {rows rows' : List (List Value)} (ho' : OwnS w B' e' sz' v' rows') (ho : OwnS w B e sz v rows) (o : Obj) (hg : (w.alloc o).grownBy w' v.ownBlock) (hne : e' ≠ e) : OwnS w' B' e' sz' v' rows' :=
  (ho'.allocO o).keepS' hg (ho.allocO o) hne
end
end Go.Proofs.Ytaedeaefoeeidaa
