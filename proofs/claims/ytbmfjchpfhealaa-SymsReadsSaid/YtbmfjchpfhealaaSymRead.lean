/- Layer 6: the symbols of a file: the program's answer. -/
import Derived.Test.YtbmfjchpfhealaaSymbol
import Derived.Test.YtbmfjchpfhealaaSymStrs
import Derived.Test.YtbmfjchpfhealaaOwnPut
namespace Go.Proofs.Ytbmfjchpfhealaa
open Go.RowKit
set_option linter.unusedVariables false
set_option linter.unusedSimpArgs false

/-- the k-th symbol of a table -/
def symAt (s t : List Nat) (k : Nat) : List Value × Nat := symF s ((t.drop (24 * k)).take 24)
/-- an error's number of the k-th symbol -/
def symErr (s t : List Nat) (k : Nat) : Nat := if k = 0 ∧ t.take 24 ≠ List.replicate 24 0 then 3 else (symAt s t k).2
/-- the first error's number of the first n symbols -/
def symsErr (s t : List Nat) : Nat → Nat
  | 0 => 0
  | k + 1 => if symsErr s t k ≠ 0 then symsErr s t k else symErr s t k
def symsTo (s t : List Nat) (n : Nat) : List (List Value) := (List.range n).map fun k => (symAt s t k).1
theorem symF_len (s bs : List Nat) : (symF s bs).1.length = 7 := by
  unfold symF
  split
  · split <;> rfl
  · rfl
theorem symF_shape (s bs : List Nat) : ∃ (nm : ByteArray) (x1 x2 x3 x4 x5 x6 : Int), (symF s bs).1 = [.string nm, .int .i64 x1, .int .i64 x2, .int .i64 x3, .int .i64 x4, .int .u64 x5, .int .u64 x6] := by
  unfold symF
  split
  · split
    · exact ⟨_, _, _, _, _, _, _, rfl⟩
    · exact ⟨_, _, _, _, _, _, _, rfl⟩
  · exact ⟨_, _, _, _, _, _, _, rfl⟩
theorem symErr_code (s t : List Nat) (k : Nat) : symErr s t k = 0 ∨ symErr s t k = 2 ∨ symErr s t k = 3 ∨ symErr s t k = 4 := by
  unfold symErr
  split
  · omega
  · unfold symAt symF
    split
    · split
      · left; rfl
      · right; right; left; rfl
    · rcases textF_code s (numOf (((t.drop (24 * k)).take 24).take 4)) with h | h | h
      · left; exact h
      · rw [h]; omega
      · rw [h]; omega
theorem symsErr_code (s t : List Nat) (n : Nat) : symsErr s t n = 0 ∨ symsErr s t n = 2 ∨ symsErr s t n = 3 ∨ symsErr s t n = 4 := by
  induction n with
  | zero => left; rfl
  | succ n ih =>
    unfold symsErr
    split
    · exact ih
    · exact symErr_code s t n
/-- a first error stays the first -/
theorem symsErr_stays {s t : List Nat} {k : Nat} (h0 : symsErr s t k = 0) (h : symErr s t k ≠ 0) : ∀ n, k < n → symsErr s t n = symErr s t k := by
  intro n
  induction n with
  | zero => intro h1; omega
  | succ n ih =>
    intro h1
    unfold symsErr
    by_cases hk : k = n
    · subst hk
      rw [if_neg (by omega)]
    · rw [ih (by omega), if_pos h]
theorem symsErr_next {s t : List Nat} {k : Nat} (h0 : symsErr s t k = 0) (h : symErr s t k = 0) : symsErr s t (k + 1) = 0 := by
  unfold symsErr
  rw [if_neg (by omega), h]

/-- the rows when k of n symbols are laid -/
def symsLaid (s t : List Nat) (k n : Nat) : List (List Value) := symsTo s t k ++ List.replicate (n - k) symZero
theorem symsLaid_length {s t : List Nat} {k n : Nat} (h : k ≤ n) : (symsLaid s t k n).length = n := by simp [symsLaid, symsTo]; omega
theorem symsLaid_all (s t : List Nat) (n : Nat) : symsLaid s t n n = symsTo s t n := by simp [symsLaid]
theorem symsLaid_none (s t : List Nat) (n : Nat) : symsLaid s t 0 n = List.replicate n symZero := by simp [symsLaid, symsTo]
theorem symsLaid_at {s t : List Nat} {k n : Nat} (h : k < n) (hi : k < (symsLaid s t k n).length) : (symsLaid s t k n)[k] = symZero := by
  have h1 : (symsLaid s t k n)[k]? = some symZero := by
    unfold symsLaid
    rw [List.getElem?_append_right (by simp [symsTo])]
    have h2 : k - (symsTo s t k).length < n - k := by simp [symsTo]; omega
    rw [List.getElem?_replicate, if_pos h2]
  rw [List.getElem?_eq_getElem hi] at h1
  exact Option.some.inj h1
theorem symsLaid_set {s t : List Nat} {k n : Nat} (h : k < n) : (symsLaid s t k n).set k (symAt s t k).1 = symsLaid s t (k + 1) n := by
  unfold symsLaid
  rw [List.set_append_right _ _ (by simp [symsTo])]
  have : n - k = (n - (k + 1)) + 1 := by omega
  rw [this, List.replicate_succ]
  simp [symsTo, List.range_succ]

theorem symSlice : RowSlice Try.prog 31 39 (.agg symZero.toArray) 7 64 := ⟨Try.underlying31, by kernel_rfl, rfl, by omega⟩

/-- symbol, whatever it answers -/
theorem symbol_any (b o cap : Nat) (bs : List Nat) (sa : Option Addr) (sc : Nat) (s : List Nat) (w : World) (h : BRow w (some ⟨b, o, none⟩) bs) (hl : bs.length = 24) (hc : 24 ≤ cap)
    (hs : BRow w sa s) (hsl : s.length ≤ 140737488351232) (hsc : s.length ≤ sc) :
    Calls Try.prog 19 #[.slice (some ⟨b, o, none⟩) 24 cap, .slice sa s.length sc] w fun e w' => e = .returned (.tuple #[.agg (symF s bs).1.toArray, errV ((symF s bs).2 : Int)]) ∧ Below w.heap.size w w' := by
  obtain ⟨nm, c, ht⟩ : ∃ nm c, textF s (numOf (bs.take 4)) = (nm, c) := ⟨_, _, rfl⟩
  unfold symF
  rw [ht]
  by_cases h0 : c = 0
  · subst h0
    rw [if_pos rfl]
    refine (symbol_good b o cap bs sa sc s w h hl hc hs hsl hsc nm ht).mono ?_
    rintro e w' ⟨rfl, hb⟩
    refine ⟨?_, hb⟩
    cases symOk bs <;> rfl
  · rw [if_neg h0]
    exact symbol_bad b o cap bs sa sc s w h hl hc hs hsl hsc nm c ht h0

theorem second_cells (w : World) (o : Obj) (cs : Array Value) (T : TypeId) (j : Nat) : ((w.alloc o).alloc (.cells cs T)).cell? ⟨w.heap.size + 1, j, none⟩ = cs[j]? := by
  have hsz : (w.alloc o).heap.size = w.heap.size + 1 := by simp
  rw [← hsz]
  exact World.cell?_alloc_new _ _ _ _
theorem toI_inj {xs ys : List Nat} (h : toI xs = toI ys) : xs = ys := by
  have := congrArg (List.map Int.toNat) h
  simpa [toI, Function.comp_def] using this
theorem bytesOf_inj {xs ys : List Nat} (hx : ∀ b ∈ xs, b < 256) (hy : ∀ b ∈ ys, b < 256) (h : Lib.bytesOf (toI xs) = Lib.bytesOf (toI ys)) : xs = ys := by
  have h1 := congrArg (List.map UInt8.toNat) h
  have e : ∀ zs : List Nat, (∀ b ∈ zs, b < 256) → (Lib.bytesOf (toI zs)).map UInt8.toNat = zs := by
    intro zs hz
    unfold Lib.bytesOf toI
    rw [List.map_map, List.map_map]
    conv => rhs; rw [← List.map_id zs]
    apply List.map_congr_left
    intro b hb
    have := hz b hb
    simp
    omega
  rwa [e xs hx, e ys hy] at h1
theorem equal_zero (b o cap : Nat) (bs : List Nat) (c : Nat) (w : World) (h : BRow w (some ⟨b, o, none⟩) bs) (hl : bs.length = 24) (g : Nat) (hz : BRow w (some ⟨g, 0, none⟩) (List.replicate 24 0)) :
    Calls Try.prog 18 #[.slice (some ⟨b, o, none⟩) 24 cap, .slice (some ⟨g, 0, none⟩) 24 c] w fun e w' => e = .returned (.bool (decide (bs = List.replicate 24 0))) ∧ w' = w := by
  have cells : ∀ (b o : Nat) (xs : List Nat), xs.length = 24 → BRow w (some ⟨b, o, none⟩) xs → Lib.BytesIn w (some ⟨b, o, none⟩) 24 (toI xs) := by
    intro b o xs hx hr
    refine Lib.BytesIn.of_cells (fun i hi => ?_)
    obtain ⟨b', o', e, hc⟩ := hr.1 i (by rw [toI_length, hx]; exact hi)
    simp only [Option.some.injEq, Addr.mk.injEq, and_true] at e
    obtain ⟨rfl, rfl⟩ := e
    rw [WideShapes.add_plain]
    exact hc
  refine (Try.bytes_Equal_all (some ⟨b, o, none⟩) (some ⟨g, 0, none⟩) 24 cap 24 c (toI bs) (toI (List.replicate 24 0)) w (by rw [toI_length, hl]) (by simp [toI]) (cells b o bs hl h) (cells g 0 _ (by simp) hz)).mono ?_
  · rintro e w' ⟨rfl, rfl⟩
    refine ⟨?_, rfl⟩
    have : (Lib.bytesOf (toI bs) == Lib.bytesOf (toI (List.replicate 24 0))) = decide (bs = List.replicate 24 0) := by
      rw [Bool.eq_iff_iff, beq_iff_eq, decide_eq_true_eq]
      exact ⟨fun he => bytesOf_inj h.2 hz.2 he, fun he => by rw [he]⟩
    rw [this]
theorem slice_told {bs t : List Nat} {ps : List PT} {at_ size : Nat} (h : sliceF bs ps at_ size = (t, 0)) : t.length = size ∧ ∀ b ∈ t, b ∈ bs := by
  rcases sliceF_alt bs ps at_ size with ⟨s, h1, h2, h3⟩ | h1
  · rw [h] at h1
    simp only [Prod.mk.injEq, and_true] at h1
    subst h1
    exact ⟨h2, h3⟩
  · rw [h] at h1; simp at h1
theorem strF_told {bs s : List Nat} {ps : List PT} {at_ size : Nat} (h : strF bs ps at_ size = (s, 0)) : s.length ≤ 1048576 ∧ 0 < s.length ∧ ∀ b ∈ s, b ∈ bs := by
  obtain ⟨h1, h2, h3⟩ := strF_len (bs := bs) (ps := ps) (at_ := at_) (size := size) (by rw [h])
  rw [h] at h1 h2
  simp only [Prod.mk.injEq, and_true] at h2
  have h4 : sliceF bs ps at_ size = (s, 0) := by rw [h2, ← h3]
  have h5 : ¬ 1048576 < size := by
    intro h6
    rw [strF, if_pos h6] at h
    simp at h
  have h7 : size ≠ 0 := by
    intro h8
    unfold strF at h
    rw [if_neg h5, if_neg (by rw [h3]; simp), if_pos (.inl h8)] at h
    simp at h
  simp only at h1
  exact ⟨by omega, by omega, (slice_told h4).2⟩
def zero24 : Array Value := ((toI (List.replicate 24 0)).map (Value.int .u8)).toArray
theorem make24 (w : World) : (Instr.makeSlice 22 (.int .i64 24) (.int .i64 24)).run Try.prog w = .ok (.slice (some ⟨w.heap.size, 0, none⟩) 24 24) (w.alloc (.cells zero24 5)) := by
  obtain ⟨i, hi, hz0, hz1, hz2⟩ := info_parts slice8.2
  rw [run_make w 22 5 i (.int .u8 0) Try.underlying22 hi hz0 .i64 .i64 24 24 (by decide) (by decide) (by rw [hz2]; decide) (by decide), hz1]
  have : madeCells (Value.int IntKind.u8 0).cells (Int.toNat 24 * 1) = zero24 := by
    apply Array.ext'
    have := made_rows (z := [Value.int .u8 0]) (n := 24) (sz := 1) rfl (by omega)
    exact this.trans rfl
  rw [this]
  rfl
theorem zero24_row (w : World) (T : TypeId) : BRow (w.alloc (.cells zero24 T)) (some ⟨w.heap.size, 0, none⟩) (List.replicate 24 0) :=
  ⟨Row.new .u8 w (toI (List.replicate 24 0)) T, fun b hb => by rw [(List.mem_replicate.1 hb).2]; omega⟩
theorem symErr_zero {s t : List Nat} {r : List Value} {c : Nat} (hz : (t.drop (24 * 0)).take 24 = List.replicate 24 0) (h : symAt s t 0 = (r, c)) : symErr s t 0 = c := by
  have hz' : t.take 24 = List.replicate 24 0 := by simpa using hz
  unfold symErr
  rw [if_neg (by simp [hz']), h]
theorem symErr_bad {s t : List Nat} (hz : ¬ (t.drop (24 * 0)).take 24 = List.replicate 24 0) : symErr s t 0 = 3 := by
  have hz' : ¬ t.take 24 = List.replicate 24 0 := by simpa using hz
  unfold symErr
  rw [if_pos ⟨rfl, hz'⟩]
theorem symErr_later {s t : List Nat} {k : Nat} {r : List Value} {c : Nat} (hk : ¬ k = 0) (h : symAt s t k = (r, c)) : symErr s t k = c := by
  unfold symErr
  rw [if_neg (fun hh => hk hh.1), h]
/-- what Read answers, the tables being told -/
def SymsAns (s t : List Nat) (n : Nat) (w : World) (e : Ending) (w' : World) : Prop :=
  ∃ ad c, e = .returned (.tuple #[.slice ad (if symsErr s t n = 0 then n else 0) c, errV (symsErr s t n : Int)]) ∧
      OwnS w' w.heap.size 39 7 (.slice ad (if symsErr s t n = 0 then n else 0) c) (if symsErr s t n = 0 then symsTo s t n else []) ∧ Below w.heap.size w w'
theorem SymsAns.yes {s t : List Nat} {n : Nat} {w w' : World} {ad : Option Addr} {c : Nat} (h : symsErr s t n = 0) (ho : OwnS w' w.heap.size 39 7 (.slice ad n c) (symsTo s t n)) (hb : Below w.heap.size w w') : SymsAns s t n w (.returned (.tuple #[.slice ad n c, .nilIface])) w' := by
  unfold SymsAns
  rw [h]
  exact ⟨ad, c, rfl, ho, hb⟩
theorem SymsAns.no {s t : List Nat} {n k : Nat} {w w' : World} (h0 : symsErr s t k = 0) (hk : k < n) (h : symErr s t k ≠ 0) (hb : Below w.heap.size w w') : SymsAns s t n w (.returned (.tuple #[.slice none 0 0, errV (symErr s t k : Int)])) w' := by
  unfold SymsAns
  rw [symsErr_stays h0 h n hk, if_neg h, if_neg h]
  exact ⟨none, 0, rfl, OwnS.nil _ _ _ _, hb⟩
theorem small64 {n : Nat} (h : n ≤ 4096) : 64 * n ≤ 281474976710656 := by omega
theorem small63 {n : Nat} (h : n ≤ 4096) : n ≤ maxLen := by unfold maxLen; omega
theorem small24 {n : Nat} (h : n ≤ 4096) : 24 * n < 18446744073709551616 := by omega

set_option maxRecDepth 100000 in
set_option maxHeartbeats 8000000 in
theorem read_in (a : Option Addr) (cap : Nat) (bs : List Nat) (ty en : Int) (p : Option Addr) (pc : Nat) (ps : List PT) (d : DT) (n : Nat) (w : World) (hb : BRow w a bs) (hbl : bs.length ≤ 140737488351232) (hbc : bs.length ≤ cap) (hbn : a = none → bs.length = 0 ∧ cap = 0)
    (h : PRow w p ps) (hl : ps.length ≤ 140737488351232) (hd : d.wf) (hn : n ≤ 4096) (s t : List Nat) (hS : strF bs ps d.strtab d.strsz = (s, 0)) (hT : sliceF bs ps d.symtab (24 * n) = (t, 0)) :
    Calls Try.prog 7 #[.slice a bs.length cap, headV ty en p ps.length pc, .agg d.cells, .int .i64 (n : Int)] w (SymsAns s t n w) := by
  have HST := Lib.hid (fun (w1 : World) (hb1 : Below w.heap.size w w1) => strings_any a cap bs ty en p pc ps d w1 (hb.below hb1) hbl hbc hbn (h.below hb1) hl hd.strtab hd.strsz)
  have HSL := Lib.hid (fun (w1 : World) (hb1 : Below w.heap.size w w1) => slice_any a cap bs ty en p pc ps d.symtab (24 * n) w1 (hb.below hb1) hbl hbc hbn (h.below hb1) hl hd.symtab (small24 hn))
  rw [hS] at HST
  rw [hT] at HSL
  obtain ⟨htl, htm⟩ := slice_told hT
  obtain ⟨hs1, hs2, hs3⟩ := strF_told hS
  have hsl : s.length ≤ 140737488351232 := by omega
  have hsb : ∀ b ∈ s, b < 256 := fun b hm => hb.2 b (hs3 b hm)
  have htb : ∀ b ∈ t, b < 256 := fun b hm => hb.2 b (htm b hm)
  have HTB := Lib.hid htb
  have HSB := Lib.hid hsb
  have HTL := Lib.hid htl
  simp only at HST HSL
  rw [htl] at HSL
  push_cast at HSL
  clear h hb hbn hS hT hd htb hsb htl
  have HI : Hid ((Try.prog.info? 29).map (·.size) = some d.cells.size) := Lib.hid (show _ = some 37 by kernel_rfl)
  have hD5 : d.cells[5]? = some (.int .u64 (d.symtab : Int)) := rfl
  generalize d.cells = D at *
  generalize d.symtab = symtab at *
  have B1 : Hid (Below w.heap.size w ((w.alloc (.cells #[.int .i64 ty, .int .u64 en, .slice p ps.length pc] 26)).alloc (.cells D 29))) := Lib.hid (((Below.refl _ _).alloc (Nat.le_refl _) _).alloc (by simp) _)
  have HG : Hid (((w.alloc (.cells #[.int .i64 ty, .int .u64 en, .slice p ps.length pc] 26)).alloc (.cells D 29)).heap[w.heap.size + 1]? = some (.cells D 29)) := Lib.hid (by
    have := heap_alloc_new (w.alloc (.cells #[.int .i64 ty, .int .u64 en, .slice p ps.length pc] 26)) (.cells D 29)
    simpa using this)
  have FH : Hid (∀ w1, Below ((w.alloc (.cells #[.int .i64 ty, .int .u64 en, .slice p ps.length pc] 26)).alloc (.cells D 29)).heap.size ((w.alloc (.cells #[.int .i64 ty, .int .u64 en, .slice p ps.length pc] 26)).alloc (.cells D 29)) w1 →
      w1.cell? ⟨w.heap.size, 0, none⟩ = some (.int .i64 ty) ∧ w1.cell? ⟨w.heap.size, 1, none⟩ = some (.int .u64 en) ∧ w1.cell? ⟨w.heap.size, 2, none⟩ = some (.slice p ps.length pc) ∧
      w1.cell? ⟨w.heap.size + 1, 5, none⟩ = some (.int .u64 (symtab : Int))) := Lib.hid (by
    intro w1 hw1
    have e1 : ∀ j, w1.cell? ⟨w.heap.size, j, none⟩ = (w.alloc (.cells #[.int .i64 ty, .int .u64 en, .slice p ps.length pc] 26)).cell? ⟨w.heap.size, j, none⟩ := fun j => by
      rw [hw1.cell (p := ⟨w.heap.size, j, none⟩) (by simp; omega)]
      exact (Below.cell (((Below.refl _ _).alloc (Nat.le_refl _) _)) (p := ⟨w.heap.size, j, none⟩) (by simp))
    refine ⟨?_, ?_, ?_, ?_⟩
    · rw [e1, World.cell?_alloc_new]; rfl
    · rw [e1, World.cell?_alloc_new]; rfl
    · rw [e1, World.cell?_alloc_new]; rfl
    · rw [hw1.cell (p := ⟨w.heap.size + 1, 5, none⟩) (by simp), second_cells]
      exact hD5)
  clear hD5
  have SM1 := Lib.hid (small64 hn)
  have SM2 := Lib.hid (small63 hn)
  unfold headV at *
  clear htm hs1 hs2 hs3
  go_enter Try.func7, Try.ntmps7
  go_wp2_with (refine wpList_load_row rfl 29 _ rfl (w.heap.size + 1) rfl 29 D (0, 0) _ HG.out Try.underlying29 rfl HI.out ?_)
  refine (HST.out _ B1.out).mono ?_
  rintro e w2 ⟨sa, sc, rfl, ho2, hb2⟩
  obtain ⟨f0, f1, f2, f3⟩ := FH.out _ hb2
  have O2 := Lib.hid (ho2.mono B1.out.size); have B2 := Lib.hid (bstep B1.out hb2)
  clear ho2 hb2
  simp only [errV]
  go_wp2_with fail
  refine (HSL.out _ B2.out).mono ?_
  rintro e w3 ⟨ta, tc, rfl, ho3, hb3⟩
  have O3 := Lib.hid (ho3.mono B2.out.size); have B3 := Lib.hid (bstep B2.out hb3)
  have O2' := Lib.hid (O2.out.below hb3)
  clear ho3 hb3 f0 f1 f2 f3 FH HSL HST B1 O2 HG HI B2
  simp only [errV]
  go_wp2_with (at_make; (refine wpList_make_row rfl (.tmp 46) (.tmp 46) symSlice rfl symZero rfl w.heap.size w n .i64 .i64 (n : Int) (n : Int) rfl rfl rfl rfl SM1.out SM2.out B3.out B3.out.size ?_); intro g w4 ho4 hg4 hb4 hb4'; have O4 := Lib.hid ho4; have G4 := Lib.hid hg4; have B4 := Lib.hid hb4; have O2 := Lib.hid (O2'.out.below hb4'); have O3' := Lib.hid (O3.out.below hb4'); clear ho4 hg4 hb4 hb4' O2' O3 B3)
  go_loopg [50] n (fun gk i wr => ∃ k : Nat, k + gk = n ∧ i = .int .i64 (k : Int) ∧ Hid (OwnS wr w.heap.size 39 7 (.slice (some ⟨g, 0, none⟩) n n) (symsLaid s t k n)) ∧ Hid (OwnI wr w.heap.size 5 .u8 (.slice sa s.length sc) (toI s)) ∧ Hid (OwnI wr w.heap.size 5 .u8 (.slice ta (24 * n) tc) (toI t)) ∧ Hid (Below w.heap.size w wr) ∧ Hid (symsErr s t k = 0))
  case atStart => exact ⟨0, by omega, rfl, Lib.hid (by rw [symsLaid_none]; exact O4.out), O2, O3', B4, Lib.hid rfl⟩
  case round =>
    obtain ⟨k, hk, rfl, OW, OS, OT, BW, OK⟩ := hrel
    cases gk with
    | zero =>
      obtain rfl : k = n := by omega
      go_wp2
      go_ret2
      exact SymsAns.yes OK.out (by rw [← symsLaid_all]; exact OW.out) BW.out
    | succ gk =>
      have hlt : k < n := by omega
      clear O4 B4 O2 O3' G4
      have h24 : ((24 : Int) * (k : Int)).toNat = 24 * k := by omega
      have htc : 24 * n ≤ tc := OT.out.fit.1
      have hne : ¬ tc = 24 * k := by omega
      obtain ⟨b, o, rfl, -⟩ := OT.out.at.2.1 0 (by rw [toI_length, HTL.out]; omega)
      have HR : Hid (∀ w', Below wr.heap.size wr w' → BRow w' (some ⟨b, o + 24 * k, none⟩) ((t.drop (24 * k)).take 24)) := Lib.hid (fun w' hb => by
        have := (BRow.below (⟨OT.out.at.2.1, HTB.out⟩ : BRow wr (some ⟨b, o, none⟩) t) hb).cut (24 * k) 24
        simpa [WideShapes.add_plain] using this)
      have HRL : Hid (((t.drop (24 * k)).take 24).length = 24) := Lib.hid (by have := HTL.out; simp; omega)
      have HSA : Hid (∀ w', Below wr.heap.size wr w' → BRow w' sa s) := Lib.hid (fun w' hb => BRow.below ⟨OS.out.at.2.1, HSB.out⟩ hb)
      have hsc := OS.out.fit.1
      obtain ⟨r, c, hrc⟩ : ∃ r c, symAt s t k = (r, c) := ⟨_, _, rfl⟩
      obtain ⟨nm, x1, x2, x3, x4, x5, x6, hr7⟩ : ∃ (nm : ByteArray) (x1 x2 x3 x4 x5 x6 : Int), r = [.string nm, .int .i64 x1, .int .i64 x2, .int .i64 x3, .int .i64 x4, .int .u64 x5, .int .u64 x6] := by have := symF_shape s ((t.drop (24 * k)).take 24); rw [show symF s ((t.drop (24 * k)).take 24) = (r, c) from hrc] at this; exact this
      subst hr7
      have HSY : Hid (∀ w', Below wr.heap.size wr w' → Calls Try.prog 19 #[.slice (some ⟨b, o + 24 * k, none⟩) 24 (tc - 24 * k), .slice sa s.length sc] w' fun e w'' => e = .returned (.tuple #[.agg #[.string nm, .int .i64 x1, .int .i64 x2, .int .i64 x3, .int .i64 x4, .int .u64 x5, .int .u64 x6], errV (c : Int)]) ∧ Below w'.heap.size w' w'') := Lib.hid (fun w' hb => by
        have := symbol_any b (o + 24 * k) (tc - 24 * k) _ sa sc s w' (HR.out w' hb) HRL.out (by omega) (HSA.out w' hb) hsl hsc
        rw [show symF s ((t.drop (24 * k)).take 24) = ([.string nm, .int .i64 x1, .int .i64 x2, .int .i64 x3, .int .i64 x4, .int .u64 x5, .int .u64 x6], c) from hrc] at this
        exact this)
      have HRC := Lib.hid hrc
      clear hrc HSA
      by_cases hk0 : k = 0
      · subst hk0
        have hmk := make24 wr
        by_cases hz : (t.drop (24 * 0)).take 24 = List.replicate 24 0
        · have HEQ := equal_zero b (o + 24 * 0) (tc - 24 * 0) _ 24 _ (HR.out _ ((Below.refl _ wr).alloc (Nat.le_refl _) (.cells zero24 5))) HRL.out _ (zero24_row wr 5)
          rw [decide_eq_true hz] at HEQ
          have HQ := Lib.hid HEQ
          have HZ := Lib.hid hz
          clear HEQ hz
          go_wp2_with fail
          refine HQ.out.mono ?_
          rintro e w5 ⟨rfl, rfl⟩
          go_wp2_with fail
          refine (HSY.out _ ((Below.refl _ wr).alloc (Nat.le_refl _) (.cells zero24 5))).mono ?_
          rintro e w5 ⟨rfl, hb5⟩
          have hb5' := bstep ((Below.refl _ wr).alloc (Nat.le_refl _) (.cells zero24 5)) hb5
          have OW5 := Lib.hid (OW.out.below hb5')
          have OS5 := Lib.hid (OS.out.below hb5')
          have OT5 := Lib.hid (OT.out.below hb5')
          have BW5 := Lib.hid (BW.out.trans (hb5'.mono BW.out.size))
          have HLN := Lib.hid (show 0 < (symsLaid s t 0 n).length by rw [symsLaid_length (by omega)]; exact hlt)
          have hcell : ∀ j, j < 7 → w5.cell? ⟨g, 0 * 7 + j, none⟩ = symZero[j]? := fun j hj => by
            have := OW5.out.cellAt 0 j HLN.out hj
            rwa [symsLaid_at hlt HLN.out] at this
          have q0 : w5.cell? ⟨g, 0 * 7, none⟩ = some (.string ⟨#[]⟩) := hcell 0 (by omega)
          have q1 : w5.cell? ⟨g, 0 * 7 + 1, none⟩ = some (.int .i64 0) := hcell 1 (by omega)
          have q2 : w5.cell? ⟨g, 0 * 7 + 2, none⟩ = some (.int .i64 0) := hcell 2 (by omega)
          have q3 : w5.cell? ⟨g, 0 * 7 + 3, none⟩ = some (.int .i64 0) := hcell 3 (by omega)
          have q4 : w5.cell? ⟨g, 0 * 7 + 4, none⟩ = some (.int .i64 0) := hcell 4 (by omega)
          have q5 : w5.cell? ⟨g, 0 * 7 + 5, none⟩ = some (.int .u64 0) := hcell 5 (by omega)
          have q6 : w5.cell? ⟨g, 0 * 7 + 6, none⟩ = some (.int .u64 0) := hcell 6 (by omega)
          have p0 := OW5.out.freeAt (0 * 7)
          have p1 := OW5.out.freeAt (0 * 7 + 1)
          have p2 := OW5.out.freeAt (0 * 7 + 2)
          have p3 := OW5.out.freeAt (0 * 7 + 3)
          have p4 := OW5.out.freeAt (0 * 7 + 4)
          have p5 := OW5.out.freeAt (0 * 7 + 5)
          have p6 := OW5.out.freeAt (0 * 7 + 6)
          obtain ⟨hput, hgrow⟩ := OW5.out.putRow (by omega) 0 HLN.out [.string nm, .int .i64 x1, .int .i64 x2, .int .i64 x3, .int .i64 x4, .int .u64 x5, .int .u64 x6] rfl
          have OW6 := Lib.hid hput; have GR6 : Hid (w5.grownBy (w5.setCells g (0 * 7) [.string nm, .int .i64 x1, .int .i64 x2, .int .i64 x3, .int .i64 x4, .int .u64 x5, .int .u64 x6]) (Value.slice (some ⟨g, 0, none⟩) n n).ownBlock) := Lib.hid hgrow
          clear hput hgrow hcell hb5 hb5' OW OS OT HR HRL HSY
          by_cases hc : c = 0
          · subst hc
            simp only [errV]
            go_wp2
            go_roundg gk
            case measure => omega
            case rel =>
              have hgB := OW5.out.blockGe.1
              refine ⟨0 + 1, by omega, by go_num, Lib.hid ?_, Lib.hid (OS5.out.keepS GR6.out OW5.out (by decide)), Lib.hid (OT5.out.keepS GR6.out OW5.out (by decide)), Lib.hid (below_keepS BW5.out GR6.out OW5.out BW5.out.size), Lib.hid (symsErr_next OK.out ((symErr_zero HZ.out HRC.out).trans rfl))⟩
              have := symsLaid_set (s := s) (t := t) hlt
              rw [HRC.out] at this
              rw [← this]
              exact OW6.out
          · have he : errV (c : Int) = .iface 59 (.int .i64 (c : Int)) := by unfold errV; rw [if_neg (by omega)]
            rw [he]
            clear he
            have HC := Lib.hid hc
            clear hc
            go_wp2
            go_ret2
            have := SymsAns.no (w := w) (w' := w5.setCells g (0 * 7) [.string nm, .int .i64 x1, .int .i64 x2, .int .i64 x3, .int .i64 x4, .int .u64 x5, .int .u64 x6]) OK.out hlt (by rw [(symErr_zero HZ.out HRC.out)]; exact HC.out) (below_keepS BW5.out GR6.out OW5.out BW5.out.size)
            rw [(symErr_zero HZ.out HRC.out)] at this
            have he : errV (c : Int) = .iface 59 (.int .i64 (c : Int)) := by unfold errV; rw [if_neg (by have := HC.out; omega)]
            rw [he] at this
            exact this
        · have HEQ := equal_zero b (o + 24 * 0) (tc - 24 * 0) _ 24 _ (HR.out _ ((Below.refl _ wr).alloc (Nat.le_refl _) (.cells zero24 5))) HRL.out _ (zero24_row wr 5)
          rw [decide_eq_false hz] at HEQ
          have HQ := Lib.hid HEQ
          have HZ := Lib.hid hz
          clear HEQ hz
          go_wp2_with fail
          refine HQ.out.mono ?_
          rintro e w5 ⟨rfl, rfl⟩
          go_wp2
          go_ret2
          have := SymsAns.no (w := w) (w' := wr.alloc (.cells zero24 5)) OK.out hlt (by rw [symErr_bad HZ.out]; decide) (BW.out.alloc BW.out.size _)
          rw [symErr_bad HZ.out] at this
          exact this
      · have HK0 := Lib.hid hk0
        clear hk0
        have hkz : ((k : Int) == 0) = false := by rw [beq_eq_false_iff_ne]; have := HK0.out; omega
        go_wp2_with fail
        refine (HSY.out _ (Below.refl _ _)).mono ?_
        rintro e w5 ⟨rfl, hb5⟩
        have hb5' := bstep (Below.refl _ wr) hb5
        have OW5 := Lib.hid (OW.out.below hb5')
        have OS5 := Lib.hid (OS.out.below hb5')
        have OT5 := Lib.hid (OT.out.below hb5')
        have BW5 := Lib.hid (BW.out.trans (hb5'.mono BW.out.size))
        have HLN := Lib.hid (show k < (symsLaid s t k n).length by rw [symsLaid_length (by omega)]; exact hlt)
        have hcell : ∀ j, j < 7 → w5.cell? ⟨g, k * 7 + j, none⟩ = symZero[j]? := fun j hj => by
          have := OW5.out.cellAt k j HLN.out hj
          rwa [symsLaid_at hlt HLN.out] at this
        have q0 : w5.cell? ⟨g, k * 7, none⟩ = some (.string ⟨#[]⟩) := hcell 0 (by omega)
        have q1 : w5.cell? ⟨g, k * 7 + 1, none⟩ = some (.int .i64 0) := hcell 1 (by omega)
        have q2 : w5.cell? ⟨g, k * 7 + 2, none⟩ = some (.int .i64 0) := hcell 2 (by omega)
        have q3 : w5.cell? ⟨g, k * 7 + 3, none⟩ = some (.int .i64 0) := hcell 3 (by omega)
        have q4 : w5.cell? ⟨g, k * 7 + 4, none⟩ = some (.int .i64 0) := hcell 4 (by omega)
        have q5 : w5.cell? ⟨g, k * 7 + 5, none⟩ = some (.int .u64 0) := hcell 5 (by omega)
        have q6 : w5.cell? ⟨g, k * 7 + 6, none⟩ = some (.int .u64 0) := hcell 6 (by omega)
        have p0 := OW5.out.freeAt (k * 7)
        have p1 := OW5.out.freeAt (k * 7 + 1)
        have p2 := OW5.out.freeAt (k * 7 + 2)
        have p3 := OW5.out.freeAt (k * 7 + 3)
        have p4 := OW5.out.freeAt (k * 7 + 4)
        have p5 := OW5.out.freeAt (k * 7 + 5)
        have p6 := OW5.out.freeAt (k * 7 + 6)
        obtain ⟨hput, hgrow⟩ := OW5.out.putRow (by omega) k HLN.out [.string nm, .int .i64 x1, .int .i64 x2, .int .i64 x3, .int .i64 x4, .int .u64 x5, .int .u64 x6] rfl
        have OW6 := Lib.hid hput; have GR6 : Hid (w5.grownBy (w5.setCells g (k * 7) [.string nm, .int .i64 x1, .int .i64 x2, .int .i64 x3, .int .i64 x4, .int .u64 x5, .int .u64 x6]) (Value.slice (some ⟨g, 0, none⟩) n n).ownBlock) := Lib.hid hgrow
        clear hput hgrow hcell hb5 hb5' OW OS OT HR HRL HSY
        by_cases hc : c = 0
        · subst hc
          simp only [errV]
          go_wp2
          go_roundg gk
          case measure => omega
          case rel =>
            have hgB := OW5.out.blockGe.1
            refine ⟨k + 1, by omega, by go_num, Lib.hid ?_, Lib.hid (OS5.out.keepS GR6.out OW5.out (by decide)), Lib.hid (OT5.out.keepS GR6.out OW5.out (by decide)), Lib.hid (below_keepS BW5.out GR6.out OW5.out BW5.out.size), Lib.hid (symsErr_next OK.out ((symErr_later HK0.out HRC.out).trans rfl))⟩
            have := symsLaid_set (s := s) (t := t) hlt
            rw [HRC.out] at this
            rw [← this]
            exact OW6.out
        · have he : errV (c : Int) = .iface 59 (.int .i64 (c : Int)) := by unfold errV; rw [if_neg (by omega)]
          rw [he]
          clear he
          have HC := Lib.hid hc
          clear hc
          go_wp2
          go_ret2
          have := SymsAns.no (w := w) (w' := w5.setCells g (k * 7) [.string nm, .int .i64 x1, .int .i64 x2, .int .i64 x3, .int .i64 x4, .int .u64 x5, .int .u64 x6]) OK.out hlt (by rw [(symErr_later HK0.out HRC.out)]; exact HC.out) (below_keepS BW5.out GR6.out OW5.out BW5.out.size)
          rw [(symErr_later HK0.out HRC.out)] at this
          have he : errV (c : Int) = .iface 59 (.int .i64 (c : Int)) := by unfold errV; rw [if_neg (by have := HC.out; omega)]
          rw [he] at this
          exact this
end Go.Proofs.Ytbmfjchpfhealaa
