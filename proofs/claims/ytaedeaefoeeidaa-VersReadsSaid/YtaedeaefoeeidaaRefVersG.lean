/- Layer 8, the document's own answer: all definitions. -/
import Derived.Test.YtaedeaefoeeidaaRefVersE
import Derived.Test.YtaedeaefoeeidaaKit1
namespace Go.Proofs.Ytaedeaefoeeidaa
open Go.RowKit Go.Maps
set_option linter.unusedVariables false
set_option linter.unusedSimpArgs false

theorem names_trow {w : World} {B : Nat} {ad : Option Addr} {n c : Nat} {l : List ByteArray} (h : OwnS w B 9 1 (.slice ad n c) (nameRows l)) : TRow w ad l := by
  obtain ⟨hn, hr, -, -⟩ := h.at
  intro i hi
  obtain ⟨b, o, e, hlt, hc⟩ := hr i (by rw [nameRows_length]; exact hi)
  refine ⟨b, o, e, hlt, ?_⟩
  have := hc 0 (by decide)
  rw [Nat.mul_one, Nat.add_zero] at this
  rw [this]
  simp [nameRows, List.getD, hi]
theorem TRow.drop1 {w : World} {g o : Nat} {l : List ByteArray} (h : TRow w (some ⟨g, o, none⟩) l) : TRow w (some ⟨g, o + 1, none⟩) (l.drop 1) := by
  intro i hi
  simp only [List.length_drop] at hi
  obtain ⟨b, o', e, hlt, hc⟩ := h (i + 1) (by omega)
  simp only [Option.some.injEq, Addr.mk.injEq, and_true] at e
  obtain ⟨rfl, rfl⟩ := e
  refine ⟨g, o + 1, rfl, hlt, ?_⟩
  rw [show o + 1 + i = o + (i + 1) by omega, hc]
  simp [List.getD, List.getElem?_drop, Nat.add_comm]
/-- a definition in memory, whose parents can be read -/
def RDRow (w : World) (B : Nat) (d : DefD) (q : List Value) : Prop := ∃ pa pc v ns, q = [.int .i64 (d.idx : Int), .bool d.base, .string d.name, .slice pa d.parents.length pc] ∧ OwnS w B 9 1 v (nameRows ns) ∧ ∀ w', OwnS w' B 9 1 v (nameRows ns) → TRow w' pa d.parents
def RDRows (w : World) (B : Nat) : List DefD → List (List Value) → Prop
  | [], [] => True
  | d :: ds, q :: qs => RDRow w B d q ∧ RDRows w B ds qs
  | _, _ => False
theorem RDRows.len {w : World} {B : Nat} : ∀ {ds : List DefD} {rows : List (List Value)}, RDRows w B ds rows → rows.length = ds.length
  | [], [], _ => rfl
  | d :: ds, q :: qs, h => by simp [RDRows.len h.2]
  | [], q :: qs, h => h.elim
  | d :: ds, [], h => h.elim
theorem RDRows.snoc {w : World} {B : Nat} {d : DefD} {q : List Value} : ∀ {ds : List DefD} {rows : List (List Value)}, RDRows w B ds rows → RDRow w B d q → RDRows w B (ds ++ [d]) (rows ++ [q])
  | [], [], _, h => ⟨h, trivial⟩
  | d :: ds, q :: qs, h, h2 => ⟨h.1, RDRows.snoc h.2 h2⟩
  | [], q :: qs, h, _ => h.elim
  | d :: ds, [], h, _ => h.elim
theorem RDRows.imp {w w' : World} {B : Nat} (H : ∀ v rows, OwnS w B 9 1 v rows → OwnS w' B 9 1 v rows) : ∀ {ds : List DefD} {rows : List (List Value)}, RDRows w B ds rows → RDRows w' B ds rows
  | [], [], _ => trivial
  | d :: ds, q :: qs, h => by
    obtain ⟨⟨pa, pc, v, ns, e, ho, hp⟩, h2⟩ := h
    exact ⟨⟨pa, pc, v, ns, e, H _ _ ho, hp⟩, RDRows.imp H h2⟩
  | [], q :: qs, h => h.elim
  | d :: ds, [], h => h.elim
theorem RDRows.at {w : World} {B : Nat} : ∀ {ds : List DefD} {rows : List (List Value)}, RDRows w B ds rows → ∀ i (h1 : i < ds.length) (h2 : i < rows.length), RDRow w B ds[i] rows[i]
  | d :: ds, q :: qs, h, 0, _, _ => h.1
  | d :: ds, q :: qs, h, i + 1, h1, h2 => RDRows.at h.2 i (by simpa using h1) (by simpa using h2)
  | [], q :: qs, h, _, _, _ => h.elim
  | d :: ds, [], h, _, _, _ => h.elim
  | [], [], _, _, h1, _ => absurd h1 (by simp)

/-- definitions that are answered, and an error's number -/
def DsAns (r : RRef) (wc : World) (g : Nat) (X : (List Nat × List DefD) × Nat) (w : World) (e : Ending) (w' : World) : Prop :=
  ∃ ad n c, e = .returned (.tuple #[.slice ad n c, .int .i64 (X.2 : Int)]) ∧ (X.2 = 0 → n = X.1.2.length ∧ St r wc g X.1.1 w' ∧ (∃ rows, OwnS w' wc.heap.size 76 4 (.slice ad X.1.2.length c) rows ∧ RDRows w' wc.heap.size X.1.2 rows) ∧ KT w w') ∧ Below wc.heap.size wc w'
theorem DsAns.no {r : RRef} {wc : World} {g : Nat} {X : (List Nat × List DefD) × Nat} {w w' : World} {c : Nat} (hX : X.2 = c) (hc : c ≠ 0) (hb : Below wc.heap.size wc w') : DsAns r wc g X w (.returned (.tuple #[.slice none 0 0, .int .i64 (c : Int)])) w' :=
  ⟨none, 0, 0, by rw [hX], fun h => absurd (hX.symm.trans h) hc, hb⟩

set_option maxRecDepth 100000 in
set_option maxHeartbeats 16000000 in
theorem refDefs_any (r : RRef) (wc : World) (g : Nat) (told0 : List Nat) (fr0 m : Nat) (w : World) (h : St r wc g told0 w) (h1 : fr0 < 18446744073709551616) (hm : m ≤ 64) :
    Calls Try.prog 16 #[.pointer (some ⟨g, 0, none⟩), .int .u64 (fr0 : Int), .int .u64 (m : Int)] w (DsAns r wc g (chainV (defStep r.bs r.ps r.ss) r.bs r.ps 20 m fr0 0 (told0, [])) w) := by
  obtain ⟨X, hX⟩ : ∃ X, chainV (defStep r.bs r.ps r.ss) r.bs r.ps 20 m fr0 0 (told0, []) = X := ⟨_, rfl⟩
  have HX := Lib.hid hX
  have HS := Lib.hid h
  have HSW := Lib.hid h.bel.size
  have HF := Lib.hid h1
  rw [hX]
  clear h h1 hX
  go_enter Try.func16, Try.ntmps16
  go_wp2_with fail
  go_loopg [1, 9, 8, 10] m (fun gg ad by_ out i wr => ∃ (k fr st : Nat) (oa : Option Addr) (oc : Nat) (told : List Nat) (l : List DefD) (rows : List (List Value)), k + gg = m ∧ ad = .int .u64 (fr : Int) ∧ by_ = .int .u64 (st : Int) ∧ out = .slice oa k oc ∧ i = .int .u64 (k : Int) ∧ Hid (fr < 18446744073709551616 ∧ st < 18446744073709551616) ∧ Hid (l.length = k) ∧ Hid (St r wc g told wr) ∧ Hid (OwnS wr w.heap.size 76 4 (.slice oa k oc) rows) ∧ Hid (RDRows wr wc.heap.size l rows) ∧ Hid (KT w wr) ∧ Hid (chainV (defStep r.bs r.ps r.ss) r.bs r.ps 20 gg fr st (told, l) = X))
  case atStart => exact ⟨0, fr0, 0, none, 0, told0, [], [], by omega, rfl, rfl, rfl, rfl, Lib.hid ⟨HF.out, by decide⟩, Lib.hid rfl, HS, Lib.hid (OwnS.nil _ _ _ _), Lib.hid trivial, Lib.hid (KT.refl _), HX⟩
  case round =>
    obtain ⟨k, fr, st, oa, oc, told, l, rows, hk, rfl, rfl, rfl, rfl, HFS, HL, HR, HO, HNR, HK, HC⟩ := hrel
    clear HX HF HS
    cases gk with
    | zero =>
      obtain rfl : k = m := by omega
      go_wp2_with fail
      go_ret2
      have hx := HC.out
      rw [chainV_zero] at hx
      subst hx
      exact ⟨oa, k, oc, rfl, fun _ => ⟨HL.out.symm, HR.out, ⟨rows, by rw [HL.out]; exact HO.out.mono HSW.out, HNR.out⟩, HK.out⟩, HR.out.bel⟩
    | succ g1 =>
      have hkm : k < m := by omega
      rcases itemF_two r.bs r.ps fr st 20 (show ∀ x ∈ r.bs, x < 256 from HR.out.good.hb.2) with ⟨b, at_, hI, hbl, hat, hb256⟩ | ⟨at_, hI⟩
      · have HE := Lib.hid (HR.out.yes HFS.out.1 HFS.out.2 (by decide) hI hbl)
        have b0 := numOf_two b hb256 0
        have b2 := numOf_two b hb256 2
        have b4 := numOf_two b hb256 4
        have b6 := numOf_two b hb256 6
        have b8 := numOf_four b hb256 8
        have b12 := numOf_four b hb256 12
        have b16 := numOf_four b hb256 16
        have hd : (b.drop 16).take 4 = b.drop (20 - 4) := List.take_of_length_le (by rw [List.length_drop, hbl]; decide)
        have NB : ∀ i j : Nat, i < j → j ≤ 20 → j - i ≤ 8 → ∀ (wx : World) (ad : Option Addr) (c : Nat), BRow wx ad b → 20 ≤ c → _ := fun i j h1 h2 h3 wx ad c hr hc => refN_at ad c 20 b i j wx hr hbl hc (by decide) h1 h2 h3
        have HN0 := Lib.hid (NB 0 2 (by decide) (by decide) (by decide))
        have HN2 := Lib.hid (NB 2 4 (by decide) (by decide) (by decide))
        have HN4 := Lib.hid (NB 4 6 (by decide) (by decide) (by decide))
        have HN6 := Lib.hid (NB 6 8 (by decide) (by decide) (by decide))
        have HN8 := Lib.hid (NB 8 12 (by decide) (by decide) (by decide))
        have HN12 := Lib.hid (NB 12 16 (by decide) (by decide) (by decide))
        have HN16 := Lib.hid (NB 16 20 (by decide) (by decide) (by decide))
        simp only [show 2 - 0 = 2 from rfl, show 4 - 2 = 2 from rfl, show 6 - 4 = 2 from rfl, show 8 - 6 = 2 from rfl, show 12 - 8 = 4 from rfl, show 16 - 12 = 4 from rfl, show 20 - 16 = 4 from rfl] at HN0 HN2 HN4 HN6 HN8 HN12 HN16
        have e0 : b.take 2 = (b.drop 0).take 2 := rfl
        obtain ⟨P, hP⟩ : ∃ P : Prop, (numOf ((b.drop 0).take 2) ≠ 1 ∨ numOf ((b.drop 4).take 2) % 32768 = 0 ∨ numOf ((b.drop 6).take 2) = 0) = P := ⟨_, rfl⟩
        obtain ⟨N, hN⟩ : ∃ N, chainV (nameStep r.ss) r.bs r.ps 8 (numOf ((b.drop 6).take 2)) at_ (numOf ((b.drop 12).take 4)) [] = N := ⟨_, rfl⟩
        obtain ⟨x, hx⟩ : ∃ x, numOf ((b.drop 4).take 2) % 32768 = x := ⟨_, rfl⟩
        have hxi : ((numOf ((b.drop 4).take 2) : Nat) : Int) % 32768 = (x : Int) := by rw [← hx]; omega
        have hx15 : x < 32768 := by omega
        have HS1 : Hid (P → defStep r.bs r.ps r.ss (told, l) b at_ = ((told, l ++ [DefD.zero]), 3)) := Lib.hid (fun hc => by
          unfold defStep defF
          rw [if_pos (by rw [e0, hP]; exact hc)])
        have HS2 : Hid (¬ P → x ∈ told → defStep r.bs r.ps r.ss (told, l) b at_ = ((told, l ++ [DefD.zero]), 5)) := Lib.hid (fun hc hm => by
          unfold defStep defF
          rw [if_neg (by rw [e0, hP]; exact hc), hx, if_pos hm])
        have HS3 : Hid (¬ P → ¬ x ∈ told → 64 < numOf ((b.drop 6).take 2) → defStep r.bs r.ps r.ss (told, l) b at_ = ((told ++ [x], l ++ [DefD.zero]), 2)) := Lib.hid (fun hc hm h6 => by
          unfold defStep defF
          rw [if_neg (by rw [e0, hP]; exact hc), hx, if_neg hm, if_pos h6])
        have HS4 : Hid (¬ P → ¬ x ∈ told → ¬ 64 < numOf ((b.drop 6).take 2) → N.2 ≠ 0 → defStep r.bs r.ps r.ss (told, l) b at_ = ((told ++ [x], l ++ [DefD.zero]), N.2)) := Lib.hid (fun hc hm h6 hn => by
          unfold defStep defF
          rw [if_neg (by rw [e0, hP]; exact hc), hx, if_neg hm, if_neg h6, hN, if_pos hn])
        have HS5 : Hid (¬ P → ¬ x ∈ told → ¬ 64 < numOf ((b.drop 6).take 2) → N.2 = 0 → sysOf (N.1.getD 0 .empty).data.toList ≠ numOf ((b.drop 8).take 4) → defStep r.bs r.ps r.ss (told, l) b at_ = ((told ++ [x], l ++ [DefD.zero]), 3)) := Lib.hid (fun hc hm h6 hn hs => by
          unfold defStep defF
          rw [if_neg (by rw [e0, hP]; exact hc), hx, if_neg hm, if_neg h6, hN, if_neg (by simpa using hn), if_pos hs])
        have HS6 : Hid (¬ P → ¬ x ∈ told → ¬ 64 < numOf ((b.drop 6).take 2) → N.2 = 0 → sysOf (N.1.getD 0 .empty).data.toList = numOf ((b.drop 8).take 4) → defStep r.bs r.ps r.ss (told, l) b at_ = ((told ++ [x], l ++ [⟨x, decide (numOf ((b.drop 2).take 2) % 2 = 1), N.1.getD 0 .empty, N.1.drop 1⟩]), 0)) := Lib.hid (fun hc hm h6 hn hs => by
          unfold defStep defF
          rw [if_neg (by rw [e0, hP]; exact hc), hx, if_neg hm, if_neg h6, hN, if_neg (by simpa using hn), if_neg (by simpa using hs)])
        have HRD : Hid (∀ s' c, c ≠ 0 → defStep r.bs r.ps r.ss (told, l) b at_ = (s', c) → X.2 = c) := Lib.hid (fun s' c hc hf => by rw [← HC.out, chainV_read hI hf hc])
        have HFM : Hid (∀ s', defStep r.bs r.ps r.ss (told, l) b at_ = (s', 0) → numOf ((b.drop 16).take 4) = 0 → 0 < g1 → X.2 = 3) := Lib.hid (fun s' hf hz hg => by rw [hd] at hz; rw [← HC.out, chainV_form hI hf hz hg])
        have HON : Hid (∀ s', defStep r.bs r.ps r.ss (told, l) b at_ = (s', 0) → ¬ (numOf ((b.drop 16).take 4) = 0 ∧ 0 < g1) → chainV (defStep r.bs r.ps r.ss) r.bs r.ps 20 g1 at_ (numOf ((b.drop 16).take 4)) s' = X) := Lib.hid (fun s' hf hz => by rw [hd] at hz ⊢; rw [← HC.out, chainV_on hI hf hz])
        have HNA := Lib.hid (fun (tl : List Nat) (wx : World) (hxx : St r wc g tl wx) (hm : numOf ((b.drop 6).take 2) ≤ 64) => hxx.names at_ (numOf ((b.drop 12).take 4)) (numOf ((b.drop 6).take 2)) hat (Nat.lt_trans b12 (by decide)) hm)
        rw [hN] at HNA
        have HNLN : Hid (N.2 = 0 → N.1.length = numOf ((b.drop 6).take 2)) := Lib.hid (fun h => by rw [← hN] at h ⊢; rw [nameStep_len _ _ _ _ h]; simp)
        have HNSZ : Hid (∀ t ∈ N.1, t.size ≤ 255) := Lib.hid (by rw [← hN]; exact nameStep_size _ _ _ _ (by simp))
        have HHAD := Lib.hid (fun (wx : World) (hs : St r wc g told wx) => hs.had x hx15)
        have HAT := Lib.hid hat
        clear hI hN hd hb256 hat HC NB e0 hbl
        obtain ⟨ds, hds⟩ : ∃ ds, defStep r.bs r.ps r.ss (told, l) b at_ = ds := ⟨_, rfl⟩
        rw [hds] at HS1 HS2 HS3 HS4 HS5 HS6 HRD HFM HON
        clear hds
        rw [hx] at hP
        clear hx
        generalize numOf ((b.drop 0).take 2) = q0 at *
        generalize numOf ((b.drop 2).take 2) = q2 at *
        generalize numOf ((b.drop 4).take 2) = q4 at *
        generalize numOf ((b.drop 6).take 2) = q6 at *
        generalize numOf ((b.drop 8).take 4) = q8 at *
        generalize numOf ((b.drop 12).take 4) = q12 at *
        generalize numOf ((b.drop 16).take 4) = q at *
        generalize at_ = at1 at *
        obtain ⟨ns, cn⟩ := N
        simp only at HNA HS4 HS5 HS6 HNLN HNSZ
        go_wp2_with fail
        refine HE.out.mono ?_
        rintro e w1 ⟨ad, c, rfl, hr, hc20, hb1⟩
        have HR1 := Lib.hid (HR.out.below hb1)
        have HK1 := Lib.hid (HK.out.trans (KT.below hb1))
        have HO1 := Lib.hid (HO.out.below hb1)
        have HNR1 := Lib.hid (HNR.out.imp (B := wc.heap.size) (fun v q ho => ho.below hb1))
        have M16 := Lib.hid (fun (wx : World) (hbx : Below wc.heap.size wc wx) => HN16.out wx ad c (hr.below hbx) hc20)
        have M12 := Lib.hid (fun (wx : World) (hbx : Below wc.heap.size wc wx) => HN12.out wx ad c (hr.below hbx) hc20)
        have M8 := Lib.hid (fun (wx : World) (hbx : Below wc.heap.size wc wx) => HN8.out wx ad c (hr.below hbx) hc20)
        have M2 := Lib.hid (fun (wx : World) (hbx : Below wc.heap.size wc wx) => HN2.out wx ad c (hr.below hbx) hc20)
        have M6 := Lib.hid (HN6.out w1 ad c (hr.below HR1.out.bel) hc20)
        have M4 := Lib.hid (HN4.out w1 ad c (hr.below HR1.out.bel) hc20)
        have M0 := Lib.hid (HN0.out w1 ad c (hr.below HR1.out.bel) hc20)
        have HAD := Lib.hid (HHAD.out w1 HR1.out)
        clear hr hb1 HE HR HO HK HNR HN0 HN2 HN4 HN6 HN8 HN12 HN16 HHAD
        by_cases hA : P
        · have HX3 := Lib.hid (HRD.out _ 3 (by decide) (HS1.out hA))
          clear HS1 HS2 HS3 HS4 HS5 HS6 HRD HFM HON HNA HNLN HNSZ
          rw [← hP] at hA
          clear hP
          by_cases hs : q0 = 1
          · by_cases hx0 : x = 0
            · subst hs hx0
              clear hA
              go_wp2_with fail
              refine M4.out.mono ?_
              rintro e w' ⟨rfl, rfl⟩
              go_wp2_with fail
              refine M6.out.mono ?_
              rintro e w' ⟨rfl, rfl⟩
              go_wp2_with fail
              refine HAD.out.mono ?_
              rintro e w' ⟨rfl, rfl⟩
              go_wp2_with fail
              refine M0.out.mono ?_
              rintro e w' ⟨rfl, rfl⟩
              go_wp2_with fail
              go_ret2
              exact DsAns.no (c := 3) HX3.out (by decide) HR1.out.bel
            · have hx2 : q6 = 0 := by omega
              have hxz : ((x : Int) == 0) = false := by rw [beq_eq_false_iff_ne]; omega
              subst hs hx2
              clear hA
              go_wp2_with fail
              refine M4.out.mono ?_
              rintro e w' ⟨rfl, rfl⟩
              go_wp2_with fail
              refine M6.out.mono ?_
              rintro e w' ⟨rfl, rfl⟩
              go_wp2_with fail
              refine HAD.out.mono ?_
              rintro e w' ⟨rfl, rfl⟩
              go_wp2_with fail
              refine M0.out.mono ?_
              rintro e w' ⟨rfl, rfl⟩
              go_wp2_with fail
              go_ret2
              exact DsAns.no (c := 3) HX3.out (by decide) HR1.out.bel
          · have hsq : ((q0 : Int) != 1) = true := by rw [bne_iff_ne]; omega
            clear hA
            go_wp2_with fail
            refine M4.out.mono ?_
            rintro e w' ⟨rfl, rfl⟩
            go_wp2_with fail
            refine M6.out.mono ?_
            rintro e w' ⟨rfl, rfl⟩
            go_wp2_with fail
            refine HAD.out.mono ?_
            rintro e w' ⟨rfl, rfl⟩
            go_wp2_with fail
            refine M0.out.mono ?_
            rintro e w' ⟨rfl, rfl⟩
            go_wp2_with fail
            go_ret2
            exact DsAns.no (c := 3) HX3.out (by decide) HR1.out.bel
        · have hA2 := hA
          rw [← hP] at hA2
          have hs : q0 = 1 := by omega
          have hxz : ((x : Int) == 0) = false := by rw [beq_eq_false_iff_ne]; omega
          have hx2 : ((q6 : Int) == 0) = false := by rw [beq_eq_false_iff_ne]; omega
          have hx1 : 1 ≤ x := by omega
          have hq6 : 1 ≤ q6 := by omega
          have HA := Lib.hid hA
          clear hP hA hA2 HS1
          subst hs
          by_cases hm : x ∈ told
          · have HX5 := Lib.hid (HRD.out _ 5 (by decide) (HS2.out HA.out hm))
            have hdm : decide (x ∈ told) = true := decide_eq_true hm
            clear HS2 HS3 HS4 HS5 HS6 HRD HFM HON HNA HNLN HNSZ hm
            generalize decide (x ∈ told) = dm at *
            subst hdm
            go_wp2_with fail
            refine M4.out.mono ?_
            rintro e w' ⟨rfl, rfl⟩
            go_wp2_with fail
            refine M6.out.mono ?_
            rintro e w' ⟨rfl, rfl⟩
            go_wp2_with fail
            refine HAD.out.mono ?_
            rintro e w' ⟨rfl, rfl⟩
            go_wp2_with fail
            refine M0.out.mono ?_
            rintro e w' ⟨rfl, rfl⟩
            go_wp2_with fail
            go_ret2
            exact DsAns.no (c := 5) HX5.out (by decide) HR1.out.bel
          · have hdm : decide (x ∈ told) = false := decide_eq_false hm
            have HNM := Lib.hid hm
            clear HS2 hm
            generalize decide (x ∈ told) = dm at *
            subst hdm
            by_cases hm64 : 64 < q6
            · have HX2 := Lib.hid (HRD.out _ 2 (by decide) (HS3.out HA.out HNM.out hm64))
              have h64 : (64 : Int) < (q6 : Int) := by omega
              clear HS3 HS4 HS5 HS6 HRD HFM HON HNA HNLN HNSZ
              go_wp2_with fail
              refine M4.out.mono ?_
              rintro e w' ⟨rfl, rfl⟩
              go_wp2_with fail
              refine M6.out.mono ?_
              rintro e w' ⟨rfl, rfl⟩
              go_wp2_with fail
              refine HAD.out.mono ?_
              rintro e w' ⟨rfl, rfl⟩
              go_wp2_with fail
              refine M0.out.mono ?_
              rintro e w' ⟨rfl, rfl⟩
              go_wp2_with fail
              go_ret2
              exact DsAns.no (c := 2) HX2.out (by decide) HR1.out.bel
            · have h64 : ¬ (64 : Int) < (q6 : Int) := by omega
              have HQ6 : Hid (q6 ≤ 64) := Lib.hid (by omega)
              have HM64 := Lib.hid hm64
              clear hm64 HS3
              obtain ⟨ta, tc, hbx, how⟩ := HR1.out.box
              have c5 : w1.cell? ⟨g, 5, none⟩ = some (.slice ta told.length tc) := hbx.cell
              have HBX := Lib.hid hbx
              have HOW := Lib.hid how
              have HSZ := Lib.hid HR1.out.bel.size
              have hlen := HR1.out.tol.len
              obtain ⟨tn, htn⟩ : ∃ tn, told.length = tn := ⟨_, rfl⟩
              have HTN := Lib.hid htn
              rw [htn] at c5 HBX HOW hlen
              have HTI : Hid ((toI told).length = tn) := Lib.hid (by rw [toI_length]; exact htn)
              clear hbx how htn
              go_wp2_with fail
              refine M4.out.mono ?_
              rintro e w' ⟨rfl, rfl⟩
              go_wp2_with fail
              refine M6.out.mono ?_
              rintro e w' ⟨rfl, rfl⟩
              go_wp2_with fail
              refine HAD.out.mono ?_
              rintro e w' ⟨rfl, rfl⟩
              go_wp2_with fail
              refine M0.out.mono ?_
              rintro e w' ⟨rfl, rfl⟩
              go_wp2_with (at_builtin; refine wpList_grow rfl (.tmp 68) (.tmp 70) sliceInt rfl wc.heap.size (.slice ta tn tc) (toI told) tn (x : Int) rfl rfl HTI.out HOW.out (by unfold maxLen; omega) (by omega) HSZ.out ?_; intro ta2 tc2 w3 ho3 hg3; have HO3 := Lib.hid ho3; have HG3 := Lib.hid hg3; have cb5 := ((HBX.out.alloc _).grown HG3.out (HBX.out.apart HOW.out (by decide))).cell; have cf5 := ((HBX.out.alloc _).grown HG3.out (HBX.out.apart HOW.out (by decide))).free 5; simp only [RRef.pre, List.size_toArray, List.length_cons, List.length_nil, Nat.zero_add, Nat.reduceAdd] at cb5; clear ho3 hg3)
              have htell := HR1.out.tell (x := x) (tc := tc) (by rw [HTN.out]; exact HBX.out) (by rw [HTN.out]; exact HOW.out) _ (by rw [HTN.out]; exact HG3.out) (by rw [HTN.out]; exact HO3.out) hx1 hx15 HNM.out
              rw [HTN.out] at htell
              have HR2 := Lib.hid htell.1
              have HK2 := Lib.hid (HK1.out.trans htell.2)
              have HO2 := Lib.hid (htell.2.ownS HO1.out (by decide) (by decide))
              have HNR2 := Lib.hid (HNR1.out.imp (B := wc.heap.size) (fun v q ho => htell.2.ownS ho (by decide) (by decide)))
              clear htell HO3 HG3 cb5 cf5 c5 HBX HOW HR1 HK1 HO1 HNR1 HSZ HAD M4 M6 M0
              generalize (w3.setCell ⟨g, 5, none⟩ (.slice ta2 (tn + 1) tc2)) = w2 at *
              clear HTI HTN hlen
              refine (M12.out w2 HR2.out.bel).mono ?_
              rintro e w' ⟨rfl, rfl⟩
              go_wp2_with fail
              refine (HNA.out _ w2 HR2.out HQ6.out).mono ?_
              rintro e w4 ⟨na, nc, ns2, he, hno, hnx, hb4⟩
              replace he : e = .returned (.tuple #[.slice na ns2.length nc, .int .i64 (cn : Int)]) := he
              subst he
              have HR4 := Lib.hid (HR2.out.below hb4)
              have HK4 := Lib.hid (HK2.out.trans (KT.below hb4))
              have HO4 := Lib.hid (HO2.out.below hb4)
              have HNR4 := Lib.hid (HNR2.out.imp (B := wc.heap.size) (fun v q ho => ho.below hb4))
              have HNO := Lib.hid (hno.mono HR2.out.bel.size)
              have HNX := Lib.hid hnx
              clear hno hnx hb4 HR2 HK2 HO2 HNR2 HNA M12
              by_cases hcn : cn = 0
              · subst hcn
                obtain rfl : ns2 = ns := HNX.out rfl
                have hnl := HNLN.out rfl
                have HTR := Lib.hid (names_trow HNO.out)
                obtain ⟨ng, rfl, ht0⟩ : ∃ ng, na = some ⟨ng, 0, none⟩ ∧ w4.cell? ⟨ng, 0, none⟩ = some (.string (ns2.getD 0 .empty)) := by
                  obtain ⟨b0, o0, e0, -, hc0⟩ := HTR.out 0 (by omega)
                  obtain ⟨-, ho⟩ := HNO.out.1
                  rcases ho with ⟨hv, -⟩ | ⟨gg, cap, cur, hv, -⟩
                  · rw [e0] at hv; cases hv
                  · rw [e0] at hv
                    simp only [Value.slice.injEq, Option.some.injEq, Addr.mk.injEq, and_true] at hv
                    obtain ⟨⟨rfl, rfl⟩, -, -⟩ := hv
                    exact ⟨b0, e0, by simpa using hc0⟩
                have hncap := HNO.out.at.2.2.1
                obtain ⟨nl, hnl2⟩ : ∃ nl, ns2.length = nl := ⟨_, rfl⟩
                have HNLL := Lib.hid hnl2
                rw [hnl2] at hnl HNO hncap
                rw [hnl2]
                have hnsz : (ns2.getD 0 .empty).size ≤ 255 := by
                  rcases Nat.lt_or_ge 0 ns2.length with h | h
                  · rw [List.getD, List.getElem?_eq_getElem h]; exact HNSZ.out _ (List.getElem_mem h)
                  · omega
                obtain ⟨t0, ht⟩ : ∃ t0, ns2.getD 0 .empty = t0 := ⟨_, rfl⟩
                rw [ht] at ht0 hnsz HS5 HS6
                have hsy := sysOf_lt t0.data.toList
                have HSY := Lib.hid (fun (wx : World) => refSysv t0 wx (by omega))
                obtain ⟨sy, hsyE⟩ : ∃ sy, sysOf t0.data.toList = sy := ⟨_, rfl⟩
                rw [hsyE] at hsy HSY HS5 HS6
                have hpar : Hid (∀ w', OwnS w' wc.heap.size 9 1 (.slice (some ⟨ng, 0, none⟩) nl nc) (nameRows ns2) → TRow w' (some ⟨ng, 1, none⟩) (ns2.drop 1)) := Lib.hid (fun w' ho => by
                  have := (names_trow ho).drop1
                  simpa using this)
                have HNLNL : Hid (ns2.length = nl) := HNLL
                clear hnl2 ht hsyE HS4 HNX HNLN HNSZ HTR
                obtain rfl : nl = q6 := hnl
                by_cases hsq : sy = q8
                · have hsqi : ((sy : Int) != (sy : Int)) = false := by simp
                  subst hsq
                  have HSTEP := Lib.hid (HS6.out HA.out HNM.out HM64.out rfl rfl)
                  clear HS5 HS6 HRD
                  have hn0 : (0 : Int) < (nl : Int) := by omega
                  have M8' := Lib.hid (M8.out w4 HR4.out.bel)
                  have M16' := Lib.hid (M16.out w4 HR4.out.bel)
                  clear M8 M16
                  by_cases hz : q = 0 ∧ 0 < g1
                  · have HX3 := Lib.hid (HFM.out _ HSTEP.out hz.1 hz.2)
                    obtain ⟨rfl, hg1⟩ := hz
                    clear HFM HON
                    go_wp2_with fail
                    refine (HSY.out _).mono ?_
                    rintro e w' ⟨rfl, rfl⟩
                    go_wp2_with fail
                    refine M8'.out.mono ?_
                    rintro e w' ⟨rfl, rfl⟩
                    go_wp2_with fail
                    refine M16'.out.mono ?_
                    rintro e w' ⟨rfl, rfl⟩
                    go_wp2_with fail
                    go_ret2
                    exact DsAns.no (c := 3) HX3.out (by decide) HR4.out.bel
                  · have HC3 := Lib.hid (HON.out _ HSTEP.out hz)
                    clear HFM HON HSTEP
                    have hbit : (((q2 : Int).tmod 2) == 1) = decide (q2 % 2 = 1) := by rw [Int.tmod_eq_emod_of_nonneg (by omega), Bool.eq_iff_iff, beq_iff_eq, decide_eq_true_eq]; omega
                    generalize decide (q2 % 2 = 1) = bt at *
                    have hrl := HNR4.out.len
                    rw [HL.out] at hrl
                    have HRL := Lib.hid hrl
                    clear hrl
                    have HSZ4 := Lib.hid HK4.out.size
                    by_cases hq0 : q = 0
                    · have hgl : ¬ 0 < g1 := fun h => hz ⟨hq0, h⟩
                      have hkm2 : ¬ k + 1 < m := by omega
                      subst hq0
                      clear hz
                      go_wp2_with fail
                      refine (HSY.out _).mono ?_
                      rintro e w' ⟨rfl, rfl⟩
                      go_wp2_with fail
                      refine M8'.out.mono ?_
                      rintro e w' ⟨rfl, rfl⟩
                      go_wp2_with fail
                      refine M16'.out.mono ?_
                      rintro e w' ⟨rfl, rfl⟩
                      go_wp2_with fail
                      have BDR : Below w4.heap.size w4 w4.drew := (Below.refl _ _).drew
                      have hpn := (M2.out w4.drew (HR4.out.below BDR).bel).mono (fun e w' h => And.intro h.1 h.2.symm)
                      have HR5 := Lib.hid (HR4.out.below BDR)
                      have HK5 := Lib.hid (HK4.out.trans (KT.below BDR))
                      have HO5 := Lib.hid (HO4.out.below BDR)
                      have HNR5 := Lib.hid (HNR4.out.imp (B := wc.heap.size) (fun v q ho => ho.below BDR))
                      have HNO5 := Lib.hid (HNO.out.below BDR)
                      have ht5 : w4.drew.cell? ⟨ng, 0, none⟩ = some (.string t0) := ht0
                      have HSZ5 := Lib.hid HK5.out.size
                      clear BDR HR4 HK4 HO4 HNR4 HNO ht0 HSZ4 M8' M16' M2
                      have h1n : (1 : Int) ≤ (nl : Int) := by omega
                      have h0n : 0 < nl := by omega
                      have h1c : (1 : Int) ≤ (nc : Int) := by omega
                      by_cases hnc : nc = 1
                      · obtain rfl : nl = 1 := by omega
                        subst hnc
                        have BD5 : Hid (Below w4.heap.size w4 w4.drew) := Lib.hid ((Below.refl _ _).drew)
                        have hnll := HNLL.out
                        have hdl : (ns2.drop 1).length = 0 := by rw [List.length_drop, hnll]
                        have HDL := Lib.hid hdl
                        clear hnll hdl
                        have HSZA : Hid (∀ o, w.heap.size ≤ (w4.alloc o).drew.heap.size) := Lib.hid (fun o => Nat.le_trans HSZ5.out (by simp))
                        have HOA : Hid (∀ o, OwnS (w4.alloc o).drew w.heap.size 76 4 (.slice oa k oc) rows) := Lib.hid (fun o => HO5.out.allocO o)
                        have HNWS : Hid (∀ (r : List Value) (T : TypeId) (j : Nat) (u : Value), r[j]? = some u → (w4.alloc (.cells r.toArray T)).drew.cell? ((⟨w4.heap.size, 0, none⟩ : Addr).add j) = some u) := Lib.hid (fun r T => news_alloc w4 r T)
                        have HCA : Hid (∀ o, (w4.alloc o).drew.cell? ⟨ng, 0, none⟩ = some (.string t0)) := Lib.hid (fun o => (World.cell?_alloc_old w4.drew o ⟨ng, 0, none⟩ (Nat.ne_of_lt (by simpa using World.block_lt_of_cell? w4.drew _ ht5))).trans ht5)
                        have H0 : Hid ((nameRows ns2).flatten[0]? = some (.string (ns2.getD 0 .empty))) := Lib.hid (by
                          have h1 := HNLL.out
                          have h2 : 0 < ns2.length := by omega
                          revert h2
                          cases ns2 with
                          | nil => intro h2; simp at h2
                          | cons a l => intro h2; rfl)
                        have HC6 : Hid (∀ o w6, (w4.alloc o).drew.grownBy w6 (Value.slice oa k oc).ownBlock → w6.cell? ⟨ng, 0, none⟩ = some (.string t0)) := Lib.hid (fun o w6 hg => by
                          have h0 := World.ownsRow.cells HNO5.out.1 (g := ng) rfl 0 (.string (ns2.getD 0 .empty)) (H0.out)
                          have h1 := World.ownsRow.cells (own_grew HNO5.out HO5.out o hg (by decide)).1 (g := ng) rfl 0 (.string (ns2.getD 0 .empty)) (H0.out)
                          rw [WideShapes.add_plain] at h0 h1
                          have h2 := ht5.symm.trans h0
                          rw [h2]
                          exact h1)
                        go_region_held3 (fun w' => w'.cell? ⟨ng, 0, none⟩ = some (.string t0))
                          (first | assumption | exact ht5 | exact HCA.out _)
                          (first
                            | (refine step_grow_row rfl (.tmp 104) (.tmp 116) rowDef rfl w.heap.size (.slice oa k oc) rows k [.int .i64 (x : Int), .bool bt, .string t0, .slice (some ⟨ng, 0, none⟩) 0 0] rfl ⟨w4.heap.size, 0, none⟩ 1 rfl (HNWS.out _ _) HRL.out rfl (by intro u hu; simp only [List.mem_cons, List.not_mem_nil, or_false] at hu; rcases hu with rfl | rfl | rfl | rfl <;> rfl) (HOA.out _) (by unfold maxLen; omega) (by omega) (HSZA.out _) ?_; intro oa2 oc2 w6 ho6 hg6; have HO6 := Lib.hid ho6; have HG6 := Lib.hid hg6; have hc6 := HC6.out _ _ hg6; clear ho6 hg6)
                            | (go_simp; go_at_call 18; refine hpn.mono ?_; rintro e' w5 ⟨rfl, rfl⟩))
                        have HG7 : Hid ((w4.drew.alloc (.cells [Value.int .i64 (x : Int), .bool bt, .string t0, .slice (some ⟨ng, 0, none⟩) 0 0].toArray 76)).grownBy w6 (Value.slice oa k oc).ownBlock) := Lib.hid HG6.out
                        have HR6 := Lib.hid (HR5.out.grew HSW.out HO5.out _ HG7.out (by decide) (by decide))
                        have HK6 := Lib.hid (HK5.out.grew HO5.out _ HG7.out)
                        have HNO6 := Lib.hid (own_grew HNO5.out HO5.out _ HG7.out (by decide))
                        have HNR6 := Lib.hid (HNR5.out.imp (B := wc.heap.size) (fun v q ho => own_grew ho HO5.out _ HG7.out (by decide)))
                        clear HG6 HG7 HC6 HCA HSZA HOA HNWS H0 hc6
                        go_wp2_with fail
                        go_roundg g1
                        case measure => omega
                        case rel => exact ⟨k + 1, at1, 0, oa2, oc2, told ++ [x], l ++ [⟨x, bt, t0, ns2.drop 1⟩], _, by omega, rfl, rfl, rfl, by go_num, Lib.hid ⟨HAT.out, by omega⟩, Lib.hid (by rw [List.length_append, HL.out]; rfl), HR6, HO6, Lib.hid (HNR6.out.snoc ⟨_, _, _, ns2, by rw [HDL.out], HNO6.out, fun w1 _ i hi => by change i < (ns2.drop 1).length at hi; rw [HDL.out] at hi; exact absurd hi (Nat.not_lt_zero _)⟩), HK6, HC3⟩
                      · have hnc2 : ¬ (nc : Int) = 1 := by omega
                        have BD5 : Hid (Below w4.heap.size w4 w4.drew) := Lib.hid ((Below.refl _ _).drew)
                        have hnll := HNLL.out
                        have hdl : (ns2.drop 1).length = (nl - 1) := by rw [List.length_drop, hnll]
                        have HDL := Lib.hid hdl
                        clear hnll hdl
                        have HSZA : Hid (∀ o, w.heap.size ≤ (w4.alloc o).drew.heap.size) := Lib.hid (fun o => Nat.le_trans HSZ5.out (by simp))
                        have HOA : Hid (∀ o, OwnS (w4.alloc o).drew w.heap.size 76 4 (.slice oa k oc) rows) := Lib.hid (fun o => HO5.out.allocO o)
                        have HNWS : Hid (∀ (r : List Value) (T : TypeId) (j : Nat) (u : Value), r[j]? = some u → (w4.alloc (.cells r.toArray T)).drew.cell? ((⟨w4.heap.size, 0, none⟩ : Addr).add j) = some u) := Lib.hid (fun r T => news_alloc w4 r T)
                        have HCA : Hid (∀ o, (w4.alloc o).drew.cell? ⟨ng, 0, none⟩ = some (.string t0)) := Lib.hid (fun o => (World.cell?_alloc_old w4.drew o ⟨ng, 0, none⟩ (Nat.ne_of_lt (by simpa using World.block_lt_of_cell? w4.drew _ ht5))).trans ht5)
                        have H0 : Hid ((nameRows ns2).flatten[0]? = some (.string (ns2.getD 0 .empty))) := Lib.hid (by
                          have h1 := HNLL.out
                          have h2 : 0 < ns2.length := by omega
                          revert h2
                          cases ns2 with
                          | nil => intro h2; simp at h2
                          | cons a l => intro h2; rfl)
                        have HC6 : Hid (∀ o w6, (w4.alloc o).drew.grownBy w6 (Value.slice oa k oc).ownBlock → w6.cell? ⟨ng, 0, none⟩ = some (.string t0)) := Lib.hid (fun o w6 hg => by
                          have h0 := World.ownsRow.cells HNO5.out.1 (g := ng) rfl 0 (.string (ns2.getD 0 .empty)) (H0.out)
                          have h1 := World.ownsRow.cells (own_grew HNO5.out HO5.out o hg (by decide)).1 (g := ng) rfl 0 (.string (ns2.getD 0 .empty)) (H0.out)
                          rw [WideShapes.add_plain] at h0 h1
                          have h2 := ht5.symm.trans h0
                          rw [h2]
                          exact h1)
                        go_region_held3 (fun w' => w'.cell? ⟨ng, 0, none⟩ = some (.string t0))
                          (first | assumption | exact ht5 | exact HCA.out _)
                          (first
                            | (refine step_grow_row rfl (.tmp 104) (.tmp 116) rowDef rfl w.heap.size (.slice oa k oc) rows k [.int .i64 (x : Int), .bool bt, .string t0, .slice (some ⟨ng, 1, none⟩) (nl - 1) (nc - 1)] rfl ⟨w4.heap.size, 0, none⟩ 1 rfl (HNWS.out _ _) HRL.out rfl (by intro u hu; simp only [List.mem_cons, List.not_mem_nil, or_false] at hu; rcases hu with rfl | rfl | rfl | rfl <;> rfl) (HOA.out _) (by unfold maxLen; omega) (by omega) (HSZA.out _) ?_; intro oa2 oc2 w6 ho6 hg6; have HO6 := Lib.hid ho6; have HG6 := Lib.hid hg6; have hc6 := HC6.out _ _ hg6; clear ho6 hg6)
                            | (go_simp; go_at_call 18; refine hpn.mono ?_; rintro e' w5 ⟨rfl, rfl⟩))
                        have HG7 : Hid ((w4.drew.alloc (.cells [Value.int .i64 (x : Int), .bool bt, .string t0, .slice (some ⟨ng, 1, none⟩) (nl - 1) (nc - 1)].toArray 76)).grownBy w6 (Value.slice oa k oc).ownBlock) := Lib.hid HG6.out
                        have HR6 := Lib.hid (HR5.out.grew HSW.out HO5.out _ HG7.out (by decide) (by decide))
                        have HK6 := Lib.hid (HK5.out.grew HO5.out _ HG7.out)
                        have HNO6 := Lib.hid (own_grew HNO5.out HO5.out _ HG7.out (by decide))
                        have HNR6 := Lib.hid (HNR5.out.imp (B := wc.heap.size) (fun v q ho => own_grew ho HO5.out _ HG7.out (by decide)))
                        clear HG6 HG7 HC6 HCA HSZA HOA HNWS H0 hc6
                        go_wp2_with fail
                        go_roundg g1
                        case measure => omega
                        case rel => exact ⟨k + 1, at1, 0, oa2, oc2, told ++ [x], l ++ [⟨x, bt, t0, ns2.drop 1⟩], _, by omega, rfl, rfl, rfl, by go_num, Lib.hid ⟨HAT.out, by omega⟩, Lib.hid (by rw [List.length_append, HL.out]; rfl), HR6, HO6, Lib.hid (HNR6.out.snoc ⟨_, _, _, ns2, by rw [HDL.out], HNO6.out, hpar.out⟩), HK6, HC3⟩
                    · have hqi : ((q : Int) == 0) = false := by rw [beq_eq_false_iff_ne]; omega
                      clear hz
                      go_wp2_with fail
                      refine (HSY.out _).mono ?_
                      rintro e w' ⟨rfl, rfl⟩
                      go_wp2_with fail
                      refine M8'.out.mono ?_
                      rintro e w' ⟨rfl, rfl⟩
                      go_wp2_with fail
                      refine M16'.out.mono ?_
                      rintro e w' ⟨rfl, rfl⟩
                      go_wp2_with fail
                      have BDR : Below w4.heap.size w4 w4.drew := (Below.refl _ _).drew
                      have hpn := (M2.out w4.drew (HR4.out.below BDR).bel).mono (fun e w' h => And.intro h.1 h.2.symm)
                      have HR5 := Lib.hid (HR4.out.below BDR)
                      have HK5 := Lib.hid (HK4.out.trans (KT.below BDR))
                      have HO5 := Lib.hid (HO4.out.below BDR)
                      have HNR5 := Lib.hid (HNR4.out.imp (B := wc.heap.size) (fun v q ho => ho.below BDR))
                      have HNO5 := Lib.hid (HNO.out.below BDR)
                      have ht5 : w4.drew.cell? ⟨ng, 0, none⟩ = some (.string t0) := ht0
                      have HSZ5 := Lib.hid HK5.out.size
                      clear BDR HR4 HK4 HO4 HNR4 HNO ht0 HSZ4 M8' M16' M2
                      have h1n : (1 : Int) ≤ (nl : Int) := by omega
                      have h0n : 0 < nl := by omega
                      have h1c : (1 : Int) ≤ (nc : Int) := by omega
                      by_cases hnc : nc = 1
                      · obtain rfl : nl = 1 := by omega
                        subst hnc
                        have BD5 : Hid (Below w4.heap.size w4 w4.drew) := Lib.hid ((Below.refl _ _).drew)
                        have hnll := HNLL.out
                        have hdl : (ns2.drop 1).length = 0 := by rw [List.length_drop, hnll]
                        have HDL := Lib.hid hdl
                        clear hnll hdl
                        have HSZA : Hid (∀ o, w.heap.size ≤ (w4.alloc o).drew.heap.size) := Lib.hid (fun o => Nat.le_trans HSZ5.out (by simp))
                        have HOA : Hid (∀ o, OwnS (w4.alloc o).drew w.heap.size 76 4 (.slice oa k oc) rows) := Lib.hid (fun o => HO5.out.allocO o)
                        have HNWS : Hid (∀ (r : List Value) (T : TypeId) (j : Nat) (u : Value), r[j]? = some u → (w4.alloc (.cells r.toArray T)).drew.cell? ((⟨w4.heap.size, 0, none⟩ : Addr).add j) = some u) := Lib.hid (fun r T => news_alloc w4 r T)
                        have HCA : Hid (∀ o, (w4.alloc o).drew.cell? ⟨ng, 0, none⟩ = some (.string t0)) := Lib.hid (fun o => (World.cell?_alloc_old w4.drew o ⟨ng, 0, none⟩ (Nat.ne_of_lt (by simpa using World.block_lt_of_cell? w4.drew _ ht5))).trans ht5)
                        have H0 : Hid ((nameRows ns2).flatten[0]? = some (.string (ns2.getD 0 .empty))) := Lib.hid (by
                          have h1 := HNLL.out
                          have h2 : 0 < ns2.length := by omega
                          revert h2
                          cases ns2 with
                          | nil => intro h2; simp at h2
                          | cons a l => intro h2; rfl)
                        have HC6 : Hid (∀ o w6, (w4.alloc o).drew.grownBy w6 (Value.slice oa k oc).ownBlock → w6.cell? ⟨ng, 0, none⟩ = some (.string t0)) := Lib.hid (fun o w6 hg => by
                          have h0 := World.ownsRow.cells HNO5.out.1 (g := ng) rfl 0 (.string (ns2.getD 0 .empty)) (H0.out)
                          have h1 := World.ownsRow.cells (own_grew HNO5.out HO5.out o hg (by decide)).1 (g := ng) rfl 0 (.string (ns2.getD 0 .empty)) (H0.out)
                          rw [WideShapes.add_plain] at h0 h1
                          have h2 := ht5.symm.trans h0
                          rw [h2]
                          exact h1)
                        go_region_held3 (fun w' => w'.cell? ⟨ng, 0, none⟩ = some (.string t0))
                          (first | assumption | exact ht5 | exact HCA.out _)
                          (first
                            | (refine step_grow_row rfl (.tmp 104) (.tmp 116) rowDef rfl w.heap.size (.slice oa k oc) rows k [.int .i64 (x : Int), .bool bt, .string t0, .slice (some ⟨ng, 0, none⟩) 0 0] rfl ⟨w4.heap.size, 0, none⟩ 1 rfl (HNWS.out _ _) HRL.out rfl (by intro u hu; simp only [List.mem_cons, List.not_mem_nil, or_false] at hu; rcases hu with rfl | rfl | rfl | rfl <;> rfl) (HOA.out _) (by unfold maxLen; omega) (by omega) (HSZA.out _) ?_; intro oa2 oc2 w6 ho6 hg6; have HO6 := Lib.hid ho6; have HG6 := Lib.hid hg6; have hc6 := HC6.out _ _ hg6; clear ho6 hg6)
                            | (go_simp; go_at_call 18; refine hpn.mono ?_; rintro e' w5 ⟨rfl, rfl⟩))
                        have HG7 : Hid ((w4.drew.alloc (.cells [Value.int .i64 (x : Int), .bool bt, .string t0, .slice (some ⟨ng, 0, none⟩) 0 0].toArray 76)).grownBy w6 (Value.slice oa k oc).ownBlock) := Lib.hid HG6.out
                        have HR6 := Lib.hid (HR5.out.grew HSW.out HO5.out _ HG7.out (by decide) (by decide))
                        have HK6 := Lib.hid (HK5.out.grew HO5.out _ HG7.out)
                        have HNO6 := Lib.hid (own_grew HNO5.out HO5.out _ HG7.out (by decide))
                        have HNR6 := Lib.hid (HNR5.out.imp (B := wc.heap.size) (fun v q ho => own_grew ho HO5.out _ HG7.out (by decide)))
                        clear HG6 HG7 HC6 HCA HSZA HOA HNWS H0 hc6
                        go_wp2_with fail
                        go_roundg g1
                        case measure => omega
                        case rel => exact ⟨k + 1, at1, q, oa2, oc2, told ++ [x], l ++ [⟨x, bt, t0, ns2.drop 1⟩], _, by omega, rfl, rfl, rfl, by go_num, Lib.hid ⟨HAT.out, by omega⟩, Lib.hid (by rw [List.length_append, HL.out]; rfl), HR6, HO6, Lib.hid (HNR6.out.snoc ⟨_, _, _, ns2, by rw [HDL.out], HNO6.out, fun w1 _ i hi => by change i < (ns2.drop 1).length at hi; rw [HDL.out] at hi; exact absurd hi (Nat.not_lt_zero _)⟩), HK6, HC3⟩
                      · have hnc2 : ¬ (nc : Int) = 1 := by omega
                        have BD5 : Hid (Below w4.heap.size w4 w4.drew) := Lib.hid ((Below.refl _ _).drew)
                        have hnll := HNLL.out
                        have hdl : (ns2.drop 1).length = (nl - 1) := by rw [List.length_drop, hnll]
                        have HDL := Lib.hid hdl
                        clear hnll hdl
                        have HSZA : Hid (∀ o, w.heap.size ≤ (w4.alloc o).drew.heap.size) := Lib.hid (fun o => Nat.le_trans HSZ5.out (by simp))
                        have HOA : Hid (∀ o, OwnS (w4.alloc o).drew w.heap.size 76 4 (.slice oa k oc) rows) := Lib.hid (fun o => HO5.out.allocO o)
                        have HNWS : Hid (∀ (r : List Value) (T : TypeId) (j : Nat) (u : Value), r[j]? = some u → (w4.alloc (.cells r.toArray T)).drew.cell? ((⟨w4.heap.size, 0, none⟩ : Addr).add j) = some u) := Lib.hid (fun r T => news_alloc w4 r T)
                        have HCA : Hid (∀ o, (w4.alloc o).drew.cell? ⟨ng, 0, none⟩ = some (.string t0)) := Lib.hid (fun o => (World.cell?_alloc_old w4.drew o ⟨ng, 0, none⟩ (Nat.ne_of_lt (by simpa using World.block_lt_of_cell? w4.drew _ ht5))).trans ht5)
                        have H0 : Hid ((nameRows ns2).flatten[0]? = some (.string (ns2.getD 0 .empty))) := Lib.hid (by
                          have h1 := HNLL.out
                          have h2 : 0 < ns2.length := by omega
                          revert h2
                          cases ns2 with
                          | nil => intro h2; simp at h2
                          | cons a l => intro h2; rfl)
                        have HC6 : Hid (∀ o w6, (w4.alloc o).drew.grownBy w6 (Value.slice oa k oc).ownBlock → w6.cell? ⟨ng, 0, none⟩ = some (.string t0)) := Lib.hid (fun o w6 hg => by
                          have h0 := World.ownsRow.cells HNO5.out.1 (g := ng) rfl 0 (.string (ns2.getD 0 .empty)) (H0.out)
                          have h1 := World.ownsRow.cells (own_grew HNO5.out HO5.out o hg (by decide)).1 (g := ng) rfl 0 (.string (ns2.getD 0 .empty)) (H0.out)
                          rw [WideShapes.add_plain] at h0 h1
                          have h2 := ht5.symm.trans h0
                          rw [h2]
                          exact h1)
                        go_region_held3 (fun w' => w'.cell? ⟨ng, 0, none⟩ = some (.string t0))
                          (first | assumption | exact ht5 | exact HCA.out _)
                          (first
                            | (refine step_grow_row rfl (.tmp 104) (.tmp 116) rowDef rfl w.heap.size (.slice oa k oc) rows k [.int .i64 (x : Int), .bool bt, .string t0, .slice (some ⟨ng, 1, none⟩) (nl - 1) (nc - 1)] rfl ⟨w4.heap.size, 0, none⟩ 1 rfl (HNWS.out _ _) HRL.out rfl (by intro u hu; simp only [List.mem_cons, List.not_mem_nil, or_false] at hu; rcases hu with rfl | rfl | rfl | rfl <;> rfl) (HOA.out _) (by unfold maxLen; omega) (by omega) (HSZA.out _) ?_; intro oa2 oc2 w6 ho6 hg6; have HO6 := Lib.hid ho6; have HG6 := Lib.hid hg6; have hc6 := HC6.out _ _ hg6; clear ho6 hg6)
                            | (go_simp; go_at_call 18; refine hpn.mono ?_; rintro e' w5 ⟨rfl, rfl⟩))
                        have HG7 : Hid ((w4.drew.alloc (.cells [Value.int .i64 (x : Int), .bool bt, .string t0, .slice (some ⟨ng, 1, none⟩) (nl - 1) (nc - 1)].toArray 76)).grownBy w6 (Value.slice oa k oc).ownBlock) := Lib.hid HG6.out
                        have HR6 := Lib.hid (HR5.out.grew HSW.out HO5.out _ HG7.out (by decide) (by decide))
                        have HK6 := Lib.hid (HK5.out.grew HO5.out _ HG7.out)
                        have HNO6 := Lib.hid (own_grew HNO5.out HO5.out _ HG7.out (by decide))
                        have HNR6 := Lib.hid (HNR5.out.imp (B := wc.heap.size) (fun v q ho => own_grew ho HO5.out _ HG7.out (by decide)))
                        clear HG6 HG7 HC6 HCA HSZA HOA HNWS H0 hc6
                        go_wp2_with fail
                        go_roundg g1
                        case measure => omega
                        case rel => exact ⟨k + 1, at1, q, oa2, oc2, told ++ [x], l ++ [⟨x, bt, t0, ns2.drop 1⟩], _, by omega, rfl, rfl, rfl, by go_num, Lib.hid ⟨HAT.out, by omega⟩, Lib.hid (by rw [List.length_append, HL.out]; rfl), HR6, HO6, Lib.hid (HNR6.out.snoc ⟨_, _, _, ns2, by rw [HDL.out], HNO6.out, hpar.out⟩), HK6, HC3⟩
                · have hsqi : ((sy : Int) != (q8 : Int)) = true := by rw [bne_iff_ne]; omega
                  have HX3 := Lib.hid (HRD.out _ 3 (by decide) (HS5.out HA.out HNM.out HM64.out rfl hsq))
                  clear HS5 HS6 HRD HFM HON hsq
                  have hn0 : (0 : Int) < (nl : Int) := by omega
                  have M8' := Lib.hid (M8.out w4 HR4.out.bel)
                  go_wp2_with fail
                  refine (HSY.out _).mono ?_
                  rintro e w' ⟨rfl, rfl⟩
                  go_wp2_with fail
                  refine M8'.out.mono ?_
                  rintro e w' ⟨rfl, rfl⟩
                  go_wp2_with fail
                  go_ret2
                  exact DsAns.no (c := 3) HX3.out (by decide) HR4.out.bel
              · have hcni : ((cn : Int) != 0) = true := by rw [bne_iff_ne]; omega
                have HX0 := Lib.hid (HRD.out _ cn hcn (HS4.out HA.out HNM.out HM64.out hcn))
                have HCVN := Lib.hid hcn
                clear HS4 HS5 HS6 HRD HFM HON HNLN HNSZ hcn
                go_wp2_with fail
                go_ret2
                exact DsAns.no HX0.out HCVN.out HR4.out.bel
      · have HE := Lib.hid (HR.out.no HFS.out.1 HFS.out.2 (by decide) hI)
        have HX4 : Hid (X.2 = 4) := Lib.hid (by rw [← HC.out, chainV_item hI (by decide)])
        clear hI HC
        go_wp2_with fail
        refine HE.out.mono ?_
        rintro e w1 ⟨x, ad, c, rfl, hb1⟩
        have HR1 := Lib.hid (HR.out.below hb1)
        clear hb1
        go_wp2_with fail
        go_ret2
        exact DsAns.no (c := 4) HX4.out (by decide) HR1.out.bel
theorem refDefs_long (r : RRef) (g fr0 m : Nat) (w : World) (hm : 64 < m) (hm2 : m < 18446744073709551616) :
    Calls Try.prog 16 #[.pointer (some ⟨g, 0, none⟩), .int .u64 (fr0 : Int), .int .u64 (m : Int)] w fun e w' => e = .returned (.tuple #[.slice none 0 0, .int .i64 2]) ∧ w = w' := by
  have hmi : (64 : Int) < (m : Int) := by omega
  clear hm2
  go_enter Try.func16, Try.ntmps16
  go_wp2_with fail
  go_ret2
  exact ⟨rfl, rfl⟩
end Go.Proofs.Ytaedeaefoeeidaa

