/- Layer 4: Interp: the program's answer. -/
import Derived.Test.YtmjfkcclhbpclaaDoorHeadInt
namespace Go.Proofs.YtmjfkcclhbpclaaDoor
open Go.RowKit
set_option linter.unusedVariables false
set_option linter.unusedSimpArgs false

/-- bytes as a slice value, of whatever length -/
structure BAny (w : World) (a : Option Addr) (m cap : Nat) (bs : List Nat) : Prop where
  row : BRow w a bs
  len : bs.length = m
  most : m ≤ 140737488351232
  none : a = none → m = 0 ∧ cap = 0
  cap : m ≤ cap
theorem BAny.below {w w' : World} {a : Option Addr} {m cap : Nat} {bs : List Nat} (h : BAny w a m cap bs) (hb : Below w.heap.size w w') : BAny w' a m cap bs := ⟨h.row.below hb, h.len, h.most, h.none, h.cap⟩
def partF (bs : List Nat) (p : PT) : List Int := toI ((bs.drop p.off).take p.filesz)
theorem partF_len {bs : List Nat} {p : PT} (h : inB bs.length p.off p.filesz = true) : (partF bs p).length = p.filesz := by
  unfold inB at h
  have := of_decide_eq_true h
  unfold partF toI
  rw [List.length_map, List.length_take, List.length_drop]
  omega
def CutPost (bs : List Nat) (p : PT) (w : World) (e : Ending) (w' : World) : Prop := (if inB bs.length p.off p.filesz = true then ∃ ad c, e = .returned (.tuple #[.slice ad p.filesz c, .nilIface]) ∧ Row .u8 w' ad (partF bs p) ∧ p.filesz ≤ c else ∃ sb, e = .returned (.tuple #[.slice none 0 0, .iface 90 (.pointer (some ⟨sb, 0, none⟩))]) ∧ w'.heap[sb]? = some (.cells #[.int .u64 (p.off : Int), .iface 38 (.int .i64 4)] 95)) ∧ Below w.heap.size w w'
theorem cut_post (a : Option Addr) (m cap : Nat) (bs : List Nat) (p : PT) (hp : p.wf) (w : World) (h : BAny w a m cap bs) :
    Calls Tryd.prog 29 #[.slice a m cap, .int .u64 (p.off : Int), .int .u64 (p.filesz : Int)] w (CutPost bs p w) := by
  have htl := toI_length bs
  have hm := h.len
  have hl := h.most
  have hc := h.cap
  obtain ⟨-, -, v2, -, v4, -, -⟩ := hp
  by_cases hi : p.off ≤ bs.length ∧ p.filesz ≤ bs.length - p.off
  · have := cut_yes a cap (toI bs) p.off p.filesz w h.row.1 (by rw [htl]; omega) (by rw [htl, hm]; exact h.none) (by rw [htl]; omega) (by rw [htl]; exact hi.1) (by rw [htl]; exact hi.2)
    rw [htl, cut_toI, hm] at this
    refine this.mono ?_
    rintro e w' ⟨v, rfl, ho, hb⟩
    refine ⟨?_, hb⟩
    rw [if_pos (inB_yes hi.1 hi.2)]
    obtain ⟨hlen, a', c', rfl, hr, hcc, -⟩ := own_row ho
    rw [← hlen] at hcc ⊢
    exact ⟨a', c', rfl, hr, hcc⟩
  · have := cut_no a cap (toI bs) p.off p.filesz w (by rw [htl]; omega) v2 v4 (by rw [htl]; exact hi)
    rw [htl, hm] at this
    refine this.mono ?_
    rintro e w' ⟨rfl, rfl⟩
    refine ⟨?_, ballo (Below.refl _ _) _⟩
    rw [inB_no hi, if_neg (by decide)]
    exact ⟨_, rfl, heap_alloc_new _ _⟩
def IntPost (w : World) (bs : List Nat) (ps : List PT) (e : Ending) (w' : World) : Prop := (match interpF bs ps with | .ok s => e = .returned (.tuple #[.string s, .nilIface]) | .error x => ∃ v, e = .returned (.tuple #[.string ⟨#[]⟩, v]) ∧ ErrH w' v x) ∧ Below w.heap.size w w'
set_option maxRecDepth 100000
set_option maxHeartbeats 16000000 in
theorem interp_any (K : Int) (e : Nat) (pa : Option Addr) (pn pc : Nat) (ps : List PT) (a : Option Addr) (m cap : Nat) (bs : List Nat) (w : World) (h : BAny w a m cap bs) (hp : PRow w pa ps) (hl : ps.length = pn) (hpn : pn ≤ 140737488351232) :
    Calls Tryd.prog 11 #[.slice a m cap, .agg #[.int .i64 K, .int .u64 (e : Int), .slice pa pn pc]] w (IntPost w bs ps) := by
  have HPE : Hid (∀ x v w', interpF bs ps = .error x → ErrH w' v x → Below w.heap.size w w' → IntPost w bs ps (.returned (.tuple #[.string ⟨#[]⟩, v])) w') := Lib.hid (fun x v w' e hv hb => ⟨by rw [e]; exact ⟨v, rfl, hv⟩, hb⟩)
  have HPO : Hid (∀ s w', interpF bs ps = .ok s → Below w.heap.size w w' → IntPost w bs ps (.returned (.tuple #[.string s, .nilIface])) w') := Lib.hid (fun s w' e hb => ⟨by rw [e], hb⟩)
  generalize IntPost w bs ps = P at *
  obtain ⟨w1, hw1⟩ : ∃ w1, w.alloc (.cells #[.int .i64 K, .int .u64 (e : Int), .slice pa pn pc] 25) = w1 := ⟨_, rfl⟩
  obtain ⟨hbk, hhbk⟩ : ∃ hbk, w.heap.size = hbk := ⟨_, rfl⟩
  have B1 : Hid (Below w.heap.size w w1) := Lib.hid (by rw [← hw1]; exact ballo (Below.refl _ _) _)
  have H1 : Hid (w1.heap[hbk]? = some (.cells #[.int .i64 K, .int .u64 (e : Int), .slice pa pn pc] 25)) := Lib.hid (by rw [← hw1, ← hhbk]; exact heap_alloc_new _ _)
  have HP1 := Lib.hid (hp.below B1.out)
  have HB1 := Lib.hid (h.below B1.out)
  have HIF := Lib.hid (indexFunc_any 28 #[] (fun p => decide (p.ty = 3)) pa pn pc ps w1 HP1.out hl hpn enters_interp1 (fun p wx hp hb => by
    have := interp1_any p wx
    simpa using this))
  have HL := Lib.hid hl
  have c2 : w1.cell? ⟨hbk, 2, none⟩ = some (.slice pa pn pc) := by rw [cell_of_row _ _ 2 _ _ _ H1.out]; rfl
  have hml : (m : Int) ≤ 140737488351232 := by have := h.most; omega
  clear h hp hl
  go_enter Tryd.func11, Tryd.ntmps11
  go_wp2_with fail
  refine HIF.out.mono ?_
  rintro e2 w2 ⟨⟨z, rfl, hz⟩, hb2⟩
  have hz2 := findF_idx hz
  have B2 := Lib.hid (bstep B1.out hb2)
  have H2 := Lib.hid ((hb2.block _ (lt_of_block H1.out)).trans H1.out)
  have HP2 := Lib.hid (HP1.out.below hb2)
  have HB2 := Lib.hid (HB1.out.below hb2)
  clear c2 hz hb2 hw1 hhbk HIF
  rcases hz2 with ⟨rfl, hf⟩ | ⟨k, hk, rfl, hf⟩
  · have HE : Hid (interpF bs ps = .error (.code 6)) := Lib.hid (by unfold interpF; rw [hf])
    clear hf
    go_wp2_with fail
    exact HPE.out _ _ _ HE.out rfl B2.out
  · obtain ⟨p, hpk⟩ : ∃ p, ps[k] = p := ⟨_, rfl⟩
    obtain ⟨hwf, b, o, hpa, hb, hc⟩ := HP2.out k hk
    rw [hpk] at hf hwf hc
    have HIE : Hid (interpF bs ps = if inB bs.length p.off p.filesz = true then (match textV (partF bs p) with | none => .error (.spot p.off 29) | some s => if 255 < s.size then .error (.spot p.off 2) else .ok s) else .error (.spot p.off 4)) := Lib.hid (by unfold interpF; rw [hf]; rfl)
    have HCU : Hid (∀ wx, Below w2.heap.size w2 wx → Calls Tryd.prog 29 #[.slice a m cap, .int .u64 (p.off : Int), .int .u64 (p.filesz : Int)] wx (CutPost bs p wx)) := Lib.hid (fun wx hx => cut_post a m cap bs p hwf wx (HB2.out.below hx))
    have HTX : Hid (∀ ad c wx, inB bs.length p.off p.filesz = true → Row .u8 wx ad (partF bs p) → p.filesz ≤ c → Calls Tryd.prog 30 #[.slice ad p.filesz c, .int .u64 0] wx (TextPost (partF bs p) wx)) := Lib.hid (fun ad c wx hi hr hcc => htext_any ad p.filesz c (partF bs p) wx hr (toI_bytes (fun x hx => HB2.out.row.2 x (List.mem_of_mem_drop (List.mem_of_mem_take hx)))) (partF_len hi) (by
      unfold inB at hi
      have h1 := of_decide_eq_true hi
      have := HB2.out.len
      have := HB2.out.most
      omega) hcc)
    have HSP : Hid (∀ c wx, Calls Tryd.prog 21 #[.int .u64 (p.off : Int), .int .i64 ((c : Nat) : Int)] wx (TestPost (some (p.off, c)) wx)) := Lib.hid (fun c wx => hspot_any p.off c wx hwf.2.2.1)
    have HTS : Hid (∀ s, textV (partF bs p) = some s → inB bs.length p.off p.filesz = true → (s.size : Int) ≤ 140737488351232) := Lib.hid (fun s hs hi => by
      have h1 := textV_size hs (toI_bytes (fun x hx => HB2.out.row.2 x (List.mem_of_mem_drop (List.mem_of_mem_take hx))))
      rw [partF_len hi] at h1
      unfold inB at hi
      have h2 := of_decide_eq_true hi
      have := HB2.out.len
      have := HB2.out.most
      omega)
    unfold CutPost at HCU
    unfold TextPost at HTX
    generalize partF bs p = PX at *
    obtain ⟨I, hI⟩ : ∃ I, inB bs.length p.off p.filesz = I := ⟨_, rfl⟩
    rw [hI] at HIE HCU HTX HTS
    have c0 := hc 0 (by omega)
    have c1 := hc 1 (by omega)
    have c2 := hc 2 (by omega)
    have c3 := hc 3 (by omega)
    have c4 := hc 4 (by omega)
    have c5 := hc 5 (by omega)
    have c6 := hc 6 (by omega)
    simp only [PT.cells, List.getElem?_cons_zero, List.getElem?_cons_succ, Nat.add_zero] at c0 c1 c2 c3 c4 c5 c6
    have d2 : w2.cell? ⟨hbk, 2, none⟩ = some (.slice pa pn pc) := by rw [cell_of_row _ _ 2 _ _ _ H2.out]; rfl
    have i0 : (0 : Int) ≤ (k : Int) := by omega
    have i1 : (k : Int) < (pn : Int) := by have := HL.out; omega
    have tk : decide ((k : Int) < 0) = false := decide_eq_false (by omega)
    obtain ⟨a0, a1, a2, a3, a4, a5, a6⟩ := p
    simp only [] at HIE HCU HTX HSP HTS c0 c1 c2 c3 c4 c5 c6
    clear hc hwf hf hpk hk hI
    subst hpa
    obtain ⟨xb, hxb⟩ : ∃ xb, w2.heap.size = xb := ⟨_, rfl⟩
    obtain ⟨w3, hw3⟩ : ∃ w3, w2.alloc (.cells #[.int .u32 (a0 : Int), .int .u32 (a1 : Int), .int .u64 (a2 : Int), .int .u64 (a3 : Int), .int .u64 (a4 : Int), .int .u64 (a5 : Int), .int .u64 (a6 : Int)] 37) = w3 := ⟨_, rfl⟩
    have X3 : Hid (w3.heap[xb]? = some (.cells #[.int .u32 (a0 : Int), .int .u32 (a1 : Int), .int .u64 (a2 : Int), .int .u64 (a3 : Int), .int .u64 (a4 : Int), .int .u64 (a5 : Int), .int .u64 (a6 : Int)] 37)) := Lib.hid (by rw [← hw3, ← hxb]; exact heap_alloc_new _ _)
    have B32 : Hid (Below w2.heap.size w2 w3) := Lib.hid (by rw [← hw3]; exact ballo (Below.refl _ _) _)
    have B3 := Lib.hid (bstep B2.out B32.out)
    have x2 : w3.cell? ⟨xb, 2, none⟩ = some (.int .u64 (a2 : Int)) := by rw [cell_of_row _ _ 2 _ _ _ X3.out]; rfl
    have x4 : w3.cell? ⟨xb, 4, none⟩ = some (.int .u64 (a4 : Int)) := by rw [cell_of_row _ _ 4 _ _ _ X3.out]; rfl
    go_wp2_with fail
    clear c0 c1 c2 c3 c4 c5 c6 d2 hxb hw3
    refine (HCU.out _ B32.out).mono ?_
    rintro e4 w4 ⟨hcut, hb4⟩
    have B4 := Lib.hid (bstep B3.out hb4)
    have X4 := Lib.hid ((hb4.block _ (lt_of_block X3.out)).trans X3.out)
    clear hb4 x2 x4
    cases I with
    | false =>
      rw [if_neg (by decide)] at hcut
      obtain ⟨sb, rfl, hsb⟩ := hcut
      have HSB := Lib.hid hsb
      have HE : Hid (interpF bs ps = .error (.spot a2 4)) := Lib.hid (by rw [HIE.out, if_neg (by decide)])
      clear hsb
      go_wp2_with fail
      exact HPE.out _ _ _ HE.out ⟨sb, rfl, HSB.out⟩ B4.out
    | true =>
      rw [if_pos rfl] at hcut
      obtain ⟨ad, c, rfl, hr, hcc⟩ := hcut
      have HT := Lib.hid (HTX.out ad c w4 (by first | rfl | trivial) hr hcc)
      clear hr hcc
      go_wp2_with fail
      refine HT.out.mono ?_
      rintro e5 w5 ⟨htx, hb5⟩
      have B5 := Lib.hid (bstep B4.out hb5)
      have X5 := Lib.hid ((hb5.block _ (lt_of_block X4.out)).trans X4.out)
      have x2 : w5.cell? ⟨xb, 2, none⟩ = some (.int .u64 (a2 : Int)) := by rw [cell_of_row _ _ 2 _ _ _ X5.out]; rfl
      clear hb5
      cases hv : textV PX with
      | none =>
        rw [hv] at htx
        obtain ⟨sb, rfl⟩ := htx
        have HE : Hid (interpF bs ps = .error (.spot a2 29)) := Lib.hid (by rw [HIE.out]; simp only [eq_self, if_true, hv])
        have HS := Lib.hid (HSP.out 29 w5)
        clear hv
        go_wp2_with fail
        refine HS.out.mono ?_
        rintro e6 w6 ⟨⟨v, rfl, hv6⟩, hb6⟩
        have B6 := Lib.hid (bstep B5.out hb6)
        have V6 : Hid (ErrH w6 v (.spot a2 29)) := Lib.hid hv6
        clear hv6 hb6 x2
        go_wp2_with fail
        exact HPE.out _ _ _ HE.out V6.out B6.out
      | some s =>
        rw [hv] at htx
        obtain rfl : e5 = .returned (.tuple #[.string s, .nilIface]) := htx
        have hsz := HTS.out s hv (by first | rfl | trivial)
        by_cases h255 : 255 < s.size
        · have HE : Hid (interpF bs ps = .error (.spot a2 2)) := Lib.hid (by rw [HIE.out]; simp only [eq_self, if_true, hv]; exact if_pos h255)
          have t2 : decide ((255 : Int) < (s.size : Int)) = true := decide_eq_true (by omega)
          have HS := Lib.hid (HSP.out 2 w5)
          clear hv h255
          go_wp2_with fail
          refine HS.out.mono ?_
          rintro e6 w6 ⟨⟨v, rfl, hv6⟩, hb6⟩
          have B6 := Lib.hid (bstep B5.out hb6)
          have V6 : Hid (ErrH w6 v (.spot a2 2)) := Lib.hid hv6
          clear hv6 hb6 x2
          go_wp2_with fail
          exact HPE.out _ _ _ HE.out V6.out B6.out
        · have HE : Hid (interpF bs ps = .ok s) := Lib.hid (by rw [HIE.out]; simp only [eq_self, if_true, hv]; exact if_neg h255)
          have t2 : decide ((255 : Int) < (s.size : Int)) = false := decide_eq_false (by omega)
          clear hv h255
          go_wp2_with fail
          exact HPO.out _ _ HE.out B5.out
end Go.Proofs.YtmjfkcclhbpclaaDoor
