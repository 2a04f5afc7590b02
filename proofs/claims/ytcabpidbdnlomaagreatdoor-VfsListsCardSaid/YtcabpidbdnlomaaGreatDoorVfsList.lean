/- Layer 3: Real; the names in a directory that isn't empty (the sort's contract is a premise). -/
import Derived.Test.YtcabpidbdnlomaaGreatDoorVfsNew
import Derived.Test.YtcabpidbdnlomaaGreatDoorVfsSelf
import Derived.Test.YtcabpidbdnlomaaGreatDoorKit1
import Derived.Sort.KeysCollected
import Derived.Sort.OwnSorted
import Derived.Deep.AppendLies
import Derived.Deep.LoopGhost
import Derived.WalkMore
import Derived.Carry
namespace Go.Proofs.YtcabpidbdnlomaaGreatDoor
open Go.RowKit
open Go.Sort
set_option linter.unusedVariables false
set_option linter.unusedSimpArgs false

set_option maxRecDepth 100000 in
set_option maxHeartbeats 4000000 in
theorem real_any (tb g c : Nat) (F : ByteArray → Option Ent) (path : ByteArray) (w : World) (h : TreeAt w tb g c F) (hF : TreeOk F) (hp : path.size ≤ 140737488355328) :
    Calls Tryz.prog 12 #[.pointer (some ⟨tb, 0, none⟩), .string path] w fun e w' => FolPost e (folF F path) ∧ Below w.heap.size w w' := by
  have HF := Lib.hid (follow_any tb g c F path w h hF hp)
  obtain ⟨R, hR⟩ : ∃ R, folF F path = R := ⟨_, rfl⟩
  rw [hR] at HF ⊢
  clear h hF hp hR
  go_enter Tryz.func12, Tryz.ntmps12
  go_wp2_with fail
  refine HF.out.mono ?_
  rintro e w2 ⟨hp, hb2⟩
  have B2 := Lib.hid hb2
  clear hb2
  cases R with
  | ok p =>
    obtain rfl : e = _ := hp
    go_wp2_with fail
    go_ret2
    exact ⟨rfl, B2.out⟩
  | error n =>
    obtain rfl : e = _ := hp
    obtain ⟨ev, hev⟩ : ∃ ev, errV (n : Int) = ev := ⟨_, rfl⟩
    have HEV := Lib.hid hev
    rw [hev]
    clear hev
    go_wp2_with fail
    go_ret2
    exact ⟨by show _ = Ending.returned (.tuple #[.string ⟨#[]⟩, errV (n : Int)]); rw [HEV.out]; rfl, B2.out⟩

/-- out = append(out, t): and where it lies -/
theorem wpList_name_g {P : Program} {w : World} {ops : Array Oper} {rest : List Oper} {o : Oper} {a : Act} {Q : Exit → Act → World → Prop} (hgd : o.guard = none) (s x : Operand) {t e : TypeId} (ht : P.underlying t = some (.slice e)) (hinfo : (P.info? e).map (fun i => (i.zero, i.size, i.bytes)) = some (some (.string .empty), 1, 16))
    (ho : o.op = .call { callee := .builtin .append, args := #[s, x], argTypes := #[t, t] })
    (B : Nat) (v : Value) (T : List ByteArray) (n : Nat) (ad : Addr) (c : Nat) (y : ByteArray) (hs : a.eval s = v) (hx : a.eval x = .slice (some ad) 1 c) (hnew : w.cell? ad = some (.string y)) (hn0 : T.length = n)
    (hown : OwnT w B e v T) (h63 : n + 1 ≤ maxLen) (hlen : (n + 1) * 16 ≤ 140737488355328) (hb : B ≤ w.heap.size)
    (h : ∀ g cap w', OwnT w' B e (.slice (some ⟨g, 0, none⟩) (n + 1) cap) (T ++ [y]) → w.grownBy w' v.ownBlock → wpList P ops Q rest (a.put o.dst (.slice (some ⟨g, 0, none⟩) (n + 1) cap)) w') : wpList P ops Q (o :: rest) a w := by
  subst hn0
  obtain ⟨i, hi, hz0, hz1, hz2⟩ := info_parts hinfo
  refine wpList_append_lies _ hgd s x t ho B e i (.string .empty) 1 16 ht hi hz0 hz1 hz2 rfl (by decide) v T.length (T.map Value.string) hs hown ad 1 c [.string y] hx rfl ?_ (by intro u hu; simp only [List.mem_cons, List.not_mem_nil, or_false] at hu; subst hu; rfl) (by omega) h63 hlen hb _ rfl ?_
  · intro j u hj
    match j, hj with
    | 0, hj =>
      simp only [List.getElem?_cons_zero, Option.some.injEq] at hj
      subst hj
      have : ad.add 0 = ad := by cases ad; rfl
      rw [this]
      exact hnew
  · intro g cap w1 hown' hgr hor _
    refine h g cap w1 ?_ hgr
    unfold OwnT
    rw [List.length_append, List.map_append]
    exact hown'
/-- does a path lie in a directory? -/
def inDir (at' : ByteArray) (x : List UInt8) : Bool := !decide (mkP x = slash) && decide (parentF (mkP x) = at')
/-- the last name of a path -/
def lastName (x : List UInt8) : List UInt8 := ((mkP x).extract (Lib.lastIndexByte (mkP x) 47 + 1).toNat (mkP x).size).data.toList
def namesIn (at' : ByteArray) (ss : List (List UInt8)) : List (List UInt8) := (ss.filter (inDir at')).map lastName
theorem namesIn_snoc (at' : ByteArray) (ss : List (List UInt8)) (x : List UInt8) : namesIn at' (ss ++ [x]) = namesIn at' ss ++ (if inDir at' x then [lastName x] else []) := by
  unfold namesIn
  rw [List.filter_append, List.map_append]
  congr 1
  cases h : inDir at' x <;> simp [h]
theorem namesIn_len (at' : ByteArray) (ss : List (List UInt8)) : (namesIn at' ss).length ≤ ss.length := by
  unfold namesIn
  rw [List.length_map]
  exact List.length_filter_le _ _
/-- the keys that have come -/
def KeysOf (F : ByteArray → Option Ent) (ss : List (List UInt8)) : Prop := ss.Nodup ∧ ∀ x : List UInt8, x ∈ ss ↔ (F (mkP x)).isSome = true

/-- the sort of texts -/
def SortsT : Prop := ∀ (blk off cap : Nat) (ss : List (List UInt8)) (w : World), Holds encStr w blk off ss.toArray → blk < w.heap.size → ss.length < 4611686018427387904 →
    Calls Tryz.prog 18 #[.slice (some ⟨blk, off, none⟩) ss.length cap] w fun e w' => e = .returned (.tuple #[]) ∧ ∃ n os, w' = grow (putRow encStr (Sort.ahead w n) blk off (ss.mergeSort fun x y => decide (x ≤ y)).toArray) os

set_option maxRecDepth 100000 in
set_option maxHeartbeats 16000000 in
theorem list_dir (hsort : SortsT) (tb g c : Nat) (F : ByteArray → Option Ent) (path at' : ByteArray) (w : World) (h : TreeAt w tb g c F) (hF : TreeIn F) (hc : c ≤ 1025) (hp : path.size ≤ 140737488355328) (hn : folF F path = .ok at') (hk : ((F at').getD Ent.zero).kind = 1) (hne : ∃ k, (F k).isSome = true ∧ inDir at' k.data.toList = true) :
    Calls Tryz.prog 6 #[.pointer (some ⟨tb, 0, none⟩), .string path] w fun e w' => (∃ ad cap ss, KeysOf F ss ∧ e = .returned (.tuple #[.slice ad (namesIn at' ss).length cap, .nilIface]) ∧ OwnT w' w.heap.size 9 (.slice ad (namesIn at' ss).length cap) (((namesIn at' ss).mergeSort fun x y => decide (x ≤ y)).map mkP)) ∧ Below w.heap.size w w' := by
  have HF : Hid (∀ wx, Below w.heap.size w wx → Calls Tryz.prog 15 #[.pointer (some ⟨tb, 0, none⟩), .string path] wx fun e w' => e = .returned (.tuple #[.string at', .nilIface]) ∧ Below wx.heap.size wx w') := Lib.hid (fun wx hb => by
    have := follow_any tb g c F path wx (h.below hb) hF.ok hp
    rw [hn] at this
    exact this)
  obtain ⟨x0, hx0, -⟩ := folF_end hF hn
  have has := (hF.ok.keys _ _ hx0).2
  have HT := Lib.hid h
  have HTI := Lib.hid hF
  have HNE := Lib.hid hne
  have HSO := Lib.hid hsort
  have HCB := Lib.hid hc
  obtain ⟨e2, he2⟩ : ∃ e2, (F at').getD Ent.zero = e2 := ⟨_, rfl⟩
  rw [he2] at hk
  have HE2 := Lib.hid he2
  have LAW := Lib.hid (Maps.string_keyed (P := Tryz.prog) (k := 9) Tryz.underlying9)
  have INVK : Hid (∀ key kl, keyOf Tryz.prog 9 key = some kl → ∃ x : List UInt8, key = encStr x) := Lib.hid (fun key kl hh => by
    obtain ⟨x, e, -, -⟩ := Maps.keyOf_str Tryz.underlying9 hh
    exact ⟨x, e⟩)
  have INVV : Hid (∀ v y, entRd v = some y → ∃ o : Ent, v = o.v) := Lib.hid (fun v y hh => by
    obtain ⟨o, e, -⟩ := entRd_inv hh
    exact ⟨o, e⟩)
  obtain ⟨D, hown, hD⟩ := h.map
  have HOWN := Lib.hid hown
  have HD : Hid (∀ x : List UInt8, x.length ≤ maxLen → Maps.has D (.string x) = (F (mkP x)).isSome) := Lib.hid (fun x hx => by
    have := (hD (mkP x) (by show x.toArray.size ≤ _; simpa using hx)).2
    exact this)
  have HGL := Lib.hid h.map.lt
  have HSZ : Hid (Maps.size D ≤ c) := Lib.hid hown.size_le
  have hfk := field_kind
  clear h hF hp hn hx0 he2 hown hD hne hsort hc
  go_enter Tryz.func6, Tryz.ntmps6
  go_wp2_with fail
  refine (HF.out w (Below.refl _ _)).mono ?_
  rintro e w2 ⟨rfl, hb2⟩
  have B2 := Lib.hid hb2
  have T2 := HT.out.below hb2
  have m0 : w2.cell? ⟨tb, 0, none⟩ = some (.map (some g)) := by
    have := cell_of_row _ _ 0 _ _ _ T2.box
    simpa using this
  have hl2 := T2.map.look (T := 57) (E := 56) Tryz.underlying9 Tryz.underlying57 (ent_zeroV w2) (k := at') (by unfold maxLen; omega)
  rw [HE2.out] at hl2
  unfold Ent.v at hl2
  rw [hk] at hl2
  have HO2 : Hid (w2.ownsMap Tryz.prog 9 entRd g c D) := Lib.hid (by
    obtain ⟨es, cl, h1, h2⟩ := HOWN.out
    exact ⟨es, cl, (hb2.block g HGL.out).trans h1, h2⟩)
  have HG2 : Hid (g < w2.heap.size) := Lib.hid (Nat.lt_of_lt_of_le HGL.out hb2.size)
  clear hb2 T2 hk
  go_wp2_with (first | (at_range; refine wpList_range_own _ rfl _ 57 rfl 9 56 LAW.out Tryz.underlying57 entRd g c D rfl HO2.out ?_; intro w0 hrg0 hg0 hs0))
  obtain ⟨r, hr⟩ : ∃ r, w2.heap.size = r := ⟨_, rfl⟩
  have B0 : Hid (Below w2.heap.size w2 w0) := Lib.hid ((Below.refl w2.heap.size w2).grown hg0 (Nat.le_refl _) (fun j hj => by cases hj))
  obtain ⟨nA, hnA⟩ : ∃ nA, Maps.size D = nA := ⟨_, rfl⟩
  rw [hnA] at hrg0
  rw [hr] at hrg0 ⊢
  have HRG0 := Lib.hid hrg0
  have HNA : Hid (nA ≤ 1025) := Lib.hid (by have := HSZ.out; have := HCB.out; omega)
  have HRE := Lib.hid hr
  clear hrg0 hg0 hs0 m0 hl2 hnA hr
  go_simp
  go_loopg [8] nA (fun f lv wr => ∃ (left : Lit → Bool) (ss : List (List UInt8)) (ad : Option Addr) (n cap : Nat), lv = .slice ad n cap ∧ Hid (n = (namesIn at' ss).length) ∧ Hid (ss.length + f ≤ nA) ∧ Hid (Collected D left ss) ∧ Hid (∀ x ∈ ss, x.length ≤ maxLen) ∧ Hid (wr.ranges Tryz.prog 9 entRd g r c D left f) ∧ Hid (OwnT wr w2.heap.size 9 (.slice ad n cap) ((namesIn at' ss).map mkP)) ∧ Hid (Below w2.heap.size w2 wr))
  case atStart => exact ⟨_, [], none, 0, 0, rfl, Lib.hid rfl, Lib.hid (by simp), Lib.hid (Collected.start D), Lib.hid (fun x hx => by cases hx), HRG0, Lib.hid (OwnT.nil _ _ _), B0⟩
  case round =>
    clear HRG0 B0
    obtain ⟨left, ss, ad, n, cap, rfl, HN, HLN, HC, HSB, HRG, HO, HB⟩ := hrel
    go_wp2_with (first | (at_next; refine wpList_next_ranges _ rfl _ rfl 9 LAW.out entRd encStr Ent.v INVK.out INVV.out g r c D left gk rfl HRG.out ?_ ?_))
    · intro hc0 hl0
      have HKS : Hid (KeysOf F ss) := Lib.hid ⟨HC.out.1, fun x => by
        constructor
        · intro hx
          rw [← HD.out x (HSB.out x hx)]
          exact ((HC.out.2 x).1 hx).1
        · intro hx
          have hkx : x.length ≤ maxLen := by
            obtain ⟨e, he⟩ := Option.isSome_iff_exists.1 hx
            have := (HTI.out.ok.keys _ _ he).2
            have h2 : (mkP x).size = x.length := by show x.toArray.size = _; simp
            unfold maxLen
            omega
          exact (HC.out.2 x).2 ⟨by rw [HD.out x hkx]; exact hx, hl0 _⟩⟩
      have hlen1 : 0 < (namesIn at' ss).length := by
        obtain ⟨k, hk1, hk2⟩ := HNE.out
        have hm : k.data.toList ∈ ss := (HKS.out.2 _).2 (by
          have : mkP k.data.toList = k := by
            apply ByteArray.ext
            apply Array.ext'
            rfl
          rw [this]
          exact hk1)
        unfold namesIn
        rw [List.length_map]
        exact List.length_pos_of_mem (List.mem_filter.2 ⟨hm, hk2⟩)
      have hrow : wr.ownsRow w2.heap.size 9 1 (.slice ad n cap) (namesIn at' ss).length ((namesIn at' ss).map encStr) := by
        have := HO.out
        unfold OwnT at this
        rw [List.length_map, List.map_map] at this
        exact this
      have hn := HN.out
      subst hn
      rcases hrow.2 with ⟨hnil, h0⟩ | ⟨gg, cap', cur, hv, hbase, hb, h1, h2, h3, h4⟩
      · omega
      · simp only [Value.slice.injEq] at hv
        obtain ⟨rfl, -, rfl⟩ := hv
        have hH : Holds encStr wr gg 0 (namesIn at' ss).toArray := holds_of_block hb (by simpa using h4)
        have hgl : gg < wr.heap.size := (Array.getElem?_eq_some_iff.1 hb).1
        have hlt2 : (namesIn at' ss).length < 4611686018427387904 := by
          have h5 := namesIn_len at' ss
          have h6 := HLN.out
          have h7 := HNA.out
          omega
        have hcall := Lib.hid (HSO.out gg 0 cap (namesIn at' ss) wr hH hgl hlt2)
        have HFIN : Hid (∀ nn os, OwnT (grow (putRow encStr (Sort.ahead wr nn) gg 0 ((namesIn at' ss).mergeSort fun x y => decide (x ≤ y)).toArray) os) w2.heap.size 9 (.slice (some ⟨gg, 0, none⟩) (namesIn at' ss).length cap) (((namesIn at' ss).mergeSort fun x y => decide (x ≤ y)).map mkP) ∧ Below w.heap.size w (grow (putRow encStr (Sort.ahead wr nn) gg 0 ((namesIn at' ss).mergeSort fun x y => decide (x ≤ y)).toArray) os)) := Lib.hid (fun nn os => by
          refine ⟨?_, ?_⟩
          · have := ownsRow_sorted (n := nn) (os := os) (ss := namesIn at' ss) (ts := (namesIn at' ss).mergeSort fun x y => decide (x ≤ y)) (by simp) hbase hb h1 h2 h3
            unfold OwnT
            rw [List.length_map, List.map_map, List.length_mergeSort]
            exact this
          · exact (B2.out.trans (HB.out.mono B2.out.size)).grown (grownBy_sorted _) (Nat.le_trans B2.out.size HB.out.size) (fun j hj => by cases hj; exact Nat.le_trans B2.out.size hbase))
        obtain ⟨L, hL⟩ : ∃ L, (namesIn at' ss).length = L := ⟨_, rfl⟩
        have HLL := Lib.hid hL
        rw [hL] at hcall ⊢
        clear hc0 hl0 hlen1 hrow hb h1 h2 h3 h4 hH hgl hlt2 hbase hL
        go_wp2_with fail
        refine hcall.out.mono ?_
        rintro e w9 ⟨rfl, nn, os, rfl⟩
        go_wp2_with fail
        go_ret2
        refine ⟨⟨some ⟨gg, 0, none⟩, cap, ss, HKS.out, by rw [HLL.out]; rfl, ?_⟩, (HFIN.out nn os).2⟩
        rw [HLL.out]
        have := (HFIN.out nn os).1
        rw [HLL.out] at this
        exact this.mono B2.out.size
    · intro x o kl yd yp w3 cnt3 hkey hlk hv hat hrg3 hlt3 hg3 hs3 hen
      obtain ⟨x', ex, rfl, hxl⟩ := Maps.keyOf_str Tryz.underlying9 hkey
      obtain rfl : x = x' := encStr_inj ex
      have hhas : (F (mkP x)).isSome = true := by rw [← HD.out x hxl]; exact Maps.has_true_of_atKey hat
      obtain ⟨fe, hfe⟩ := Option.isSome_iff_exists.1 hhas
      have hks := HTI.out.ok.keys _ _ hfe
      have HKS := Lib.hid hks
      have B3 : Hid (Below w2.heap.size w2 w3) := Lib.hid (HB.out.grown hg3 HB.out.size (fun j hj => by cases hj; exact Nat.le_of_eq HRE.out))
      have O3 : Hid (OwnT w3 w2.heap.size 9 (.slice ad n cap) ((namesIn at' ss).map mkP)) := Lib.hid (World.ownsRow.kept HO.out hg3 (Or.inr (row_ne_iter HO.out HRG.out).symm))
      have HRG3 := Lib.hid hrg3
      have HC3 := Lib.hid (HC.out.step hlk hat)
      have HSB3 : Hid (∀ y ∈ ss ++ [x], y.length ≤ maxLen) := Lib.hid (fun y hy => by
        rcases List.mem_append.1 hy with h | h
        · exact HSB.out y h
        · rw [List.mem_singleton] at h; rw [h]; exact hxl)
      have HLT3 := Lib.hid hlt3
      have HSN := Lib.hid (namesIn_snoc at' ss x)
      have hsl : (mkP x).size = x.length := by show x.toArray.size = _; simp
      unfold encStr at hen ⊢
      have hmk : (⟨x.toArray⟩ : ByteArray) = mkP x := rfl
      rw [hmk] at hen ⊢
      clear ex hkey hlk hv hat hrg3 hlt3 hg3 hs3 hfe hhas hxl hks
      by_cases hsl0 : mkP x = slash
      · have HIN : Hid (namesIn at' (ss ++ [x]) = namesIn at' ss) := Lib.hid (by
          rw [HSN.out]
          have : inDir at' x = false := by unfold inDir; rw [hsl0]; rfl
          rw [this]
          simp)
        rw [hsl0] at hen ⊢
        unfold slash at hen ⊢
        clear hsl0 hmk hsl
        unfold Ent.v at hen ⊢
        go_wp2_with fail
        go_roundg cnt3
        case measure => exact HLT3.out
        case rel => exact ⟨_, ss ++ [x], ad, n, cap, rfl, Lib.hid (by rw [HIN.out]; exact HN.out), Lib.hid (by rw [List.length_append]; have := HLN.out; have := HLT3.out; simp; omega), HC3, HSB3, HRG3, Lib.hid (by rw [HIN.out]; exact O3.out), B3⟩
      · have hne2 : ((mkP x).toList == [47]) = false := by
          have := text_ne hsl0
          rwa [show slash.toList = [47] by rw [ByteArray.toList_eq]; rfl] at this
        have HPA := Lib.hid (parent_any (mkP x) w3 (by have := HKS.out; omega) (by have := HKS.out; omega))
        by_cases hpd : parentF (mkP x) = at'
        · have HIN : Hid (namesIn at' (ss ++ [x]) = namesIn at' ss ++ [lastName x]) := Lib.hid (by
            rw [HSN.out]
            have : inDir at' x = true := by unfold inDir; rw [decide_eq_false hsl0, decide_eq_true hpd]; rfl
            rw [this]
            rfl)
          rw [hpd] at HPA
          have HLI := Lib.hid ((Tryz.strings_LastIndexByte (mkP x) 47 (by have := HKS.out; omega) w3).mono (fun e w' h => (⟨h.1, h.2.symm⟩ : _ ∧ w3 = w')))
          obtain ⟨li, hli⟩ : ∃ li, Lib.lastIndexByte (mkP x) 47 = li := ⟨_, rfl⟩
          rw [hli] at HLI
          obtain ⟨j, hj, hj2⟩ : ∃ j : Nat, li + 1 = (j : Int) ∧ j ≤ (mkP x).size := by
            rcases Lib.lastIndexByte_spec (mkP x) 47 with ⟨h2, -⟩ | ⟨i, hi, h2, -, -⟩
            · exact ⟨0, by rw [← hli, h2]; rfl, Nat.zero_le _⟩
            · exact ⟨i + 1, by rw [← hli, h2]; omega, hi⟩
          have HLN2 : Hid (mkP (lastName x) = (mkP x).extract j (mkP x).size) := Lib.hid (by
            unfold lastName
            rw [hli, hj]
            rfl)
          generalize mkP x = kx at *
          have hw1 : IntKind.i64.wrap (li + 1) = (j : Int) := by rw [IntKind.wrap_i64, hj]; have := HKS.out; omega
          have j0 : (0 : Int) ≤ (j : Int) := by omega
          have j1 : (j : Int) ≤ (kx.size : Int) := by omega
          have HNL : Hid ((namesIn at' ss).length = n ∧ n + 1 ≤ 1025) := Lib.hid ⟨HN.out.symm, by have h5 := namesIn_len at' ss; have := HN.out; have := HLN.out; have := HNA.out; have := HLT3.out; omega⟩
          have OA : Hid (OwnT (w3.alloc (.cells #[.string (kx.extract j kx.size)] 9)) w2.heap.size 9 (.slice ad n cap) ((namesIn at' ss).map mkP)) := Lib.hid (World.ownsRow.alloc O3.out _)
          have RA := Lib.hid (HRG3.out.alloc (.cells #[.string (kx.extract j kx.size)] 9))
          have BA : Hid (Below w2.heap.size w2 (w3.alloc (.cells #[.string (kx.extract j kx.size)] 9))) := Lib.hid (B3.out.alloc B3.out.size _)
          have HNW : Hid ((w3.alloc (.cells #[.string (kx.extract j kx.size)] 9)).cell? ⟨w3.heap.size, 0, none⟩ = some (.string (kx.extract j kx.size))) := Lib.hid (by
            rw [World.cell?_alloc_new]
            rfl)
          have hw2 : wrap64 (li + 1) = (j : Int) := by rw [hj, IntWalk.wrap64_in _ ⟨by omega, by have := HKS.out; omega⟩]
          clear hsl0 hmk hpd hli hj hj2 hsl
          unfold Ent.v at hen ⊢
          go_wp2_with fail
          refine HPA.out.mono ?_
          rintro e w' ⟨rfl, rfl⟩
          go_wp2_with fail
          refine HLI.out.mono ?_
          rintro e w' ⟨rfl, rfl⟩
          go_wp2_with (at_builtin; go_loud (refine wpList_name_g rfl (.tmp 45) (.tmp 51) texts_t text_info rfl w2.heap.size (.slice ad n cap) ((namesIn at' ss).map mkP) n ⟨w3.heap.size, 0, none⟩ 1 (kx.extract j kx.size) rfl rfl HNW.out (by rw [List.length_map]; exact HNL.out.1) OA.out (by have := HNL.out.2; unfold maxLen; omega) (by have := HNL.out.2; omega) BA.out.size ?_); intro g7 c7 w7 ho7 hg7; have HO7 := Lib.hid ho7; have HG7 := Lib.hid hg7; clear ho7 hg7)
          have HRG7 := Lib.hid (RA.out.kept HG7.out (row_ne_low OA.out HG2.out) (row_ne_iter OA.out RA.out))
          have B7 : Hid (Below w2.heap.size w2 w7) := Lib.hid (BA.out.grown HG7.out BA.out.size (fun j hj => (World.ownsRow.lt OA.out j hj).1))
          have O7 : Hid (OwnT w7 w2.heap.size 9 (.slice (some ⟨g7, 0, none⟩) (n + 1) c7) ((namesIn at' (ss ++ [x])).map mkP)) := Lib.hid (by
            rw [HIN.out, List.map_append, List.map_cons, List.map_nil, HLN2.out]
            exact HO7.out)
          go_roundg cnt3
          case measure => exact HLT3.out
          case rel => exact ⟨_, ss ++ [x], some ⟨g7, 0, none⟩, n + 1, c7, rfl, Lib.hid (by rw [HIN.out, List.length_append, ← HN.out]; rfl), Lib.hid (by rw [List.length_append]; have := HLN.out; have := HLT3.out; simp; omega), HC3, HSB3, HRG7, O7, B7⟩
        · have HIN : Hid (namesIn at' (ss ++ [x]) = namesIn at' ss) := Lib.hid (by
            rw [HSN.out]
            have : inDir at' x = false := by unfold inDir; rw [decide_eq_false hpd, Bool.and_false]
            rw [this]
            simp)
          have hne3 := text_ne hpd
          generalize parentF (mkP x) = pd at *
          generalize mkP x = kx at *
          clear hsl0 hmk hpd hsl
          unfold Ent.v at hen ⊢
          go_wp2_with fail
          refine HPA.out.mono ?_
          rintro e w' ⟨rfl, rfl⟩
          go_wp2_with fail
          go_roundg cnt3
          case measure => exact HLT3.out
          case rel => exact ⟨_, ss ++ [x], ad, n, cap, rfl, Lib.hid (by rw [HIN.out]; exact HN.out), Lib.hid (by rw [List.length_append]; have := HLN.out; have := HLT3.out; simp; omega), HC3, HSB3, HRG3, Lib.hid (by rw [HIN.out]; exact O3.out), B3⟩
end Go.Proofs.YtcabpidbdnlomaaGreatDoor
