/- Layer 14: a tree of the nodes that can be, of both kinds, or none. -/
import Derived.Test.YtppeapafnnanbaaDoorSearchFind
import Derived.Test.YtppeapafnnanbaaDoorRefNew
namespace Go.Proofs.YtppeapafnnanbaaDoor
open Go.RowKit
set_option linter.unusedVariables false
set_option linter.unusedSimpArgs false

/-- what a block shares, by what it holds -/
def sharesOf (w : World) (D : Nat → List Nat) : Shares := fun sb => match w.heap[sb]? with
  | some (.cells cs _ _) => (match cs.toList with
    | [.int _ i, _, .bool su] => (i, su, D i.toNat)
    | _ => (0, false, []))
  | _ => (0, false, [])
theorem shAt_of {w : World} {B : Nat} {L : List Nd} {es : List Ent} {D : Nat → List Nat} (hl : Laid L es) (hs : ShL w B L es D) (hD : ∀ i, (hi : i < L.length) → (D i).length = L[i].dn ∧ L[i].dn ≤ 140737488355328) : ShAt w (treeE L es) (sharesOf w D) := by
  intro k x hx h0
  obtain ⟨i, h1, h2, h3, h4⟩ := hl.shared k x hx h0
  obtain ⟨sb, ad, c, e1, -, e2, e3⟩ := hs i h1 h2 h3
  have hS : sharesOf w D sb = ((i : Int), L[i].su, D i) := by
    unfold sharesOf
    rw [e2]
    rfl
  obtain ⟨d1, d2⟩ := hD i h2
  obtain ⟨a1, a2, a3⟩ := e3.at
  refine ⟨sb, ad, c, h4.symm.trans e1, ?_, ?_, ?_, ?_⟩
  · rw [hS]; simp only []; rw [d1]; exact e2
  · rw [hS]; exact a2
  · rw [hS]; simp only []; omega
  · rw [hS]
    simp only []
    intro hh
    obtain ⟨b1, b2⟩ := a3 hh
    rw [toI_length] at b1
    exact ⟨b1, b2⟩
/-- what tree answers -/
def TreePost (L : List Nd) (e : Ending) (w' : World) : Prop :=
  e = .returned (.tuple #[.pointer none, .pointer none]) ∨
  ∃ tb gm c rb F S, e = .returned (.tuple #[.pointer (some ⟨tb, 0, none⟩), .pointer (some ⟨rb, 0, none⟩)]) ∧ TreeAt w' tb gm c F ∧ ShAt w' F S ∧ TreeIn F

set_option maxRecDepth 100000 in
set_option maxHeartbeats 8000000 in
theorem tree_any (a : Option Addr) (n cap : Nat) (L : List Nd) (D : Nat → List Nat) (w : World) (hr : NdRow w a L) (hn : L.length = n) (hnl : n ≤ 140737488351232) (hD : ∀ i, (hi : i < L.length) → NdOk w L[i] (D i)) :
    Calls Tryd.prog 5 #[.slice a n cap] w fun e w' => TreePost L e w' ∧ Below w.heap.size w w' := by
  have HN := Lib.hid (new_any a n cap L D w hr hn hnl hD)
  have HRN : Hid (∀ wx, Below w.heap.size w wx → Calls Tryd.prog 13 #[.slice a n cap] wx fun e w' => ((∃ rb, e = .returned (.tuple #[.pointer (some ⟨rb, 0, none⟩), .int .i64 0, .int .i64 0])) ∨ ∃ c k : Int, e = .returned (.tuple #[.pointer none, .int .i64 c, .int .i64 k]) ∧ c ≠ 0) ∧ Below wx.heap.size wx w') := Lib.hid (fun wx hb => (rnew_any a n cap L D wx (hr.below hb) hn hnl (fun i hi => (hD i hi).below hb)).mono (fun e w' h => by
    refine ⟨?_, h.2⟩
    rcases h.1 with ⟨tb, ad, c, L', he, -⟩ | ⟨tb, ad, c, L', wx', hk, he, -, hne⟩ | ⟨-, he⟩
    · exact .inl ⟨tb, he⟩
    · exact .inr ⟨_, _, he, by omega⟩
    · exact .inr ⟨_, _, he, by omega⟩))
  have HDL : Hid (∀ i, (hi : i < L.length) → (D i).length = L[i].dn ∧ L[i].dn ≤ 140737488355328) := Lib.hid (fun i hi => ⟨(hD i hi).len, (hD i hi).most⟩)
  clear hr hn hnl hD
  go_enter Tryd.func5, Tryd.ntmps5
  go_wp2_with fail
  refine HN.out.mono ?_
  rintro e w2 ⟨hp, hb2⟩
  have B2 := Lib.hid hb2
  rcases hp with ⟨tb, gm, es, rfl, hlen, hla, hat, hsh⟩ | ⟨es, sp, hk, rfl, -⟩ | ⟨hk, rfl⟩
  · have HST : Hid (TreeAt w2 tb gm (L.length + 1) (treeE L es) ∧ ShAt w2 (treeE L es) (sharesOf w2 D) ∧ TreeIn (treeE L es)) := Lib.hid ⟨hat, shAt_of hla hsh HDL.out, hla.treeIn⟩
    clear hb2 hlen hla hat hsh
    go_wp2_with fail
    refine (HRN.out w2 B2.out).mono ?_
    rintro e w3 ⟨hp, hb3⟩
    have B3 := Lib.hid (bstep B2.out hb3)
    have HST3 : Hid (TreeAt w3 tb gm (L.length + 1) (treeE L es) ∧ ShAt w3 (treeE L es) (sharesOf w2 D) ∧ TreeIn (treeE L es)) := Lib.hid ⟨HST.out.1.below hb3, HST.out.2.1.below hb3, HST.out.2.2⟩
    clear hb3
    rcases hp with ⟨rb, rfl⟩ | ⟨c, k, rfl, hc⟩
    · go_wp2_with fail
      go_ret2
      exact ⟨.inr ⟨tb, gm, _, rb, _, _, rfl, HST3.out⟩, B3.out⟩
    · have tc : (c != 0) = true := bne_iff_ne.2 hc
      clear hc
      go_wp2_with fail
      go_ret2
      exact ⟨.inl rfl, B3.out⟩
  · clear hb2
    go_wp2_with fail
    refine (HRN.out w2 B2.out).mono ?_
    rintro e w3 ⟨hp, hb3⟩
    have B3 := Lib.hid (bstep B2.out hb3)
    clear hb3
    rcases hp with ⟨rb, rfl⟩ | ⟨c, k, rfl, hc⟩
    · go_wp2_with fail
      go_ret2
      exact ⟨.inl rfl, B3.out⟩
    · clear hc
      go_wp2_with fail
      go_ret2
      exact ⟨.inl rfl, B3.out⟩
  · clear hb2
    rw [errV_yes (by omega)]
    go_wp2_with fail
    refine (HRN.out w2 B2.out).mono ?_
    rintro e w3 ⟨hp, hb3⟩
    have B3 := Lib.hid (bstep B2.out hb3)
    clear hb3
    rcases hp with ⟨rb, rfl⟩ | ⟨c, k, rfl, hc⟩
    · go_wp2_with fail
      go_ret2
      exact ⟨.inl rfl, B3.out⟩
    · clear hc
      go_wp2_with fail
      go_ret2
      exact ⟨.inl rfl, B3.out⟩
end Go.Proofs.YtppeapafnnanbaaDoor
/- Layer 14 as mathematics: one slash more ahead of a name changes nothing; the paths that are sought are those of the directories. -/
namespace Go.Proofs.YtppeapafnnanbaaDoor
open Go.RowKit
set_option linter.unusedVariables false
set_option linter.unusedSimpArgs false

theorem goFol_fuel {F : ByteArray → Option Ent} (hF : TreeOk F) : ∀ (g g' : Nat) (at' : ByteArray) (L : List ByteArray) (hops : Nat), L.length + (8 - hops) * 5000 + 1 ≤ g → L.length + (8 - hops) * 5000 + 1 ≤ g' → hops ≤ 8 → goFol F g at' L hops = goFol F g' at' L hops
  | g, g', at', [], hops, hg, hg', hh => by rw [goFol_nil, goFol_nil]
  | 0, g', at', p :: ps, hops, hg, hg', hh => by omega
  | g + 1, 0, at', p :: ps, hops, hg, hg', hh => by omega
  | g + 1, g' + 1, at', p :: ps, hops, hg, hg', hh => by
    simp only [List.length_cons] at hg hg'
    rw [goFol_cons, goFol_cons]
    split
    · rfl
    · split
      · exact goFol_fuel hF g g' _ _ _ (by omega) (by omega) hh
      · split
        · exact goFol_fuel hF g g' _ _ _ (by omega) (by omega) hh
        · split
          · rfl
          · rename_i e he
            split
            · exact goFol_fuel hF g g' _ _ _ (by omega) (by omega) hh
            · rename_i hk
              have hk2 : e.kind = 2 := by simpa using hk
              have hs := hF.links _ _ he hk2
              have h1 := slashF_le e.to
              have h2 := slashF_le (restF e.to)
              have h3 := restF_size e.to
              split
              · rfl
              · split
                · exact goFol_fuel hF g g' _ _ _ (by rw [List.length_append]; omega) (by rw [List.length_append]; omega) (by omega)
                · exact goFol_fuel hF g g' _ _ _ (by rw [List.length_append]; omega) (by rw [List.length_append]; omega) (by omega)
theorem indexB_slash (s : ByteArray) : Lib.indexB s slash = Lib.indexByte s.data.toList 47 := Lib.index_one _ _
theorem slashF_none {s : ByteArray} (h : Lib.indexByte s.data.toList 47 < 0) : slashF s = [s] := by
  have hge := Lib.indexByte_ge s.data.toList 47
  unfold slashF
  exact Lib.splitB_miss _ _ _ _ (by rw [indexB_slash]; omega)
theorem slashF_head (s : ByteArray) : slashF (slash ++ s) = ⟨#[]⟩ :: slashF s := by
  have hix : Lib.indexB (slash ++ s) slash = ((0 : Nat) : Int) := by
    rw [indexB_slash]
    have : (slash ++ s).data.toList = 47 :: s.data.toList := by
      rw [ByteArray.data_append]
      simp [slash]
    rw [this]
    rfl
  have hsz : (slash ++ s).size = s.size + 1 := by rw [ByteArray.size_append, slash_one]; omega
  have e1 : (slash ++ s).extract (0 + slash.size) (slash ++ s).size = s := by
    rw [show 0 + slash.size = 1 from rfl, hsz]
    apply ByteArray.ext
    apply Array.ext'
    simp [ByteArray.data_extract, ByteArray.data_append, show slash.data = #[47] from rfl]
    exact List.take_of_length_le (by simp)
  have e0 : (slash ++ s).extract 0 (0 + 0) = ⟨#[]⟩ := by
    apply ByteArray.ext
    apply Array.ext'
    simp [ByteArray.data_extract]
  unfold slashF
  rw [Lib.countB_hit (slash ++ s) slash 0 (by decide) hix, Nat.add_comm 1, Lib.splitB_hit _ _ _ _ 0 hix, e1, e0]
theorem restF_head (s : ByteArray) : restF (slash ++ s) = s := by
  unfold restF
  have hsz : (slash ++ s).size = s.size + 1 := by rw [ByteArray.size_append, slash_one]; omega
  rw [hsz]
  apply ByteArray.ext
  apply Array.ext'
  simp [ByteArray.data_extract, ByteArray.data_append, show slash.data = #[47] from rfl]
  exact List.take_of_length_le (by simp)
theorem head_bang (s : ByteArray) : (slash ++ s).get! 0 = 47 := by
  rw [first_bang _ (by rw [ByteArray.size_append, slash_one]; omega)]
  rw [ByteArray.getElem_append_left (by decide : 0 < slash.size)]
  rfl
theorem zero_head (s : ByteArray) : Lib.indexByte (slash ++ s).data.toList 0 < 0 ↔ Lib.indexByte s.data.toList 0 < 0 := by
  have : (slash ++ s).data.toList = 47 :: s.data.toList := by
    rw [ByteArray.data_append]
    simp [slash]
  rw [this]
  have hge := Lib.indexByte_ge s.data.toList 0
  have hu : Lib.indexByte (47 :: s.data.toList) 0 = if Lib.indexByte s.data.toList 0 == -1 then -1 else Lib.indexByte s.data.toList 0 + 1 := rfl
  rw [hu]
  generalize Lib.indexByte s.data.toList 0 = x at *
  split
  · rename_i h
    have := beq_iff_eq.1 h
    constructor <;> intro _ <;> omega
  · rename_i h
    have : ¬ x = -1 := fun e => h (beq_iff_eq.2 e)
    constructor <;> intro _ <;> omega
theorem within_head {s : ByteArray} {m : Nat} (h : withinF (slash ++ (slash ++ s)) m = true) : withinF (slash ++ s) m = true := by
  unfold withinF at *
  simp only [Bool.and_eq_true, decide_eq_true_eq] at *
  have e1 : (slash ++ (slash ++ s)).size = (slash ++ s).size + 1 := by rw [ByteArray.size_append, slash_one]; omega
  have e2 : (slash ++ s).size = s.size + 1 := by rw [ByteArray.size_append, slash_one]; omega
  exact ⟨by omega, by omega, (zero_head _).1 h.2.2⟩
theorem within_head' {s : ByteArray} {m : Nat} (h : withinF (slash ++ s) m = true) (hs : (slash ++ s).size + 1 ≤ m) : withinF (slash ++ (slash ++ s)) m = true := by
  unfold withinF at *
  simp only [Bool.and_eq_true, decide_eq_true_eq] at *
  have e1 : (slash ++ (slash ++ s)).size = (slash ++ s).size + 1 := by rw [ByteArray.size_append, slash_one]; omega
  exact ⟨by omega, by omega, (zero_head _).2 h.2.2⟩
/-- a name without a slash, found in the root: with one slash more it is found, too -/
theorem folF_slash {F : ByteArray → Option Ent} (hF : TreeIn F) {name : ByteArray} (hno : Lib.indexByte name.data.toList 47 < 0) (p : ByteArray) : folF F (slash ++ name) = .ok p ↔ folF F (slash ++ (slash ++ name)) = .ok p := by
  obtain ⟨r, hr, hr1⟩ := hF.ok.root
  have hk : ((F slash).getD Ent.zero).kind = 1 := by rw [hr]; exact hr1
  have step : goFol F 50000 slash (slashF (restF (slash ++ (slash ++ name)))) 0 = goFol F 50000 slash (slashF (restF (slash ++ name))) 0 := by
    rw [restF_head, restF_head, slashF_head, slashF_none hno, goFol_cons, if_neg (by rw [hk]; simp), if_pos (.inl rfl)]
    exact goFol_fuel hF.ok _ _ _ _ _ (by simp) (by simp) (by omega)
  constructor
  · intro h
    unfold folF at h ⊢
    split at h
    · rename_i hw
      by_cases hs : (slash ++ name).size + 1 ≤ 4096
      · rw [if_pos ⟨within_head' hw.1 hs, head_bang _⟩, step]
        exact h
      · exfalso
        have hns : 255 < name.size := by rw [ByteArray.size_append, slash_one] at hs; omega
        rw [restF_head, slashF_none hno, goFol_cons, if_neg (by rw [hk]; simp), if_neg (by
          rintro (e | e)
          · rw [e] at hns; simp [ByteArray.size] at hns
          · rw [e] at hns; simp [ByteArray.size] at hns), if_neg (by
          intro e
          rw [e] at hns; simp [ByteArray.size] at hns)] at h
        have hj : joinF slash name = slash ++ name := by unfold joinF; rw [if_pos rfl]
        rw [hj] at h
        cases hf : F (slash ++ name) with
        | none => rw [hf] at h; cases h
        | some e =>
          have hc := hF.cln _ _ hf (by
            intro e
            have := congrArg ByteArray.size e
            rw [ByteArray.size_append, slash_one] at this
            omega)
          unfold cleanF at hc
          simp only [Bool.and_eq_true] at hc
          rw [restF_head, slashF_none hno] at hc
          have h2 := hc.2.2
          simp only [List.all_cons, List.all_nil, Bool.and_true] at h2
          have := vnameF_size h2
          omega
    · cases h
  · intro h
    unfold folF at h ⊢
    split at h
    · rename_i hw
      rw [if_pos ⟨within_head hw.1, head_bang _⟩, ← step]
      exact h
    · cases h
/-- the path that the law seeks, of a directory -/
def seekF (name d : ByteArray) : ByteArray := if ((d ++ slash) ++ name).get! 0 = 47 then (d ++ slash) ++ name else slash ++ ((d ++ slash) ++ name)
theorem openF_ok {F : ByteArray → Option Ent} {S : Shares} {a b : ByteArray} (h : ∀ p, folF F a = .ok p ↔ folF F b = .ok p) (v : ByteArray × Int × Bool × List Nat) : openF F S a = .ok v ↔ openF F S b = .ok v := by
  unfold openF
  cases ha : folF F a with
  | ok p => rw [(h p).1 ha]
  | error n =>
    cases hb : folF F b with
    | ok p => rw [(h p).2 hb] at ha; cases ha
    | error m => simp
theorem prefix_slash (p : ByteArray) (h : 0 < p.size) : Lib.hasPrefix p.data.toList [47] = decide (p.get! 0 = 47) := by
  rw [first_bang p h]
  obtain ⟨⟨l⟩⟩ := p
  cases l with
  | nil => exact absurd h (by decide)
  | cons c l =>
    show ([47] : List UInt8).isPrefixOf (c :: l) = decide (c = 47)
    simp only [List.isPrefixOf, Bool.and_true]
    rw [Bool.eq_iff_iff, beq_iff_eq, decide_eq_true_eq]
    exact eq_comm
theorem append_bang (a b : ByteArray) (h : 0 < a.size) : (a ++ b).get! 0 = a.get! 0 := by
  rw [first_bang a h, first_bang (a ++ b) (by rw [ByteArray.size_append]; omega)]
  exact ByteArray.getElem_append_left h
theorem seek_same {F : ByteArray → Option Ent} (hF : TreeIn F) (S : Shares) {name : ByteArray} (hno : Lib.indexByte name.data.toList 47 < 0) (d : ByteArray) (v : ByteArray × Int × Bool × List Nat) : openF F S (seekF name d) = .ok v ↔ openF F S (pathF name d) = .ok v := by
  by_cases hd : d = ⟨#[]⟩
  · subst hd
    have e1 : seekF name ⟨#[]⟩ = slash ++ name := by
      unfold seekF
      have : ((⟨#[]⟩ : ByteArray) ++ slash) = slash := by decide
      rw [this, if_pos (head_bang _)]
    have e2 : pathF name ⟨#[]⟩ = slash ++ (slash ++ name) := by
      unfold pathF rootedF
      rw [if_neg (by decide)]
      have : ((⟨#[47]⟩ : ByteArray) ++ ⟨#[]⟩) = slash := by decide
      rw [this]
      exact ByteArray.append_assoc
    rw [e1, e2]
    exact openF_ok (folF_slash hF hno) v
  · have h0 : 0 < d.size := by
      rcases Nat.eq_zero_or_pos d.size with h | h
      · exfalso
        apply hd
        apply ByteArray.ext
        exact Array.eq_empty_of_size_eq_zero h
      · exact h
    have e1 : seekF name d = pathF name d := by
      unfold seekF pathF rootedF
      rw [prefix_slash d h0, append_bang (d ++ slash) name (by rw [ByteArray.size_append]; omega), append_bang d slash h0]
      by_cases h7 : d.get! 0 = 47
      · rw [if_pos h7, if_pos (decide_eq_true h7)]
        rfl
      · rw [if_neg h7, if_neg (by rw [decide_eq_false h7]; simp)]
        show slash ++ ((d ++ slash) ++ name) = ((slash ++ d) ++ slash) ++ name
        rw [ByteArray.append_assoc, ByteArray.append_assoc, ByteArray.append_assoc]
    rw [e1]
end Go.Proofs.YtppeapafnnanbaaDoor
