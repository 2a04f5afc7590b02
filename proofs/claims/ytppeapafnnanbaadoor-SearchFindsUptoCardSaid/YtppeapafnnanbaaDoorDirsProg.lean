/- Layer 14: the directories, by the program alone, whoever asks; in secure mode whatever the environment. How long each is. -/
import Derived.Test.YtppeapafnnanbaaDoorDirsOK
import Derived.Test.YtppeapafnnanbaaDoorDirsN
import Derived.Test.YtppeapafnnanbaaDoorDirsR
namespace Go.Proofs.YtppeapafnnanbaaDoor
open Go.RowKit
set_option linter.unusedVariables false
set_option linter.unusedSimpArgs false

def DirAns (R : List ByteArray) (w : World) (e : Ending) (w' : World) : Prop := (∃ ad c, e = .returned (.slice ad R.length c) ∧ TRow w' ad R) ∧ Below w.heap.size w w'
theorem addF_cut_len (s : Bool) (o : ByteArray) (acc : List ByteArray) (p : Nat → Bool) (t : ByteArray) (K : Nat) (h : acc.length ≤ K) (ht : t.size ≤ 1048576) : (addF s o acc (cutF p t.data.toList)).length ≤ K + 1048577 := by
  have h1 := addF_len s o (cutF p t.data.toList) acc
  have h2 := cut_len p t
  omega
theorem none_size : (⟨#[]⟩ : ByteArray).size ≤ 1048576 := by decide
theorem defaults_size : defaultsF.size ≤ 1048576 := by decide
structure Sizes (o : OT) : Prop where
  p : o.path.size ≤ 1048576
  r : o.rpath.size ≤ 1048576
  u : o.runpath.size ≤ 1048576
/-- every text of a list is short -/
def Short (R : List ByteArray) : Prop := ∀ d ∈ R, d.size ≤ 2199023255552
theorem short_nil : Short [] := fun d h => by cases h
theorem addStep_short (s : Bool) (o : ByteArray) (acc : List ByteArray) (part : List UInt8) (h : Short acc) (ho : o.size ≤ 1048576) (hp : part.length ≤ 1048576) : Short (addStep s o acc part) := by
  unfold addStep
  split
  · exact h
  · intro d hd
    rcases List.mem_append.1 hd with h1 | h1
    · exact h d h1
    · rw [List.mem_singleton] at h1
      subst h1
      unfold dirOf
      have hs : ∀ l : List UInt8, (mkT l).size = l.length := fun l => by show l.toArray.size = _; simp
      split
      · rw [hs]; decide
      · rw [hs]
        have h2 := expF_len (mkT part) o
        have h3 : (mkT part).size * (o.size + 8) ≤ 1048576 * (1048576 + 8) := Nat.mul_le_mul (by rw [hs]; exact hp) (by omega)
        omega
theorem fold_short (s : Bool) (o : ByteArray) (ho : o.size ≤ 1048576) : ∀ (parts : List (List UInt8)) (acc : List ByteArray), Short acc → (∀ l ∈ parts, l.length ≤ 1048576) → Short (addF s o acc parts)
  | [], acc, h, _ => h
  | x :: parts, acc, h, hp => fold_short s o ho parts _ (addStep_short s o acc x h ho (hp x (by simp))) (fun l hl => hp l (by simp [hl]))
theorem addF_short (s : Bool) (o : ByteArray) (acc : List ByteArray) (p : Nat → Bool) (t : ByteArray) (h : Short acc) (ho : o.size ≤ 1048576) (ht : t.size ≤ 1048576) : Short (addF s o acc (cutF p t.data.toList)) :=
  fold_short s o ho _ _ h (fun l hl => by
    have h4 := cutGo_mem p t.data.toList [] l hl
    have e : t.data.toList.length = t.size := by simp
    simp only [List.length_nil, Nat.zero_add] at h4
    omega)
theorem chainFold_short (s : Bool) : ∀ (C : List OT) (l : List ByteArray), Short l → (∀ o ∈ C, Sizes o) → Short (C.foldl (chainStep s) l)
  | [], l, h, _ => h
  | o :: C, l, h, hs => chainFold_short s C _ (by
      unfold chainStep
      split
      · exact addF_short s _ _ _ _ h (hs o (by simp)).p (hs o (by simp)).r
      · exact h) (fun x hx => hs x (by simp [hx]))
theorem chainF_short (s : Bool) (C : List OT) (hs : ∀ o ∈ C, Sizes o) : Short (chainF s C) := chainFold_short s C [] short_nil hs

/-- what the program answers -/
def Told (v : Value) (w : World) (R : List ByteArray) : Prop :=
  ∀ w1, Below w.heap.size w w1 → Calls Tryd.prog 10 #[v] w1 (DirAns R w1)
/-- in secure mode: whatever the name and the environment -/
theorem dirs_secure (ca : Option Addr) (n cc : Nat) (C : List OT) (w : World) (hC : CRow w ca C) (hn : C.length = n) (hnl : n ≤ 200000) (hnc : n ≤ cc) (hcn : ca = none → cc = 0) (hs : ∀ o ∈ C, Sizes o) :
    ∃ R, R.length ≤ 1099511627776 ∧ Short R ∧ ∀ name env : ByteArray, Told (.agg #[.string name, .slice ca n cc, .string env, .bool true]) w R := by
  have k0 : ([] : List ByteArray).length ≤ 549755813888 := by decide
  cases n with
  | zero =>
    refine ⟨addF true ⟨#[]⟩ [] (cutF colonP defaultsF.data.toList), ?_, addF_short _ _ _ _ _ short_nil none_size defaults_size, fun name env w1 _ => ?_⟩
    · have := addF_cut_len true ⟨#[]⟩ [] colonP defaultsF 0 (Nat.le_refl _) defaults_size; omega
    · exact dirs_ES name env ca cc w1 (ok_small _ _ _ _ defaults_size none_size k0)
  | succ m =>
    obtain ⟨b, off, rfl, -, -⟩ := hC 0 (by omega)
    have s0 := hs (C[0]'(by omega)) (List.getElem_mem _)
    cases h0 : (C[0]'(by omega)).hasRun with
    | true =>
      have h1 := addF_cut_len true (C[0]'(by omega)).path [] colonP (C[0]'(by omega)).runpath 0 (Nat.le_refl _) s0.u
      refine ⟨addF true ⟨#[]⟩ (addF true (C[0]'(by omega)).path [] (cutF colonP (C[0]'(by omega)).runpath.data.toList)) (cutF colonP defaultsF.data.toList), ?_, addF_short _ _ _ _ _ (addF_short _ _ _ _ _ short_nil s0.p s0.u) none_size defaults_size, fun name env w1 hb => ?_⟩
      · have := addF_cut_len true ⟨#[]⟩ _ colonP defaultsF _ h1 defaults_size; omega
      · exact dirs_RS name env b off m cc C w1 (hC.below hb) hn (by omega) hnc h0 (ok_small _ _ _ _ s0.u s0.p k0) (ok_small _ _ _ _ defaults_size none_size (by omega))
    | false =>
      have hx : ∀ s, (chainF s C).length ≤ 209715400000 := fun s => chainF_len s C (fun o ho => (hs o ho).r) (by omega)
      have hok : ∀ s k, (hk : k < C.length) → C[k].hasR = true → C[k].hasRun = false → AddOK colonP C[k].rpath C[k].path (chainF s (C.take k)) := fun s k hk _ _ => by
        have sk := hs C[k] (List.getElem_mem hk)
        have h1 := chainF_len s (C.take k) (fun o ho => (hs o (List.mem_of_mem_take ho)).r) (by rw [List.length_take]; omega)
        exact ok_small _ _ _ _ sk.r sk.p (by omega)
      have h1 := hx true
      refine ⟨addF true ⟨#[]⟩ (chainF true C) (cutF colonP defaultsF.data.toList), ?_, addF_short _ _ _ _ _ (chainF_short _ _ hs) none_size defaults_size, fun name env w1 hb => ?_⟩
      · have := addF_cut_len true ⟨#[]⟩ _ colonP defaultsF _ h1 defaults_size; omega
      · exact dirs_NS name env b off m cc C w1 (hC.below hb) hn (by omega) hnc h0 (hok true) (ok_small _ _ _ _ defaults_size none_size (by omega))
/-- whoever asks -/
theorem dirs_prog (name env : ByteArray) (ca : Option Addr) (n cc : Nat) (C : List OT) (secure : Bool) (w : World) (hC : CRow w ca C) (hn : C.length = n) (hnl : n ≤ 200000) (hnc : n ≤ cc) (hcn : ca = none → cc = 0) (hs : ∀ o ∈ C, Sizes o) (he : env.size ≤ 1048576) :
    ∃ R, R.length ≤ 1099511627776 ∧ Short R ∧ Told (.agg #[.string name, .slice ca n cc, .string env, .bool secure]) w R := by
  have k0 : ([] : List ByteArray).length ≤ 549755813888 := by decide
  cases secure with
  | true =>
    obtain ⟨R, h1, h2, h3⟩ := dirs_secure ca n cc C w hC hn hnl hnc hcn hs
    exact ⟨R, h1, h2, h3 name env⟩
  | false =>
    cases n with
    | zero =>
      obtain ⟨⟨l⟩⟩ := env
      cases l with
      | nil =>
        refine ⟨addF false ⟨#[]⟩ [] (cutF colonP defaultsF.data.toList), ?_, addF_short _ _ _ _ _ short_nil none_size defaults_size, fun w1 _ => ?_⟩
        · have := addF_cut_len false ⟨#[]⟩ [] colonP defaultsF 0 (Nat.le_refl _) defaults_size; omega
        · exact dirs_EO name ca cc w1 (ok_small _ _ _ _ defaults_size none_size k0)
      | cons ec et =>
        have h1 := addF_cut_len false ⟨#[]⟩ [] bothP ⟨(ec :: et).toArray⟩ 0 (Nat.le_refl _) he
        refine ⟨addF false ⟨#[]⟩ (addF false ⟨#[]⟩ [] (cutF bothP (⟨(ec :: et).toArray⟩ : ByteArray).data.toList)) (cutF colonP defaultsF.data.toList), ?_, addF_short _ _ _ _ _ (addF_short _ _ _ _ _ short_nil none_size he) none_size defaults_size, fun w1 _ => ?_⟩
        · have := addF_cut_len false ⟨#[]⟩ _ colonP defaultsF _ h1 defaults_size; omega
        · exact dirs_EA name ec et ca cc w1 hcn (ok_small _ _ _ _ he none_size k0) (ok_small _ _ _ _ defaults_size none_size (by omega))
    | succ m =>
      obtain ⟨b, off, rfl, -, -⟩ := hC 0 (by omega)
      have s0 := hs (C[0]'(by omega)) (List.getElem_mem _)
      have sm := hs (C[m]'(by omega)) (List.getElem_mem _)
      cases h0 : (C[0]'(by omega)).hasRun with
      | true =>
        obtain ⟨⟨l⟩⟩ := env
        cases l with
        | nil =>
          have h1 := addF_cut_len false (C[0]'(by omega)).path [] colonP (C[0]'(by omega)).runpath 0 (Nat.le_refl _) s0.u
          refine ⟨addF false ⟨#[]⟩ (addF false (C[0]'(by omega)).path [] (cutF colonP (C[0]'(by omega)).runpath.data.toList)) (cutF colonP defaultsF.data.toList), ?_, addF_short _ _ _ _ _ (addF_short _ _ _ _ _ short_nil s0.p s0.u) none_size defaults_size, fun w1 hb => ?_⟩
          · have := addF_cut_len false ⟨#[]⟩ _ colonP defaultsF _ h1 defaults_size; omega
          · exact dirs_RO name b off m cc C w1 (hC.below hb) hn (by omega) hnc h0 (ok_small _ _ _ _ s0.u s0.p k0) (ok_small _ _ _ _ defaults_size none_size (by omega))
        | cons ec et =>
          have h1 := addF_cut_len false (C[m]'(by omega)).path [] bothP ⟨(ec :: et).toArray⟩ 0 (Nat.le_refl _) he
          have h2 := addF_cut_len false (C[0]'(by omega)).path _ colonP (C[0]'(by omega)).runpath _ h1 s0.u
          refine ⟨addF false ⟨#[]⟩ (addF false (C[0]'(by omega)).path (addF false (C[m]'(by omega)).path [] (cutF bothP (⟨(ec :: et).toArray⟩ : ByteArray).data.toList)) (cutF colonP (C[0]'(by omega)).runpath.data.toList)) (cutF colonP defaultsF.data.toList), ?_, addF_short _ _ _ _ _ (addF_short _ _ _ _ _ (addF_short _ _ _ _ _ short_nil sm.p he) s0.p s0.u) none_size defaults_size, fun w1 hb => ?_⟩
          · have := addF_cut_len false ⟨#[]⟩ _ colonP defaultsF _ h2 defaults_size; omega
          · exact dirs_RA name ec et b off m cc C w1 (hC.below hb) hn (by omega) hnc h0 (ok_small _ _ _ _ he sm.p k0) (ok_small _ _ _ _ s0.u s0.p (by omega)) (ok_small _ _ _ _ defaults_size none_size (by omega))
      | false =>
        have hx : ∀ s, (chainF s C).length ≤ 209715400000 := fun s => chainF_len s C (fun o ho => (hs o ho).r) (by omega)
        have hok : ∀ s k, (hk : k < C.length) → C[k].hasR = true → C[k].hasRun = false → AddOK colonP C[k].rpath C[k].path (chainF s (C.take k)) := fun s k hk _ _ => by
          have sk := hs C[k] (List.getElem_mem hk)
          have h1 := chainF_len s (C.take k) (fun o ho => (hs o (List.mem_of_mem_take ho)).r) (by rw [List.length_take]; omega)
          exact ok_small _ _ _ _ sk.r sk.p (by omega)
        have h1 := hx false
        obtain ⟨⟨l⟩⟩ := env
        cases l with
        | nil =>
          refine ⟨addF false ⟨#[]⟩ (chainF false C) (cutF colonP defaultsF.data.toList), ?_, addF_short _ _ _ _ _ (chainF_short _ _ hs) none_size defaults_size, fun w1 hb => ?_⟩
          · have := addF_cut_len false ⟨#[]⟩ _ colonP defaultsF _ h1 defaults_size; omega
          · exact dirs_NO name b off m cc C w1 (hC.below hb) hn (by omega) hnc h0 (hok false) (ok_small _ _ _ _ defaults_size none_size (by omega))
        | cons ec et =>
          have h2 := addF_cut_len false (C[m]'(by omega)).path _ bothP ⟨(ec :: et).toArray⟩ _ h1 he
          refine ⟨dirsA C ⟨(ec :: et).toArray⟩ (C[m]'(by omega)).path, ?_, addF_short _ _ _ _ _ (addF_short _ _ _ _ _ (chainF_short _ _ hs) sm.p he) none_size defaults_size, fun w1 hb => ?_⟩
          · have := addF_cut_len false ⟨#[]⟩ _ colonP defaultsF _ h2 defaults_size; unfold dirsA; omega
          · exact dirs_a name ⟨(ec :: et).toArray⟩ ec et b off m cc C w1 rfl (hC.below hb) hn hnc (by omega) h0 (hok false) (ok_small _ _ _ _ he sm.p (by omega)) (ok_small _ _ _ _ defaults_size none_size (by omega))
end Go.Proofs.YtppeapafnnanbaaDoor
