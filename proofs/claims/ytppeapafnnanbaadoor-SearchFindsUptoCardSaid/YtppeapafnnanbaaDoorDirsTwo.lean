/- Layer 14: the directories, by the program and by the document's answer, whoever asks; each is short. -/
import Derived.Test.YtppeapafnnanbaaDoorDirsProg
import Derived.Test.YtppeapafnnanbaaDoorRefDirsR
namespace Go.Proofs.YtppeapafnnanbaaDoor
open Go.RowKit
set_option linter.unusedVariables false
set_option linter.unusedSimpArgs false

/-- both answer the same -/
def Both (v : Value) (w : World) (R : List ByteArray) : Prop := R.length ≤ 1099511627776 ∧
  (∀ w1, Below w.heap.size w w1 → Calls Tryd.prog 10 #[v] w1 (DirAns R w1)) ∧ (∀ w1, Below w.heap.size w w1 → Calls Tryd.prog 18 #[v] w1 (DirAns R w1))
theorem both_none (name env : ByteArray) (ca : Option Addr) (cc : Nat) (secure : Bool) (w : World) (hcn : ca = none → cc = 0) (he : env.size ≤ 1048576) : ∃ R, Short R ∧ Both (.agg #[.string name, .slice ca 0 cc, .string env, .bool secure]) w R := by
  have k0 : ([] : List ByteArray).length ≤ 549755813888 := by decide
  cases secure with
  | true =>
    refine ⟨addF false ⟨#[]⟩ [] (cutF colonP defaultsF.data.toList), (by (try unfold dirsA); repeat' first | exact short_nil | exact defaults_size | exact none_size | exact he | exact s0.u | exact s0.p | exact sm.p | exact chainF_short _ C hs | refine addF_short _ _ _ _ _ ?_ ?_ ?_), ?_, fun w1 _ => ?_, fun w1 _ => ?_⟩
    · have := addF_cut_len false ⟨#[]⟩ [] colonP defaultsF 0 (Nat.le_refl _) defaults_size; omega
    · have h := dirs_ES name env ca cc w1 (ok_small _ _ _ _ defaults_size none_size k0)
      rw [addF_defaults] at h
      exact h
    · exact refDirs_ES name env ca cc w1 (ok_small _ _ _ _ defaults_size none_size k0)
  | false =>
    obtain ⟨⟨l⟩⟩ := env
    cases l with
    | nil =>
      refine ⟨addF false ⟨#[]⟩ [] (cutF colonP defaultsF.data.toList), (by (try unfold dirsA); repeat' first | exact short_nil | exact defaults_size | exact none_size | exact he | exact s0.u | exact s0.p | exact sm.p | exact chainF_short _ C hs | refine addF_short _ _ _ _ _ ?_ ?_ ?_), ?_, fun w1 _ => ?_, fun w1 _ => ?_⟩
      · have := addF_cut_len false ⟨#[]⟩ [] colonP defaultsF 0 (Nat.le_refl _) defaults_size; omega
      · exact dirs_EO name ca cc w1 (ok_small _ _ _ _ defaults_size none_size k0)
      · exact refDirs_EO name ca cc w1 (ok_small _ _ _ _ defaults_size none_size k0)
    | cons ec et =>
      have h1 := addF_cut_len false ⟨#[]⟩ [] bothP ⟨(ec :: et).toArray⟩ 0 (Nat.le_refl _) he
      refine ⟨addF false ⟨#[]⟩ (addF false ⟨#[]⟩ [] (cutF bothP (⟨(ec :: et).toArray⟩ : ByteArray).data.toList)) (cutF colonP defaultsF.data.toList), (by (try unfold dirsA); repeat' first | exact short_nil | exact defaults_size | exact none_size | exact he | exact s0.u | exact s0.p | exact sm.p | exact chainF_short _ C hs | refine addF_short _ _ _ _ _ ?_ ?_ ?_), ?_, fun w1 _ => ?_, fun w1 _ => ?_⟩
      · have := addF_cut_len false ⟨#[]⟩ _ colonP defaultsF _ h1 defaults_size; omega
      · exact dirs_EA name ec et ca cc w1 hcn (ok_small _ _ _ _ he none_size k0) (ok_small _ _ _ _ defaults_size none_size (by omega))
      · exact refDirs_EA name ec et ca cc w1 (ok_small _ _ _ _ he none_size k0) (ok_small _ _ _ _ defaults_size none_size (by omega))
theorem both_run (name env : ByteArray) (b off m cc : Nat) (C : List OT) (secure : Bool) (w : World) (hC : CRow w (some ⟨b, off, none⟩) C) (hm : C.length = m + 1) (hml : m + 1 ≤ 200000) (hmc : m + 1 ≤ cc) (h0 : (C[0]'(by omega)).hasRun = true) (hs : ∀ o ∈ C, Sizes o) (he : env.size ≤ 1048576) :
    ∃ R, Short R ∧ Both (.agg #[.string name, .slice (some ⟨b, off, none⟩) (m + 1) cc, .string env, .bool secure]) w R := by
  have k0 : ([] : List ByteArray).length ≤ 549755813888 := by decide
  have s0 := hs (C[0]'(by omega)) (List.getElem_mem _)
  have sm := hs (C[m]'(by omega)) (List.getElem_mem _)
  cases secure with
  | true =>
    have h1 := addF_cut_len true (C[0]'(by omega)).path [] colonP (C[0]'(by omega)).runpath 0 (Nat.le_refl _) s0.u
    refine ⟨addF false ⟨#[]⟩ (addF true (C[0]'(by omega)).path [] (cutF colonP (C[0]'(by omega)).runpath.data.toList)) (cutF colonP defaultsF.data.toList), (by (try unfold dirsA); repeat' first | exact short_nil | exact defaults_size | exact none_size | exact he | exact s0.u | exact s0.p | exact sm.p | exact chainF_short _ C hs | refine addF_short _ _ _ _ _ ?_ ?_ ?_), ?_, fun w1 hb => ?_, fun w1 hb => ?_⟩
    · have := addF_cut_len false ⟨#[]⟩ _ colonP defaultsF _ h1 defaults_size; omega
    · have h := dirs_RS name env b off m cc C w1 (hC.below hb) hm (by omega) hmc h0 (ok_small _ _ _ _ s0.u s0.p k0) (ok_small _ _ _ _ defaults_size none_size (by omega))
      rw [addF_defaults] at h
      exact h
    · exact refDirs_RS name env b off m cc C w1 (hC.below hb) hm (by omega) h0 (ok_small _ _ _ _ s0.u s0.p k0) (ok_small _ _ _ _ defaults_size none_size (by omega))
  | false =>
    obtain ⟨⟨l⟩⟩ := env
    cases l with
    | nil =>
      have h1 := addF_cut_len false (C[0]'(by omega)).path [] colonP (C[0]'(by omega)).runpath 0 (Nat.le_refl _) s0.u
      refine ⟨addF false ⟨#[]⟩ (addF false (C[0]'(by omega)).path [] (cutF colonP (C[0]'(by omega)).runpath.data.toList)) (cutF colonP defaultsF.data.toList), (by (try unfold dirsA); repeat' first | exact short_nil | exact defaults_size | exact none_size | exact he | exact s0.u | exact s0.p | exact sm.p | exact chainF_short _ C hs | refine addF_short _ _ _ _ _ ?_ ?_ ?_), ?_, fun w1 hb => ?_, fun w1 hb => ?_⟩
      · have := addF_cut_len false ⟨#[]⟩ _ colonP defaultsF _ h1 defaults_size; omega
      · exact dirs_RO name b off m cc C w1 (hC.below hb) hm (by omega) hmc h0 (ok_small _ _ _ _ s0.u s0.p k0) (ok_small _ _ _ _ defaults_size none_size (by omega))
      · exact refDirs_RO name b off m cc C w1 (hC.below hb) hm (by omega) h0 (ok_small _ _ _ _ s0.u s0.p k0) (ok_small _ _ _ _ defaults_size none_size (by omega))
    | cons ec et =>
      have h1 := addF_cut_len false (C[m]'(by omega)).path [] bothP ⟨(ec :: et).toArray⟩ 0 (Nat.le_refl _) he
      have h2 := addF_cut_len false (C[0]'(by omega)).path _ colonP (C[0]'(by omega)).runpath _ h1 s0.u
      refine ⟨addF false ⟨#[]⟩ (addF false (C[0]'(by omega)).path (addF false (C[m]'(by omega)).path [] (cutF bothP (⟨(ec :: et).toArray⟩ : ByteArray).data.toList)) (cutF colonP (C[0]'(by omega)).runpath.data.toList)) (cutF colonP defaultsF.data.toList), (by (try unfold dirsA); repeat' first | exact short_nil | exact defaults_size | exact none_size | exact he | exact s0.u | exact s0.p | exact sm.p | exact chainF_short _ C hs | refine addF_short _ _ _ _ _ ?_ ?_ ?_), ?_, fun w1 hb => ?_, fun w1 hb => ?_⟩
      · have := addF_cut_len false ⟨#[]⟩ _ colonP defaultsF _ h2 defaults_size; omega
      · exact dirs_RA name ec et b off m cc C w1 (hC.below hb) hm (by omega) hmc h0 (ok_small _ _ _ _ he sm.p k0) (ok_small _ _ _ _ s0.u s0.p (by omega)) (ok_small _ _ _ _ defaults_size none_size (by omega))
      · exact refDirs_RA name ec et b off m cc C w1 (hC.below hb) hm (by omega) h0 (ok_small _ _ _ _ he sm.p k0) (ok_small _ _ _ _ s0.u s0.p (by omega)) (ok_small _ _ _ _ defaults_size none_size (by omega))
theorem both_chain (name env : ByteArray) (b off m cc : Nat) (C : List OT) (secure : Bool) (w : World) (hC : CRow w (some ⟨b, off, none⟩) C) (hm : C.length = m + 1) (hml : m + 1 ≤ 200000) (hmc : m + 1 ≤ cc) (h0 : (C[0]'(by omega)).hasRun = false) (hs : ∀ o ∈ C, Sizes o) (he : env.size ≤ 1048576) :
    ∃ R, Short R ∧ Both (.agg #[.string name, .slice (some ⟨b, off, none⟩) (m + 1) cc, .string env, .bool secure]) w R := by
  have sm := hs (C[m]'(by omega)) (List.getElem_mem _)
  have hx : ∀ s, (chainF s C).length ≤ 209715400000 := fun s => chainF_len s C (fun o ho => (hs o ho).r) (by omega)
  have hok : ∀ s k, (hk : k < C.length) → C[k].hasR = true → C[k].hasRun = false → AddOK colonP C[k].rpath C[k].path (chainF s (C.take k)) := fun s k hk _ _ => by
    have sk := hs C[k] (List.getElem_mem hk)
    have h1 := chainF_len s (C.take k) (fun o ho => (hs o (List.mem_of_mem_take ho)).r) (by rw [List.length_take]; omega)
    exact ok_small _ _ _ _ sk.r sk.p (by omega)
  cases secure with
  | true =>
    have h1 := hx true
    refine ⟨addF false ⟨#[]⟩ (chainF true C) (cutF colonP defaultsF.data.toList), (by (try unfold dirsA); repeat' first | exact short_nil | exact defaults_size | exact none_size | exact he | exact s0.u | exact s0.p | exact sm.p | exact chainF_short _ C hs | refine addF_short _ _ _ _ _ ?_ ?_ ?_), ?_, fun w1 hb => ?_, fun w1 hb => ?_⟩
    · have := addF_cut_len false ⟨#[]⟩ _ colonP defaultsF _ h1 defaults_size; omega
    · have h := dirs_NS name env b off m cc C w1 (hC.below hb) hm (by omega) hmc h0 (hok true) (ok_small _ _ _ _ defaults_size none_size (by omega))
      rw [addF_defaults] at h
      exact h
    · exact refDirs_NS name env b off m cc C w1 (hC.below hb) hm (by omega) h0 (hok true) (ok_small _ _ _ _ defaults_size none_size (by omega))
  | false =>
    have h1 := hx false
    obtain ⟨⟨l⟩⟩ := env
    cases l with
    | nil =>
      refine ⟨addF false ⟨#[]⟩ (chainF false C) (cutF colonP defaultsF.data.toList), (by (try unfold dirsA); repeat' first | exact short_nil | exact defaults_size | exact none_size | exact he | exact s0.u | exact s0.p | exact sm.p | exact chainF_short _ C hs | refine addF_short _ _ _ _ _ ?_ ?_ ?_), ?_, fun w1 hb => ?_, fun w1 hb => ?_⟩
      · have := addF_cut_len false ⟨#[]⟩ _ colonP defaultsF _ h1 defaults_size; omega
      · exact dirs_NO name b off m cc C w1 (hC.below hb) hm (by omega) hmc h0 (hok false) (ok_small _ _ _ _ defaults_size none_size (by omega))
      · exact refDirs_NO name b off m cc C w1 (hC.below hb) hm (by omega) h0 (hok false) (ok_small _ _ _ _ defaults_size none_size (by omega))
    | cons ec et =>
      have h2 := addF_cut_len false (C[m]'(by omega)).path _ bothP ⟨(ec :: et).toArray⟩ _ h1 he
      refine ⟨dirsA C ⟨(ec :: et).toArray⟩ (C[m]'(by omega)).path, (by (try unfold dirsA); repeat' first | exact short_nil | exact defaults_size | exact none_size | exact he | exact s0.u | exact s0.p | exact sm.p | exact chainF_short _ C hs | refine addF_short _ _ _ _ _ ?_ ?_ ?_), ?_, fun w1 hb => ?_, fun w1 hb => ?_⟩
      · have := addF_cut_len false ⟨#[]⟩ _ colonP defaultsF _ h2 defaults_size; unfold dirsA; omega
      · exact dirs_a name ⟨(ec :: et).toArray⟩ ec et b off m cc C w1 rfl (hC.below hb) hm hmc (by omega) h0 (hok false) (ok_small _ _ _ _ he sm.p (by omega)) (ok_small _ _ _ _ defaults_size none_size (by omega))
      · exact refDirs_NA name ec et b off m cc C w1 (hC.below hb) hm (by omega) h0 (hok false) (ok_small _ _ _ _ he sm.p (by omega)) (ok_small _ _ _ _ defaults_size none_size (by omega))
theorem dirs_both (name env : ByteArray) (ca : Option Addr) (n cc : Nat) (C : List OT) (secure : Bool) (w : World) (hC : CRow w ca C) (hn : C.length = n) (hnl : n ≤ 200000) (hnc : n ≤ cc) (hcn : ca = none → cc = 0) (hs : ∀ o ∈ C, Sizes o) (he : env.size ≤ 1048576) :
    ∃ R, Short R ∧ Both (.agg #[.string name, .slice ca n cc, .string env, .bool secure]) w R := by
  cases n with
  | zero => exact both_none name env ca cc secure w hcn he
  | succ m =>
    obtain ⟨b, off, rfl, -, -⟩ := hC 0 (by omega)
    cases h0 : (C[0]'(by omega)).hasRun with
    | true => exact both_run name env b off m cc C secure w hC hn hnl hnc h0 hs he
    | false => exact both_chain name env b off m cc C secure w hC hn hnl hnc h0 hs he
end Go.Proofs.YtppeapafnnanbaaDoor
