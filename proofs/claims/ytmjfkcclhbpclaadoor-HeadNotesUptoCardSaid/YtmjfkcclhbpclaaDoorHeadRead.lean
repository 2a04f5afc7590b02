/- Layer 4: Read: what a file's header and program headers tell. -/
import Derived.Test.YtmjfkcclhbpclaaDoorHeadFirst
import Derived.Handy
namespace Go.Proofs.YtmjfkcclhbpclaaDoor
open Go.RowKit
set_option linter.unusedVariables false
set_option linter.unusedSimpArgs false

/-- an error that Read tells, in memory -/
def ErrH (w : World) (v : Value) : HErr → Prop
  | .spot a c => ErrAt w v (some (a, c))
  | .code c => v = .iface 38 (.int .i64 (c : Int))
theorem ErrH.below {w w' : World} {v : Value} {x : HErr} (h : ErrH w v x) (hb : Below w.heap.size w w') : ErrH w' v x := by
  cases x with
  | spot a c => exact ErrAt.below (r := some (a, c)) h hb
  | code c => exact h
theorem ErrH.ev {w : World} {v : Value} {x : HErr} (h : ErrH w v x) : EV v := by
  cases x with
  | spot a c =>
    obtain ⟨sb, e, -⟩ := h
    exact .inl ⟨sb, e⟩
  | code c => exact .inr ⟨_, h⟩
def ReadAns (w0 : World) (e : Ending) (w' : World) : Except HErr HT → Prop
  | .error x => ∃ v, e = .returned (.tuple #[.agg #[.int .i64 0, .int .u64 0, .slice none 0 0], v]) ∧ ErrH w' v x
  | .ok h => ∃ pa pc, e = .returned (.tuple #[.agg #[.int .i64 (h.kind : Int), .int .u64 (h.entry : Int), .slice pa h.ps.length pc], .nilIface]) ∧ OwnS w' w0.heap.size 37 7 (.slice pa h.ps.length pc) (h.ps.map PT.cells) ∧ ∀ p ∈ h.ps, p.wf
def ReadPost (w0 : World) (bs : List Nat) (e : Ending) (w' : World) : Prop := ReadAns w0 e w' (readF bs) ∧ Below w0.heap.size w0 w'
theorem enters_constants : ∀ (args : Array Value) (w : World), (callFunc 23 args).run Tryd.prog w = .ok (.enter 23 args) w := enters_of Tryd.func23 (by kernel_rfl) rfl
theorem enters_where : ∀ (args : Array Value) (w : World), (callFunc 24 args).run Tryd.prog w = .ok (.enter 24 args) w := enters_of Tryd.func24 (by kernel_rfl) rfl
theorem enters_programs : ∀ (args : Array Value) (w : World), (callFunc 25 args).run Tryd.prog w = .ok (.enter 25 args) w := enters_of Tryd.func25 (by kernel_rfl) rfl
theorem enters_loads : ∀ (args : Array Value) (w : World), (callFunc 26 args).run Tryd.prog w = .ok (.enter 26 args) w := enters_of Tryd.func26 (by kernel_rfl) rfl
/-- the four tests -/
def testsV (rb : Nat) : List Value := [.func (.func 23) #[.pointer (some ⟨rb, 0, none⟩)] #[], .func (.func 24) #[.pointer (some ⟨rb, 0, none⟩)] #[], .func (.func 25) #[.pointer (some ⟨rb, 0, none⟩)] #[], .func (.func 26) #[.pointer (some ⟨rb, 0, none⟩)] #[]]
/-- what the four leave, and tell -/
def FirstAns (w0 : World) (rb : Nat) (bs : List Nat) (a : Option Addr) (m cap : Nat) (e : Ending) (w' : World) : Prop :=
  (∃ v x, e = .returned v ∧ readF bs = .error x ∧ ErrH w' v x ∧ Below w0.heap.size w0 w') ∨
  ∃ ps pa pc x, e = .returned .nilIface ∧ readF bs = .ok ⟨numF bs 16 2, numF bs 24 8, ps⟩ ∧ lastF ps = some x ∧ ∃ tk, PgSt w0 tk ⟨rb, (numF bs 16 2 : Int), numF bs 24 8, numF bs 32 8, numF bs 56 2, a, m, cap, pa, ps.length, pc⟩ bs ps w'
def FSt (w0 : World) (tk : Nat × Array Value) (rb : Nat) (bs : List Nat) (a : Option Addr) (m cap : Nat) : Nat → World → Prop
  | 0, wx => RdSt w0 tk ⟨rb, 0, 0, 0, 0, a, m, cap, none, 0, 0⟩ bs wx
  | 1, wx => constF bs fixedF = none ∧ RdSt w0 tk ⟨rb, (numF bs 16 2 : Int), numF bs 24 8, 0, 0, a, m, cap, none, 0, 0⟩ bs wx
  | 2, wx => constF bs fixedF = none ∧ whereF bs = none ∧ RdSt w0 tk ⟨rb, (numF bs 16 2 : Int), numF bs 24 8, numF bs 32 8, numF bs 56 2, a, m, cap, none, 0, 0⟩ bs wx
  | 3, wx => constF bs fixedF = none ∧ whereF bs = none ∧ ∃ ps pa pc, progsF bs (numF bs 32 8) (numF bs 56 2) 0 [] = .ok ps ∧ PgSt w0 tk ⟨rb, (numF bs 16 2 : Int), numF bs 24 8, numF bs 32 8, numF bs 56 2, a, m, cap, pa, ps.length, pc⟩ bs ps wx
  | _, wx => constF bs fixedF = none ∧ whereF bs = none ∧ ∃ ps pa pc x, progsF bs (numF bs 32 8) (numF bs 56 2) 0 [] = .ok ps ∧ lastF ps = some x ∧ PgSt w0 tk ⟨rb, (numF bs 16 2 : Int), numF bs 24 8, numF bs 32 8, numF bs 56 2, a, m, cap, pa, ps.length, pc⟩ bs ps wx
theorem FSt.tk {w0 : World} {tk : Nat × Array Value} {rb : Nat} {bs : List Nat} {a : Option Addr} {m cap i : Nat} {wx : World} (h : FSt w0 tk rb bs a m cap i wx) : Tk tk rb wx := by
  match i, h with
  | 0, h => exact h.kept
  | 1, h => exact h.2.kept
  | 2, h => exact h.2.2.kept
  | 3, h => obtain ⟨-, -, ps, pa, pc, -, h⟩ := h; exact h.kept
  | i + 4, h => obtain ⟨-, -, ps, pa, pc, x, -, -, h⟩ := h; exact h.kept
theorem progsF_len (bs : List Nat) (b : Nat) : ∀ (g k : Nat) (ps0 ps : List PT), progsF bs b g k ps0 = .ok ps → ps.length = ps0.length + g
  | 0, k, ps0, ps, h => by
    unfold progsF at h
    injection h with h
    rw [h]; rfl
  | g + 1, k, ps0, ps, h => by
    unfold progsF at h
    split at h
    · cases h
    · have := progsF_len bs b g (k + 1) _ ps h
      rw [this, List.length_append, List.length_singleton]
      omega
theorem where_ok {bs : List Nat} (h : whereF bs = none) : inB bs.length (numF bs 32 8) (numF bs 56 2 * 56) = true ∧ numF bs 56 2 ≤ 16 := by
  unfold whereF unF at h
  by_cases h1 : decide (0 < numF bs 56 2) = true
  · rw [if_pos h1] at h
    by_cases h2 : decide (numF bs 56 2 ≤ 16) = true
    · rw [if_pos h2] at h
      by_cases h3 : inB bs.length (numF bs 32 8) (numF bs 56 2 * 56) = true
      · exact ⟨h3, of_decide_eq_true h2⟩
      · rw [if_neg h3] at h
        simp [firstF] at h
    · rw [if_neg h2] at h
      simp [firstF] at h
  · rw [if_neg h1] at h
    simp [firstF] at h
set_option maxRecDepth 100000 in
set_option maxHeartbeats 4000000 in
theorem four_any (w0 : World) (tb rb : Nat) (bs : List Nat) (a : Option Addr) (m cap : Nat) (w : World) (h : FSt w0 (tb, (testsV rb).toArray) rb bs a m cap 0 w) (hf : FixAt w0) (h64 : 64 ≤ bs.length) :
    Calls Tryd.prog 22 #[.slice (some ⟨tb, 0, none⟩) 4 4] w (FirstAns w0 rb bs a m cap) := by
  have hlong : ¬ 1048576 < bs.length := by have := h.bytes.most; have := h.bytes.len; simp only [] at *; omega
  have hrd : ∀ x, (match constF bs fixedF with
    | some (a, c) => Except.error (HErr.spot a c)
    | none => match whereF bs with
      | some (a, c) => .error (.spot a c)
      | none => match progsF bs (numF bs 32 8) (numF bs 56 2) 0 [] with
        | .error (a, c) => .error (.spot a c)
        | .ok ps => match lastF ps with
          | none => .error (.code 6)
          | some _ => .ok (⟨numF bs 16 2, numF bs 24 8, ps⟩ : HT)) = x → readF bs = x := fun x hx => by
    unfold readF
    rw [if_neg hlong, if_neg (by omega)]
    exact hx
  refine firstS_any tb 4 4 (testsV rb) (FSt w0 (tb, (testsV rb).toArray) rb bs a m cap) (FirstAns w0 rb bs a m cap) w rfl (by decide) h ?_ ?_ ?_
  · intro i v wx hv hs
    rw [cell_of_row _ _ i _ _ _ hs.tk.2]
    simpa using hv
  · intro i v wx hv hs
    rcases list_at4 i v hv with ⟨rfl, rfl⟩ | ⟨rfl, rfl⟩ | ⟨rfl, rfl⟩ | ⟨rfl, rfl⟩
    · refine ⟨_, _, _, rfl, enters_constants, ?_⟩
      refine (constants_any w0 _ _ bs wx hs hf).mono ?_
      rintro e w' ⟨⟨u, rfl, hu⟩, hok, hb⟩
      refine ⟨u, rfl, ?_⟩
      cases hcc : constF bs fixedF with
      | none =>
        rw [hcc] at hu
        exact .inl ⟨hu, hcc, hok hcc⟩
      | some x =>
        rw [hcc] at hu
        have hh : ErrH w' u (.spot x.1 x.2) := hu
        exact .inr ⟨hh.ev, .inl ⟨u, _, rfl, hrd _ (by rw [hcc]), hh, hb⟩⟩
    · obtain ⟨hcc, hs⟩ := hs
      refine ⟨_, _, _, rfl, enters_where, ?_⟩
      refine (where_any w0 _ _ bs wx hs).mono ?_
      rintro e w' ⟨⟨u, rfl, hu⟩, hok⟩
      refine ⟨u, rfl, ?_⟩
      cases hw : whereF bs with
      | none =>
        rw [hw] at hu
        exact .inl ⟨hu, hcc, hw, hok⟩
      | some x =>
        rw [hw] at hu
        have hh : ErrH w' u (.spot x.1 x.2) := hu
        exact .inr ⟨hh.ev, .inl ⟨u, _, rfl, hrd _ (by rw [hcc, hw]), hh, hok.blw⟩⟩
    · obtain ⟨hcc, hw, hs⟩ := hs
      obtain ⟨hin, h16⟩ := where_ok hw
      have hm := hs.bytes.len
      refine ⟨_, _, _, rfl, enters_programs, ?_⟩
      have hps : PgSt w0 (tb, (testsV rb).toArray) ⟨rb, (numF bs 16 2 : Int), numF bs 24 8, numF bs 32 8, numF bs 56 2, a, m, cap, none, 0, 0⟩ bs [] wx := ⟨hs.at_, OwnS.nil _ _ _ _, rfl, by simp, hs.blw, hs.ge, hs.bytes, hs.kept⟩
      refine (programs_any w0 _ _ bs wx hps (by rw [← hm]; exact hin) h16).mono ?_
      intro e w' hpost
      cases hp : progsF bs (numF bs 32 8) (numF bs 56 2) 0 [] with
      | error x =>
        have hpost : PgPost w0 (tb, (testsV rb).toArray) ⟨rb, (numF bs 16 2 : Int), numF bs 24 8, numF bs 32 8, numF bs 56 2, a, m, cap, none, 0, 0⟩ bs e w' (.error x) := by rw [← hp]; exact hpost
        obtain ⟨⟨v, rfl, hv⟩, hb⟩ := hpost
        have hh : ErrH w' v (.spot x.1 x.2) := hv
        exact ⟨v, rfl, .inr ⟨hh.ev, .inl ⟨v, _, rfl, hrd _ (by rw [hcc, hw, hp]), hh, hb⟩⟩⟩
      | ok ps =>
        have hpost : PgPost w0 (tb, (testsV rb).toArray) ⟨rb, (numF bs 16 2 : Int), numF bs 24 8, numF bs 32 8, numF bs 56 2, a, m, cap, none, 0, 0⟩ bs e w' (.ok ps) := by rw [← hp]; exact hpost
        obtain ⟨rfl, pa, pc, hst⟩ := hpost
        exact ⟨_, rfl, .inl ⟨rfl, hcc, hw, ps, pa, pc, hp, hst⟩⟩
    · obtain ⟨hcc, hw, ps, pa, pc, hp, hs⟩ := hs
      refine ⟨_, _, _, rfl, enters_loads, ?_⟩
      have hpl : ps.length ≤ 140737488351232 := by
        have h1 := progsF_len bs _ _ _ _ _ hp
        have h2 := (where_ok hw).2
        rw [List.length_nil] at h1
        omega
      refine (loads_any _ ps wx hs.at_ hs.row rfl hpl).mono ?_
      rintro e w' ⟨rfl, hb⟩
      cases hl : lastF ps with
      | none => exact ⟨_, rfl, .inr ⟨.inr ⟨6, rfl⟩, .inl ⟨_, .code 6, rfl, hrd _ (by rw [hcc, hw, hp]; simp only [hl]), rfl, hs.blw.trans (hb.mono hs.blw.size)⟩⟩⟩
      | some x =>
        exact ⟨_, rfl, .inl ⟨rfl, hcc, hw, ps, pa, pc, x, hp, hl, ⟨hs.at_.below hb, hs.own.below hb, hs.len, hs.wf, hs.blw.trans (hb.mono hs.blw.size), hs.ge, hs.bytes, hs.kept.below hb⟩⟩⟩
  · rintro w' ⟨hcc, hw, ps, pa, pc, x, hp, hl, hs⟩
    exact .inr ⟨ps, pa, pc, x, rfl, hrd _ (by rw [hcc, hw, hp]; simp only [hl]), hl, _, hs⟩
end Go.Proofs.YtmjfkcclhbpclaaDoor
