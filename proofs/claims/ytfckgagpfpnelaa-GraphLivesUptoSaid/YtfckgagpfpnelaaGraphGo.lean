/- Layer 16: the program's walk. -/
import Derived.Test.YtfckgagpfpnelaaGraphEnter
namespace Go.Proofs.Ytfckgagpfpnelaa
open Go.RowKit
set_option linter.unusedVariables false
set_option linter.unusedSimpArgs false

/-- make([]T, n), T a kind of numbers -/
theorem wpList_make_ints {P : Program} {w : World} {ops : Array Oper} {rest : List Oper} {o : Oper} {a : Act} {Q : Exit → Act → World → Prop} (hgd : o.guard = none) (l c : Operand) {t e : TypeId} {k : IntKind} {bytes : Nat}
    (F : IntSlice P t e k bytes) (ho : o.op = Op.makeSlice t l c) (B : Nat) (n : Nat) (kl kc : IntKind) (L C : Int)
    (hl : a.eval l = .int kl L) (hc : a.eval c = .int kc C) (hL : L = (n : Int)) (hC : C = (n : Int)) (hn : n * bytes ≤ 140737488355328) (hm : n ≤ maxLen) (hb : B ≤ w.heap.size)
    (h : ∀ g w', OwnI w' B e k (.slice (some ⟨g, 0, none⟩) n n) (List.replicate n 0) → w.heap.size ≤ g → Aside (fun _ => False) w w' → wpList P ops Q rest (a.put o.dst (.slice (some ⟨g, 0, none⟩) n n)) w') : wpList P ops Q (o :: rest) a w := by
  obtain ⟨ht, hinfo⟩ := F
  obtain ⟨i, hi, hz0, hz1, hz2⟩ := info_parts hinfo
  refine wpList_make_full w hgd l c t ho B e i (.int k 0) 1 ht hi hz0 hz1 kl kc L C n hl hc hL hC (by rw [hz2]; rw [Nat.mul_comm]; omega) hm hb ?_
  intro w' hown hgr
  refine h w.heap.size w' ?_ (Nat.le_refl _) ((Aside.grown hgr).mono (fun g _ hg => by cases hg))
  unfold OwnI
  rw [List.length_replicate, List.map_replicate]
  have e1 : (madeCells (Value.int k 0).cells (n * 1)).toList = List.replicate n (.int k 0) := by
    rw [Nat.mul_one]
    exact toList_madeCells_one (.int k 0) n
  rw [e1] at hown
  exact hown

theorem OwnS.pop {w : World} {B sz m co : Nat} {e : TypeId} {ao : Option Addr} {rows : List (List Value)} {r : List Value} (h : OwnS w B e sz (.slice ao (m + 1) co) (rows ++ [r])) : OwnS w B e sz (.slice ao m co) rows := by
  obtain ⟨⟨h1, h2⟩, h3⟩ := h
  have hl : (rows ++ [r]).length = rows.length + 1 := by simp
  rw [hl] at h1 h2
  have hr : r.length = sz := h3 r (by simp)
  have hf : (rows ++ [r]).flatten = rows.flatten ++ r := by simp
  rw [hf] at h1 h2
  rw [List.length_append, hr, Nat.add_mul, Nat.one_mul] at h1
  rcases h2 with ⟨h4, -⟩ | ⟨g, cap, cur, hv, hB, hg, hc, hm, hs, hx⟩
  · simp at h4
  · simp only [Value.slice.injEq] at hv
    obtain ⟨rfl, hm1, rfl⟩ := hv
    have hmm : m = rows.length := by omega
    subst hmm
    refine ⟨⟨by omega, .inr ⟨g, co, cur, rfl, hB, hg, by omega, hm, hs, ?_⟩⟩, fun q hq => h3 q (by simp [hq])⟩
    have := congrArg (List.take (rows.length * sz)) hx
    rw [List.take_take, Nat.min_eq_left (by rw [Nat.add_mul]; omega), List.take_append_of_le_length (by omega)] at this
    rw [this]
    exact List.take_of_length_le (by omega)
theorem OwnS.last {w : World} {B m co g : Nat} {e : TypeId} {rows : List (List Value)} {a b u : Value} (h : OwnS w B e 2 (.slice (some ⟨g, 0, none⟩) (m + 1) co) (rows ++ [[a, b]])) (hm : rows.length = m) :
    OwnS (w.setCell ⟨g, m * 2 + 1, none⟩ u) B e 2 (.slice (some ⟨g, 0, none⟩) (m + 1) co) (rows ++ [[a, u]]) := by
  obtain ⟨h1, h3⟩ := h
  have hl : (rows ++ [[a, b]]).length = m + 1 := by simp [hm]
  rw [hl] at h1
  have h4 := (World.ownsRow.stored h1 (m * 2 + 1) u).1
  have hfl : rows.flatten.length = m * 2 := by
    have := h1.1
    simp only [List.flatten_append, List.flatten_cons, List.flatten_nil, List.length_append, List.length_cons, List.length_nil, List.append_nil] at this
    omega
  have hf : (rows ++ [[a, b]]).flatten.set (m * 2 + 1) u = (rows ++ [[a, u]]).flatten := by
    simp only [List.flatten_append, List.flatten_cons, List.flatten_nil, List.append_nil]
    rw [List.set_append_right _ _ (by omega), show m * 2 + 1 - rows.flatten.length = 1 from by omega]
    rfl
  rw [hf] at h4
  refine ⟨?_, fun q hq => ?_⟩
  · rw [show (rows ++ [[a, u]]).length = m + 1 from by simp [hm]]
    exact h4
  · rcases List.mem_append.1 hq with h5 | h5
    · exact h3 q (by simp [h5])
    · simp only [List.mem_singleton] at h5
      subst h5
      rfl

theorem Aside.drew {G : Nat → Prop} {w : World} (n : Nat) : Aside G w (w.drewN n) := ⟨rfl, rfl, rfl, Nat.le_refl _, fun _ _ _ => rfl⟩

section
variable {w0 : World} {n : Nat} {I : World → (Nat → Prop) → List Nat → Bool → Prop} {db sb sg ab : Nat} {da : Option Addr} {dc : Nat} {av : Value} {G0 G X : Nat → Prop} {L : List Int} {o : List Nat} {r : Bool} {w w' : World} {B ob : Nat} {rows : List (List Value)}
theorem Li.top {row : List Value} (h : Li B G ob (rows ++ [row]) w) : ∃ og co, InBox w ob (.slice (some ⟨og, 0, none⟩) (rows.length + 1) co) 42 ∧ OwnS w B 44 2 (.slice (some ⟨og, 0, none⟩) (rows.length + 1) co) (rows ++ [row]) ∧ ¬ G og ∧ rows.length + 1 ≤ co := by
  obtain ⟨ao, co, h1, h2, h3⟩ := h.list
  have hl : (rows ++ [row]).length = rows.length + 1 := by simp
  rw [hl] at h1 h2 h3
  obtain ⟨-, -, hco, hnone⟩ := h2.at
  rcases h2.1.2 with ⟨h4, -⟩ | ⟨g, cap, cur, hv, -⟩
  · simp at h4
  · simp only [Value.slice.injEq] at hv
    obtain ⟨rfl, -, rfl⟩ := hv
    exact ⟨g, co, h1, h2, h3 g rfl, hco⟩
theorem Me0.drew {P : Program} {tf af : FuncId} {tc ac : Array Value} (C : Client P tf tc af ac n I) (h : Me0 w0 G0 n I db sb sg ab da dc av G L o r w) (k : Nat) : Me0 w0 G0 n I db sb sg ab da dc av G L o r (w.drewN k) :=
  h.aside C (X := fun _ => False) (Aside.drew k) id id id id (fun _ h => h.elim) (fun _ h => h.elim)
theorem Li.drew (h : Li B G ob rows w) (k : Nat) : Li B G ob rows (w.drewN k) := h.aside (X := fun _ => False) (Aside.drew k) id (fun _ _ _ _ _ h => h)
theorem Me0.next {P : Program} {tf af : FuncId} {tc ac : Array Value} (C : Client P tf tc af ac n I) (h : Me0 w0 G0 n I db sb sg ab da dc av G L o r w) {og m co : Nat} {a b u : Value}
    (h1 : InBox w ob (.slice (some ⟨og, 0, none⟩) (m + 1) co) 42) (h2 : OwnS w w0.heap.size 44 2 (.slice (some ⟨og, 0, none⟩) (m + 1) co) (rows ++ [[a, b]])) (h3 : ¬ G og) (hm : rows.length = m) (hnob : ¬ G ob) (hblk : w0.heap.size ≤ ob) :
    Me0 w0 G0 n I db sb sg ab da dc av G L o r (w.setCell ⟨og, m * 2 + 1, none⟩ u) ∧ Li w0.heap.size G ob (rows ++ [[a, u]]) (w.setCell ⟨og, m * 2 + 1, none⟩ u) := by
  obtain ⟨n1, n2, n3, n4⟩ := h.own_ne h2 og rfl
  have hne : og ≠ ob := fun e => h1.apart h2.1 (by decide) (by rw [e]; rfl)
  refine ⟨h.aside C (X := fun g => g = og) (Aside.setCell w ⟨og, m * 2 + 1, none⟩ u) n1 n2 n3 n4 (fun g hg => by subst hg; exact h3) (fun g hg => by subst hg; exact .inr (World.ownsRow.lt h2.1 g rfl).1), ⟨⟨some ⟨og, 0, none⟩, co, ?_, ?_, ?_⟩, hnob, hblk⟩⟩
  · have := h1.setOther (a := ⟨og, m * 2 + 1, none⟩) hne u
    simpa [hm] using this
  · have := h2.last (u := u) hm
    simpa [hm] using this
  · intro g hg
    have : og = g := by simpa [Value.ownBlock] using hg
    subst this
    exact h3
theorem Me0.popped {P : Program} {tf af : FuncId} {tc ac : Array Value} (C : Client P tf tc af ac n I) (h : Me0 w0 G0 n I db sb sg ab da dc av G L o r w) {og m co : Nat} {row : List Value}
    (h1 : InBox w ob (.slice (some ⟨og, 0, none⟩) (m + 1) co) 42) (h2 : OwnS w w0.heap.size 44 2 (.slice (some ⟨og, 0, none⟩) (m + 1) co) (rows ++ [row])) (h3 : ¬ G og) (hm : rows.length = m) (hnob : ¬ G ob) (hblk : w0.heap.size ≤ ob) :
    Me0 w0 G0 n I db sb sg ab da dc av G L o r (w.setCell ⟨ob, 0, none⟩ (.slice (some ⟨og, 0, none⟩) m co)) ∧ Li w0.heap.size G ob rows (w.setCell ⟨ob, 0, none⟩ (.slice (some ⟨og, 0, none⟩) m co)) := by
  subst hm
  obtain ⟨n1, n2, n3, n4⟩ := h.li_ne h1
  have hap : (Value.slice (some ⟨og, 0, none⟩) rows.length co).ownBlock ≠ some ob := fun e => h1.apart h2.1 (by decide) e
  refine ⟨h.aside C (X := fun g => g = ob) (Aside.setCell w ⟨ob, 0, none⟩ _) n2 n3 (fun e => n1 e.symm) n4 (fun g hg => by subst hg; exact hnob) (fun g hg => by subst hg; exact .inr hblk), ⟨⟨some ⟨og, 0, none⟩, co, h1.set _, h2.pop.setO hap _, ?_⟩, hnob, hblk⟩⟩
  intro g hg
  have : og = g := by simpa [Value.ownBlock] using hg
  subst this
  exact h3
end

/-- what a walk leaves -/
def WalkAns (w : World) (G0 : Nat → Prop) (I : World → (Nat → Prop) → List Nat → Bool → Prop) (s : St) (e : Ending) (w' : World) : Prop :=
  e = .returned (.tuple #[]) ∧ ∃ G, I w' G s.out s.ring ∧ Aside G0 w w' ∧ ∀ g, G g → G0 g ∨ w.heap.size ≤ g

set_option maxRecDepth 100000 in
set_option maxHeartbeats 4000000 in
theorem walkP_any {tf af : FuncId} {tc ac : Array Value} {I : World → (Nat → Prop) → List Nat → Bool → Prop} (w : World) (G0 : Nat → Prop) (deps : List (List Int)) (n : Nat) (da : Option Addr) (dc : Nat) (ra : Option Addr) (rc : Nat) (roots : List Int)
    (C : Client Try.prog tf tc af ac n I) (hnn : deps.length = n) (hn : n ≤ 1048576) (hI : I w G0 [] false) (hk : ∀ w', Aside G0 w w' → DRow w' da deps ∧ Row .i64 w' ra roots) (hx : I64s roots) (hxl : roots.length ≤ 140737488351232) :
    Calls Try.prog 22 #[.slice da n dc, .slice ra roots.length rc, .func (.func tf) #[] tc, .func (.func af) #[] ac] w (WalkAns w G0 I (walkF deps roots)) := by
  have CC := Lib.hid C
  have HI := Lib.hid hI
  have HK := Lib.hid hk
  have HX := Lib.hid hx
  have HN := Lib.hid hnn
  have HEN := Lib.hid (fun (w1 : World) (db sb sg ab ob : Nat) (st : List (Nat × Nat)) (s : St) (x : Int) => enter_any w w1 G0 deps n db sb sg ab ob da dc st s x C hnn hn)
  have HW : Hid ((roots.take roots.length).foldl (dfs deps) start = walkF deps roots) := Lib.hid (by rw [List.take_length]; rfl)
  obtain ⟨R0, hR0⟩ : ∃ R0, walkF deps roots = R0 := ⟨_, rfl⟩
  rw [hR0] at HW ⊢
  have X1 : Hid (InBox ((w.alloc (.cells #[.slice da n dc] 22)).alloc (.cells #[.func (.func af) #[] ac] 37)) w.heap.size (.slice da n dc) 22) := Lib.hid ((InBox.new _ _ _).alloc _)
  have X2 : Hid (InBox ((w.alloc (.cells #[.slice da n dc] 22)).alloc (.cells #[.func (.func af) #[] ac] 37)) (w.heap.size + 1) (.func (.func af) #[] ac) 37) := Lib.hid (by
    have := InBox.new (w.alloc (.cells #[.slice da n dc] 22)) (.func (.func af) #[] ac) 37
    simpa using this)
  have A2 : Hid (Aside (fun _ => False) w ((w.alloc (.cells #[.slice da n dc] 22)).alloc (.cells #[.func (.func af) #[] ac] 37))) := Lib.hid ((Aside.alloc w _).trans ((Aside.alloc _ _).mono (fun g _ h => h)))
  clear hI hk hx hnn hR0 C
  go_enter Try.func22, Try.ntmps22
  go_wp2_with (at_make; go_loud (refine wpList_make_ints rfl (.tmp 16) (.tmp 16) slice64 rfl w.heap.size n .i64 .i64 (n : Int) (n : Int) rfl rfl rfl rfl (by omega) (by unfold maxLen; omega) A2.out.size ?_); intro sg w4 ho4 hg4 ha4; have O4 := Lib.hid ho4; have G4 := Lib.hid hg4; have A4 := Lib.hid ha4; clear ho4 hg4 ha4)
  have ME5 : Hid (∃ G, Me0 w G0 n I w.heap.size w4.heap.size sg (w.heap.size + 1) da dc (.func (.func af) #[] ac) G (stateL n start.had start.out) start.out start.ring (w4.alloc (.cells #[.slice (some ⟨sg, 0, none⟩) n n] 23))) := Lib.hid (by
    have hlt : ∀ g, G0 g → g < w.heap.size := fun g hg => CC.out.lt HI.out g hg
    have hw4 : w.heap.size + 2 ≤ w4.heap.size := by have := A4.out.size; simp at this; omega
    have h45 : Aside (fun _ => False) w4 (w4.alloc (.cells #[.slice (some ⟨sg, 0, none⟩) n n] 23)) := Aside.alloc _ _
    have h5 : Aside (fun _ => False) w (w4.alloc (.cells #[.slice (some ⟨sg, 0, none⟩) n n] 23)) := (A2.out.trans A4.out).trans h45
    have hsg : w.heap.size + 2 ≤ sg := by have := G4.out; simp at this; omega
    refine ⟨G0, (X1.out.aside A4.out id).aside h45 id, InBox.new _ _ _, ?_, (X2.out.aside A4.out id).aside h45 id, CC.out.aside HI.out (h5.mono (fun _ _ h => h.elim)), fun g hg => .inl hg, ⟨?_, ?_, ?_, ?_⟩, h5.mono (fun _ _ h => h.elim)⟩
    · have := own_aside O4.out h45 (fun _ _ h => h)
      show OwnI _ _ _ _ _ (stateL n [] [])
      rw [stateL_start]
      exact this
    · exact fun h => by have := hlt _ h; omega
    · exact fun h => by have := hlt _ h; omega
    · exact fun h => by have := hlt _ h; omega
    · exact fun h => by have := hlt _ h; omega)
  have MI5 : Hid (Mid n [] start) := Lib.hid ⟨good_nil _, List.nodup_nil, (fun x hx => by cases hx), List.nodup_nil, (fun x hx => by cases hx)⟩
  clear X1 X2 A2 O4 G4 A4 HI
  obtain ⟨w5, hw5⟩ : ∃ w5, w4.alloc (.cells #[.slice (some ⟨sg, 0, none⟩) n n] 23) = w5 := ⟨_, rfl⟩
  rw [hw5] at ME5 ⊢
  clear hw5
  generalize w4.heap.size = sb at *
  go_loopg [20] roots.length (fun g i wr => ∃ (k : Nat) (s : St), k + g = roots.length ∧ i = .int .i64 (k : Int) ∧ Hid ((roots.take k).foldl (dfs deps) start = s) ∧ Hid (Mid n [] s) ∧ Hid (∃ G, Me0 w G0 n I w.heap.size sb sg (w.heap.size + 1) da dc (.func (.func af) #[] ac) G (stateL n s.had s.out) s.out s.ring wr))
  case atStart => exact ⟨0, start, by omega, rfl, Lib.hid rfl, MI5, ME5⟩
  case round =>
    obtain ⟨k, s, hk, rfl, HS, MI, ME⟩ := hrel
    cases gk with
    | zero =>
      have hke : k = roots.length := by omega
      subst hke
      have HE := Lib.hid (HS.out.symm.trans HW.out)
      go_wp2
      go_returns
      obtain ⟨G, me⟩ := ME.out
      rw [← HE.out]
      exact ⟨rfl, G, me.inv, me.since, me.ge⟩
    | succ g =>
      have hlk : k < roots.length := by omega
      have hra := (HK.out wr ME.out.choose_spec.since).2 k hlk
      obtain ⟨rb, ro, rfl, hrc⟩ := hra
      have hxr := HX.out.at hlk
      have HS1 : Hid ((roots.take (k + 1)).foldl (dfs deps) start = dfs deps s (roots.getD k 0)) := Lib.hid (by
        rw [List.take_succ_eq_append_getElem hlk, List.foldl_append, HS.out, getD_at hlk]; rfl)
      generalize roots.getD k 0 = x at *
      go_wp2_with fail
      have WI0 : Hid (Wi w G0 n I w.heap.size sb sg (w.heap.size + 1) wr.heap.size da dc (.func (.func af) #[] ac) [] s (wr.alloc (.cells #[.slice none 0 0] 42))) := Lib.hid (by
        obtain ⟨G, me⟩ := ME.out
        have ha : Aside (fun _ => False) wr (wr.alloc (.cells #[.slice none 0 0] 42)) := Aside.alloc _ _
        have hng : ¬ G wr.heap.size := fun h => by have := CC.out.lt me.inv _ h; omega
        exact ⟨MI.out, G, me.aside CC.out ha id id id id (fun _ h => h.elim) (fun _ h => h.elim), ⟨⟨none, 0, InBox.new _ _ _, OwnS.nil _ _ _ _, fun g hg => by cases hg⟩, hng, me.since.size⟩⟩)
      have HC := Lib.hid (HEN.out _ _ _ _ _ _ [] s x WI0.out)
      clear WI0 ME MI HS hrc
      generalize wr.heap.size = ob at *
      refine HC.out.mono ?_
      rintro e w6 ⟨rfl, st, s1, hwi, hres, hleft⟩
      have WI1 := Lib.hid hwi
      have HRS : Hid (resume deps st s1 = dfs deps s x) := Lib.hid hres
      clear hwi hres HC
      obtain ⟨R, hR⟩ : ∃ R, dfs deps s x = R := ⟨_, rfl⟩
      rw [hR] at HRS HS1
      clear hR
      generalize left deps [] s = m0 at *
      have HL1 := Lib.hid hleft
      clear hleft
      go_wp2
      go_loopg [] m0 (fun g2 wr2 => ∃ st s, Hid (left deps st s = g2) ∧ Hid (resume deps st s = R) ∧ Hid (Wi w G0 n I w.heap.size sb sg (w.heap.size + 1) ob da dc (.func (.func af) #[] ac) st s wr2))
      case atStart => exact ⟨st, s1, HL1, HRS, WI1⟩
      case round =>
        obtain ⟨st2, s2, HL2, HR2, WI2⟩ := hrel
        cases st2 with
        | nil =>
          obtain ⟨mi, G, me, li⟩ := WI2.out
          obtain ⟨ao, co, l1, l2, l3⟩ := li.list
          have lc : wr.cell? ⟨ob, 0, none⟩ = some (.slice ao 0 co) := l1.cell
          have HM := Lib.hid mi
          have HME := Lib.hid me
          have HS2 : Hid (s2 = R) := Lib.hid HR2.out
          clear mi me li l1 l2 l3 HR2 HL2 WI2
          go_wp2
          go_roundg g
          case measure => omega
          case rel => exact ⟨k + 1, R, by omega, by go_num, HS1, by rw [← HS2.out]; exact HM, Lib.hid (by rw [← HS2.out]; exact ⟨G, HME.out⟩)⟩
        | cons v st3 =>
          obtain ⟨ov, kv⟩ := v
          obtain ⟨mi, G, me, li⟩ := WI2.out
          rw [openRows_cons] at li
          obtain ⟨og, co, l1, l2, l3, l4⟩ := li.top
          rw [openRows_length] at l1 l2 l4
          have lc := l1.cell
          have HRO := (l2.at).2.1
          have hlast : ∀ (u : List Value), (openRows st3 ++ [u])[st3.length]? = some u := fun u => by rw [List.getElem?_append_right (by rw [openRows_length]; omega), openRows_length]; simp
          have v0 : wr.cell? ⟨og, st3.length * 2, none⟩ = some (.int .i64 (ov : Int)) := by
            obtain ⟨b, o, e, hlt, hc⟩ := HRO st3.length (by simp [openRows_length])
            simp only [Option.some.injEq, Addr.mk.injEq, and_true] at e
            obtain ⟨rfl, rfl⟩ := e
            have := hc 0 (by omega)
            have h2 := hlast (visitRow (ov, kv))
            rw [List.getElem?_eq_getElem (by simp [openRows_length])] at h2
            simp only [Option.some.injEq] at h2
            rw [h2] at this
            simpa [visitRow] using this
          have v1 : wr.cell? ⟨og, st3.length * 2 + 1, none⟩ = some (.int .i64 (kv : Int)) := by
            obtain ⟨b, o, e, hlt, hc⟩ := HRO st3.length (by simp [openRows_length])
            simp only [Option.some.injEq, Addr.mk.injEq, and_true] at e
            obtain ⟨rfl, rfl⟩ := e
            have := hc 1 (by omega)
            have h2 := hlast (visitRow (ov, kv))
            rw [List.getElem?_eq_getElem (by simp [openRows_length])] at h2
            simp only [Option.some.injEq] at h2
            rw [h2] at this
            simpa [visitRow] using this
          have hov : ov < n := mi.good.2 _ (mi.walked (ov, kv) (by simp)).1
          obtain ⟨b2, o2, ai, ci, rfl, hlt2, hcd, hri, hxi, hli⟩ := (HK.out wr me.since).1 ov (by rw [HN.out]; exact hov)
          have hd := me.deps.cell
          have hst3 := nodup_le mi.stGood
          simp only [List.map_cons, List.length_cons, List.length_map] at hst3
          have HNX := Lib.hid (fun h => resume_next (deps := deps) (o := ov) (k := kv) (st := st3) (s := s2) h)
          have HPO := Lib.hid (fun h => resume_pop (deps := deps) (o := ov) (k := kv) (st := st3) (s := s2) h)
          have HLN := Lib.hid (fun h => left_next (deps := deps) (o := ov) (k := kv) (st := st3) (s := s2) h)
          have HLP := Lib.hid (fun h => left_pop (deps := deps) (o := ov) (k := kv) (st := st3) (s := s2) (s' := { s2 with out := s2.out ++ [ov] }) rfl h)
          have HRI := Lib.hid hri
          have HXI := Lib.hid hxi
          have HM := Lib.hid mi
          have HME := Lib.hid me
          have HLI := Lib.hid li
          have L1 := Lib.hid l1
          have L2 := Lib.hid l2
          have L3 := Lib.hid l3
          have hmod : ((st3.length : Int) + 1 - 1) = (st3.length : Int) := by omega
          clear mi me li l1 l2 l3 HRO hlast hri hxi WI2
          obtain ⟨xs, hxs⟩ : ∃ xs, deps.getD ov [] = xs := ⟨_, rfl⟩
          rw [hxs] at HNX HPO HLN HLP HRI HXI hli hcd
          clear hxs
          have v1f : wr.frozen? ⟨og, st3.length * 2 + 1, none⟩ = false := by
            have h2 := L2.out.1
            rw [show (openRows st3 ++ [visitRow (ov, kv)]).length = st3.length + 1 from by simp [openRows_length]] at h2
            exact World.ownsRow.frozenAt h2 _
          by_cases hkx : kv < xs.length
          · obtain ⟨b4, o4, rfl, hc4⟩ := HRI.out kv hkx
            have HN1 := Lib.hid (HR2.out.symm.trans (HNX.out hkx))
            have HL3 := Lib.hid (HL2.out.symm.trans (HLN.out hkx))
            clear HNX HPO HLN HLP HR2 HL2 WI1 HL1 HRS
            generalize xs.getD kv 0 = y at *
            go_wp2
            go_quiet (fail)
            go_wp2
            go_quiet (fail)
            go_wp2_with fail
            refine (HEN.out _ _ _ sg _ _ ((ov, kv + 1) :: st3) s2 y ?_).mono ?_
            · obtain ⟨q1, q2⟩ := Me0.next CC.out (HME.out.drew CC.out _) (L1.out.aside (Aside.drew (G := fun _ => False) _) id) (own_aside_s L2.out (Aside.drew (G := fun _ => False) _) (fun _ _ h => h)) L3.out (openRows_length _) HLI.out.nob HLI.out.blk
              refine ⟨HM.out.next, G, q1, ?_⟩
              rw [openRows_cons]
              exact q2
            rintro e w7 ⟨rfl, st7, s7, hwi7, hres7, hleft7⟩
            have W7 := Lib.hid hwi7
            have R7 := Lib.hid (hres7.trans HN1.out.symm)
            have F7 := Lib.hid hleft7
            clear hwi7 hres7 hleft7
            go_wp2
            have hm7 : left deps ((ov, kv + 1) :: st3) s2 < gk := by have := HL3.out; omega
            go_roundg (left deps ((ov, kv + 1) :: st3) s2)
            case measure => exact hm7
            case rel => exact ⟨st7, s7, F7, R7, W7⟩
          · have hkx' : ¬ (kv : Int) < (xs.length : Int) := by omega
            have HN1 := Lib.hid (HR2.out.symm.trans (HPO.out hkx))
            have HL3 := Lib.hid (HL2.out.symm.trans (HLP.out hkx))
            clear HNX HPO HLN HLP HR2 HL2 WI1 HL1 HRS
            have hs0 := HME.out.sbox.cell
            have hsf := HME.out.row.free ov
            have hst : wr.cell? ⟨sg, ov, none⟩ = some (.int .i64 1) := HME.out.row.get ov 1 (by
              have hw := HM.out.walked (ov, kv) (by simp)
              rw [stateL_at _ _ hov]; simp [stateOf, hw.1, hw.2])
            go_wp2
            go_quiet (fail)
            go_wp2
            refine wp_region_still_tail 6 (by kernel_rfl) (by kernel_rfl) ?_
            simp only [List.take_succ_cons, List.take_zero, List.drop_succ_cons, List.drop_zero]
            change wpStill _ _ (World.drewN wr (nq + 1)) _ _ _
            iterate 6 still_step
            refine wpStill_nil ?_
            change wpList _ _ _ _ _ (World.drewN wr (nq + 1))
            have hov2 : ov < n := hov
            have MS := Lib.hid ((HME.out.drew CC.out (nq + 1)).set CC.out (stateL_length _ _ _) ov 2)
            have LS := Lib.hid (Li.set (HME.out.drew CC.out (nq + 1)) (HLI.out.drew (nq + 1)) ov (.int .i64 2))
            rw [stateL_told hov] at MS
            have hnog : ov ∉ s2.out := (HM.out.walked (ov, kv) (by simp)).2
            have CT := Lib.hid (CC.out.tell ov MS.out.inv hov (HM.out.outLt hov hnog))
            have hgs : sg ≠ og := (HME.out.own_ne L2.out og rfl).2.2.1
            have hgs' := Ne.symm hgs
            clear hnog
            go_wp2_with fail
            rw [CC.out.tellRun, Oper.upon_enter]
            refine CT.out.mono ?_
            rintro e w7 ⟨rfl, G', hI', hA', hG'⟩
            have I7 := Lib.hid hI'
            have A7 := Lib.hid hA'
            have G7 := Lib.hid hG'
            clear hI' hA' hG' CT
            obtain ⟨hm7, hl7⟩ := Me0.called CC.out MS.out LS.out I7.out A7.out G7.out
            obtain ⟨og7, co7, l71, l72, l73, l74⟩ := hl7.top
            rw [openRows_length] at l71 l72 l74
            have lc7 := l71.cell
            have lf7 := l71.free
            have M7 := Lib.hid hm7
            have LI7 := Lib.hid hl7
            have L71 := Lib.hid l71
            have L72 := Lib.hid l72
            have L73 := Lib.hid l73
            clear hm7 hl7 l71 l72 l73 MS LS
            have h74 : st3.length ≤ co7 := by omega
            go_wp2
            have hm8 : left deps st3 { s2 with out := s2.out ++ [ov] } < gk := by have := HL3.out; omega
            go_roundg (left deps st3 { s2 with out := s2.out ++ [ov] })
            case measure => exact hm8
            case rel =>
              obtain ⟨q1, q2⟩ := M7.out.popped CC.out L71.out L72.out L73.out (openRows_length _) LI7.out.nob LI7.out.blk
              exact ⟨st3, { s2 with out := s2.out ++ [ov] }, Lib.hid rfl, Lib.hid HN1.out.symm, Lib.hid ⟨HM.out.pop, G', q1, q2⟩⟩
end Go.Proofs.Ytfckgagpfpnelaa
