/- Layer 7: the statement on tables of the second kind. -/
import Derived.Test.YtklaehlhkflcdaaBothMade
import Derived.Test.YtklaehlhkflcdaaHashAll
import Derived.Test.YtklaehlhkflcdaaHashFindsL
namespace Go.Proofs.Ytklaehlhkflcdaa
open Go.RowKit
set_option linter.unusedVariables false
set_option linter.unusedSimpArgs false

/-- what the statement tells of the dynamic section -/
def dynG : Array Value := #[.slice none 0 0, .int .u64 0, .int .u64 0, .int .u64 0, .int .u64 0, .int .u64 0, .int .u64 0, .int .u64 0, .int .u64 0, .int .u64 0, .int .u64 0, .int .u64 0, .int .u64 0, .int .u64 0, .bool false, .bool false, .bool false,
  .int .u64 0, .int .u64 0, .int .u64 0, .int .u64 0, .int .u64 0, .int .u64 0, .int .u64 0, .int .u64 0, .int .u64 256, .int .u64 0, .int .u64 0, .int .u64 0, .int .u64 0, .int .u64 0, .int .u64 0, .bool false, .bool false, .bool false, .bool false, .bool false]
theorem dynG_built : Try.prog.built 35 [(25, .int .u64 256)] = some dynG := by kernel_rfl
theorem OwnT.allocT {w : World} {B : Nat} {e : TypeId} {v : Value} {T : List ByteArray} (h : OwnT w B e v T) (o : Obj) : OwnT (w.alloc o) B e v T := World.ownsRow.alloc h o
theorem text_row (w : World) (t : ByteArray) (T : TypeId) : TRow (w.alloc (.cells #[.string t] T)) (some ⟨w.heap.size, 0, none⟩) [t] := by
  intro i hi
  have hi0 : i = 0 := by simpa using hi
  subst hi0
  exact ⟨w.heap.size, 0, rfl, by simp, by rw [World.cell?_alloc_new]; rfl⟩
/-- the names, while they are grouped -/
def grpTo (H : ByteArray → Nat) (T : List ByteArray) (b i : Nat) : List ByteArray := ([⟨#[]⟩] : List ByteArray) ++ groupF H T b ++ (T.take i).filter fun t => decide (H t = b)
theorem grpTo_start (H : ByteArray → Nat) (T : List ByteArray) (b : Nat) : grpTo H T b 0 = ([⟨#[]⟩] : List ByteArray) ++ groupF H T b := by simp [grpTo]
theorem grpTo_next (H : ByteArray → Nat) (T : List ByteArray) (b : Nat) : grpTo H T b T.length = ([⟨#[]⟩] : List ByteArray) ++ groupF H T (b + 1) := by
  rw [grpTo, List.take_length, groupF_succ, List.append_assoc]
theorem grpTo_yes {H : ByteArray → Nat} {T : List ByteArray} {b i : Nat} (hi : i < T.length) (h : H (T.getD i .empty) = b) : grpTo H T b (i + 1) = grpTo H T b i ++ [T.getD i .empty] := by
  have e : T.getD i .empty = T[i] := by simp [List.getD, hi]
  rw [e] at h ⊢
  unfold grpTo
  rw [List.take_succ_eq_append_getElem hi, List.filter_append, List.append_assoc, List.append_assoc, List.append_assoc]
  simp [h]
theorem grpTo_no {H : ByteArray → Nat} {T : List ByteArray} {b i : Nat} (hi : i < T.length) (h : ¬ H (T.getD i .empty) = b) : grpTo H T b (i + 1) = grpTo H T b i := by
  have e : T.getD i .empty = T[i] := by simp [List.getD, hi]
  rw [e] at h
  unfold grpTo
  rw [List.take_succ_eq_append_getElem hi, List.filter_append]
  simp [h]
theorem filter_len_le (H : ByteArray → Nat) (T : List ByteArray) (b i : Nat) : (grpTo H T b i).length ≤ 1 + T.length + T.length := by
  unfold grpTo
  rw [List.length_append, List.length_append, groupF_len]
  have h1 := List.length_filter_le (fun t => decide (H t < b)) T
  have h2 := List.length_filter_le (fun t => decide (H t = b)) (T.take i)
  have h3 : (T.take i).length ≤ T.length := by simp; omega
  simp only [List.length_cons, List.length_nil]
  omega
theorem grp_grouped {H : ByteArray → Nat} {T : List ByteArray} {n : Nat} : Grouped (fun x => H ((([⟨#[]⟩] : List ByteArray) ++ groupF H T n).getD x .empty)) (([⟨#[]⟩] : List ByteArray) ++ groupF H T n).length := by
  intro x y h0 hxy hy
  have hs := groupF_sorted H T n
  have hl : (([⟨#[]⟩] : List ByteArray) ++ groupF H T n).length = (groupF H T n).length + 1 := by simp
  rw [hl] at hy
  obtain ⟨x', rfl⟩ : ∃ x', x = x' + 1 := ⟨x - 1, by omega⟩
  obtain ⟨y', rfl⟩ : ∃ y', y = y' + 1 := ⟨y - 1, by omega⟩
  have ex : (([⟨#[]⟩] : List ByteArray) ++ groupF H T n).getD (x' + 1) .empty = (groupF H T n)[x']'(by omega) := by simp [List.getD, show x' < (groupF H T n).length from by omega]
  have ey : (([⟨#[]⟩] : List ByteArray) ++ groupF H T n).getD (y' + 1) .empty = (groupF H T n)[y']'(by omega) := by simp [List.getD, show y' < (groupF H T n).length from by omega]
  show H _ ≤ H _
  rw [ex, ey]
  rcases Nat.lt_or_ge x' y' with h1 | h1
  · exact List.pairwise_iff_getElem.1 hs x' y' (by omega) (by omega) h1
  · have : x' = y' := by omega
    subst this
    exact Nat.le_refl _

set_option maxRecDepth 100000 in
set_option maxHeartbeats 8000000 in
theorem both_at (a : Option Addr) (cap : Nat) (T : List ByteArray) (b sf : Int) (name : ByteArray) (w : World) (h : TRow w a T) (hn : a = none → T.length = 0 ∧ cap = 0) (hs : ∀ t ∈ T, t.size ≤ 140737488351232) (hns : name.size ≤ 140737488351232) (hTl : T.length ≤ 140737488351232) (hb1 : -9223372036854775808 ≤ b) (hb2 : b < 9223372036854775808) (hs1 : -9223372036854775808 ≤ sf) (hs2 : sf < 9223372036854775808) :
    Calls Try.prog 4 #[.slice a T.length cap, .int .i64 b, .int .i64 sf, .string name] w fun e w' => e = .returned (.bool true) ∧ Below w.heap.size w w' := by
  obtain ⟨r1, hr1⟩ : ∃ r1, b.tmod 16 = r1 := ⟨_, rfl⟩
  have hr1b : -16 < r1 ∧ r1 < 16 := by
    rw [← hr1]
    have := Int.tmod_lt_of_pos b (show (0:Int) < 16 by omega)
    have := Int.lt_tmod_of_pos b (show (0:Int) < 16 by omega)
    omega
  obtain ⟨m, hm⟩ : ∃ m : Nat, (r1 + 16).tmod 16 = (m : Int) := ⟨((r1 + 16).tmod 16).toNat, by
    have := Int.tmod_nonneg 16 (show 0 ≤ r1 + 16 by omega)
    omega⟩
  have hm64 : m < 16 := by
    have := Int.tmod_lt_of_pos (r1 + 16) (show (0:Int) < 16 by omega)
    omega
  obtain ⟨r2, hr2⟩ : ∃ r2, sf.tmod 32 = r2 := ⟨_, rfl⟩
  have hr2b : -32 < r2 ∧ r2 < 32 := by
    rw [← hr2]
    have := Int.tmod_lt_of_pos sf (show (0:Int) < 32 by omega)
    have := Int.lt_tmod_of_pos sf (show (0:Int) < 32 by omega)
    omega
  obtain ⟨sh, hk⟩ : ∃ sh : Nat, (r2 + 32).tmod 32 = (sh : Int) := ⟨((r2 + 32).tmod 32).toNat, by
    have := Int.tmod_nonneg 32 (show 0 ≤ r2 + 32 by omega)
    omega⟩
  have hk32 : sh < 32 := by
    have := Int.tmod_lt_of_pos (r2 + 32) (show (0:Int) < 32 by omega)
    omega
  have H := Lib.hid h
  have HN := Lib.hid hn
  have HS := Lib.hid hs
  clear h hn hs
  by_cases hlen : (200 : Int) < (T.length : Int)
  · clear hm hr1 hk hr2
    go_enter Try.func4, Try.ntmps4
    go_wp2_with fail
    refine (up_true w).mono ?_
    rintro e w1 ⟨rfl, rfl⟩
    go_wp2_with fail
    go_ret
    exact ⟨rfl, Below.refl _ _⟩
  · have hl2 : T.length ≤ 200 := by omega
    obtain ⟨n, hnn⟩ : ∃ n : Nat, 1 + m = n := ⟨_, rfl⟩
    have HWR : Hid (wrap64 (1 + (m : Int)) = (n : Int)) := Lib.hid (by rw [show 1 + (m : Int) = (n : Int) from by omega]; exact wrap_word (by omega))
    have hwn : (n : Int) % 4294967296 = (n : Int) := by omega
    have hwo : IntKind.u32.wrap (n : Int) = (n : Int) := by rw [IntKind.wrap_u32]; omega
    have hwk : IntKind.u32.wrap (sh : Int) = (sh : Int) := by rw [IntKind.wrap_u32]; omega
    have hn1 : 1 ≤ n := by omega
    have hn16 : n ≤ 16 := by omega
    obtain ⟨BF, hBF⟩ : ∃ BF : ByteArray → Nat, (fun t => gnuN t.data.toList % n) = BF := ⟨_, rfl⟩
    have HBF : Hid (∀ t, BF t = gnuN t.data.toList % n) := Lib.hid (fun t => by rw [← hBF])
    clear hBF hnn hm64
    have OL := Lib.hid (OwnT.lit w w.heap.size 9 [⟨#[]⟩] #[.string ⟨#[]⟩] rfl (Nat.le_refl _) (by unfold maxLen; simp))
    have BA : Hid (Below w.heap.size w (w.alloc (.cells #[.string ⟨#[]⟩] 9))) := Lib.hid ((Below.refl _ _).alloc (Nat.le_refl _) _)
    have OL0 : Hid (OwnT (w.alloc (.cells #[.string ⟨#[]⟩] 9)) w.heap.size 9 (.slice (some ⟨w.heap.size, 0, none⟩) 1 1) (([⟨#[]⟩] : List ByteArray) ++ groupF BF T 0)) := OL
    clear OL hlen
    have hwr := HWR.out
    go_enter Try.func4, Try.ntmps4
    go_wp2_with fail
    refine (up_true w).mono ?_
    rintro e w1 ⟨rfl, rfl⟩
    go_wp2_with fail
    clear hr1 hm hr2 hk hwr hwn hwo hwk hr1b hr2b
    go_loopg [12, 13] n (fun gg u bv wr => ∃ (q : Nat) (ad : Option Addr) (l c : Nat), q + gg = n ∧ bv = .int .u32 (q : Int) ∧ u = .slice ad l c ∧ Hid (l = (([⟨#[]⟩] : List ByteArray) ++ groupF BF T q).length) ∧ Hid (OwnT wr w.heap.size 9 (.slice ad l c) (([⟨#[]⟩] : List ByteArray) ++ groupF BF T q)) ∧ Hid (Below w.heap.size w wr))
    case atStart => exact ⟨0, _, 1, 1, by omega, rfl, rfl, Lib.hid rfl, OL0, BA⟩
    case round =>
      obtain ⟨q, ad, l, c, hq, rfl, rfl, HL, OT, BW⟩ := hrel
      clear OL0 BA
      cases gk with
      | zero =>
        have hqn : n = q := by omega
        subst hqn
        clear hq
        have hgl : (groupF BF T n).length = T.length := groupF_length (fun t ht => by rw [HBF.out]; exact Nat.mod_lt _ hn1)
        have hG0 := grp_grouped (H := BF) (T := T) (n := n)
        have hmem : ∀ t ∈ groupF BF T n, t ∈ T := fun t ht => (groupF_mem ht).1
        obtain ⟨hTR, -, hTc⟩ := OT.out.row
        have hl1 := HL.out
        have hszs : ∀ t ∈ (([⟨#[]⟩] : List ByteArray) ++ groupF BF T n : List ByteArray), t.size ≤ 140737488351232 := by
          intro t ht
          rcases List.mem_append.1 ht with ht | ht
          · simp only [List.mem_singleton] at ht
            subst ht
            exact Nat.zero_le _
          · exact HS.out t (hmem t ht)
        have hNl : l = T.length + 1 := by rw [hl1]; simp [hgl]
        obtain ⟨all, hall⟩ : ∃ all, (([⟨#[]⟩] : List ByteArray) ++ groupF BF T n : List ByteArray) = all := ⟨_, rfl⟩
        rw [hall] at hG0 hTR hl1 hszs
        have hasz := hszs
        have HASZ := Lib.hid hasz
        have HTR := Lib.hid hTR
        have hf := second_any ad c all n sh wr hTR (fun t ht => Nat.le_trans (hasz t ht) (by decide)) (by omega) (by omega) (by omega) (by omega) hk32
        obtain ⟨hkf, hhk⟩ : ∃ hkf : Nat → Nat, (fun x => gnuN (all.getD x .empty).data.toList) = hkf := ⟨_, rfl⟩
        obtain ⟨hbf, hhb⟩ : ∃ hbf : Nat → Nat, (fun x => gnuN (all.getD x .empty).data.toList % n) = hbf := ⟨_, rfl⟩
        rw [hhk, hhb] at hf
        have hbk : ∀ x, hbf x = hkf x % n := fun x => by rw [← hhb, ← hhk]
        have hkl : ∀ x, hkf x < 4294967296 := fun x => by rw [← hhk]; exact gnuN_lt _
        have hbl2 : ∀ x, hbf x < n := fun x => by rw [hbk]; exact Nat.mod_lt _ hn1
        have hG : Grouped hbf all.length := by
          have e : (fun x => BF (all.getD x .empty)) = hbf := by rw [← hhb]; funext x; rw [HBF.out]
          rwa [e] at hG0
        have hkn : ∀ x, x < all.length → all.getD x .empty = name → hkf x = gnuN name.data.toList := fun x hx e => by rw [← hhk]; simp only; rw [e]
        obtain ⟨N, hN⟩ : ∃ N, all.length = N := ⟨_, rfl⟩
        have hlN : l = N := by rw [hl1, hN]
        subst hlN
        have HNN := Lib.hid hN
        have hN0 : 0 < l := by omega
        have hN1 : l ≤ 201 := by omega
        rw [hN] at hf hG hkn
        have HFF := Lib.hid hf
        have HCH : Hid (bloomF (fourF (bothW hkf hbf n l sh)) [oneP (4 * (12 + n + (l - 1)))] 256 = (bothT hkf hbf n l sh, 0)) := Lib.hid (both_read (by omega) (by omega) (by omega) hk32 hkl rfl)
        have HCT : Hid (bcountF (fourF (bothW hkf hbf n l sh)) [oneP (4 * (12 + n + (l - 1)))] (bothT hkf hbf n l sh) = (l, 0)) := Lib.hid (both_count (by omega) (by omega) hN0 (by omega) hk32 hkl hbl2 hG rfl)
        have HLK : Hid (blookF (fourF (bothW hkf hbf n l sh)) [oneP (4 * (12 + n + (l - 1)))] (bothT hkf hbf n l sh) all name (gnuN name.data.toList) = (wantF all name 0, 0)) := Lib.hid (both_look (by omega) (by omega) (by omega) hN hk32 hkl hbk hG rfl hkn)
        have HTT : Hid (BTok (bothT hkf hbf n l sh)) := Lib.hid ⟨by show 1 < _; omega, hk32, by show 304 + 4 * n < _; omega, by show 0 < ((List.range n).map _).length; simp; omega, by show ((List.range n).map _).length ≤ _; simp; omega,
          (fun x hx => by
            obtain ⟨b, -, rfl⟩ := List.mem_map.1 hx
            rcases fiAt_lt hbf b l with h1 | h1 <;> omega), (by show 0 < 4; omega), (by show 4 ≤ 4096; omega), (fun x hx => by
            obtain ⟨j, -, rfl⟩ := List.mem_map.1 hx
            exact blAt_lt _ _ _ _)⟩
        have HFL : Hid ((fourF (bothW hkf hbf n l sh)).length = 4 * (12 + n + (l - 1))) := Lib.hid (by rw [fourF_length, bothW_length])
        have HFB := Lib.hid (fourF_lt (bothW hkf hbf n l sh))
        obtain ⟨F, hF⟩ : ∃ F, fourF (bothW hkf hbf n l sh) = F := ⟨_, rfl⟩
        obtain ⟨TB, hTB⟩ : ∃ TB, bothT hkf hbf n l sh = TB := ⟨_, rfl⟩
        rw [hF] at HFF HCH HCT HLK HFL HFB
        rw [hTB] at HCH HCT HLK HTT
        have B5 := BW
        have gl1 : ((l : Int) != (T.length : Int) + 1) = false := by rw [hNl]; simp
        clear hF hTB hkn hG hbl2 hkl hbk hhb hhk hf hN hNl hl1 hszs hasz hTR hmem hG0 hgl hall HL OT
        go_wp2_with fail
        refine HFF.out.mono ?_
        rintro e w6 ⟨fa, fc, rfl, ho6, hb6⟩
        have hfc := ho6.cap2
        have hfn : fa = none → F.length = 0 ∧ fc = 0 := by
          obtain ⟨a', c', hv, -, -, hn', -⟩ := ho6.row
          simp only [Value.slice.injEq] at hv
          obtain ⟨rfl, -, rfl⟩ := hv
          rw [toI_length] at hn'
          exact hn'
        have HFN := Lib.hid hfn
        have HBR : Hid (BRow w6 fa F) := Lib.hid ⟨ho6.row2, HFB.out⟩
        have B6 := Lib.hid (bstep B5.out hb6)
        have HTR6 := Lib.hid (HTR.out.below hb6)
        clear ho6 hb6 HFF hfn HTR B5
        rw [HFL.out] at hfc ⊢
        obtain ⟨S, hS⟩ : ∃ S, 4 * (12 + n + (l - 1)) = S := ⟨_, rfl⟩
        rw [hS] at HCH HCT HLK HFL hfc ⊢
        have hSl : S ≤ 5000 := by omega
        clear hS
        go_wp2_with fail
        refine wp_build_as 35 _ rfl [(25, .int .u64 256)] dynG (by rw [Array.toList_map]; rfl) dynG_built ?_
        have HDS : Hid (dynG.size = 37) := Lib.hid rfl
        have HD3 : Hid (dynG[3]? = some (.int .u64 ((0 : Nat) : Int))) := Lib.hid rfl
        have HD25 : Hid (dynG[25]? = some (.int .u64 ((256 : Nat) : Int))) := Lib.hid rfl
        have HD1 : Hid (dynG.all (·.oneCell') = true) := Lib.hid (by simp [dynG, Value.oneCell'])
        have PR : Hid (PRow ((w6.alloc (.cells #[.int .u32 1, .int .u32 0, .int .u64 0, .int .u64 256, .int .u64 (S : Int), .int .u64 0, .int .u64 0] 29)).alloc (.cells #[.int .i64 0, .int .u64 0, .slice (some ⟨w6.heap.size, 0, none⟩) 1 1] 32)) (some ⟨w6.heap.size, 0, none⟩) [oneP S]) := Lib.hid (one_prow (two_boxes (Below.refl _ _)).1 (by omega))
        have HH7 : Hid (((w6.alloc (.cells #[.int .u32 1, .int .u32 0, .int .u64 0, .int .u64 256, .int .u64 (S : Int), .int .u64 0, .int .u64 0] 29)).alloc (.cells #[.int .i64 0, .int .u64 0, .slice (some ⟨w6.heap.size, 0, none⟩) 1 1] 32)).heap[w6.heap.size + 1]? = some (.cells #[.int .i64 0, .int .u64 0, .slice (some ⟨w6.heap.size, 0, none⟩) 1 1] 32)) := Lib.hid (two_boxes (Below.refl _ _)).2
        have B7 : Hid (Below w6.heap.size w6 ((w6.alloc (.cells #[.int .u32 1, .int .u32 0, .int .u64 0, .int .u64 256, .int .u64 (S : Int), .int .u64 0, .int .u64 0] 29)).alloc (.cells #[.int .i64 0, .int .u64 0, .slice (some ⟨w6.heap.size, 0, none⟩) 1 1] 32))) := Lib.hid (((Below.refl _ _).alloc (Nat.le_refl _) _).alloc (by simp) _)
        generalize ((w6.alloc (.cells #[.int .u32 1, .int .u32 0, .int .u64 0, .int .u64 256, .int .u64 (S : Int), .int .u64 0, .int .u64 0] 29)).alloc (.cells #[.int .i64 0, .int .u64 0, .slice (some ⟨w6.heap.size, 0, none⟩) 1 1] 32)) = w7 at *
        have hsc : (storeCells ⟨w7.heap.size, 0, none⟩ dynG.toList).run Try.prog (w7.alloc (.cells #[.slice none 0 0, .int .u64 0, .int .u64 0, .int .u64 0, .int .u64 0, .int .u64 0, .int .u64 0, .int .u64 0, .int .u64 0, .int .u64 0, .int .u64 0, .int .u64 0, .int .u64 0, .int .u64 0, .bool false, .bool false, .bool false, .int .u64 0, .int .u64 0, .int .u64 0, .int .u64 0, .int .u64 0, .int .u64 0, .int .u64 0, .int .u64 0, .int .u64 0, .int .u64 0, .int .u64 0, .int .u64 0, .int .u64 0, .int .u64 0, .int .u64 0, .bool false, .bool false, .bool false, .bool false, .bool false] 35)) = .ok () (w7.alloc (.cells dynG 35)) := run_storeCells_new w7 35 #[.slice none 0 0, .int .u64 0, .int .u64 0, .int .u64 0, .int .u64 0, .int .u64 0, .int .u64 0, .int .u64 0, .int .u64 0, .int .u64 0, .int .u64 0, .int .u64 0, .int .u64 0, .int .u64 0, .bool false, .bool false, .bool false, .int .u64 0, .int .u64 0, .int .u64 0, .int .u64 0, .int .u64 0, .int .u64 0, .int .u64 0, .int .u64 0, .int .u64 0, .int .u64 0, .int .u64 0, .int .u64 0, .int .u64 0, .int .u64 0, .int .u64 0, .bool false, .bool false, .bool false, .bool false, .bool false] dynG (by rw [HDS.out]; kernel_rfl) rfl HD1.out
        generalize dynG = D at *
        have hdsz := HDS.out
        have B8 : Hid (Below w6.heap.size w6 (w7.alloc (.cells D 35))) := Lib.hid (B7.out.alloc B7.out.size _)
        have B8S := Lib.hid B8.out.size
        have HD8 : Hid ((w7.alloc (.cells D 35)).heap[w7.heap.size]? = some (.cells D 35)) := Lib.hid (heap_alloc_new _ _)
        have PR8 := Lib.hid (PR.out.below ((Below.refl w7.heap.size w7).alloc (Nat.le_refl _) (.cells D 35)))
        have HH8 : Hid ((w7.alloc (.cells D 35)).heap[w6.heap.size + 1]? = some (.cells #[.int .i64 0, .int .u64 0, .slice (some ⟨w6.heap.size, 0, none⟩) 1 1] 32)) := Lib.hid ((heap_alloc_old _ _ (lt_of_block HH7.out)).trans HH7.out)
        have HRF := Lib.hid (Below.refl (w7.alloc (.cells D 35)).heap.size (w7.alloc (.cells D 35)))
        go_wp2_with (at_make; go_loud (refine wpList_make_row rfl (.tmp 88) (.tmp 88) symSlice rfl symNil rfl (w7.alloc (.cells D 35)).heap.size (w7.alloc (.cells D 35)) l .i64 .i64 (l : Int) (l : Int) rfl rfl rfl rfl (by omega) (by unfold maxLen; omega) HRF.out (Nat.le_refl _) ?_); intro g w9 ho9 hg9 hb9 hb9'; have O9 := Lib.hid ho9; have B9 := Lib.hid hb9; clear ho9 hg9 hb9 hb9')
        clear hsc B7 HH7 PR HD1
        obtain ⟨w8, hw8⟩ : ∃ w8, w7.alloc (.cells D 35) = w8 := ⟨_, rfl⟩
        rw [hw8] at B8 B8S HD8 PR8 HH8 O9 B9 HRF
        clear hw8
        have HTR8 := Lib.hid (HTR6.out.below B8.out)
        rw [← HNN.out, ← symsTo_zero] at O9
        rw [HNN.out] at O9
        have HWS := Lib.hid (fun k => wantTo_succ all name k)
        have HWL := Lib.hid (fun k => wantTo_le all name k)
        go_loopg [19, 20] l (fun gg u i wr => ∃ (k : Nat) (wa : Option Addr) (wc : Nat), k + gg = l ∧ i = .int .i64 (k : Int) ∧ u = .slice wa (wantTo all name k).length wc ∧ Hid (OwnS wr w8.heap.size 39 7 (.slice (some ⟨g, 0, none⟩) l l) (symsTo all k)) ∧
          Hid (OwnI wr w8.heap.size 3 .i64 (.slice wa (wantTo all name k).length wc) (toI (wantTo all name k))) ∧ Hid (Below w8.heap.size w8 wr))
        case atStart => exact ⟨0, none, 0, by omega, rfl, rfl, O9, Lib.hid (OwnI.nil _ _ _ _), B9⟩
        case round =>
          obtain ⟨k, wa, wc, hk, rfl, rfl, OS, OI, BW⟩ := hrel
          cases gk with
          | zero =>
            have hke : k = l := by omega
            subst hke
            have hwa : wantTo all name k = wantF all name 0 := by rw [← HNN.out]; exact wantTo_all all name (by rw [HNN.out]; exact hN0)
            rw [hwa] at OI
            have hnr : NameRow wr (some ⟨g, 0, none⟩) all := by
              have h1 := OS.out
              rw [show symsTo all k = symsTo all all.length from by rw [HNN.out]] at h1
              exact h1.names
            have HNRW := Lib.hid hnr
            have B68 := Lib.hid (bstep B8.out BW.out)
            have BB := Lib.hid (bstep B6.out B68.out)
            have HBW : Hid (BRow wr fa F) := Lib.hid (HBR.out.below B68.out)
            have HPW := Lib.hid (PR8.out.below BW.out)
            have HDW : Hid (∀ w', Below wr.heap.size wr w' → w'.heap[w7.heap.size]? = some (.cells D 35)) := Lib.hid (fun w' h => by
              have hlt := lt_of_block HD8.out
              rw [h.block _ (Nat.lt_of_lt_of_le hlt BW.out.size), BW.out.block _ hlt]
              exact HD8.out)
            have HHW : Hid (∀ w', Below wr.heap.size wr w' → w'.cell? ⟨w6.heap.size + 1, 0, none⟩ = some (.int .i64 0) ∧ w'.cell? ⟨w6.heap.size + 1, 1, none⟩ = some (.int .u64 0) ∧ w'.cell? ⟨w6.heap.size + 1, 2, none⟩ = some (.slice (some ⟨w6.heap.size, 0, none⟩) 1 1)) := Lib.hid (fun w' h => by
              have hlt := lt_of_block HH8.out
              have e : w'.heap[w6.heap.size + 1]? = some (.cells #[.int .i64 0, .int .u64 0, .slice (some ⟨w6.heap.size, 0, none⟩) 1 1] 32) := by
                rw [h.block _ (Nat.lt_of_lt_of_le hlt BW.out.size), BW.out.block _ hlt]
                exact HH8.out
              exact ⟨by rw [cell_of_row _ _ _ _ _ _ e]; rfl, by rw [cell_of_row _ _ _ _ _ _ e]; rfl, by rw [cell_of_row _ _ _ _ _ _ e]; rfl⟩)
            have HI : Hid ((Try.prog.info? 35).map (·.size) = some D.size) := Lib.hid (by rw [HDS.out]; kernel_rfl)
            have HLI := Lib.hid (fun (w1 : World) (h : Below wr.heap.size wr w1) => (⟨HBW.out.below h, by rw [HFL.out]; omega, by rw [HFL.out]; exact hfc, HFN.out, HPW.out.below h, by simp, by decide, by decide, HDS.out, HD3.out, HD25.out⟩ : LookIn fa fc F (some ⟨w6.heap.size, 0, none⟩) [oneP S] D 0 256 w1))
            have HCN := Lib.hid (fun (w1 : World) (h : Below wr.heap.size wr w1) => count_g_ok fa fc F 0 0 (some ⟨w6.heap.size, 0, none⟩) 1 [oneP S] D 0 256 w1 (HLI.out w1 h) rfl (by decide) TB HCH.out HTT.out k HCT.out)
            rw [HFL.out] at HCN
            have HLO := Lib.hid (fun (w1 : World) (h : Below wr.heap.size wr w1) => look_g_ok fa fc F 0 0 (some ⟨w6.heap.size, 0, none⟩) 1 [oneP S] D 0 256 (some ⟨g, 0, none⟩) k all name w1 (HLI.out w1 h) rfl (by decide) TB HCH.out HTT.out k HCT.out (HNRW.out.below h) (by rw [HNN.out]; omega) hns)
            rw [HLK.out, HFL.out, HNN.out] at HLO
            have HRW := Lib.hid (Below.refl wr.heap.size wr)
            have hwl : (wantF all name 0).length ≤ k := by rw [← hwa]; exact HWL.out k
            obtain ⟨L, hL⟩ : ∃ L, wantF all name 0 = L := ⟨_, rfl⟩
            rw [hwa, hL]
            rw [hL] at OI HLO hwl
            obtain ⟨k0, k1, k2⟩ := HHW.out wr HRW.out
            have hDw := HDW.out wr HRW.out
            have HDw := Lib.hid hDw
            clear hwa hnr hL hDw HCH HLK HCT HTT HLI HTR8 HTR6 HWS HWL HNRW OS
            unfold headV at *
            go_wp2_with (refine wpList_load_row rfl 35 _ rfl w7.heap.size rfl 35 D (0, 0) _ HDw.out Try.underlying35 rfl HI.out ?_)
            refine (HCN.out wr HRW.out).mono ?_
            rintro e w11 ⟨rfl, hb11⟩
            obtain ⟨m0, m1, m2⟩ := HHW.out w11 hb11
            have HDw2 := Lib.hid (HDW.out w11 hb11)
            have B11 := Lib.hid hb11
            have OI11 := Lib.hid (OI.out.below hb11)
            clear hb11 k0 k1 k2 HDw
            go_wp2_with (refine wpList_load_row rfl 35 _ rfl w7.heap.size rfl 35 D (0, 0) _ HDw2.out Try.underlying35 rfl HI.out ?_)
            refine (HLO.out w11 B11.out).mono ?_
            rintro e w12 ⟨ma, mc, he, ho12, hb12⟩
            replace he : e = .returned (.tuple #[.slice ma L.length mc, .nilIface]) := he
            replace ho12 : OwnI w12 _ 3 .i64 (.slice ma L.length mc) (toI L) := ho12
            subst he
            have B12 := Lib.hid (bstep B11.out hb12)
            have HSM := Lib.hid (same_eq ma wa mc wc L.length (toI L) w12 (toI_length _) (by omega) ho12.row2 (OI11.out.below hb12).row2)
            clear ho12 hb12 m0 m1 m2 HDw2
            go_wp2_with fail
            refine HSM.out.mono ?_
            rintro e w13 ⟨rfl, hb13⟩
            have B13 := Lib.hid (bstep BB.out (bstep B12.out hb13))
            clear hb13
            go_wp2_with fail
            go_ret
            exact ⟨rfl, B13.out⟩
          | succ gg =>
            have hlk : k < l := by omega
            obtain ⟨tb, to, rfl, -, htc⟩ := (HTR8.out.below BW.out) k (by rw [HNN.out]; exact hlk)
            have hs0 := OS.out.cellAt k 0 (by rw [symsTo_length, HNN.out]; exact hlk) (by omega)
            have hsv : (symsTo all k)[k]? = some symNil := by
              have := symsTo_at (k := k) (show k < all.length by rw [HNN.out]; exact hlk)
              rw [if_neg (by omega)] at this
              exact this
            have hsv2 : (symsTo all k)[k]'(by rw [symsTo_length, HNN.out]; exact hlk) = symNil := by
              rw [List.getElem?_eq_getElem (by rw [symsTo_length, HNN.out]; exact hlk)] at hsv
              exact Option.some.inj hsv
            rw [hsv2] at hs0
            replace hs0 : wr.cell? ⟨g, k * 7, none⟩ = some (.string .empty) := hs0
            have hsf : wr.frozen? ⟨g, k * 7, none⟩ = false := OS.out.freeAt (k * 7)
            have OSP := Lib.hid (OS.out.putText HNN.out hlk)
            have hap : (Value.slice wa (wantTo all name k).length wc).ownBlock ≠ some g := by
              rcases own_apart (v' := .slice wa (wantTo all name k).length wc) OS.out.1 OI.out (by decide) with h1 | h1
              · rw [h1]; simp
              · exact h1
            have OIP := Lib.hid (OI.out.setO (a := ⟨g, k * 7, none⟩) hap (.string (all.getD k .empty)))
            have BWP := Lib.hid (BW.out.setCell (p := ⟨g, k * 7, none⟩) (OS.out.blockGe).1 (.string (all.getD k .empty)))
            have htg : ¬ g = tb := by
              intro e
              have h1 := (OS.out.blockGe).1
              have h2 : tb < w8.heap.size := by
                obtain ⟨tb', to', e', hlt', -⟩ := HTR8.out k (by rw [HNN.out]; exact hlk)
                cases e'
                exact hlt'
              omega
            have htg' : ¬ tb = g := fun e => htg e.symm
            have HK := Lib.hid (HWS.out k)
            have hwl := HWL.out k
            clear hap hsv hsv2
            generalize all.getD k .empty = nm at *
            by_cases hk0 : k = 0
            · rw [if_neg (by omega)] at HK
              have hk0' : ¬ (0 : Int) < (k : Int) := by omega
              have HK0 := Lib.hid hk0
              clear hk0
              go_wp2_with fail
              go_roundg gg
              case measure => omega
              case rel => exact ⟨k + 1, wa, wc, by omega, by go_num, by rw [HK.out], OSP, by rw [HK.out]; exact OIP, BWP⟩
            · have hk0' : (0 : Int) < (k : Int) := by omega
              by_cases hnm : nm = name
              · rw [if_pos ⟨by omega, hnm⟩] at HK
                subst hnm
                have BWS := Lib.hid BWP.out.size
                have hwl2 : (wantTo all nm k).length ≤ 1001 := by omega
                obtain ⟨L, hL⟩ : ∃ L, wantTo all nm k = L := ⟨_, rfl⟩
                rw [hL] at OIP hwl2 HK ⊢
                clear hL hk0
                go_wp2_with (at_builtin; go_loud (refine wpList_grow rfl (.tmp 114) (.tmp 116) slice64h rfl w8.heap.size (.slice wa L.length wc) (toI L) L.length (k : Int) rfl (by change Value.slice (some ⟨wr.heap.size, 0, none⟩) 1 1 = _; simp [World.setCell]) (toI_length _) OIP.out (by unfold maxLen; omega) (by omega) BWS.out ?_); intro ad5 c5 w10 hown5 hgr5; have O5 := Lib.hid hown5; have G5 := Lib.hid hgr5; clear hown5 hgr5)
                go_roundg gg
                case measure => omega
                case rel =>
                  have hT : toI L ++ [(k : Int)] = toI (L ++ [k]) := by simp [toI]
                  have o5 := O5.out
                  rw [hT] at o5
                  refine ⟨k + 1, ad5, c5, by omega, by go_num, by rw [HK.out]; simp, Lib.hid ?_, Lib.hid (by rw [HK.out]; simpa using o5), Lib.hid ?_⟩
                  · exact (OSP.out.allocO _).keepI G5.out (OIP.out.allocO _) (by decide)
                  · exact below_keepI (BWP.out.alloc BWP.out.size _) G5.out (OIP.out.allocO _) (by have := BWP.out.size; simp at this ⊢; omega)
              · rw [if_neg (fun h => hnm h.2)] at HK
                have hnmb := text_ne hnm
                clear hnm hk0
                go_wp2_with fail
                go_roundg gg
                case measure => omega
                case rel => exact ⟨k + 1, wa, wc, by omega, by go_num, by rw [HK.out], OSP, by rw [HK.out]; exact OIP, BWP⟩
      | succ gg =>
        have hqn : q < n := by omega
        have hqi : (q : Int) < (n : Int) := by omega
        have HQ := Lib.hid hq
        have hwb : IntKind.u32.wrap ((q : Int) + 1) = (q : Int) + 1 := by rw [IntKind.wrap_u32]; omega
        have GS := Lib.hid (grpTo_start BF T q)
        have GN := Lib.hid (grpTo_next BF T q)
        clear hq
        go_wp2_with fail
        go_loopg [12, 14] T.length (fun gh u iv wq => ∃ (i : Nat) (ad : Option Addr) (l c : Nat), i + gh = T.length ∧ iv = .int .i64 (i : Int) ∧ u = .slice ad l c ∧ Hid (l = (grpTo BF T q i).length) ∧ Hid (OwnT wq w.heap.size 9 (.slice ad l c) (grpTo BF T q i)) ∧ Hid (Below w.heap.size w wq))
        case atStart => exact ⟨0, ad, l, c, by omega, rfl, rfl, Lib.hid (by rw [GS.out]; exact HL.out), Lib.hid (by rw [GS.out]; exact OT.out), BW⟩
        case round =>
          obtain ⟨i, ad, l, c, hi, rfl, rfl, HL2, OT2, BW2⟩ := hrel
          cases gk with
          | zero =>
            have hie : i = T.length := by omega
            subst hie
            rw [GN.out] at HL2 OT2
            go_wp2_with fail
            go_roundg gg
            case measure => omega
            case rel => exact ⟨q + 1, ad, l, c, by have := HQ.out; omega, by go_num, rfl, HL2, OT2, BW2⟩
          | succ gh =>
            have hit : i < T.length := by omega
            obtain ⟨tb, to, rfl, -, htc⟩ := (H.out.below BW2.out) i hit
            have HGI := Lib.hid (gnuN_any (T.getD i .empty) wr (by have := HS.out (T.getD i .empty) (by rw [List.getD, List.getElem?_eq_getElem hit]; exact List.getElem_mem _); omega))
            have BFI := Lib.hid (HBF.out (T.getD i .empty))
            have YES := Lib.hid (fun hh => grpTo_yes (H := BF) (b := q) hit hh)
            have NO := Lib.hid (fun hh => grpTo_no (H := BF) (b := q) hit hh)
            have LE := Lib.hid (filter_len_le BF T q i)
            obtain ⟨nm, hnm⟩ : ∃ nm, T.getD i .empty = nm := ⟨_, rfl⟩
            rw [hnm] at htc HGI BFI YES NO
            have hglt := gnuN_lt nm.data.toList
            have hgr := BFI.out
            generalize gnuN nm.data.toList = g at *
            have v1 : (g : Int) % (n : Int) = (BF nm : Int) := by rw [hgr]; omega
            have v2 : (g : Int).tmod (n : Int) = (BF nm : Int) := by rw [Int.tmod_eq_emod_of_nonneg (by omega)]; exact v1
            have hn00 : ¬ n = 0 := by omega
            have HI := Lib.hid hi
            clear hnm hgr BFI hi
            by_cases hx : BF nm = q
            · have t1 : ((BF nm : Int) == (q : Int)) = true := by rw [hx]; simp
              have HY := Lib.hid (YES.out hx)
              generalize BF nm = fq at *
              have HX := Lib.hid hx

              clear hx YES NO
              go_wp2_with fail
              refine HGI.out.mono ?_
              rintro e w6 ⟨rfl, rfl⟩
              go_wp2_with (at_builtin; go_loud (refine wpList_texts rfl (.tmp 63) (.tmp 68) texts_t text_info rfl w.heap.size w (.slice ad l c) (grpTo BF T q i) l (some ⟨wr.heap.size, 0, none⟩) 1 1 [nm] rfl (by rfl) HL2.out.symm rfl (text_row wr nm 9) (fun h => by cases h) (OT2.out.allocT _) (by have := LE.out; have := HL2.out; unfold maxLen; omega) (by have := LE.out; have := HL2.out; omega) (BW2.out.alloc BW2.out.size _) (by have := BW2.out.size; simp; omega) ?_); intro v5 w5 hown5 hbe5; have O5 := Lib.hid hown5; have B5 := Lib.hid hbe5; clear hown5 hbe5)
              rw [← HY.out] at O5
              obtain ⟨ad5, c5, rfl⟩ := O5.out.form
              go_roundg gh
              case measure => omega
              case rel => exact ⟨i + 1, ad5, (grpTo BF T q (i + 1)).length, c5, by have := HI.out; omega, by go_num, rfl, Lib.hid rfl, O5, B5⟩
            · have t1 : ((BF nm : Int) == (q : Int)) = false := beq_eq_false_iff_ne.2 (by omega)
              have HX := Lib.hid hx
              rw [← NO.out hx] at HL2 OT2
              generalize BF nm = fq at *
              clear hx YES NO
              go_wp2_with fail
              refine HGI.out.mono ?_
              rintro e w6 ⟨rfl, rfl⟩
              go_wp2_with fail
              go_roundg gh
              case measure => omega
              case rel => exact ⟨i + 1, ad, l, c, by have := HI.out; omega, by go_num, rfl, HL2, OT2, BW2⟩
end Go.Proofs.Ytklaehlhkflcdaa
