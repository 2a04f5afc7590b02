/- Layer 14, the document's answer: a text with its tokens put in. -/
import Derived.Test.YthhmnagaknhokaaRefExpF
namespace Go.Proofs.Ythhmnagaknhokaa
open Go.RowKit
set_option linter.unusedVariables false
set_option linter.unusedSimpArgs false

def namesC : Array Value := #[.string { data := #[79, 82, 73, 71, 73, 78] }, .string { data := #[76, 73, 66] }, .string { data := #[80, 76, 65, 84, 70, 79, 82, 77] }]
def textsC (dir : List UInt8) : Array Value := #[.string ⟨dir.toArray⟩, .string { data := #[108, 105, 98, 54, 52] }, .string { data := #[120, 56, 54, 95, 54, 52] }]
/-- the two tables, and the text so far -/
def RExp (B : World) (nb tb : Nat) (dir : List UInt8) (v : Value) (out : List UInt8) (w : World) : Prop :=
  w.ownsRow B.heap.size 5 1 v out.length (Lib.byteCells out) ∧ w.heap[nb]? = some (.cells namesC 9) ∧ w.heap[tb]? = some (.cells (textsC dir) 9) ∧ Below B.heap.size B w
theorem names_at (k : Nat) (hk : k < 3) : ∃ n : ByteArray, namesC[k]? = some (.string n) ∧ n.data.toList = nameF (k + 1) ∧ n.size ≤ 8 := by
  rcases (show k = 0 ∨ k = 1 ∨ k = 2 by omega) with rfl | rfl | rfl
  · exact ⟨_, rfl, rfl, by decide⟩
  · exact ⟨_, rfl, rfl, by decide⟩
  · exact ⟨_, rfl, rfl, by decide⟩
theorem texts_at (dir l : List UInt8) (k : Nat) (hk : k < 3) : ∃ n : ByteArray, (textsC dir)[k]? = some (.string n) ∧ n.data.toList = textF dir l (k + 1) := by
  rcases (show k = 0 ∨ k = 1 ∨ k = 2 by omega) with rfl | rfl | rfl
  · exact ⟨_, rfl, rfl⟩
  · exact ⟨_, rfl, rfl⟩
  · exact ⟨_, rfl, rfl⟩

theorem bytes_both (l : List UInt8) (s : ByteArray) : Lib.byteCells (l ++ s.data.toList) = Lib.byteCells l ++ Lib.strCells s := by simp [Lib.byteCells, Lib.strCells]
theorem drop_end (s : ByteArray) : s.data.toList.drop s.size = [] := by
  have h : s.data.toList.length = s.size := by simp
  exact List.drop_of_length_le (by omega)
theorem own_slice {w : World} {B : Nat} {e : TypeId} {size : Nat} {v : Value} {n : Nat} {xs : List Value} (h : w.ownsRow B e size v n xs) : ∃ ad c, v = .slice ad n c := by
  rcases h.2 with ⟨rfl, h0⟩ | ⟨g, cap, cur, rfl, -⟩
  · subst h0; exact ⟨none, 0, rfl⟩
  · exact ⟨_, _, rfl⟩
theorem RExp.alloc {B w : World} {nb tb : Nat} {dir : List UInt8} {v : Value} {out : List UInt8} (h : RExp B nb tb dir v out w) (o : Obj) : RExp B nb tb dir v out (w.alloc o) := by
  obtain ⟨h1, h2, h3, h4⟩ := h
  exact ⟨h1.alloc _, (heap_alloc_old _ _ (lt_of_block h2)).trans h2, (heap_alloc_old _ _ (lt_of_block h3)).trans h3, h4.alloc h4.size _⟩
theorem RExp.grown {B w w2 : World} {nb tb : Nat} {dir : List UInt8} {v v' : Value} {out out' : List UInt8} (h : RExp B nb tb dir v out w) (hg : w.grownBy w2 v.ownBlock) (ho : w2.ownsRow B.heap.size 5 1 v' out'.length (Lib.byteCells out')) : RExp B nb tb dir v' out' w2 := by
  obtain ⟨h1, h2, h3, h4⟩ := h
  exact ⟨ho, (hg.block nb (lt_of_block h2) (fun e => own_ne h1 h2 (by decide) e.symm)).trans h2, (hg.block tb (lt_of_block h3) (fun e => own_ne h1 h3 (by decide) e.symm)).trans h3, h4.grown hg h4.size (fun k hk => (h1.lt k hk).1)⟩

set_option maxRecDepth 100000 in
set_option maxHeartbeats 8000000 in
theorem refExpand_any (s origin : ByteArray) (w : World) (hs : s.size ≤ 140737488355328) (ho : origin.size ≤ 140737488355328) (hR : (expF s origin).1.length ≤ 140737488355328) :
    Calls Try.prog 30 #[.string s, .string origin] w (ExpAns (expF s origin) w) := by
  have HD := Lib.hid (fun (w1 : World) => refDir_any origin w1 ho)
  obtain ⟨dir, hdir⟩ : ∃ dir, dirF origin = dir := ⟨_, rfl⟩
  obtain ⟨R, hRe⟩ : ∃ R, expF s origin = R := ⟨_, rfl⟩
  have HE : Hid (expGo dir s.size s.data.toList [] false = R) := Lib.hid (by rw [← hRe, ← hdir]; rfl)
  rw [hdir] at HD
  rw [hRe] at hR ⊢
  have HRL := Lib.hid hR
  have HS := Lib.hid hs
  have HX0 : Hid (RExp w w.heap.size (w.heap.size + 1) dir (.slice none 0 0) [] ((w.alloc (.cells namesC 9)).alloc (.cells (textsC dir) 9))) := Lib.hid ⟨⟨rfl, .inl ⟨rfl, rfl⟩⟩, by
      rw [heap_alloc_old _ _ (by simp)]; exact heap_alloc_new _ _, by
      have := heap_alloc_new (w.alloc (.cells namesC 9)) (.cells (textsC dir) 9)
      simpa using this, ((Below.refl _ _).alloc (Nat.le_refl _) _).alloc (by simp) _⟩
  unfold namesC textsC at HX0
  clear hdir hRe hR hs
  obtain ⟨hti, hinfo⟩ := slice8s
  obtain ⟨it, hit, hz0, hz1, hz2⟩ := info_parts hinfo
  have HTI := Lib.hid hti; have HII := Lib.hid hit; have HZ0 := Lib.hid hz0; have HZ1 := Lib.hid hz1; have HZ2 := Lib.hid hz2
  clear hti hinfo hit hz0 hz1 hz2
  go_enter Try.func30, Try.ntmps30
  go_wp2_with fail
  refine (HD.out _).mono ?_
  rintro e w' ⟨rfl, rfl⟩
  go_wp2_with fail
  go_loopg [6, 7, 10] s.size (fun g ov hv iv wr => ∃ (i : Nat) (told : Bool) (out : List UInt8) (ad : Option Addr) (c : Nat), s.size - i ≤ g ∧ i ≤ s.size ∧ ov = .slice ad out.length c ∧ hv = .bool told ∧ iv = .int .i64 (i : Int) ∧ Hid (expGo dir g (s.data.toList.drop i) out told = R) ∧ Hid (RExp w w.heap.size (w.heap.size + 1) dir (.slice ad out.length c) out wr))
  case atStart => exact ⟨0, false, [], none, 0, by omega, by omega, rfl, rfl, rfl, HE, HX0⟩
  case round =>
    obtain ⟨i, told, out, ad, c, hg, hi, rfl, rfl, rfl, HG, HX⟩ := hrel
    clear HX0 HE
    by_cases h0 : i = s.size
    · have hnil : s.data.toList.drop i = [] := by rw [h0]; exact drop_end s
      have HEQ : Hid (R = (out, told)) := Lib.hid (by rw [← HG.out, hnil, expGo_nil])
      have HB := Lib.hid HX.out.2.2.2
      have hcv := conv_own wr w.heap.size out.length c ad out rfl HX.out.1
      have h0i : ¬ (i : Int) < (s.size : Int) := by omega
      clear hnil h0 hi hg
      go_wp2_with fail
      go_ret2
      rw [HEQ.out]
      exact ⟨rfl, HB.out⟩
    · have h0i : (i : Int) < (s.size : Int) := by omega
      have hlt : i < s.size := by omega
      obtain ⟨g, rfl⟩ : ∃ g, gk = g + 1 := ⟨gk - 1, by omega⟩
      have hhd := drop_head s i hlt
      have hne : s.data.toList.drop i ≠ [] := by rw [hhd]; simp
      have hst := expGo_step (dir := dir) (f := g) (out := out) (told := told) hne
      have hsz := tokF_size hne
      have hll : (s.data.toList.drop i).length = s.size - i := by simp
      have hwh := tokF_which (s.data.toList.drop i)
      have h36t : (s[i].toNat : Int) = 36 → s[i] = 36 := fun h => UInt8.toNat_inj.1 (by show s[i].toNat = 36; omega)
      have htok : s[i] = 36 → tokGo (s.data.toList.drop i) 3 1 = tokF (s.data.toList.drop i) := fun h => by unfold tokF; rw [hhd, h]; rfl
      have htok0 : ¬ s[i] = 36 → tokF (s.data.toList.drop i) = (0, 1) := fun h => by rw [hhd]; exact tokF_plain h
      have hgr := fun (k n : Nat) => expGo_grows dir g ((s.data.toList.drop i).drop n) (out ++ textF dir (s.data.toList.drop i) k) (told || k == 1)
      have HHB := Lib.hid (fun (k : Nat) (n : ByteArray) (h : s[i] = 36) (hn : n.data.toList = nameF k) => hitB_rest s i k n hlt h hn)
      have HHP := Lib.hid (fun (k : Nat) (n : ByteArray) (hn : n.data.toList = nameF k) => hitP_rest s i k n hn)
      have H1 : Hid ((s.data.toList.drop i).take 1 = [s[i]]) := Lib.hid (by rw [hhd]; rfl)
      have HDR : Hid (∀ n, (s.data.toList.drop i).drop n = s.data.toList.drop (i + n)) := Lib.hid (fun n => by rw [List.drop_drop])
      obtain ⟨l, hl⟩ : ∃ l, s.data.toList.drop i = l := ⟨_, rfl⟩
      have HLD : Hid (l = s.data.toList.drop i) := Lib.hid hl.symm
      rw [hl] at hst hsz hll hwh htok htok0 hgr HHB HHP H1 HDR HG
      obtain ⟨K, hK⟩ : ∃ K, tokF l = K := ⟨_, rfl⟩
      rw [hK] at hst hsz hwh htok htok0
      rw [HG.out] at hst
      have HST := Lib.hid hst; have HSZ := Lib.hid hsz; have HLL := Lib.hid hll; have HWH := Lib.hid hwh; have H36 := Lib.hid h36t; have HT := Lib.hid htok; have HT0 := Lib.hid htok0; have HGR := Lib.hid hgr
      obtain ⟨hown, hnb, htb, hB⟩ := HX.out
      have HOWN := Lib.hid hown; have HNB := Lib.hid hnb; have HTB := Lib.hid htb; have BW := Lib.hid hB
      clear hst hsz hll hwh h36t htok htok0 hgr hhd hne hown hnb htb hB HG hl hK h0 hi
      have HS0 : Hid (s[i] = 36 → Scan l K 3 0 0 0) := Lib.hid (fun h => .inl ⟨rfl, rfl, rfl, HT.out h⟩)
      go_wp2_with fail
      go_loopg [11, 12, 13] 3 (fun g2 zv hv kv wq => ∃ (k sz wh : Nat), zv = .int .i64 (sz : Int) ∧ hv = .int .i64 (wh : Int) ∧ kv = .int .i64 (k : Int) ∧ Hid ((s[i] = 36 → Scan l K g2 k sz wh) ∧ (¬ s[i] = 36 → k = 0 ∧ sz = 0 ∧ wh = 0)) ∧ wr = wq)
      case atStart => exact ⟨0, 0, 0, rfl, rfl, rfl, Lib.hid ⟨HS0.out, fun _ => ⟨rfl, rfl, rfl⟩⟩, rfl⟩
      case round =>
        obtain ⟨k, sz, wh, rfl, rfl, rfl, HSC, rfl⟩ := hrel
        by_cases h36 : s[i] = 36
        · rcases HSC.out.1 h36 with ⟨hk, rfl, rfl, htk⟩ | ⟨rfl, hk, hKe, hsz0, hwh3⟩
          · cases gk with
            | zero =>
              have hk3 : k = 3 := by omega
              subst hk3
              have hk0 : ¬ ((3 : Nat) : Int) < 3 := by omega
              have HKE : Hid (K = (0, 1)) := Lib.hid htk.symm
              clear htk hk h36
              · have HNX : Hid (expGo dir g (s.data.toList.drop (i + 1)) (out ++ [s[i]]) told = R) := Lib.hid (by
                  have h1 := HST.out
                  rw [HKE.out] at h1
                  simp only at h1
                  rw [HDR.out, show textF dir l 0 = [s[i]] from H1.out, show (told || (0 : Nat) == 1) = told from by cases told <;> rfl] at h1
                  exact h1.symm)
                have hl1 : out.length + 1 ≤ 140737488355328 := by
                  have h1 := expGo_grows dir g (s.data.toList.drop (i + 1)) (out ++ [s[i]]) told
                  rw [HNX.out, List.length_append] at h1
                  have h2 := HRL.out
                  have h3 : [s[i]].length = 1 := rfl
                  omega
                have HL1 := Lib.hid hl1
                have HLT := Lib.hid hlt
                have hwi : wrap64 ((i : Int) + 1) = ((i + 1 : Nat) : Int) := IntWalk.wrap64_in _ ⟨by omega, by have := HS.out; omega⟩
                clear hl1
                go_wp2_with (at_builtin; refine wpList_append_own _ rfl _ _ 36 rfl w.heap.size 5 it (.int .u8 0) 1 1 HTI.out HII.out HZ0.out HZ1.out HZ2.out rfl (by decide) _ out.length (Lib.byteCells out) rfl (HOWN.out.alloc _) ⟨wr.heap.size, 0, none⟩ 1 1 [.int .u8 (s[i].toNat : Int)] rfl rfl (cell_one_at wr _ _) (by intro u hu; simp only [List.mem_cons, List.not_mem_nil, or_false] at hu; subst hu; rfl) (by have := HL1.out; unfold maxLen; omega) (by have := HL1.out; omega) (by have := BW.out.size; simp; omega) ?_)
                intro v' w2 hown' hgrow _
                obtain ⟨ad2, c2, rfl⟩ := own_slice hown'
                have HX2 : Hid (RExp w w.heap.size (w.heap.size + 1) dir (.slice ad2 (out.length + 1) c2) (out ++ [s[i]]) w2) := Lib.hid ((HX.out.alloc _).grown hgrow (by rw [byteCells_snoc, List.length_append]; exact hown'))
                have HGG := Lib.hid hg
                clear hown' hgrow hg
                go_wp2_with fail
                go_roundg g
                case measure => omega
                case rel => exact ⟨i + 1, told, out ++ [s[i]], ad2, c2, by have := HGG.out; omega, by have := HLT.out; omega, by rw [List.length_append]; rfl, rfl, by go_num, HNX, by rw [List.length_append]; exact HX2⟩
            | succ g2 =>
              have hk3 : k < 3 := by omega
              obtain ⟨n, hn1, hn2, hn3⟩ := names_at k hk3
              have hcn : wr.cell? ⟨w.heap.size, k, none⟩ = some (.string n) := (cell_of_row _ _ _ _ _ _ HNB.out).trans hn1
              have hrs : (s.extract (i + 1) s.size).size = s.size - (i + 1) := by simp [ByteArray.size_extract]
              obtain ⟨i1, hi1e⟩ : ∃ i1, i + 1 = i1 := ⟨_, rfl⟩
              have HBR := Lib.hid (begins_any (s.extract (i + 1) s.size) (({ data := #[123] } : ByteArray) ++ n ++ { data := #[125] }) wr (by have := HS.out; omega) (by rw [ByteArray.size_append, ByteArray.size_append]; show 1 + n.size + 1 ≤ _; omega))
              have HPL := Lib.hid (begins_any (s.extract (i + 1) s.size) n wr (by have := HS.out; omega) (by omega))
              rw [HHB.out (k + 1) n h36 hn2] at HBR
              rw [HHP.out (k + 1) n hn2] at HPL
              have ht36 : ((s[i].toNat : Int) == 36) = true := by rw [h36]; rfl
              have hi1 : (i1 : Int) ≤ (s.size : Int) := by omega
              have hi0 : (0 : Int) ≤ (i1 : Int) := by omega
              have hc1 : ¬ 9223372036854775807 < 1 + n.size := by omega
              have hc2 : ¬ 9223372036854775807 < 1 + n.size + 1 := by omega
              have hwr : wrap64 ((i : Int) + 1) = (i1 : Int) := by
                have := HS.out
                rw [show (i : Int) + 1 = (i1 : Int) from by omega]
                exact IntWalk.wrap64_in _ ⟨by omega, by omega⟩
              have HWR := Lib.hid hwr
              have H1E := Lib.hid hi1e
              rw [hi1e] at HBR HPL hrs
              obtain ⟨r, hr⟩ : ∃ r, s.extract i1 s.size = r := ⟨_, rfl⟩
              rw [hr] at HBR HPL hrs
              have hrl : l.drop 1 = r.data.toList := by
                have h1 := HLD.out
                rw [h1, ← hr, extract_drop, ← hi1e, List.drop_drop]
              have HRS := Lib.hid hrs
              have HRL2 := Lib.hid hrl
              have hlen : (nameF (k + 1)).length = n.size := by rw [← hn2]; simp
              have HLEN := Lib.hid hlen
              have hblen : (bracedF (k + 1)).length = n.size + 3 := by unfold bracedF; simp [hlen]
              have hpe : hitP (k + 1) l = (Lib.hasPrefix (l.drop 1) (nameF (k + 1)) && endsF (r.data.toList.drop n.size)) := by unfold hitP; rw [hlen, hrl]
              have hk0 : (k : Int) < 3 := by omega
              rw [tokGo, hpe, hblen, hlen] at htk
              have HTK := Lib.hid htk
              have HK := Lib.hid hk
              have HN2 := Lib.hid hn2
              have HN3 := Lib.hid hn3
              have H36' := Lib.hid h36
              clear htk hk hn2 hn1 h36 HSC hrs hi1e hrl hlen hblen hpe
              go_wp2_with fail
              refine HBR.out.mono ?_
              rintro e w' ⟨rfl, rfl⟩
              go_wp2_with fail
              refine HPL.out.mono ?_
              rintro e w' ⟨rfl, rfl⟩
              cases hb : hitB (k + 1) l with
              | true =>
                have HX1 : Hid (K = (k + 1, n.size + 3)) := Lib.hid (by rw [← HTK.out, hb]; rfl)
                clear hb HBR HPL
                go_wp2_with fail
                go_roundg 0
                case measure => omega
                case rel => exact ⟨k + 1, n.size + 3, k, by go_num, rfl, by go_num, Lib.hid ⟨fun _ => .inr ⟨rfl, by omega, HX1.out, by omega, hk3⟩, fun h => absurd H36'.out h⟩, rfl⟩
              | false =>
                cases hp : Lib.hasPrefix (l.drop 1) (nameF (k + 1)) with
                | false =>
                  have HX1 : Hid (tokGo l g2 (k + 1 + 1) = K) := Lib.hid (by rw [← HTK.out, hb, hp]; rfl)
                  clear hb hp HBR HPL
                  go_wp2_with fail
                  go_roundg g2
                  case measure => omega
                  case rel => exact ⟨k + 1, 0, 0, rfl, rfl, by go_num, Lib.hid ⟨fun _ => .inl ⟨by have := HK.out; omega, rfl, rfl, HX1.out⟩, fun h => absurd H36'.out h⟩, rfl⟩
                | true =>
                  by_cases hz : r.size = n.size
                  · have HX1 : Hid (K = (k + 1, 1 + n.size)) := Lib.hid (by rw [← HTK.out, hb, hp, endsF_none r n.size hz]; rfl)
                    have hzi : ((r.size : Int) == (n.size : Int)) = true := by rw [hz]; exact beq_self_eq_true _
                    clear hb hp HBR HPL
                    go_wp2_with fail
                    go_roundg 0
                    case measure => omega
                    case rel => exact ⟨k + 1, n.size + 1, k, by go_num, rfl, by go_num, Lib.hid ⟨fun _ => .inr ⟨rfl, by omega, by rw [HX1.out, Nat.add_comm 1 n.size], by omega, hk3⟩, fun h => absurd H36'.out h⟩, rfl⟩
                  · have hzl : n.size < r.size := by
                      have h1 := Lib.hasPrefix_le (hp)
                      have h2 : (l.drop 1).length = r.size := by rw [HRL2.out]; simp
                      have h3 := HLEN.out
                      omega
                    have hzi : ((r.size : Int) == (n.size : Int)) = false := beq_eq_false_iff_ne.2 (by omega)
                    have HGO := Lib.hid (goes_any r[n.size] wr)
                    have HES := Lib.hid (endsF_some r n.size hzl)
                    have HPP := Lib.hid hp
                    have HBB := Lib.hid hb
                    clear hb hp HBR HPL hz
                    go_wp2_with fail
                    refine HGO.out.mono ?_
                    rintro e w' ⟨rfl, rfl⟩
                    cases hw : isW r[n.size] with
                    | true =>
                      have HX1 : Hid (tokGo l g2 (k + 1 + 1) = K) := Lib.hid (by rw [← HTK.out, HBB.out, HPP.out, HES.out, hw]; rfl)
                      clear hw HES
                      go_wp2_with fail
                      go_roundg g2
                      case measure => omega
                      case rel => exact ⟨k + 1, 0, 0, rfl, rfl, by go_num, Lib.hid ⟨fun _ => .inl ⟨by have := HK.out; omega, rfl, rfl, HX1.out⟩, fun h => absurd H36'.out h⟩, rfl⟩
                    | false =>
                      have HX1 : Hid (K = (k + 1, 1 + n.size)) := Lib.hid (by rw [← HTK.out, HBB.out, HPP.out, HES.out, hw]; rfl)
                      clear hw HES
                      go_wp2_with fail
                      go_roundg 0
                      case measure => omega
                      case rel => exact ⟨k + 1, n.size + 1, k, by go_num, rfl, by go_num, Lib.hid ⟨fun _ => .inr ⟨rfl, by omega, by rw [HX1.out, Nat.add_comm 1 n.size], by omega, hk3⟩, fun h => absurd H36'.out h⟩, rfl⟩
          · have hsz0' : ((sz : Int) == 0) = false := beq_eq_false_iff_ne.2 (by omega)
            have ht36 : ((s[i].toNat : Int) == 36) = true := by rw [h36]; rfl
            obtain ⟨n, hn1, hn2⟩ := texts_at dir l wh hwh3
            have hcn : wr.cell? ⟨w.heap.size + 1, wh, none⟩ = some (.string n) := (cell_of_row _ _ _ _ _ _ HTB.out).trans hn1
            obtain ⟨q, hq⟩ : ∃ q, ((wh : Int) == 0) = q := ⟨_, rfl⟩
            have hq2 : ((wh + 1 : Nat) == 1) = q := by rw [← hq, Bool.eq_iff_iff, beq_iff_eq, beq_iff_eq]; omega
            have HNX : Hid (expGo dir g (s.data.toList.drop (i + sz)) (out ++ n.data.toList) (told || q) = R) := Lib.hid (by
              have h1 := HST.out
              rw [hKe] at h1
              simp only at h1
              rw [HDR.out, ← hn2, hq2] at h1
              exact h1.symm)
            have HL1 : Hid (out.length + n.size ≤ 140737488355328) := Lib.hid (by
              have h1 := expGo_grows dir g (s.data.toList.drop (i + sz)) (out ++ n.data.toList) (told || q)
              rw [HNX.out, List.length_append] at h1
              have h2 := HRL.out
              have h3 : n.data.toList.length = n.size := by simp
              omega)
            have hisz : i + sz ≤ s.size := by
              have h1 := HSZ.out
              rw [hKe] at h1
              simp only at h1
              have h2 := HLL.out
              omega
            have HIS := Lib.hid hisz
            have HSP := Lib.hid hsz0
            have hwi : wrap64 ((i : Int) + (sz : Int)) = ((i + sz : Nat) : Int) := by
              have := HS.out
              rw [show (i : Int) + (sz : Int) = ((i + sz : Nat) : Int) from by omega]
              exact IntWalk.wrap64_in _ ⟨by omega, by omega⟩
            have HWI := Lib.hid hwi
            have HK := Lib.hid hk
            have hwi3 : (wh : Int) < 3 := by omega
            clear hn1 hn2 hq2 hisz hsz0 hwi hKe HSC h36 hk hwh3
            by_cases hk3 : k < 3
            · have hk0 : (k : Int) < 3 := by omega
              clear hk3
              go_wp2_with (at_builtin; refine Lib.wpList_append_own_string _ rfl _ _ 36 9 rfl w.heap.size 5 it HTI.out Try.underlying9 HII.out HZ0.out HZ1.out HZ2.out _ out.length (Lib.byteCells out) rfl HOWN.out n rfl (by have := HL1.out; unfold maxLen; omega) HL1.out BW.out.size ?_)
              intro v' w2 hown' hgrow _
              obtain ⟨ad2, c2, rfl⟩ := own_slice hown'
              have HX2 : Hid (RExp w w.heap.size (w.heap.size + 1) dir (.slice ad2 (out.length + n.size) c2) (out ++ n.data.toList) w2) := Lib.hid (HX.out.grown hgrow (by rw [bytes_both, List.length_append]; exact hown'))
              have HGG := Lib.hid hg
              have hwi := HWI.out
              clear hown' hgrow hg
              cases told <;> cases q
              all_goals
                go_wp2_with fail
                go_roundg g
                case measure => omega
                case rel => exact ⟨i + sz, _, out ++ n.data.toList, ad2, c2, by have := HGG.out; have := HSP.out; omega, HIS.out, by rw [List.length_append]; rfl, rfl, by go_num, HNX, by rw [List.length_append]; exact HX2⟩
            · have hk0 : ¬ (k : Int) < 3 := by omega
              clear hk3
              go_wp2_with (at_builtin; refine Lib.wpList_append_own_string _ rfl _ _ 36 9 rfl w.heap.size 5 it HTI.out Try.underlying9 HII.out HZ0.out HZ1.out HZ2.out _ out.length (Lib.byteCells out) rfl HOWN.out n rfl (by have := HL1.out; unfold maxLen; omega) HL1.out BW.out.size ?_)
              intro v' w2 hown' hgrow _
              obtain ⟨ad2, c2, rfl⟩ := own_slice hown'
              have HX2 : Hid (RExp w w.heap.size (w.heap.size + 1) dir (.slice ad2 (out.length + n.size) c2) (out ++ n.data.toList) w2) := Lib.hid (HX.out.grown hgrow (by rw [bytes_both, List.length_append]; exact hown'))
              have HGG := Lib.hid hg
              have hwi := HWI.out
              clear hown' hgrow hg
              cases told <;> cases q
              all_goals
                go_wp2_with fail
                go_roundg g
                case measure => omega
                case rel => exact ⟨i + sz, _, out ++ n.data.toList, ad2, c2, by have := HGG.out; have := HSP.out; omega, HIS.out, by rw [List.length_append]; rfl, rfl, by go_num, HNX, by rw [List.length_append]; exact HX2⟩
        · obtain ⟨rfl, rfl, rfl⟩ := HSC.out.2 h36
          have hk0 : ((0 : Nat) : Int) < 3 := by omega
          have HKE : Hid (K = (0, 1)) := Lib.hid (HT0.out h36)
          have ht36 : ((s[i].toNat : Int) == 36) = false := beq_eq_false_iff_ne.2 (fun h => h36 (H36.out h))
          clear HSC h36
          · have HNX : Hid (expGo dir g (s.data.toList.drop (i + 1)) (out ++ [s[i]]) told = R) := Lib.hid (by
              have h1 := HST.out
              rw [HKE.out] at h1
              simp only at h1
              rw [HDR.out, show textF dir l 0 = [s[i]] from H1.out, show (told || (0 : Nat) == 1) = told from by cases told <;> rfl] at h1
              exact h1.symm)
            have hl1 : out.length + 1 ≤ 140737488355328 := by
              have h1 := expGo_grows dir g (s.data.toList.drop (i + 1)) (out ++ [s[i]]) told
              rw [HNX.out, List.length_append] at h1
              have h2 := HRL.out
              have h3 : [s[i]].length = 1 := rfl
              omega
            have HL1 := Lib.hid hl1
            have HLT := Lib.hid hlt
            have hwi : wrap64 ((i : Int) + 1) = ((i + 1 : Nat) : Int) := IntWalk.wrap64_in _ ⟨by omega, by have := HS.out; omega⟩
            clear hl1
            go_wp2_with (at_builtin; refine wpList_append_own _ rfl _ _ 36 rfl w.heap.size 5 it (.int .u8 0) 1 1 HTI.out HII.out HZ0.out HZ1.out HZ2.out rfl (by decide) _ out.length (Lib.byteCells out) rfl (HOWN.out.alloc _) ⟨wr.heap.size, 0, none⟩ 1 1 [.int .u8 (s[i].toNat : Int)] rfl rfl (cell_one_at wr _ _) (by intro u hu; simp only [List.mem_cons, List.not_mem_nil, or_false] at hu; subst hu; rfl) (by have := HL1.out; unfold maxLen; omega) (by have := HL1.out; omega) (by have := BW.out.size; simp; omega) ?_)
            intro v' w2 hown' hgrow _
            obtain ⟨ad2, c2, rfl⟩ := own_slice hown'
            have HX2 : Hid (RExp w w.heap.size (w.heap.size + 1) dir (.slice ad2 (out.length + 1) c2) (out ++ [s[i]]) w2) := Lib.hid ((HX.out.alloc _).grown hgrow (by rw [byteCells_snoc, List.length_append]; exact hown'))
            have HGG := Lib.hid hg
            clear hown' hgrow hg
            go_wp2_with fail
            go_roundg g
            case measure => omega
            case rel => exact ⟨i + 1, told, out ++ [s[i]], ad2, c2, by have := HGG.out; omega, by have := HLT.out; omega, by rw [List.length_append]; rfl, rfl, by go_num, HNX, by rw [List.length_append]; exact HX2⟩
end Go.Proofs.Ythhmnagaknhokaa
