/- Layer 14, the document's answer: the file at a path, with a slash ahead of it if it has none. -/
import Derived.Test.YtppeapafnnanbaaDoorRefOpen
import Derived.Test.YtppeapafnnanbaaDoorSearchTree
namespace Go.Proofs.YtppeapafnnanbaaDoor
open Go.RowKit
set_option linter.unusedVariables false
set_option linter.unusedSimpArgs false

/-- a path with a slash ahead -/
def rootR (p : ByteArray) : ByteArray := if p = ⟨#[]⟩ ∨ p.get! 0 ≠ 47 then slash ++ p else p
theorem rootR_size (p : ByteArray) : (rootR p).size ≤ p.size + 1 := by
  unfold rootR
  split
  · rw [ByteArray.size_append, slash_one]; omega
  · omega
theorem rootR_F (p : ByteArray) : rootR p = rootedF p := by
  unfold rootR rootedF
  obtain ⟨⟨l⟩⟩ := p
  cases l with
  | nil => rfl
  | cons c l =>
    by_cases hc : c = 47
    · subst hc
      have h1 : Lib.hasPrefix (⟨(47 :: l).toArray⟩ : ByteArray).data.toList [47] = true := by
        show Lib.hasPrefix (47 :: l) [47] = true
        simp [Lib.hasPrefix]
      have h0 : ¬ ((⟨(47 :: l).toArray⟩ : ByteArray) = ⟨#[]⟩ ∨ (⟨(47 :: l).toArray⟩ : ByteArray).get! 0 ≠ 47) := by
        rintro (h | h)
        · have := congrArg ByteArray.size h
          simp [ByteArray.size] at this
        · exact h rfl
      rw [if_pos h1, if_neg h0]
    · have h1 : ¬ Lib.hasPrefix (⟨(c :: l).toArray⟩ : ByteArray).data.toList [47] = true := by
        show ¬ Lib.hasPrefix (c :: l) [47] = true
        simp [Lib.hasPrefix, Ne.symm hc]
      rw [if_neg h1, if_pos (.inr (fun h => hc h))]
      rfl
/-- what is told of a file, or of an error -/
def vP : Except Nat (ByteArray × Int × Bool × List Nat) → ByteArray | .error _ => ⟨#[]⟩ | .ok v => v.1
def vI : Except Nat (ByteArray × Int × Bool × List Nat) → Int | .error _ => 0 | .ok v => v.2.1
def vS : Except Nat (ByteArray × Int × Bool × List Nat) → Bool | .error _ => false | .ok v => v.2.2.1
def vK : Except Nat (ByteArray × Int × Bool × List Nat) → Int | .error n => (n : Int) | .ok _ => 0
def Fits (w : World) (ad : Option Addr) (m c : Nat) : Except Nat (ByteArray × Int × Bool × List Nat) → Prop
  | .error _ => ad = none ∧ m = 0 ∧ c = 0
  | .ok v => m = v.2.2.2.length ∧ Row .u8 w ad (toI v.2.2.2)
theorem Fits.below {w w' : World} {ad : Option Addr} {m c : Nat} : ∀ {V : Except Nat (ByteArray × Int × Bool × List Nat)}, Fits w ad m c V → Below w.heap.size w w' → Fits w' ad m c V
  | .error _, h, _ => h
  | .ok _, h, hb => ⟨h.1, h.2.below hb⟩
theorem ropen_form {e : Ending} {w0 : World} : ∀ {V : Except Nat (ByteArray × Int × Bool × List Nat)}, ROpenPost w0 e V → ∃ ad m c, e = .returned (.tuple #[.agg #[.string (vP V), .int .i64 (vI V), .slice ad m c, .bool (vS V)], .int .i64 (vK V)]) ∧ Fits w0 ad m c V
  | .error _, h => ⟨none, 0, 0, h, rfl, rfl, rfl⟩
  | .ok (p, i, su, bs), h => by
    obtain ⟨ad, c, he, hr⟩ := h
    exact ⟨ad, bs.length, c, he, rfl, hr⟩
theorem form_ropen {e : Ending} {w0 : World} {ad : Option Addr} {m c : Nat} : ∀ {V : Except Nat (ByteArray × Int × Bool × List Nat)}, e = .returned (.tuple #[.agg #[.string (vP V), .int .i64 (vI V), .slice ad m c, .bool (vS V)], .int .i64 (vK V)]) → Fits w0 ad m c V → ROpenPost w0 e V
  | .error _, h, hf => by
    obtain ⟨rfl, rfl, rfl⟩ := hf
    exact h
  | .ok (p, i, su, bs), h, hf => by
    obtain ⟨rfl, hr⟩ := hf
    exact ⟨ad, c, h, hr⟩
/-- what open answers -/
def SOpenPost (w0 : World) (e : Ending) (V : Except Nat (ByteArray × Int × Bool × List Nat)) : Prop :=
  ∃ ad m c, e = .returned (.tuple #[.agg #[.string (vP V), .int .i64 (vI V), .slice ad m c, .bool (vS V)], .bool (vK V == 0)]) ∧ Fits w0 ad m c V

set_option maxRecDepth 100000 in
set_option maxHeartbeats 8000000 in
theorem ropenS_any (tb : Nat) (path : ByteArray) (V : Except Nat (ByteArray × Int × Bool × List Nat)) (w0 w : World) (hp : path.size ≤ 140737488351231)
    (hO : ∀ wx, Below w.heap.size w wx → Calls Tryd.prog 42 #[.pointer (some ⟨tb, 0, none⟩), .string (rootR path)] wx fun e w' => ROpenPost w0 e V ∧ Below wx.heap.size wx w') :
    Calls Tryd.prog 17 #[.pointer (some ⟨tb, 0, none⟩), .string path] w fun e w' => SOpenPost w0 e V ∧ Below w.heap.size w w' := by
  have B1 : Hid (Below w.heap.size w (w.alloc (.cells #[.string ⟨#[]⟩, .int .i64 0, .slice none 0 0, .bool false] 33))) := Lib.hid ((Below.refl _ _).alloc (Nat.le_refl _) _)
  have X1 : Hid ((w.alloc (.cells #[.string ⟨#[]⟩, .int .i64 0, .slice none 0 0, .bool false] 33)).heap[w.heap.size]? = some (.cells #[.string ⟨#[]⟩, .int .i64 0, .slice none 0 0, .bool false] 33)) := Lib.hid (heap_alloc_new _ _)
  obtain ⟨vb, hvb⟩ : ∃ vb, w.heap.size = vb := ⟨_, rfl⟩
  have HVB := Lib.hid hvb
  obtain ⟨w1, hw1⟩ : ∃ w1, w.alloc (.cells #[.string ⟨#[]⟩, .int .i64 0, .slice none 0 0, .bool false] 33) = w1 := ⟨_, rfl⟩
  have HW1 := Lib.hid hw1
  rw [hw1] at B1 X1
  rw [hvb] at X1
  obtain ⟨q, hq⟩ : ∃ q, rootR path = q := ⟨_, rfl⟩
  rw [hq] at hO
  have HO := Lib.hid (hO w1 B1.out)
  have z1 : (9223372036854775807 < 1 + path.size) = False := eq_false (by omega)
  clear hw1 hO
  have HQ : Hid (rootR path = q) := Lib.hid hq
  have h3 : path = ⟨#[]⟩ ∨ (∃ h : 0 < path.size, path[0] ≠ 47) ∨ ∃ h : 0 < path.size, path[0] = 47 := by
    obtain ⟨⟨l⟩⟩ := path
    cases l with
    | nil => exact .inl rfl
    | cons c l =>
      by_cases hc : c = 47
      · exact .inr (.inr ⟨by simp [ByteArray.size], hc⟩)
      · exact .inr (.inl ⟨by simp [ByteArray.size], hc⟩)
  clear hq
  rcases h3 with h0 | ⟨hpos, h7⟩ | ⟨hpos, h7⟩
  · subst h0
    have hqe : q = slash ++ (⟨#[]⟩ : ByteArray) := by rw [← HQ.out]; rfl
    unfold slash at hqe
    go_enter Tryd.func17, Tryd.ntmps17
    go_upto_region 1 with fail
    rw [HW1.out]
    try rw [hvb]
    rw [hqe] at HO
    clear hqe hvb
    go_wp2_with fail
    refine HO.out.mono ?_
    rintro e w3 ⟨hpost, hb3⟩
    obtain ⟨ad, m, c, rfl, hfit⟩ := ropen_form hpost
    have B3 := Lib.hid (bstep B1.out hb3)
    have X3 : Hid (w3.heap[vb]? = some (.cells #[.string ⟨#[]⟩, .int .i64 0, .slice none 0 0, .bool false] 33)) := Lib.hid ((hb3.block _ (lt_of_block X1.out)).trans X1.out)
    obtain ⟨P, hP⟩ : ∃ P, vP V = P := ⟨_, rfl⟩
    obtain ⟨I, hI⟩ : ∃ I, vI V = I := ⟨_, rfl⟩
    obtain ⟨U, hU⟩ : ∃ U, vS V = U := ⟨_, rfl⟩
    obtain ⟨K, hK⟩ : ∃ K, vK V = K := ⟨_, rfl⟩
    have HPS := Lib.hid (And.intro hP (And.intro hI (And.intro hU hK)))
    rw [hP, hI, hU, hK]
    obtain ⟨fb, hfb⟩ : ∃ fb, w3.heap.size = fb := ⟨_, rfl⟩
    obtain ⟨w4, hw4⟩ : ∃ w4, w3.alloc (.cells #[.string P, .int .i64 I, .slice ad m c, .bool U] 33) = w4 := ⟨_, rfl⟩
    have HW4 := Lib.hid hw4
    have B4 : Hid (Below w.heap.size w w4) := Lib.hid (by rw [← hw4]; exact B3.out.alloc B3.out.size _)
    have F4 : Hid (Fits w0 ad m c V) := Lib.hid hfit
    have Z4 : Hid (w4.heap[fb]? = some (.cells #[.string P, .int .i64 I, .slice ad m c, .bool U] 33)) := Lib.hid (by rw [← hw4, ← hfb]; exact heap_alloc_new _ _)
    have Y4 : Hid (w4.heap[vb]? = some (.cells #[.string ⟨#[]⟩, .int .i64 0, .slice none 0 0, .bool false] 33)) := Lib.hid (by rw [← hw4]; exact (heap_alloc_old _ _ (lt_of_block X3.out)).trans X3.out)
    obtain ⟨w8, hw8⟩ : ∃ w8, w4.setRow vb #[.string P, .int .i64 I, .slice ad m c, .bool U] = w8 := ⟨_, rfl⟩
    have HW8 := Lib.hid hw8
    have Y8 : Hid (w8.heap[vb]? = some (.cells #[.string P, .int .i64 I, .slice ad m c, .bool U] 33)) := Lib.hid (by rw [← hw8]; exact setRow_heap _ _ _ _ _ _ Y4.out)
    have B8 : Hid (Below w.heap.size w w8) := Lib.hid (by rw [← hw8]; exact below_setRowV B4.out (Nat.le_of_eq HVB.out))
    clear hpost hb3 hfit hP hI hU hK hw4 hw8 HQ
    go_upto_region 4 with fail
    rw [HW4.out]
    try rw [hfb]
    clear hfb
    go_wp2_with (first | (refine wpList_load_row rfl 33 _ rfl fb rfl 33 #[.string P, .int .i64 I, .slice ad m c, .bool U] (0, 0) _ Z4.out Tryd.underlying33 rfl (file_info _ _ _ _ _ _) ?_) | (refine wpList_store_row rfl 33 _ _ rfl vb #[.string P, .int .i64 I, .slice ad m c, .bool U] rfl rfl 33 _ Y4.out (file_info _ _ _ _ _ _) rfl (file_one _ _ _ _ _ _) ?_; rw [HW8.out]))
    refine bodyPost_ret_by (results_cell2 Tryd.results17 _ _ vb 33 #[.string P, .int .i64 I, .slice ad m c, .bool U] (0, 0) _ rfl Y8.out Tryd.underlying33 rfl (file_info _ _ _ _ _ _)) (by rfl) ?_
    obtain ⟨q1, q2, q3, q4⟩ := HPS.out
    exact ⟨⟨ad, m, c, by rw [q1, q2, q3, q4]; rfl, F4.out⟩, B8.out⟩
  · have hqe : q = slash ++ path := by
      rw [← HQ.out]
      unfold rootR
      rw [if_pos (.inr (by rw [first_bang path hpos]; exact h7))]
    unfold slash at hqe
    rw [hqe] at HO
    have hp1 : (0 : Int) < (path.size : Int) := by omega
    have hp0 : ((path.size : Int) == 0) = false := by rw [beq_eq_false_iff_ne]; omega
    have hb : (((path[0]'hpos).toNat : Int) != 47) = true := by
      rw [bne_iff_ne]
      intro e
      apply h7
      exact UInt8.toNat_inj.1 (by show _ = 47; omega)
    go_enter Tryd.func17, Tryd.ntmps17
    go_upto_region 1 with fail
    rw [HW1.out]
    try rw [hvb]
    clear hqe hvb h7
    go_wp2_with fail
    refine HO.out.mono ?_
    rintro e w3 ⟨hpost, hb3⟩
    obtain ⟨ad, m, c, rfl, hfit⟩ := ropen_form hpost
    have B3 := Lib.hid (bstep B1.out hb3)
    have X3 : Hid (w3.heap[vb]? = some (.cells #[.string ⟨#[]⟩, .int .i64 0, .slice none 0 0, .bool false] 33)) := Lib.hid ((hb3.block _ (lt_of_block X1.out)).trans X1.out)
    obtain ⟨P, hP⟩ : ∃ P, vP V = P := ⟨_, rfl⟩
    obtain ⟨I, hI⟩ : ∃ I, vI V = I := ⟨_, rfl⟩
    obtain ⟨U, hU⟩ : ∃ U, vS V = U := ⟨_, rfl⟩
    obtain ⟨K, hK⟩ : ∃ K, vK V = K := ⟨_, rfl⟩
    have HPS := Lib.hid (And.intro hP (And.intro hI (And.intro hU hK)))
    rw [hP, hI, hU, hK]
    obtain ⟨fb, hfb⟩ : ∃ fb, w3.heap.size = fb := ⟨_, rfl⟩
    obtain ⟨w4, hw4⟩ : ∃ w4, w3.alloc (.cells #[.string P, .int .i64 I, .slice ad m c, .bool U] 33) = w4 := ⟨_, rfl⟩
    have HW4 := Lib.hid hw4
    have B4 : Hid (Below w.heap.size w w4) := Lib.hid (by rw [← hw4]; exact B3.out.alloc B3.out.size _)
    have F4 : Hid (Fits w0 ad m c V) := Lib.hid hfit
    have Z4 : Hid (w4.heap[fb]? = some (.cells #[.string P, .int .i64 I, .slice ad m c, .bool U] 33)) := Lib.hid (by rw [← hw4, ← hfb]; exact heap_alloc_new _ _)
    have Y4 : Hid (w4.heap[vb]? = some (.cells #[.string ⟨#[]⟩, .int .i64 0, .slice none 0 0, .bool false] 33)) := Lib.hid (by rw [← hw4]; exact (heap_alloc_old _ _ (lt_of_block X3.out)).trans X3.out)
    obtain ⟨w8, hw8⟩ : ∃ w8, w4.setRow vb #[.string P, .int .i64 I, .slice ad m c, .bool U] = w8 := ⟨_, rfl⟩
    have HW8 := Lib.hid hw8
    have Y8 : Hid (w8.heap[vb]? = some (.cells #[.string P, .int .i64 I, .slice ad m c, .bool U] 33)) := Lib.hid (by rw [← hw8]; exact setRow_heap _ _ _ _ _ _ Y4.out)
    have B8 : Hid (Below w.heap.size w w8) := Lib.hid (by rw [← hw8]; exact below_setRowV B4.out (Nat.le_of_eq HVB.out))
    clear hpost hb3 hfit hP hI hU hK hw4 hw8 HQ
    go_upto_region 4 with fail
    rw [HW4.out]
    try rw [hfb]
    clear hfb
    go_wp2_with (first | (refine wpList_load_row rfl 33 _ rfl fb rfl 33 #[.string P, .int .i64 I, .slice ad m c, .bool U] (0, 0) _ Z4.out Tryd.underlying33 rfl (file_info _ _ _ _ _ _) ?_) | (refine wpList_store_row rfl 33 _ _ rfl vb #[.string P, .int .i64 I, .slice ad m c, .bool U] rfl rfl 33 _ Y4.out (file_info _ _ _ _ _ _) rfl (file_one _ _ _ _ _ _) ?_; rw [HW8.out]))
    refine bodyPost_ret_by (results_cell2 Tryd.results17 _ _ vb 33 #[.string P, .int .i64 I, .slice ad m c, .bool U] (0, 0) _ rfl Y8.out Tryd.underlying33 rfl (file_info _ _ _ _ _ _)) (by rfl) ?_
    obtain ⟨q1, q2, q3, q4⟩ := HPS.out
    exact ⟨⟨ad, m, c, by rw [q1, q2, q3, q4]; rfl, F4.out⟩, B8.out⟩
  · have hqe : q = path := by
      rw [← HQ.out]
      unfold rootR
      rw [if_neg]
      rintro (h | h)
      · rw [h] at hpos; simp [ByteArray.size] at hpos
      · exact h (by rw [first_bang path hpos]; exact h7)
    rw [hqe] at HO
    have hp1 : (0 : Int) < (path.size : Int) := by omega
    have hp0 : ((path.size : Int) == 0) = false := by rw [beq_eq_false_iff_ne]; omega
    have hb : (((path[0]'hpos).toNat : Int) != 47) = false := by rw [h7]; rfl
    go_enter Tryd.func17, Tryd.ntmps17
    go_upto_region 1 with fail
    rw [HW1.out]
    try rw [hvb]
    clear hqe hvb h7
    go_wp2_with fail
    refine HO.out.mono ?_
    rintro e w3 ⟨hpost, hb3⟩
    obtain ⟨ad, m, c, rfl, hfit⟩ := ropen_form hpost
    have B3 := Lib.hid (bstep B1.out hb3)
    have X3 : Hid (w3.heap[vb]? = some (.cells #[.string ⟨#[]⟩, .int .i64 0, .slice none 0 0, .bool false] 33)) := Lib.hid ((hb3.block _ (lt_of_block X1.out)).trans X1.out)
    obtain ⟨P, hP⟩ : ∃ P, vP V = P := ⟨_, rfl⟩
    obtain ⟨I, hI⟩ : ∃ I, vI V = I := ⟨_, rfl⟩
    obtain ⟨U, hU⟩ : ∃ U, vS V = U := ⟨_, rfl⟩
    obtain ⟨K, hK⟩ : ∃ K, vK V = K := ⟨_, rfl⟩
    have HPS := Lib.hid (And.intro hP (And.intro hI (And.intro hU hK)))
    rw [hP, hI, hU, hK]
    obtain ⟨fb, hfb⟩ : ∃ fb, w3.heap.size = fb := ⟨_, rfl⟩
    obtain ⟨w4, hw4⟩ : ∃ w4, w3.alloc (.cells #[.string P, .int .i64 I, .slice ad m c, .bool U] 33) = w4 := ⟨_, rfl⟩
    have HW4 := Lib.hid hw4
    have B4 : Hid (Below w.heap.size w w4) := Lib.hid (by rw [← hw4]; exact B3.out.alloc B3.out.size _)
    have F4 : Hid (Fits w0 ad m c V) := Lib.hid hfit
    have Z4 : Hid (w4.heap[fb]? = some (.cells #[.string P, .int .i64 I, .slice ad m c, .bool U] 33)) := Lib.hid (by rw [← hw4, ← hfb]; exact heap_alloc_new _ _)
    have Y4 : Hid (w4.heap[vb]? = some (.cells #[.string ⟨#[]⟩, .int .i64 0, .slice none 0 0, .bool false] 33)) := Lib.hid (by rw [← hw4]; exact (heap_alloc_old _ _ (lt_of_block X3.out)).trans X3.out)
    obtain ⟨w8, hw8⟩ : ∃ w8, w4.setRow vb #[.string P, .int .i64 I, .slice ad m c, .bool U] = w8 := ⟨_, rfl⟩
    have HW8 := Lib.hid hw8
    have Y8 : Hid (w8.heap[vb]? = some (.cells #[.string P, .int .i64 I, .slice ad m c, .bool U] 33)) := Lib.hid (by rw [← hw8]; exact setRow_heap _ _ _ _ _ _ Y4.out)
    have B8 : Hid (Below w.heap.size w w8) := Lib.hid (by rw [← hw8]; exact below_setRowV B4.out (Nat.le_of_eq HVB.out))
    clear hpost hb3 hfit hP hI hU hK hw4 hw8 HQ
    go_upto_region 4 with fail
    rw [HW4.out]
    try rw [hfb]
    clear hfb
    go_wp2_with (first | (refine wpList_load_row rfl 33 _ rfl fb rfl 33 #[.string P, .int .i64 I, .slice ad m c, .bool U] (0, 0) _ Z4.out Tryd.underlying33 rfl (file_info _ _ _ _ _ _) ?_) | (refine wpList_store_row rfl 33 _ _ rfl vb #[.string P, .int .i64 I, .slice ad m c, .bool U] rfl rfl 33 _ Y4.out (file_info _ _ _ _ _ _) rfl (file_one _ _ _ _ _ _) ?_; rw [HW8.out]))
    refine bodyPost_ret_by (results_cell2 Tryd.results17 _ _ vb 33 #[.string P, .int .i64 I, .slice ad m c, .bool U] (0, 0) _ rfl Y8.out Tryd.underlying33 rfl (file_info _ _ _ _ _ _)) (by rfl) ?_
    obtain ⟨q1, q2, q3, q4⟩ := HPS.out
    exact ⟨⟨ad, m, c, by rw [q1, q2, q3, q4]; rfl, F4.out⟩, B8.out⟩
end Go.Proofs.YtppeapafnnanbaaDoor
