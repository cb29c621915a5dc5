/-
  The walk of the law TraceSpans.
-/
import Derived.Test.YthncnijkgkeohaaIJ
namespace Go.Proofs.Ythncnijkgkeohaa
open Go.RowKit Go.Sort
set_option linter.unusedVariables false

theorem spanS_len (a b : Nat) : (T4.spanS a b).1.length ≤ 21 ∧ (T4.spanS a b).2.length ≤ 21 := by
  have l1 := T4.keyS_len a
  have l2 := T4.keyS_len b
  have l3 := T4.prefS_len a
  unfold T4.spanS
  dsimp only
  constructor
  · split <;> omega
  · split
    · simp
    · split
      · rw [List.length_append]
        split <;> (show _ + 1 ≤ 21; omega)
      · omega
/-- The three bytes of a law, in its memory. -/
structure A3 (w : World) (a b c : Nat) (wx : World) : Prop where
  b : Blk wx w.heap.size 24 #[.int .u8 a, .int .u8 b, .int .u8 c]
  g : Below w.heap.size w wx
theorem A3.below {w wx wy : World} {a b c : Nat} (h : A3 w a b c wx) (hb : Below wx.heap.size wx wy) : A3 w a b c wy := ⟨h.b.below hb h.b.lt, h.g.trans (hb.mono h.g.size)⟩
theorem A3.drew {w wx : World} {a b c : Nat} (h : A3 w a b c wx) : A3 w a b c wx.drew := ⟨h.b, h.g.drew⟩

set_option maxRecDepth 100000 in
set_option maxHeartbeats 4000000 in
theorem traceSpans_walk (w : World) (v0 : Value) (x0 : List R6) (h0 : IsR6s w v0 x0) (v1 : Value) (x1 : Nat × Nat × Nat) (h1 : v1 = .agg #[.int .u8 x1.1, .int .u8 x1.2.1, .int .u8 x1.2.2] ∧ x1.1 < 256 ∧ x1.2.1 < 256 ∧ x1.2.2 < 256) (v2 : Value) (x2 : Bs) (h2 : v2 = .string (Str x2) ∧ x2.length ≤ maxLen) :
    Calls Try.prog 4 #[v0, v1, v2] w fun e w' => e = .returned (.bool true) ∧ Below w.heap.size w w' := by
  obtain ⟨rfl, ha, hb, hc⟩ := h1
  obtain ⟨a, b, c⟩ := x1
  dsimp only at ha hb hc ⊢
  obtain ⟨rfl, h2⟩ := h2
  unfold maxLen at h2
  have hsz := size_Str x2
  have H0 := Lib.hid h0
  clear h0
  by_cases hlong : 60 < x2.length
  · have hlz : (60 : Int) < (x2.length : Int) := by omega
    clear H0
    go_enter Try.func4, Try.ntmps4
    go_wp2_with fail
    refine (sanity_w _).mono ?_
    rintro e0 w0 ⟨rfl, hb0⟩
    have HB := Lib.hid ((below_box _).trans (hb0.mono (by simp)))
    clear hb0
    go_wp2
    go_ret
    exact ⟨rfl, HB.out⟩
  have hlz : ¬ (60 : Int) < (x2.length : Int) := by omega
  obtain ⟨ms, ems⟩ : ∃ r, r = listS x0 10 := ⟨_, rfl⟩
  have hall : ∀ m ∈ ms, Ok m ∧ Few m := by rw [ems]; exact listS_all _ _
  have hml : ms.length ≤ 10 := by rw [ems]; exact listS_len _ _
  have HALL := Lib.hid (fun m hm => (hall m hm).1)
  have Ems := Lib.hid ems
  clear hall ems
  go_enter Try.func4, Try.ntmps4
  go_wp2_with fail
  refine (sanity_w _).mono ?_
  rintro e0 w0 ⟨rfl, hb0⟩
  have HS0 : Hid (A3 w a b c w0) := Lib.hid ⟨(show Blk (w.alloc (.cells #[.int .u8 a, .int .u8 b, .int .u8 c] 24)) w.heap.size 24 #[.int .u8 a, .int .u8 b, .int .u8 c] from Blk.new _ _ _).below hb0 (by simp), (below_box (.cells #[.int .u8 a, .int .u8 b, .int .u8 c] 24)).trans (hb0.mono (by simp))⟩
  clear hb0
  have hkl := keyL_len a x2 (by omega)
  have HK := Lib.hid (fun wx => keyL_w a x2 wx ha)
  generalize keyL a x2 = k at *
  have HL : Hid (∀ wx, A3 w a b c wx → Calls Try.prog 7 #[v0, .int .i64 10] wx fun e w' => ∃ p c, e = .returned (.slice p ms.length c) ∧ IsMsgs w' (.slice p ms.length c) ms ∧ Below wx.heap.size wx w') := Lib.hid (fun wx h => by
    have hl := list_w v0 x0 10 wx (H0.out.below h.g) (by omega)
    rw [← Ems.out] at hl
    refine hl.mono ?_
    rintro e1 w1 ⟨v1, rfl, ho1, hb1⟩
    have hm1 := ho1.msgs
    obtain ⟨p1, c1, rfl, -⟩ := id hm1
    exact ⟨p1, c1, rfl, hm1, hb1⟩)
  go_upto_region 4 with fail
  go_cut [8, 9] (fun s8 s9 wx => ∃ p c', s8 = .slice p ms.length c' ∧ s9 = .string (Str k) ∧ Hid (A3 w a b c wx) ∧ Hid (Sx w [] [(.slice p ms.length c', ms)] [] wx))
  case first =>
    have q0 : ∀ wr, A3 w a b c wr → wr.cell? ⟨w.heap.size, 0, none⟩ = some (.int .u8 a) := fun wr h => h.b.c0 0 _ rfl
    have hl0 := HS0.out.b.lt
    go_region_held3 (fun wr => A3 w a b c wr)
      (first | with_reducible assumption | exact HS0.out.drew | exact A3.below (by with_reducible assumption) (by with_reducible assumption))
      (first
        | (go_at_call 7; (with_reducible refine (HL.out _ (by first | with_reducible assumption | exact HS0.out.drew)).mono ?_); rintro e w2 ⟨p2, c2, rfl, hm2, hb2⟩; have hs2 : A3 w a b c w2 := A3.below (by first | with_reducible assumption | exact HS0.out.drew) hb2)
        | (go_at_call 8; (with_reducible refine (HK.out _).mono ?_); rintro e w3 ⟨rfl, hb3⟩; have hs3 : A3 w a b c w3 := A3.below (by with_reducible assumption) hb3; have hm3 := IsMsgs.below hm2 hb3))
    all_goals
      clear q0
      go_wp2_with fail
      go_meet
      exact ⟨p2, c2, rfl, rfl, Lib.hid hs3, Lib.hid ⟨hs3.g, (fun x hx => by cases hx), (fun x hx => by cases List.mem_singleton.1 hx; exact hm3), (fun x hx => by cases hx)⟩⟩
  case rest =>
    obtain ⟨p2, c2, rfl, rfl, HA, HS⟩ := hcut
    have hla := HA.out.b.lt
    obtain ⟨-, z1, z2, -⟩ := HA.out.b.three
    clear HL HK HS0
    go_wp2_with fail
    have HSP := T4.span_w b c wc hb hc
    obtain ⟨hs1, hs2⟩ := spanS_len b c
    generalize T4.spanS b c = s at *
    obtain ⟨s1, s2⟩ := s
    refine HSP.mono ?_
    clear HSP
    rintro e4 w4 ⟨rfl, hb4⟩
    have HS4 := Lib.hid ((HS.out.below hb4).alloc (.cells #[.string (Str s1), .string (Str s2)] 35))
    have HB4 : Hid (Blk (w4.alloc (.cells #[.string (Str s1), .string (Str s2)] 35)) w4.heap.size 35 #[.string (Str s1), .string (Str s2)]) := Lib.hid (Blk.new _ _ _)
    clear HS HA hb4 z1 z2 hla
    have hNS : Hid (normS (spansF (s1, s2) ms) = spansF (s1, s2) ms) := Lib.hid (norm_spans fun m hm => (HALL.out m hm).2)
    have hln := spans_len (s1, s2) ms
    have HLW : Hid ((keyF k ms).known = false → (if hasB (s1, s2) k then inB (spansF (s1, s2) ms) (keyF k ms).key else clonesB ms || !inB (spansF (s1, s2) ms) (keyF k ms).key) = true) := Lib.hid (fun h => spans_law (fun m hm => (HALL.out m hm).2) h)
    obtain ⟨R, eR⟩ : ∃ R, R = spansF (s1, s2) ms := ⟨_, rfl⟩
    obtain ⟨f, ef⟩ : ∃ f, f = keyF k ms := ⟨_, rfl⟩
    rw [← eR] at hNS hln HLW
    rw [← ef] at HLW
    have ER := Lib.hid eR
    have EF := Lib.hid ef
    clear eR ef
    go_wp2_with fail
    refine (spans_any (s1, s2) (.slice p2 ms.length c2) ms _ (HS4.out.m (.slice p2 ms.length c2, ms) (by simp)) HALL.out (by omega) (by dsimp only at hs1 ⊢; omega) (by dsimp only at hs2 ⊢; omega)).mono ?_
    rintro e5 w5 ⟨v5, rfl, ho5, hb5⟩
    rw [← ER.out] at ho5
    have hm5 := IsSpans.owned ho5
    obtain ⟨p5, c5, rfl, -⟩ := id hm5
    have HS5 := Lib.hid ((HS4.out.below hb5).addS hm5)
    have HB5 := Lib.hid (HB4.out.below hb5 HB4.out.lt)
    clear hb5 ho5 hm5 HS4 HB4
    go_wp2_with fail
    refine (rnorm_w (.slice p5 R.length c5) R w5 (HS5.out.s (.slice p5 R.length c5, R) (by simp)) (by omega)).mono ?_
    rintro e6 w6 ⟨v6, rfl, ho6, hb6⟩
    rw [hNS.out] at ho6
    have hm6 := IsSpans.owned ho6
    have HS6 := Lib.hid (HS5.out.below hb6)
    have HB6 := Lib.hid (HB5.out.below hb6 HB5.out.lt)
    clear HS5 HB5 ho6 hb6
    go_wp2_with fail
    refine (spsame_w (.slice p5 R.length c5) v6 R R w6 (HS6.out.s (.slice p5 R.length c5, R) (by simp)) hm6).mono ?_
    rintro e7 w7 ⟨rfl, hg7⟩
    have hb7 := hg7.below (Nat.le_refl w6.heap.size)
    rw [decide_eq_true rfl]
    have HS7 := Lib.hid (HS6.out.below hb7)
    have HB7 := Lib.hid (HB6.out.below hb7 HB6.out.lt)
    clear HS6 hb7 hg7 hm6 HB6
    go_wp2_with fail
    refine (key_any k (.slice p2 ms.length c2) ms w7 (HS7.out.m (.slice p2 ms.length c2, ms) (by simp)) HALL.out (by omega) (by omega)).mono ?_
    rintro e8 w8 ⟨rfl, hb8⟩
    rw [← EF.out]
    obtain ⟨f1, f2, ⟨f3, f4, f5⟩, f6, f7, f8⟩ := f
    have HLW2 : Hid (f1 = false → (if hasB (s1, s2) k then inB R f6 else clonesB ms || !inB R f6) = true) := HLW
    have HS8 := Lib.hid ((HS7.out.below hb8).alloc (.cells (encF ⟨f1, f2, (f3, f4, f5), f6, f7, f8⟩) 32))
    have HF8 : Hid (Blk (w8.alloc (.cells (encF ⟨f1, f2, (f3, f4, f5), f6, f7, f8⟩) 32)) w8.heap.size 32 (encF ⟨f1, f2, (f3, f4, f5), f6, f7, f8⟩)) := Lib.hid (Blk.new _ _ _)
    have hlb := (HB7.out.below hb8 HB7.out.lt).lt
    have y0 := (HB7.out.below hb8 HB7.out.lt).c0 0 _ rfl
    have y1 := (HB7.out.below hb8 HB7.out.lt).c0 1 _ rfl
    clear HS7 hb8 HB7 HLW EF
    cases f1 with
    | true =>
      go_wp2_with fail
      go_ret
      exact ⟨rfl, HS8.out.g⟩
    | false =>
      cases hh : hasB (s1, s2) k with
      | true =>
        have HLW3 : Hid (inB R f6 = true) := Lib.hid (by have h := HLW2.out rfl; rwa [hh, if_pos rfl] at h)
        have hhas := rhas_w s1 s2 k (w8.alloc (.cells (encF ⟨false, f2, (f3, f4, f5), f6, f7, f8⟩) 32))
        rw [hh] at hhas
        clear hh HLW2
        go_wp2_with fail
        refine hhas.mono ?_
        clear hhas
        rintro e9 w9 ⟨rfl, hg9⟩
        have hb9 := hg9.below (Nat.le_refl (w8.alloc (.cells (encF ⟨false, f2, (f3, f4, f5), f6, f7, f8⟩) 32)).heap.size)
        have HS9 := Lib.hid (HS8.out.below hb9)
        have hF9 := HF8.out.below hb9 HF8.out.lt
        have x5 := hF9.c0 5 _ rfl
        clear hb9 hg9 HS8 HF8 hF9 y0 y1
        go_wp2_with fail
        have hin := in_w (.slice p5 R.length c5) R f6 w9 (HS9.out.s (.slice p5 R.length c5, R) (by simp))
        rw [HLW3.out] at hin
        refine hin.mono ?_
        clear hin
        rintro e10 w10 ⟨rfl, hg10⟩
        have HG10 := Lib.hid (HS9.out.g.trans (hg10.below HS9.out.g.size))
        clear hg10 HS9 x5
        go_wp2_with fail
        go_ret
        exact ⟨rfl, HG10.out⟩
      | false =>
        have HLW3 : Hid ((clonesB ms || !inB R f6) = true) := Lib.hid (by have h := HLW2.out rfl; rwa [hh, if_neg (by simp)] at h)
        have hhas := rhas_w s1 s2 k (w8.alloc (.cells (encF ⟨false, f2, (f3, f4, f5), f6, f7, f8⟩) 32))
        rw [hh] at hhas
        clear hh HLW2
        go_wp2_with fail
        refine hhas.mono ?_
        clear hhas
        rintro e9 w9 ⟨rfl, hg9⟩
        have hb9 := hg9.below (Nat.le_refl (w8.alloc (.cells (encF ⟨false, f2, (f3, f4, f5), f6, f7, f8⟩) 32)).heap.size)
        have HS9 := Lib.hid (HS8.out.below hb9)
        have HF9 := Lib.hid (HF8.out.below hb9 HF8.out.lt)
        clear hb9 hg9 HS8 HF8 y0 y1
        go_wp2_with fail
        refine (clones_w (.slice p2 ms.length c2) ms w9 (HS9.out.m (.slice p2 ms.length c2, ms) (by simp))).mono ?_
        rintro e10 w10 ⟨rfl, hg10⟩
        have hb10 := hg10.below (Nat.le_refl w9.heap.size)
        have HS10 := Lib.hid (HS9.out.below hb10)
        have hF10 := HF9.out.below hb10 HF9.out.lt
        have x5 := hF10.c0 5 _ rfl
        clear hb10 hg10 HS9 HF9 hF10
        cases hcl : clonesB ms with
        | true =>
          clear HLW3 hcl
          have HG10 := Lib.hid HS10.out.g
          go_wp2_with fail
          go_ret
          exact ⟨rfl, HG10.out⟩
        | false =>
          have hni : inB R f6 = false := by have h := HLW3.out; rw [hcl] at h; simpa using h
          go_wp2_with fail
          have hin := in_w (.slice p5 R.length c5) R f6 w10 (HS10.out.s (.slice p5 R.length c5, R) (by simp))
          rw [hni] at hin
          refine hin.mono ?_
          clear hin
          rintro e11 w11 ⟨rfl, hg11⟩
          have HG11 := Lib.hid (HS10.out.g.trans (hg11.below HS10.out.g.size))
          clear hg11 HS10 x5
          go_wp2_with fail
          go_ret
          exact ⟨rfl, HG11.out⟩

end Go.Proofs.Ythncnijkgkeohaa
