/-
  The walk of the law SpanMeets.
-/
import Derived.Test.YtjfmilbpmnikpaaZWA
import Derived.Test.YtjfmilbpmnikpaaZWN
import Derived.Test.YtjfmilbpmnikpaaZF
namespace Go.Proofs.Ytjfmilbpmnikpaa
open Go.RowKit Go.Sort
set_option linter.unusedVariables false

theorem shortB_two {a b : Sp} (h : shortB [a, b] 2 = true) : a.1.length ≤ 30 ∧ a.2.length ≤ 30 ∧ b.1.length ≤ 30 ∧ b.2.length ≤ 30 := by
  simp [shortB] at h
  omega
theorem meet_len {a b : Sp} (ha : a.1.length ≤ 30 ∧ a.2.length ≤ 30) (hb : b.1.length ≤ 30 ∧ b.2.length ≤ 30) : (meetS a b).1.length ≤ 30 ∧ (meetS a b).2.length ≤ 30 := by
  have e1 : (if ltP (keyP a.1) (keyP b.1) then b.1 else a.1).length ≤ 30 := by split <;> omega
  have e2 : (if ltP (hiP b.2) (hiP a.2) then b.2 else a.2).length ≤ 30 := by split <;> omega
  by_cases he : emptyB (if ltP (keyP a.1) (keyP b.1) then b.1 else a.1, if ltP (hiP b.2) (hiP a.2) then b.2 else a.2) = true
  · have : meetS a b = noneS := by unfold meetS; simp only; rw [if_pos he]
    rw [this]; decide
  · have : meetS a b = (if ltP (keyP a.1) (keyP b.1) then b.1 else a.1, if ltP (hiP b.2) (hiP a.2) then b.2 else a.2) := by unfold meetS; simp only; rw [if_neg he]
    rw [this]; exact ⟨e1, e2⟩
theorem Blk.two {w : World} {b : Nat} {T : TypeId} {x0 x1 : Value} (h : Blk w b T #[x0, x1]) : w.cell? ⟨b, 0, none⟩ = some x0 ∧ w.cell? ⟨b, 1, none⟩ = some x1 := ⟨h.c0 0 _ rfl, h.c0 1 _ rfl⟩
theorem Blk.twoG {w : World} {b : Nat} {T : TypeId} {x0 x1 : Value} (h : Blk w b T #[x0, x1]) : (∀ n os, (grow (w.drewN n) os).cell? ⟨b, 0, none⟩ = some x0) ∧ (∀ n os, (grow (w.drewN n) os).cell? ⟨b, 1, none⟩ = some x1) := ⟨h.c 0 _ rfl, h.c 1 _ rfl⟩
/-- Keys that are read in any world of the class. -/
theorem keysG {w wr : World} {v : Value} {ks : List Bs} (h : IsStrs w v ks) (hg : Below w.heap.size w wr) : ∃ g o cap p, v = .slice p ks.length cap ∧ ks.length ≤ cap ∧ cap ≤ maxLen ∧ ∀ i (hi : i < ks.length), p = some ⟨g, o, none⟩ ∧ ∀ n os, (grow (wr.drewN n) os).cell? ⟨g, o + i, none⟩ = some (.string (Str ks[i])) := by
  obtain ⟨g, o, cap, p, h1, h2, h3, h4, h5⟩ := h.form
  refine ⟨g, o, cap, p, h1, h2, h3, fun i hi => ⟨(h5 i hi).1, fun n os => ?_⟩⟩
  have hgl := (h4 (by rintro rfl; simp at hi)).2
  exact cell_grown (by exact Nat.lt_of_lt_of_le hgl hg.size) ((hg.cell (p := ⟨g, o + i, none⟩) (by exact hgl)).trans (h5 i hi).2) n os

set_option maxRecDepth 100000 in
set_option maxHeartbeats 4000000 in
theorem spanMeets_walk (w : World) (v0 : Value) (a : Sp) (r0 : IsSpan w v0 a) (v1 : Value) (b : Sp) (r1 : IsSpan w v1 b) :
    Calls Try.prog 5 #[v0, v1] w fun e w' => e = .returned (.bool true) ∧ Below w.heap.size w w' := by
  obtain ⟨rfl, _, _⟩ := r0
  obtain ⟨rfl, _, _⟩ := r1
  have mixed := mixedA
  have hsh := fun (wx : World) n (hn : n = wx.heap.size) => short_w (.slice (some ⟨n, 0, none⟩) 2 2) [a, b] 2 (wx.alloc (.cells #[.string (Str a.1), .string (Str a.2), .string (Str b.1), .string (Str b.2)] 29)) (IsSpans.new wx [a, b] 29 hn (by simp))
  have Hsh := Lib.hid hsh
  clear hsh
  obtain ⟨al, ah⟩ := a
  obtain ⟨bl, bh⟩ := b
  have HA : Hid (Blk ((w.alloc (.cells #[.string (Str al), .string (Str ah)] 29)).alloc (.cells #[.string (Str bl), .string (Str bh)] 29)) w.heap.size 29 #[.string (Str al), .string (Str ah)]) := Lib.hid ((Blk.new _ _ _).alloc _)
  have HBk : Hid (Blk ((w.alloc (.cells #[.string (Str al), .string (Str ah)] 29)).alloc (.cells #[.string (Str bl), .string (Str bh)] 29)) (w.heap.size + 1) 29 #[.string (Str bl), .string (Str bh)]) := Lib.hid (Blk.new' _ _ _ (by simp))
  have HB0 : Hid (Below w.heap.size w ((w.alloc (.cells #[.string (Str al), .string (Str ah)] 29)).alloc (.cells #[.string (Str bl), .string (Str bh)] 29))) := Lib.hid (((Below.refl _ w).alloc (Nat.le_refl _) _).alloc (by simp) _)
  simp only at Hsh
  go_enter Try.func5, Try.ntmps5
  go_wp2_with (go_at_call 11; refine (sanity_w _).mono ?_; rintro e w1 ⟨rfl, hb⟩; have hA := Blk.below HA.out hb (by simp only [World.size_alloc]; omega); have hB := Blk.below HBk.out hb (by simp only [World.size_alloc]; omega); have HB1 := Lib.hid (Below.next HB0.out (Nat.le_refl _) hb); obtain ⟨a0, a1⟩ := hA.two; obtain ⟨b0, b1⟩ := hB.two; have la := hA.lt; have lb := hB.lt; have HA1 := Lib.hid hA; have HBk1 := Lib.hid hB; clear hb hA hB)
  refine (Hsh.out w1 _ rfl).mono ?_
  clear HA HBk HB0
  cases hS : shortB [(al, ah), (bl, bh)] 2 with
  | false =>
    rintro e w2 ⟨rfl, rfl⟩
    go_wp2
    go_ret
    exact ⟨rfl, HB1.out.alloc HB1.out.size _⟩
  | true =>
    rintro e w2 ⟨rfl, rfl⟩
    obtain ⟨n0, n1, n2, n3⟩ := shortB_two hS
    simp only at n0 n1 n2 n3
    have hml := meet_len (a := (al, ah)) (b := (bl, bh)) ⟨n0, n1⟩ ⟨n2, n3⟩
    have hmt := fun wx => meet_w (al, ah) (bl, bh) wx
    have hmt2 := fun wx => meet_w (bl, bh) (al, ah) wx
    rw [meet_comm] at hmt2
    have Hk := Lib.hid (fun k => meet_hasB (al, ah) (bl, bh) k)
    have Hn := Lib.hid (fun h => meet_none (a := (al, ah)) (b := (bl, bh)) h)
    simp only [strS] at hmt hmt2
    generalize meetS (al, ah) (bl, bh) = s at *
    obtain ⟨s1, s2⟩ := s
    simp only at hml
    obtain ⟨n4, n5⟩ := hml
    have Hnear := Lib.hid (fun (wx : World) (n : Nat) (hn : n = wx.heap.size) => near_w (.slice (some ⟨n, 0, none⟩) 3 3) [(al, ah), (bl, bh), (s1, s2)] _ (IsSpans.new wx [(al, ah), (bl, bh), (s1, s2)] 29 hn (by simp)) (by simp) (by
      intro z hz; simp at hz; rcases hz with rfl | rfl | rfl <;> constructor <;> simp only <;> omega))
    clear hS
    go_wp2_with (go_at_call 25; refine (hmt _).mono ?_; rintro e w2 ⟨rfl, hg⟩; have hA := Grown.blk hg (HA1.out.alloc _); have hB := Grown.blk hg (HBk1.out.alloc _); have HB2 := Lib.hid (Below.next (HB1.out.alloc HB1.out.size (.cells #[.string (Str al), .string (Str ah), .string (Str bl), .string (Str bh)] 29)) (Nat.le_refl _) (hg.below (Nat.le_refl _))); obtain ⟨a0, a1⟩ := hA.two; obtain ⟨b0, b1⟩ := hB.two; have la := hA.lt; have lb := hB.lt; have HA2 := Lib.hid hA; have HBk2 := Lib.hid hB; clear hg hA hB)
    refine (Hnear.out (w2.alloc (.cells #[.string (Str s1), .string (Str s2)] 29)) _ (by simp)).mono ?_
    rintro e w3 ⟨vK, ks, rfl, hown, hkl, hb⟩
    have hA := Blk.below ((HA2.out.alloc _).alloc _) hb (by simp only [World.size_alloc]; omega)
    have hB := Blk.below ((HBk2.out.alloc _).alloc _) hb (by simp only [World.size_alloc]; omega)
    have hSb := Blk.below ((Blk.new w2 29 #[.string (Str s1), .string (Str s2)]).alloc _) hb (by simp only [World.size_alloc]; omega)
    have HB3 := Lib.hid (Below.next ((HB2.out.alloc HB2.out.size (.cells #[.string (Str s1), .string (Str s2)] 29)).alloc (by have h := HB2.out.size; simp only [World.size_alloc]; omega) (.cells #[.string (Str al), .string (Str ah), .string (Str bl), .string (Str bh), .string (Str s1), .string (Str s2)] 29)) (Nat.le_refl _) hb)
    have Hks := Lib.hid (IsStrs.owned hown)
    obtain ⟨_, _, cap, p, rfl, _⟩ := Hks.out.form
    have HA3 := Lib.hid hA
    have HBk3 := Lib.hid hB
    have HS3 := Lib.hid hSb
    clear hown hb hA hB hSb a0 a1 b0 b1 la lb HA1 HBk1 HA2 HBk2 HB1 HB2 Hnear Hsh hmt
    go_wp2
    go_loopw [8] (fun i wr => ∃ k : Nat, k ≤ ks.length ∧ i = .int .i64 k ∧ Below w3.heap.size w3 wr) (fun i _ => ks.length - (intOf i).toNat)
    case atStart => exact ⟨0, Nat.zero_le _, rfl, Below.refl _ _⟩
    case round =>
      obtain ⟨k, hk, rfl, hbel⟩ := hrel
      obtain ⟨qa0, qa1⟩ := (Blk.below HA3.out hbel HA3.out.lt).twoG
      obtain ⟨qb0, qb1⟩ := (Blk.below HBk3.out hbel HBk3.out.lt).twoG
      obtain ⟨qs0, qs1⟩ := (Blk.below HS3.out hbel HS3.out.lt).twoG
      obtain ⟨g, o, cap', p', he, hc1, hc2, hkey⟩ := keysG Hks.out hbel
      injection he with he1 he2 he3
      subst he1 he3
      clear he2
      have Hbel := Lib.hid hbel
      clear hbel
      by_cases hlt : k < ks.length
      · have hltz : (k : Int) < (ks.length : Int) := by omega
        obtain ⟨rfl, ck⟩ := hkey k hlt
        have hk2 := Hk.out ks[k]
        generalize ks[k] = key at *
        have hs := fun wx => has_w s1 s2 key wx
        have ha := fun wx => has_w al ah key wx
        have hb := fun wx => has_w bl bh key wx
        rw [hk2] at hs
        clear hk2 hkey hmt2
        cases h1 : hasB (al, ah) key <;> cases h2 : hasB (bl, bh) key
        all_goals
          rw [h1, h2] at hs
          rw [h1] at ha
          rw [h2] at hb
          clear h1 h2
          go_wp2_with fail
          refine wp_region_quiet_grown mixed (by kernel_rfl) ?_
          repeat (first | go_big_quiet_skip | (refine wpQuiet_step (fun K hK => ?_); have HK := Lib.hid hK; clear hK; go_simp; first | (refine HK.out _ ?_; clear HK K) | (apply Exists.intro; refine ⟨fun _ => ?_, HK.out _ ?_⟩; (first | (go_at_call_of 21 (Value.agg #[Value.string (Str s1), Value.string (Str s2)]); refine calls_grown (hs _)) | (go_at_call_of 21 (Value.agg #[Value.string (Str al), Value.string (Str ah)]); refine calls_grown (ha _)) | (go_at_call_of 21 (Value.agg #[Value.string (Str bl), Value.string (Str bh)]); refine calls_grown (hb _))); clear HK K)))
          refine wpQuiet_nil ?_
          intro _ hw'
          obtain ⟨⟨nq, osq⟩, hw''⟩ := hw'
          subst hw''
          have HBn := Lib.hid (Below.next Hbel.out (Nat.le_refl _) (below_grown (B := wr.heap.size) wr nq osq (Nat.le_refl _)))
          go_wp2
          go_roundw
          case rel => exact ⟨k + 1, by omega, by go_num, HBn.out⟩
          case measure => simp [intOf]; omega
      · have hltz : (ks.length : Int) ≤ (k : Int) := by omega
        have hem := fun wx => empty_w s1 s2 wx
        cases hE : emptyB (s1, s2) with
        | false =>
          rw [hE] at hem
          clear hE hkey
          go_wp2_with fail
          refine wp_region_quiet_grown mixed (by kernel_rfl) ?_
          repeat (first | go_big_quiet_skip | (refine wpQuiet_step (fun K hK => ?_); have HK := Lib.hid hK; clear hK; go_simp; first | (refine HK.out _ ?_; clear HK K) | (apply Exists.intro; refine ⟨fun _ => ?_, HK.out _ ?_⟩; (first | (go_at_call 25; refine calls_grown (hmt2 _)) | (go_at_call 23; refine calls_grown (hem _))); clear HK K)))
          refine wpQuiet_nil ?_
          intro _ hw'
          obtain ⟨⟨nq, osq⟩, hw''⟩ := hw'
          subst hw''
          go_wp2
          go_ret
          exact ⟨rfl, Below.next HB3.out (Nat.le_refl _) (Below.next Hbel.out (Nat.le_refl _) (below_grown (B := wr.heap.size) wr nq osq (Nat.le_refl _)))⟩
        | true =>
          rw [hE] at hem
          have hn := Hn.out hE
          injection hn with hn1 hn2
          subst hn1 hn2
          clear hE hkey
          have hsp := fun wx => sp_w [97] [97] wx
          go_wp2_with fail
          refine wp_region_quiet_grown mixed (by kernel_rfl) ?_
          repeat (first | go_big_quiet_skip | (refine wpQuiet_step (fun K hK => ?_); have HK := Lib.hid hK; clear hK; go_simp; first | (refine HK.out _ ?_; clear HK K) | (apply Exists.intro; refine ⟨fun _ => ?_, HK.out _ ?_⟩; (first | (go_at_call 25; refine calls_grown (hmt2 _)) | (go_at_call 23; refine calls_grown (hem _)) | (go_at_call 19; refine calls_grown (hsp _))); clear HK K)))
          refine wpQuiet_nil ?_
          intro _ hw'
          obtain ⟨⟨nq, osq⟩, hw''⟩ := hw'
          subst hw''
          go_wp2
          go_ret
          exact ⟨rfl, Below.next HB3.out (Nat.le_refl _) (Below.next Hbel.out (Nat.le_refl _) (below_grown (B := wr.heap.size) wr nq osq (Nat.le_refl _)))⟩

end Go.Proofs.Ytjfmilbpmnikpaa
