/-
  The walk of the law SpanCovers.
-/
import Derived.Test.YtjfmilbpmnikpaaZWM
namespace Go.Proofs.Ytjfmilbpmnikpaa
open Go.RowKit Go.Sort
set_option linter.unusedVariables false

set_option maxRecDepth 100000 in
set_option maxHeartbeats 4000000 in
theorem spanCovers_walk (w : World) (v0 : Value) (a : Sp) (r0 : IsSpan w v0 a) (v1 : Value) (b : Sp) (r1 : IsSpan w v1 b) :
    Calls Try.prog 6 #[v0, v1] w fun e w' => e = .returned (.bool true) ∧ Below w.heap.size w w' := by
  obtain ⟨rfl, _, _⟩ := r0
  obtain ⟨rfl, _, _⟩ := r1
  have mixed := mixedA
  have hsh := fun (wx : World) n (hn : n = wx.heap.size) => short_w (.slice (some ⟨n, 0, none⟩) 2 2) [a, b] 2 (wx.alloc (.cells #[.string (Str a.1), .string (Str a.2), .string (Str b.1), .string (Str b.2)] 29)) (IsSpans.new wx [a, b] 29 hn (by simp))
  have Hsh := Lib.hid hsh
  clear hsh
  obtain ⟨al, ah⟩ := a
  obtain ⟨bl, bh⟩ := b
  have HA : Hid (Blk ((w.alloc (.cells #[.string (Str al), .string (Str ah)] 29)).alloc (.cells #[.string (Str bl), .string (Str bh)] 29)) w.heap.size 29 #[.string (Str al), .string (Str ah)]) := Lib.hid ((Blk.new _ _ _).alloc _)
  have HBk : Hid (Blk ((w.alloc (.cells #[.string (Str al), .string (Str ah)] 29)).alloc (.cells #[.string (Str bl), .string (Str bh)] 29)) (w.heap.size + 1) 29 #[.string (Str bl), .string (Str bh)]) := Lib.hid (Blk.new' _ _ _ (by simp))
  have HB0 : Hid (Below w.heap.size w ((w.alloc (.cells #[.string (Str al), .string (Str ah)] 29)).alloc (.cells #[.string (Str bl), .string (Str bh)] 29))) := Lib.hid (((Below.refl _ w).alloc (Nat.le_refl _) _).alloc (by simp) _)
  simp only at Hsh
  go_enter Try.func6, Try.ntmps6
  go_wp2_with (go_at_call 11; refine (sanity_w _).mono ?_; rintro e w1 ⟨rfl, hb⟩; have hA := Blk.below HA.out hb (by simp only [World.size_alloc]; omega); have hB := Blk.below HBk.out hb (by simp only [World.size_alloc]; omega); have HB1 := Lib.hid (Below.next HB0.out (Nat.le_refl _) hb); obtain ⟨a0, a1⟩ := hA.two; obtain ⟨b0, b1⟩ := hB.two; have la := hA.lt; have lb := hB.lt; have HA1 := Lib.hid hA; have HBk1 := Lib.hid hB; clear hb hA hB)
  refine (Hsh.out w1 _ rfl).mono ?_
  clear HA HBk HB0
  cases hS : shortB [(al, ah), (bl, bh)] 2 with
  | false =>
    rintro e w2 ⟨rfl, rfl⟩
    go_wp2
    go_ret
    exact ⟨rfl, HB1.out.alloc HB1.out.size _⟩
  | true =>
    rintro e w2 ⟨rfl, rfl⟩
    obtain ⟨n0, n1, n2, n3⟩ := shortB_two hS
    simp only at n0 n1 n2 n3
    have hcv := fun wx => covers_w (al, ah) (bl, bh) wx
    simp only [strS] at hcv
    clear hS
    cases hC : coversB (al, ah) (bl, bh) with
    | false =>
      rw [hC] at hcv
      obtain ⟨hE, hO⟩ := covers_not hC
      have hem := fun wx => empty_w bl bh wx
      rw [hE] at hem
      have h1 := fun wx => has_w al ah bl wx
      have h2 := fun wx => has_w bl bh ah wx
      simp only at hO
      clear hC hE Hsh
      cases hq : hasB (al, ah) bl with
      | false =>
        rw [hq] at h1
        clear hq hO h2
        go_wp2_with (first
          | (go_at_call 27; refine (hcv _).mono ?_; rintro e w2 ⟨rfl, hg⟩; have hA := Grown.blk hg (HA1.out.alloc _); have hB := Grown.blk hg (HBk1.out.alloc _); have HBn := Lib.hid (Below.next (HB1.out.alloc HB1.out.size (.cells #[.string (Str al), .string (Str ah), .string (Str bl), .string (Str bh)] 29)) (Nat.le_refl _) (hg.below (Nat.le_refl _))); obtain ⟨a0, a1⟩ := hA.two; obtain ⟨b0, b1⟩ := hB.two; have la := hA.lt; have lb := hB.lt; replace HA1 := Lib.hid hA; replace HBk1 := Lib.hid hB; replace HB1 := HBn; clear hg hA hB HBn)
          | (go_at_call 21; refine (h1 _).mono ?_; rintro e w2 ⟨rfl, hg⟩; have hA := Grown.blk hg HA1.out; have hB := Grown.blk hg HBk1.out; have HBn := Lib.hid (Below.next HB1.out (Nat.le_refl _) (hg.below (Nat.le_refl _))); obtain ⟨a0, a1⟩ := hA.two; obtain ⟨b0, b1⟩ := hB.two; have la := hA.lt; have lb := hB.lt; replace HA1 := Lib.hid hA; replace HBk1 := Lib.hid hB; replace HB1 := HBn; clear hg hA hB HBn)
          | (go_at_call 23; refine (hem _).mono ?_; rintro e w2 ⟨rfl, hg⟩; have hA := Grown.blk hg HA1.out; have hB := Grown.blk hg HBk1.out; have HBn := Lib.hid (Below.next HB1.out (Nat.le_refl _) (hg.below (Nat.le_refl _))); obtain ⟨a0, a1⟩ := hA.two; obtain ⟨b0, b1⟩ := hB.two; have la := hA.lt; have lb := hB.lt; replace HA1 := Lib.hid hA; replace HBk1 := Lib.hid hB; replace HB1 := HBn; clear hg hA hB HBn))
        go_ret
        exact ⟨rfl, HB1.out⟩
      | true =>
        rw [hq] at h1 hO
        obtain ⟨hne, hh⟩ := hO.resolve_left (by simp)
        rw [hh] at h2
        have hneb : ah.isEmpty = false := by simpa using hne
        have hneq : (ah == ([] : Bs)) = false := by simpa using hne
        clear hq hO hh hne
        go_wp2_with (first
          | (go_at_call 27; refine (hcv _).mono ?_; rintro e w2 ⟨rfl, hg⟩; have hA := Grown.blk hg (HA1.out.alloc _); have hB := Grown.blk hg (HBk1.out.alloc _); have HBn := Lib.hid (Below.next (HB1.out.alloc HB1.out.size (.cells #[.string (Str al), .string (Str ah), .string (Str bl), .string (Str bh)] 29)) (Nat.le_refl _) (hg.below (Nat.le_refl _))); obtain ⟨a0, a1⟩ := hA.two; obtain ⟨b0, b1⟩ := hB.two; have la := hA.lt; have lb := hB.lt; replace HA1 := Lib.hid hA; replace HBk1 := Lib.hid hB; replace HB1 := HBn; clear hg hA hB HBn)
          | (go_at_call_of 21 (Value.agg #[Value.string (Str al), Value.string (Str ah)]); refine (h1 _).mono ?_; rintro e w2 ⟨rfl, hg⟩; have hA := Grown.blk hg HA1.out; have hB := Grown.blk hg HBk1.out; have HBn := Lib.hid (Below.next HB1.out (Nat.le_refl _) (hg.below (Nat.le_refl _))); obtain ⟨a0, a1⟩ := hA.two; obtain ⟨b0, b1⟩ := hB.two; have la := hA.lt; have lb := hB.lt; replace HA1 := Lib.hid hA; replace HBk1 := Lib.hid hB; replace HB1 := HBn; clear hg hA hB HBn)
          | (go_at_call 21; refine (h2 _).mono ?_; rintro e w2 ⟨rfl, hg⟩; have hA := Grown.blk hg HA1.out; have hB := Grown.blk hg HBk1.out; have HBn := Lib.hid (Below.next HB1.out (Nat.le_refl _) (hg.below (Nat.le_refl _))); obtain ⟨a0, a1⟩ := hA.two; obtain ⟨b0, b1⟩ := hB.two; have la := hA.lt; have lb := hB.lt; replace HA1 := Lib.hid hA; replace HBk1 := Lib.hid hB; replace HB1 := HBn; clear hg hA hB HBn)
          | (go_at_call 23; refine (hem _).mono ?_; rintro e w2 ⟨rfl, hg⟩; have hA := Grown.blk hg HA1.out; have hB := Grown.blk hg HBk1.out; have HBn := Lib.hid (Below.next HB1.out (Nat.le_refl _) (hg.below (Nat.le_refl _))); obtain ⟨a0, a1⟩ := hA.two; obtain ⟨b0, b1⟩ := hB.two; have la := hA.lt; have lb := hB.lt; replace HA1 := Lib.hid hA; replace HBk1 := Lib.hid hB; replace HB1 := HBn; clear hg hA hB HBn))
        go_ret
        exact ⟨rfl, HB1.out⟩
    | true =>
      rw [hC] at hcv
      have Hcv := Lib.hid (fun k => covers_has (k := k) hC)
      have hcs := fun wx => covers_w (al, ah) (al, ah) wx
      rw [covers_self] at hcs
      simp only [strS] at hcs
      clear hC
      have Hnear := Lib.hid (fun (wx : World) => near_w (.slice (some ⟨wx.heap.size, 0, none⟩) 2 2) [(al, ah), (bl, bh)] _ (IsSpans.new wx [(al, ah), (bl, bh)] 29 rfl (by simp)) (by simp) (by
        intro z hz; simp at hz; rcases hz with rfl | rfl <;> constructor <;> simp only <;> omega))
      go_wp2_with (go_at_call 27; refine (hcv _).mono ?_; rintro e w2 ⟨rfl, hg⟩; have hA := Grown.blk hg (HA1.out.alloc _); have hB := Grown.blk hg (HBk1.out.alloc _); have HBn := Lib.hid (Below.next (HB1.out.alloc HB1.out.size (.cells #[.string (Str al), .string (Str ah), .string (Str bl), .string (Str bh)] 29)) (Nat.le_refl _) (hg.below (Nat.le_refl _))); obtain ⟨a0, a1⟩ := hA.two; obtain ⟨b0, b1⟩ := hB.two; have la := hA.lt; have lb := hB.lt; replace HA1 := Lib.hid hA; replace HBk1 := Lib.hid hB; replace HB1 := HBn; clear hg hA hB HBn)
      refine (Hnear.out _).mono ?_
      rintro e w3 ⟨vK, ks, rfl, hown, hkl, hb⟩
      have hA := Blk.below (HA1.out.alloc _) hb (by simp only [World.size_alloc]; omega)
      have hB := Blk.below (HBk1.out.alloc _) hb (by simp only [World.size_alloc]; omega)
      have HB3 := Lib.hid (Below.next (HB1.out.alloc HB1.out.size (.cells #[.string (Str al), .string (Str ah), .string (Str bl), .string (Str bh)] 29)) (Nat.le_refl _) hb)
      have Hks := Lib.hid (IsStrs.owned hown)
      obtain ⟨_, _, cap, p, rfl, _⟩ := Hks.out.form
      have HA3 := Lib.hid hA
      have HBk3 := Lib.hid hB
      clear hown hb hA hB a0 a1 b0 b1 la lb HA1 HBk1 HB1 Hnear Hsh hcv
      go_wp2
      go_loopw [8] (fun i wr => ∃ k : Nat, k ≤ ks.length ∧ i = .int .i64 k ∧ Below w3.heap.size w3 wr) (fun i _ => ks.length - (intOf i).toNat)
      case atStart => exact ⟨0, Nat.zero_le _, rfl, Below.refl _ _⟩
      case round =>
        obtain ⟨k, hk, rfl, hbel⟩ := hrel
        have HAr := Lib.hid (Blk.below HA3.out hbel HA3.out.lt)
        obtain ⟨qa0, qa1⟩ := HAr.out.twoG
        obtain ⟨qb0, qb1⟩ := (Blk.below HBk3.out hbel HBk3.out.lt).twoG
        obtain ⟨g, o, cap', p', he, hc1, hc2, hkey⟩ := keysG Hks.out hbel
        injection he with he1 he2 he3
        subst he1 he3
        clear he2
        have Hbel := Lib.hid hbel
        clear hbel
        by_cases hlt : k < ks.length
        · have hltz : (k : Int) < (ks.length : Int) := by omega
          obtain ⟨rfl, ck⟩ := hkey k hlt
          have hk2 := Hcv.out ks[k]
          generalize ks[k] = key at *
          have ha := fun wx => has_w al ah key wx
          have hb := fun wx => has_w bl bh key wx
          clear hkey hcs
          cases h2 : hasB (bl, bh) key
          · rw [h2] at hb
            clear h2 hk2 ha
            go_wp2_with fail
            refine wp_region_quiet_grown mixed (by kernel_rfl) ?_
            repeat (first | go_big_quiet_skip | (refine wpQuiet_step (fun K hK => ?_); have HK := Lib.hid hK; clear hK; go_simp; first | (refine HK.out _ ?_; clear HK K) | (apply Exists.intro; refine ⟨fun _ => ?_, HK.out _ ?_⟩; (first | (go_at_call 21; refine calls_grown (hb _))); clear HK K)))
            refine wpQuiet_nil ?_
            intro _ hw'
            obtain ⟨⟨nq, osq⟩, hw''⟩ := hw'
            subst hw''
            have HBn := Lib.hid (Below.next Hbel.out (Nat.le_refl _) (below_grown (B := wr.heap.size) wr nq osq (Nat.le_refl _)))
            go_wp2
            go_roundw
            case rel => exact ⟨k + 1, by omega, by go_num, HBn.out⟩
            case measure => simp [intOf]; omega
          · rw [h2] at hb
            rw [hk2 h2] at ha
            clear h2 hk2
            go_wp2_with fail
            refine wp_region_quiet_grown mixed (by kernel_rfl) ?_
            repeat (first | go_big_quiet_skip | (refine wpQuiet_step (fun K hK => ?_); have HK := Lib.hid hK; clear hK; go_simp; first | (refine HK.out _ ?_; clear HK K) | (apply Exists.intro; refine ⟨fun _ => ?_, HK.out _ ?_⟩; (first | (go_at_call_of 21 (Value.agg #[Value.string (Str al), Value.string (Str ah)]); refine calls_grown (ha _)) | (go_at_call_of 21 (Value.agg #[Value.string (Str bl), Value.string (Str bh)]); refine calls_grown (hb _))); clear HK K)))
            refine wpQuiet_nil ?_
            intro _ hw'
            obtain ⟨⟨nq, osq⟩, hw''⟩ := hw'
            subst hw''
            have HBn := Lib.hid (Below.next Hbel.out (Nat.le_refl _) (below_grown (B := wr.heap.size) wr nq osq (Nat.le_refl _)))
            go_wp2
            go_roundw
            case rel => exact ⟨k + 1, by omega, by go_num, HBn.out⟩
            case measure => simp [intOf]; omega
        · have hltz : (ks.length : Int) ≤ (k : Int) := by omega
          obtain ⟨a0, a1⟩ := HAr.out.two
          clear hkey qa0 qa1 qb0 qb1
          go_wp2_with (go_at_call 27; refine (hcs _).mono ?_; rintro e w4 ⟨rfl, hg⟩; have HB4 := Lib.hid (Below.next HB3.out (Nat.le_refl _) (Below.next Hbel.out (Nat.le_refl _) (hg.below (Nat.le_refl _)))); clear hg)
          go_ret
          exact ⟨rfl, HB4.out⟩

end Go.Proofs.Ytjfmilbpmnikpaa
