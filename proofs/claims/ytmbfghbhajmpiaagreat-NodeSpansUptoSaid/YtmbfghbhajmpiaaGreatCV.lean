/-
  Walks: Covers of package span; what the type of texts is; a row that is kept.
-/
import Derived.Test.YtmbfghbhajmpiaaGreatFR
import Derived.OwnWalk
namespace Go.Proofs.YtmbfghbhajmpiaaGreat
open Go.RowKit Go.Sort
set_option linter.unusedVariables false
set_option linter.unusedVariables false
set_option maxRecDepth 100000 in
set_option maxHeartbeats 4000000 in
theorem covers_w (a b : Sp) (w : World) : Calls Tryz.prog 172 #[strS a, strS b] w fun e w' => e = .returned (.bool (coversB a b)) ∧ Grown w w' := by
  obtain ⟨al, ah⟩ := a
  obtain ⟨bl, bh⟩ := b
  simp only [strS]
  have hc1 := fun wx => compare_w (al, false, 1, 0) (bl, false, 1, 0) wx
  have hk1 := cmp_low al bl 1 0 1 0
  have hc2 := fun wx => compare_w (ah, ah.isEmpty, -1, 0) (bh, bh.isEmpty, -1, 0) wx
  have hk2 := cmp_high ah bh (-1) 0 (-1) 0
  have hla := fun wx => low_w al ah wx
  have hlb := fun wx => low_w bl bh wx
  have hha := fun wx => high_w al ah wx
  have hhb := fun wx => high_w bl bh wx
  have he := fun wx => empty_w bl bh wx
  have H : Hid (coversB (al, ah) (bl, bh) = (emptyB (bl, bh) || (!ltP (keyP bl) (keyP al) && !ltP (hiP ah) (hiP bh)))) := rfl
  rw [← hk1, ← hk2] at H
  clear hk1 hk2
  simp only [encE] at hc1 hc2
  generalize cmpE (al, false, 1, 0) (bl, false, 1, 0) = r1 at *
  generalize cmpE (ah, ah.isEmpty, -1, 0) (bh, bh.isEmpty, -1, 0) = r2 at *
  generalize emptyB (bl, bh) = em at *
  generalize bh.isEmpty = tb at *
  generalize ah.isEmpty = ta at *
  have mixed := mixedA
  have S0 : Blk ((w.alloc (.cells #[.string (Str al), .string (Str ah)] 41)).alloc (.cells #[.string (Str bl), .string (Str bh)] 41)) w.heap.size 41 #[.string (Str al), .string (Str ah)] := (Blk.new _ _ _).alloc _
  have S1 : Blk ((w.alloc (.cells #[.string (Str al), .string (Str ah)] 41)).alloc (.cells #[.string (Str bl), .string (Str bh)] 41)) (w.heap.size + 1) 41 #[.string (Str bl), .string (Str bh)] := Blk.new' _ _ _ (by simp)
  have a0 := S0.c 0 _ rfl
  have a1 := S0.c 1 _ rfl
  have b0 := S1.c 0 _ rfl
  have b1 := S1.c 1 _ rfl
  have HG : Hid (Grown w ((w.alloc (.cells #[.string (Str al), .string (Str ah)] 41)).alloc (.cells #[.string (Str bl), .string (Str bh)] 41))) := Lib.hid (((Grown.refl w).alloc _).alloc _)
  clear S0 S1
  cases em with
  | true =>
    clear hc1 hc2 hla hlb hha hhb
    go_enter Tryz.func172, Tryz.ntmps172
    go_wp2_with fail
    refine wp_region_quiet_grown mixed (by kernel_rfl) ?_
    repeat (first | go_big_quiet_skip | (refine wpQuiet_step (fun K hK => ?_); have HK := Lib.hid hK; clear hK; go_simp; first | (refine HK.out _ ?_; clear HK K) | (apply Exists.intro; refine ⟨fun _ => ?_, HK.out _ ?_⟩; (first | (go_at_call 122; refine calls_grown (he _))); clear HK K)))
    refine wpQuiet_nil ?_
    intro _ hw'
    obtain ⟨⟨nq, osq⟩, hw''⟩ := hw'
    subst hw''
    go_wp2
    go_ret
    exact ⟨ret_bool (by rw [H.out]; rfl), HG.out.trans ⟨_, _, rfl⟩⟩
  | false =>
    by_cases h1 : r1 ≤ 0
    · by_cases h2 : 0 ≤ r2
      · have d1 : decide (0 < r1) = false := by simp; omega
        have d2 : decide (r2 < 0) = false := by simp; omega
        rw [d1, d2] at H
        clear d1 d2
        go_enter Tryz.func172, Tryz.ntmps172
        go_wp2_with fail
        refine wp_region_quiet_grown mixed (by kernel_rfl) ?_
        repeat (first | go_big_quiet_skip | (refine wpQuiet_step (fun K hK => ?_); have HK := Lib.hid hK; clear hK; go_simp; first | (refine HK.out _ ?_; clear HK K) | (apply Exists.intro; refine ⟨fun _ => ?_, HK.out _ ?_⟩; (first | (go_at_call 122; refine calls_grown (he _)) | (go_at_call_of 176 (Value.string (Str bl)); refine calls_grown (hlb _)) | (go_at_call 176; refine calls_grown (hla _)) | (go_at_call_of 174 (Value.string (Str bl)); refine calls_grown (hhb _)) | (go_at_call 174; refine calls_grown (hha _)) | (go_at_call_of 175 (Value.int IntKind.i64 1); refine calls_grown (hc1 _)) | (go_at_call 175; refine calls_grown (hc2 _))); clear HK K)))
        refine wpQuiet_nil ?_
        intro _ hw'
        obtain ⟨⟨nq, osq⟩, hw''⟩ := hw'
        subst hw''
        go_wp2
        go_ret
        exact ⟨ret_bool (by rw [H.out]; rfl), HG.out.trans ⟨_, _, rfl⟩⟩
      · have d1 : decide (0 < r1) = false := by simp; omega
        have d2 : decide (r2 < 0) = true := by simp; omega
        rw [d1, d2] at H
        have d3 : decide (0 ≤ r2) = false := by simp; omega
        clear d1 d2
        go_enter Tryz.func172, Tryz.ntmps172
        go_wp2_with fail
        refine wp_region_quiet_grown mixed (by kernel_rfl) ?_
        repeat (first | go_big_quiet_skip | (refine wpQuiet_step (fun K hK => ?_); have HK := Lib.hid hK; clear hK; go_simp; first | (refine HK.out _ ?_; clear HK K) | (apply Exists.intro; refine ⟨fun _ => ?_, HK.out _ ?_⟩; (first | (go_at_call 122; refine calls_grown (he _)) | (go_at_call_of 176 (Value.string (Str bl)); refine calls_grown (hlb _)) | (go_at_call 176; refine calls_grown (hla _)) | (go_at_call_of 174 (Value.string (Str bl)); refine calls_grown (hhb _)) | (go_at_call 174; refine calls_grown (hha _)) | (go_at_call_of 175 (Value.int IntKind.i64 1); refine calls_grown (hc1 _)) | (go_at_call 175; refine calls_grown (hc2 _))); clear HK K)))
        refine wpQuiet_nil ?_
        intro _ hw'
        obtain ⟨⟨nq, osq⟩, hw''⟩ := hw'
        subst hw''
        go_wp2
        go_ret
        exact ⟨ret_bool (by rw [H.out]; first | rfl | (simp; omega)), HG.out.trans ⟨_, _, rfl⟩⟩
    · have d1 : decide (0 < r1) = true := by simp; omega
      rw [d1] at H
      have d3 : decide (r1 ≤ 0) = false := by simp; omega
      clear d1 hc2 hha hhb
      go_enter Tryz.func172, Tryz.ntmps172
      go_wp2_with fail
      refine wp_region_quiet_grown mixed (by kernel_rfl) ?_
      repeat (first | go_big_quiet_skip | (refine wpQuiet_step (fun K hK => ?_); have HK := Lib.hid hK; clear hK; go_simp; first | (refine HK.out _ ?_; clear HK K) | (apply Exists.intro; refine ⟨fun _ => ?_, HK.out _ ?_⟩; (first | (go_at_call 122; refine calls_grown (he _)) | (go_at_call_of 176 (Value.string (Str bl)); refine calls_grown (hlb _)) | (go_at_call 176; refine calls_grown (hla _)) | (go_at_call_of 175 (Value.int IntKind.i64 1); refine calls_grown (hc1 _))); clear HK K)))
      refine wpQuiet_nil ?_
      intro _ hw'
      obtain ⟨⟨nq, osq⟩, hw''⟩ := hw'
      subst hw''
      go_wp2
      go_ret
      exact ⟨ret_bool (by rw [H.out]; first | rfl | (simp; omega)), HG.out.trans ⟨_, _, rfl⟩⟩
theorem infoStr : (Tryz.prog.info? 9).map (fun i => (i.zero, i.size, i.bytes)) = some (some (.string ⟨#[]⟩), 1, 16) := by kernel_rfl
end Go.Proofs.YtmbfghbhajmpiaaGreat
