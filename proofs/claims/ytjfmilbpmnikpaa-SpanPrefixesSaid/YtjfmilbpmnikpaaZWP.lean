/-
  The walk of the law SpanPrefixes.
-/
import Derived.Test.YtjfmilbpmnikpaaZWM
namespace Go.Proofs.Ytjfmilbpmnikpaa
open Go.RowKit Go.Sort
set_option linter.unusedVariables false

set_option maxHeartbeats 1000000 in
theorem begins2_w (k p : Bs) (w : World) (hp : p.length ≤ 30) : Calls Try.prog 37 #[.string (Str k), .string (Str p)] w fun e w' => e = .returned (.bool (p.isPrefixOf k)) ∧ Grown w w' := by
  by_cases h : p.length ≤ k.length
  · have H := Lib.hid (begins_eq k p h)
    have hz : (p.length : Int) ≤ (k.length : Int) := by omega
    go_enter Try.func37, Try.ntmps37
    go_wp2
    go_ret
    exact ⟨ret_bool H.out.symm, Grown.refl _⟩
  · have H := Lib.hid (begins_short k p (by omega))
    have hz : (k.length : Int) < (p.length : Int) := by omega
    have hzd : decide ((p.length : Int) ≤ (k.length : Int)) = false := by simp; omega
    go_enter Try.func37, Try.ntmps37
    go_wp2
    go_ret
    exact ⟨ret_bool H.out.symm, Grown.refl _⟩
theorem preT_len (p : Bs) : (preT p).length ≤ p.length := by
  have : ∀ q h : Bs, preH q = some h → h.length ≤ q.length := by
    intro q
    induction q with
    | nil => intro h e; cases e
    | cons c r ih =>
      intro h e
      rw [preH_cons] at e
      cases hr : preH r with
      | some h' =>
        rw [hr] at e
        injection e with e
        subst e
        have := ih h' hr
        simp; omega
      | none =>
        rw [hr] at e
        simp only at e
        split at e
        · cases e
        · injection e with e; subst e; simp
  unfold preT
  cases e : preH p with
  | none => simp
  | some h => exact this p h e

set_option maxRecDepth 100000 in
set_option maxHeartbeats 4000000 in
theorem spanPrefixes_walk (w : World) (v0 : Value) (p : Bs) (r0 : IsStr w v0 p) (v1 : Value) (q : Bs) (r1 : IsStr w v1 q) :
    Calls Try.prog 4 #[v0, v1] w fun e w' => e = .returned (.bool true) ∧ Below w.heap.size w w' := by
  obtain ⟨rfl, _⟩ := r0
  obtain ⟨rfl, _⟩ := r1
  have mixed := mixedA
  obtain ⟨i0, hi, hz0, hz1, hz2⟩ := info_parts infoStr
  have HB : Hid (Below w.heap.size w w) := Lib.hid (Below.refl _ _)
  by_cases l0 : (30 : Int) < (p.length : Int)
  · go_enter Try.func4, Try.ntmps4
    go_wp2_with (go_at_call 11; refine (sanity_w _).mono ?_; rintro e w1 ⟨rfl, hb⟩; have HB1 := Lib.hid hb; clear hb)
    go_ret
    exact ⟨rfl, HB1.out⟩
  by_cases l1 : (30 : Int) < (q.length : Int)
  · go_enter Try.func4, Try.ntmps4
    go_wp2_with (go_at_call 11; refine (sanity_w _).mono ?_; rintro e w1 ⟨rfl, hb⟩; have HB1 := Lib.hid hb; clear hb)
    go_ret
    exact ⟨rfl, HB1.out⟩
  have n0 : p.length ≤ 30 := by omega
  have n1 : q.length ≤ 30 := by omega
  have n2 : (preT p).length ≤ 30 := Nat.le_trans (preT_len p) n0
  have hpx := fun wx => prefix_w p wx (by omega)
  have hon := fun wx => one_w p wx (by omega)
  have He1 := prefix_nonempty p
  have He2 := one_nonempty p
  have Hs := Lib.hid (fun k => prefix_has p k)
  have Ho := Lib.hid (fun k => one_has p k)
  have hem1 := fun wx => empty_w p (preT p) wx
  have hem2 := fun wx => empty_w p (p ++ [0]) wx
  rw [He1] at hem1
  rw [He2] at hem2
  clear He1 He2
  generalize preT p = ph at *
  have hol : (p ++ [(0 : UInt8)]).length ≤ 31 := by simp; omega
  generalize hpo : p ++ [(0 : UInt8)] = po at *
  clear hpo
  have Hnear := Lib.hid (fun (wx : World) (n : Nat) (hn : n = wx.heap.size) => near_w (.slice (some ⟨n, 0, none⟩) 2 2) [(p, ph), (p, po)] _ (IsSpans.new wx [(p, ph), (p, po)] 29 hn (by simp)) (by simp) (by
    intro z hz; simp at hz; rcases hz with rfl | rfl <;> constructor <;> simp only <;> omega))
  go_enter Try.func4, Try.ntmps4
  go_wp2_with (first
    | (go_at_call 11; refine (sanity_w _).mono ?_; rintro e w1 ⟨rfl, hb⟩; replace HB := Lib.hid (Below.next HB.out (Nat.le_refl _) hb); clear hb)
    | (go_at_call 15; refine (hpx _).mono ?_; rintro e w2 ⟨rfl, hg⟩; replace HB := Lib.hid (Below.next HB.out (Nat.le_refl _) (hg.below (Nat.le_refl _))); clear hg)
    | (go_at_call 17; refine (hon _).mono ?_; rintro e w3 ⟨rfl, hg⟩; replace HB := Lib.hid (Below.next HB.out (Nat.le_refl _) (hg.below (Nat.le_refl _))); clear hg))
  refine (Hnear.out ((w3.alloc (.cells #[.string (Str p), .string (Str ph)] 29)).alloc (.cells #[.string (Str p), .string (Str po)] 29)) _ (by simp)).mono ?_
  rintro e w4 ⟨vK, ks, rfl, hown, hkl, hb⟩
  have hbs := hb.size
  simp only [World.size_alloc] at hbs
  have hS := Blk.below (((Blk.new w3 29 #[.string (Str p), .string (Str ph)]).alloc _).alloc _) hb (by simp only [World.size_alloc]; omega)
  have hO := Blk.below ((Blk.new' (n := w3.heap.size + 1) (w3.alloc (.cells #[.string (Str p), .string (Str ph)] 29)) 29 #[.string (Str p), .string (Str po)] (by simp)).alloc _) hb (by simp only [World.size_alloc]; omega)
  have HB4 : Hid (Below w.heap.size w w4) := Lib.hid (Below.trans (((HB.out.alloc HB.out.size (.cells #[.string (Str p), .string (Str ph)] 29)).alloc (by have h := HB.out.size; simp only [World.size_alloc]; omega) (.cells #[.string (Str p), .string (Str po)] 29)).alloc (by have h := HB.out.size; simp only [World.size_alloc]; omega) _) (hb.mono (by have h := HB.out.size; simp only [World.size_alloc]; omega)))
  have HS4 := Lib.hid hS
  have HO4 := Lib.hid hO
  have Hown := Lib.hid hown
  clear hb hS hO hown Hnear hpx hon
  go_wp2_with (at_builtin; refine wpList_append_own _ rfl _ _ 32 rfl _ 9 i0 (.string ⟨#[]⟩) 1 16 Try.underlying32 hi hz0 hz1 hz2 rfl (by decide) _ _ _ rfl (Hown.out.alloc _) ⟨w4.heap.size, 0, none⟩ 3 3 [.string _, .string _, .string _] rfl rfl (cells_new' _ _ _ (by simp)) (by intro u hu; simp at hu; rcases hu with rfl | rfl | rfl <;> rfl) (by unfold maxLen; omega) (by omega) (by simp only [World.size_alloc]; omega) ?_; intro v' w5 hown' hgrow _)
  have hb5 := Below.grown (Below.refl (w3.heap.size + 1 + 1) _) hgrow (by simp only [World.size_alloc]; omega) (fun z hz => by have h := (Hown.out.lt z hz).1; simp only [World.size_alloc] at h; omega)
  have HS5 := Lib.hid (Blk.below (HS4.out.alloc _) hb5 (by omega))
  have HO5 := Lib.hid (Blk.below (HO4.out.alloc _) hb5 (by omega))
  have HB5 : Hid (Below w.heap.size w w5) := Lib.hid (Below.trans (HB4.out.alloc HB4.out.size _) (hb5.mono (by have h := HB.out.size; omega)))
  obtain ⟨ks2, hk2, ho2⟩ := own_more3 (n := 0) hown'
  have Hks := Lib.hid (IsStrs.owned ho2)
  have hkl2 : ks2.length ≤ 3000 := by omega
  obtain ⟨_, _, cap, pp, rfl, _⟩ := Hks.out.form
  clear hown' hgrow hb5 ho2 hk2 HS4 HO4 HB4 Hown HB
  go_wp2
  go_loopw [9] (fun i wr => ∃ k : Nat, k ≤ ks2.length ∧ i = .int .i64 k ∧ Below w5.heap.size w5 wr) (fun i _ => ks2.length - (intOf i).toNat)
  case atStart => exact ⟨0, Nat.zero_le _, rfl, Below.refl _ _⟩
  case round =>
    obtain ⟨k, hk, rfl, hbel⟩ := hrel
    have HSr := Lib.hid (Blk.below HS5.out hbel HS5.out.lt)
    have HOr := Lib.hid (Blk.below HO5.out hbel HO5.out.lt)
    obtain ⟨qs0, qs1⟩ := HSr.out.twoG
    obtain ⟨qo0, qo1⟩ := HOr.out.twoG
    obtain ⟨g, o, cap', p', he, hc1, hc2, hkey⟩ := keysG Hks.out hbel
    injection he with he1 he2 he3
    subst he1 he3
    clear he2
    have Hbel := Lib.hid hbel
    clear hbel
    by_cases hlt : k < ks2.length
    · have hltz : (k : Int) < (ks2.length : Int) := by omega
      obtain ⟨rfl, ck⟩ := hkey k hlt
      have h1 := Hs.out ks2[k]
      have h2 := Ho.out ks2[k]
      generalize ks2[k] = key at *
      have hs := fun wx => has_w p ph key wx
      have ho := fun wx => has_w p po key wx
      have hb := fun wx => begins2_w key p wx n0
      rw [h1] at hs
      rw [h2] at ho
      clear hkey h1 h2 hem1 hem2
      cases h1 : p.isPrefixOf key <;> cases h2 : key == p
      all_goals
        rw [h1] at hs hb
        rw [h2] at ho
        clear h1
        go_wp2_with fail
        refine wp_region_quiet_grown mixed (by kernel_rfl) ?_
        repeat (first | go_big_quiet_skip | (refine wpQuiet_step (fun K hK => ?_); have HK := Lib.hid hK; clear hK; go_simp; first | (refine HK.out _ ?_; clear HK K) | (apply Exists.intro; refine ⟨fun _ => ?_, HK.out _ ?_⟩; (first | (go_at_call_of 21 (Value.agg #[Value.string (Str p), Value.string (Str ph)]); refine calls_grown (hs _)) | (go_at_call_of 21 (Value.agg #[Value.string (Str p), Value.string (Str po)]); refine calls_grown (ho _)) | (go_at_call 37; refine calls_grown (hb _))); clear HK K)))
        refine wpQuiet_nil ?_
        intro _ hw'
        obtain ⟨⟨nq, osq⟩, hw''⟩ := hw'
        subst hw''
        have HBn := Lib.hid (Below.next Hbel.out (Nat.le_refl _) (below_grown (B := wr.heap.size) wr nq osq (Nat.le_refl _)))
        go_wp2
        go_roundw
        case rel => exact ⟨k + 1, by omega, by go_num, HBn.out⟩
        case measure => simp [intOf]; omega
    · have hltz : (ks2.length : Int) ≤ (k : Int) := by omega
      obtain ⟨a0, a1⟩ := HSr.out.two
      obtain ⟨b0, b1⟩ := HOr.out.two
      clear hkey qs0 qs1 qo0 qo1
      go_wp2_with (first
        | (go_at_call_of 23 (Value.agg #[Value.string (Str p), Value.string (Str ph)]); refine (hem1 _).mono ?_; rintro e w6 ⟨rfl, hg⟩; have hO6 := Grown.blk hg HOr.out; obtain ⟨b0, b1⟩ := hO6.two; have HB6 := Lib.hid (Below.next Hbel.out (Nat.le_refl _) (hg.below (Nat.le_refl _))); clear hg hO6)
        | (go_at_call 23; refine (hem2 _).mono ?_; rintro e w7 ⟨rfl, hg⟩; have HB7 := Lib.hid (Below.next HB6.out (Nat.le_refl _) (hg.below (Nat.le_refl _))); clear hg))
      go_ret
      exact ⟨rfl, Below.next HB5.out (Nat.le_refl _) HB7.out⟩

end Go.Proofs.Ytjfmilbpmnikpaa
