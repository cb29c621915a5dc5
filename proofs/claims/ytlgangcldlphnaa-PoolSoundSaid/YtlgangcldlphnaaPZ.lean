/-
  Walks: reference 11: Play.
-/
import Derived.Test.YtlgangcldlphnaaPY
namespace Go.Proofs.Ytlgangcldlphnaa
open Go.RowKit Go.Sort
set_option linter.unusedVariables false
set_option maxRecDepth 100000

theorem step_w (v u : Value) (P : List Sl) (R : List Int) (j : Nat) (x : R4) (w : World) (hx : x.ok) (h : IsSlots w v P) (hu : IsInts w u R) (hg : Good P R j) (hj : j ≤ 4000) :
    Calls Try.prog 33 #[heldV v u, r4V x] w fun e w' => ∃ v' u', e = .returned (heldV v' u') ∧ IsSlots w' v' (stepX P R x).1 ∧ IsInts w' u' (stepX P R x).2 ∧ Below w.heap.size w w' := by
  by_cases hadd : x.x0 % 8 < 5 ∨ R.length = 0
  · exact step_add_w v u P R j x w hx h hu hg hj hadd
  · exact step_but_w v u P R j x w hx h hu hg hj hadd
/-- A script. -/
def encR (x : R4) : List Value := [.int .u8 x.x0, .int .u8 x.x1, .int .u8 x.x2, .int .u8 x.x3]
def IsRaws (w : World) (v : Value) (l : List R4) : Prop :=
  (∀ x ∈ l, x.ok) ∧ ∃ a cap, v = .slice a l.length cap ∧ (l.length : Int) ≤ 9223372036854775807 ∧ (l ≠ [] → ∃ b off, a = some ⟨b, off, none⟩ ∧ b < w.heap.size ∧ ∀ i (h : i < l.length) (j : Nat) (u : Value), (encR l[i])[j]? = some u → w.cell? ⟨b, off + i * 4 + j, none⟩ = some u)
theorem IsRaws.below {w w' : World} {v : Value} {l : List R4} (h : IsRaws w v l) (hb : Below w.heap.size w w') : IsRaws w' v l := by
  obtain ⟨h0, a, cap, rfl, h2, h3⟩ := h
  refine ⟨h0, a, cap, rfl, h2, fun hl => ?_⟩
  obtain ⟨b, off, rfl, hlt, hc⟩ := h3 hl
  refine ⟨b, off, rfl, Nat.lt_of_lt_of_le hlt hb.size, fun i hi j u hu => ?_⟩
  rw [hb.cell (p := ⟨b, off + i * 4 + j, none⟩) (by exact hlt)]
  exact hc i hi j u hu
theorem raw_at {w : World} {v : Value} {l : List R4} (h : IsRaws w v l) (i : Nat) (hi : i < l.length) : ∃ b off cap, v = .slice (some ⟨b, off, none⟩) l.length cap ∧ (l.length : Int) ≤ 9223372036854775807 ∧ l[i].ok ∧
    w.cell? ⟨b, off + i * 4, none⟩ = some (.int .u8 l[i].x0) ∧ w.cell? ⟨b, off + i * 4 + 1, none⟩ = some (.int .u8 l[i].x1) ∧ w.cell? ⟨b, off + i * 4 + 2, none⟩ = some (.int .u8 l[i].x2) ∧ w.cell? ⟨b, off + i * 4 + 3, none⟩ = some (.int .u8 l[i].x3) := by
  obtain ⟨h0, a, cap, rfl, h2, h3⟩ := h
  obtain ⟨b, off, rfl, hlt, hc⟩ := h3 (by rintro rfl; simp at hi)
  exact ⟨b, off, cap, rfl, h2, h0 _ (List.getElem_mem hi), hc i hi 0 _ rfl, hc i hi 1 _ rfl, hc i hi 2 _ rfl, hc i hi 3 _ rfl⟩
/-- The state after k steps lies in the box behind the result's. -/
structure PlayAt (w : World) (l : List R4) (k : Nat) (v u : Value) (wx : World) : Prop where
  blk : Blk wx (w.heap.size + 1) 32 #[v, u]
  res : Blk wx w.heap.size 32 #[.slice none 0 0, .slice none 0 0]
  sl : IsSlots wx v (playX (l.take k)).1
  ints : IsInts wx u (playX (l.take k)).2
  bel : Below w.heap.size w wx
theorem bpdrew {b : Nat} {w wx : World} (h : ButP b w wx) : ButP b w wx.drew := h.trans (ButP.of (below_drewN wx 1))
theorem bpset {b : Nat} {w wx : World} (h : ButP b w wx) (i : Nat) (u : Value) : ButP b w (wx.setCell ⟨b, i, none⟩ u) := h.trans (ButP.setCell b i u wx)
theorem slots_off {w : World} {v : Value} {P : List Sl} {r : Nat} {T : TypeId} {a0 a1 : Option Addr} {n0 n1 c0 c1 : Nat} (h : IsSlots w v P) (hr : Blk w r T #[.slice a0 n0 c0, .slice a1 n1 c1]) : P ≠ [] → blkOf v ≠ some r := by
  intro hne e
  obtain ⟨L, _, a, cap, rfl, _, _, h4⟩ := h
  obtain ⟨b, off, rfl, hlt, hc⟩ := h4 hne
  have hb : b = r := Option.some.inj e
  subst hb
  have := (hc 0 (List.length_pos_iff.2 hne)).1
  rw [hr.cell] at this
  match off, this with
  | 0, this => exact absurd (Option.some.inj this) (by intro e; cases e)
  | 1, this => exact absurd (Option.some.inj this) (by intro e; cases e)
  | k + 2, this => simp at this
set_option maxHeartbeats 8000000 in
theorem play_w (v : Value) (l : List R4) (n : Nat) (w : World) (h : IsRaws w v l) (hn : n ≤ 4000) :
    Calls Try.prog 12 #[v, .int .i64 n] w fun e w' => ∃ v' u', e = .returned (heldV v' u') ∧ IsSlots w' v' (playX (l.take n)).1 ∧ IsInts w' u' (playX (l.take n)).2 ∧ Below w.heap.size w w' := by
  have mixed := mixedA
  have H := Lib.hid h
  obtain ⟨h0, a, cap, rfl, hlm, h3⟩ := h
  clear h0 h3
  have hnz : (n : Int) ≤ 4000 := by omega
  obtain ⟨W1, hW1⟩ : ∃ W1, W1 = (w.alloc (.cells #[.slice none 0 0, .slice none 0 0] 32)).alloc (.cells #[.slice none 0 0, .slice none 0 0] 32) := ⟨_, rfl⟩
  have HB1 : Hid (Below w.heap.size w W1) := Lib.hid (by rw [hW1]; exact keepP (keepP (Below.refl _ _) _) _)
  have HA0 : Hid (Blk W1 w.heap.size 32 #[.slice none 0 0, .slice none 0 0]) := Lib.hid (by rw [hW1]; exact (Blk.new _ _ _).alloc _)
  have HA1 : Hid (Blk W1 (w.heap.size + 1) 32 #[.slice none 0 0, .slice none 0 0]) := Lib.hid (by rw [hW1]; exact Blk.new' _ _ _ (by simp))
  have HW1 := Lib.hid hW1
  clear hW1
  go_enter Try.func12, Try.ntmps12
  go_wp2
  rw [← HW1.out]
  go_loopw [6] (fun i wr => ∃ (k : Nat) (v u : Value), k ≤ n ∧ k ≤ l.length ∧ i = .int .i64 k ∧ Hid (PlayAt w l k v u wr)) (fun i _ => n - (intOf i).toNat)
  case atStart => exact ⟨0, _, _, Nat.zero_le _, Nat.zero_le _, rfl, Lib.hid ⟨HA1.out, HA0.out, IsSlots.nil _, IsInts.nil _, HB1.out⟩⟩
  case round =>
    obtain ⟨k, v0, u0, hkn, hkl, rfl, HP⟩ := hrel
    obtain ⟨a0, c0, rfl, -⟩ := HP.out.sl.slice
    obtain ⟨a1, c1, rfl, -⟩ := HP.out.ints.slice
    have b0 := HP.out.blk.c0 0 _ rfl
    have b1 := HP.out.blk.c0 1 _ rfl
    by_cases hact : k < l.length ∧ k < n
    · obtain ⟨h1, h2⟩ := hact
      obtain ⟨b5, off5, cap5, he, -, hok, y0, y1, y2, y3⟩ := raw_at H.out k h1
      injection he with he1 he2 he3
      subst he1 he3
      clear he2
      have hlz : (k : Int) < (l.length : Int) := by omega
      have hnz2 : (k : Int) < (n : Int) := by omega
      have HST : Hid (playX (l.take (k + 1)) = stepX (playX (l.take k)).1 (playX (l.take k)).2 l[k]) := Lib.hid (by rw [List.take_succ_eq_append_getElem h1, playX_snoc])
      have HGD : Hid (Good (playX (l.take k)).1 (playX (l.take k)).2 k) := Lib.hid (by
        have e : (l.take k).length = k := by rw [List.length_take]; omega
        have := good_play (l.take k) (by omega)
        rw [e] at this; exact this)
      have HOK := Lib.hid hok
      have HSL := Lib.hid HP.out.sl
      have HIN := Lib.hid HP.out.ints
      have HBL := Lib.hid HP.out.blk
      have HRS := Lib.hid HP.out.res
      have HBE := Lib.hid HP.out.bel
      clear hok HP
      generalize (playX (l.take k)).1 = P at *
      generalize (playX (l.take k)).2 = R at *
      generalize l[k] = x at *
      have z0 := cell_all y0 _ HBE.out
      have z1 := cell_all y1 _ HBE.out
      have z2 := cell_all y2 _ HBE.out
      have z3 := cell_all y3 _ HBE.out
      clear y0 y1 y2 y3
      go_wp2_with fail
      go_region_with
        (first
          | (go_at_call 33; refine (step_w _ _ P R k x wr.drew HOK.out (HSL.out.below (below_drewN wr 1)) (HIN.out.below (below_drewN wr 1)) HGD.out (by omega)).mono ?_; rintro e w3 ⟨v3, u3, rfl, hs3, hu3, hb3⟩; have hr3 := Blk.below (show Blk wr.drew _ _ _ from HBL.out) hb3 HBL.out.lt; have hz3 := Blk.below (show Blk wr.drew _ _ _ from HRS.out) hb3 HRS.out.lt; obtain ⟨a3, c3, rfl, -⟩ := hs3.slice; obtain ⟨d3, e3, rfl, -⟩ := hu3.slice; have hS3 : Below w.heap.size w w3 := HBE.out.trans (Below.mono ((below_drewN (B := wr.heap.size) wr 1).trans hb3) HBE.out.size); have n0 := hr3.c0 0 _ rfl; have n1 := hr3.c0 1 _ rfl; have f0 := hr3.free 0; have f1 := hr3.free 1; have HS3 := Lib.hid hs3; have HU3 := Lib.hid hu3; have HR3 := Lib.hid hr3; have HZ3 := Lib.hid hz3; clear hs3 hu3 hb3 hr3 hz3)
          | fail "no arm")
      all_goals
        have HW3 := Lib.hid hS3
        clear hS3 z0 z1 z2 z3 b0 b1
        go_wp2
        go_roundw
        case rel =>
          have hbut := (ButP.setCell (w.heap.size + 1) 0 (.slice a3 (stepX P R x).1.length c3) w3).trans (ButP.setCell (w.heap.size + 1) 1 (.slice d3 (stepX P R x).2.length e3) _)
          refine ⟨k + 1, _, _, by omega, by omega, by go_num, Lib.hid ⟨(HR3.out.setCell 0 _).setCell 1 _, (HZ3.out.setCell_other (by omega) _ _).setCell_other (by omega) _ _, ?_, ?_, (HW3.out.setCell (Nat.le_succ _) _).setCell (Nat.le_succ _) _⟩⟩
          · rw [HST.out]
            exact slots_but HS3.out (good_step HGD.out (by omega)).bare HR3.out hbut (slots_off HS3.out HR3.out)
          · rw [HST.out]
            exact ints_but HU3.out hbut (ints_off HU3.out HR3.out (fun i e => by cases e) (fun i e => by cases e))
        case measure => simp [intOf]; omega
    · have HT : Hid (l.take n = l.take k) := Lib.hid (by
        by_cases h : k < l.length
        · have : k = n := by omega
          rw [this]
        · rw [List.take_of_length_le (by omega), List.take_of_length_le (by omega)])
      have HBARE := Lib.hid (good_play (l.take k) (by rw [List.length_take]; omega)).bare
      obtain ⟨r0, r1⟩ : _ ∧ _ := ⟨HP.out.res.c0 0 _ rfl, HP.out.res.c0 1 _ rfl⟩
      have g0 := HP.out.res.free 0
      have g1 := HP.out.res.free 1
      by_cases hk : k < l.length
      · have hlz : (k : Int) < (l.length : Int) := by omega
        have hnz2 : (n : Int) ≤ (k : Int) := by omega
        clear hact
        go_wp2
        have hbut := (ButP.setCell w.heap.size 0 (.slice a0 (playX (l.take k)).1.length c0) wr).trans (ButP.setCell w.heap.size 1 (.slice a1 (playX (l.take k)).2.length c1) _)
        have hz := (HP.out.res.setCell 0 (.slice a0 (playX (l.take k)).1.length c0)).setCell 1 (.slice a1 (playX (l.take k)).2.length c1)
        obtain ⟨z0, z1⟩ : _ ∧ _ := ⟨hz.c0 0 _ rfl, hz.c0 1 _ rfl⟩
        refine bodyPost_ret (v := heldV (.slice a0 (playX (l.take k)).1.length c0) (.slice a1 (playX (l.take k)).2.length c1)) (by simp [results, Try.results12, go_sem, z0, z1]) rfl ?_
        rw [HT.out]
        exact ⟨_, _, rfl, slots_but HP.out.sl HBARE.out HP.out.res hbut (slots_off HP.out.sl HP.out.res), ints_but HP.out.ints hbut (ints_off HP.out.ints HP.out.res (fun i e => by cases e) (fun i e => by cases e)), (HP.out.bel.setCell (Nat.le_refl _) _).setCell (Nat.le_refl _) _⟩
      · have hlz : (l.length : Int) ≤ (k : Int) := by omega
        clear hact
        go_wp2
        have hbut := (ButP.setCell w.heap.size 0 (.slice a0 (playX (l.take k)).1.length c0) wr).trans (ButP.setCell w.heap.size 1 (.slice a1 (playX (l.take k)).2.length c1) _)
        have hz := (HP.out.res.setCell 0 (.slice a0 (playX (l.take k)).1.length c0)).setCell 1 (.slice a1 (playX (l.take k)).2.length c1)
        obtain ⟨z0, z1⟩ : _ ∧ _ := ⟨hz.c0 0 _ rfl, hz.c0 1 _ rfl⟩
        refine bodyPost_ret (v := heldV (.slice a0 (playX (l.take k)).1.length c0) (.slice a1 (playX (l.take k)).2.length c1)) (by simp [results, Try.results12, go_sem, z0, z1]) rfl ?_
        rw [HT.out]
        exact ⟨_, _, rfl, slots_but HP.out.sl HBARE.out HP.out.res hbut (slots_off HP.out.sl HP.out.res), ints_but HP.out.ints hbut (ints_off HP.out.ints HP.out.res (fun i e => by cases e) (fun i e => by cases e)), (HP.out.bel.setCell (Nat.le_refl _) _).setCell (Nat.le_refl _) _⟩

end Go.Proofs.Ytlgangcldlphnaa
