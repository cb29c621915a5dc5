/-
  Walks: what is known of a key, followed back through a Clone and through a Move, and through any message.
-/
import Derived.Test.YthncnijkgkeohaaGreatHQ2
namespace Go.Proofs.YthncnijkgkeohaaGreat
open Go.RowKit Go.Sort
set_option linter.unusedVariables false

set_option maxHeartbeats 1000000 in
theorem look1_w (m : Ms) (f : Fd) (w : World) (hk : f.key.length ≤ 140737488355328) (hs : m.src.length ≤ 140737488355328) :
    Calls Tryz.prog 82 #[msgV m, fdV f] w fun e w' => e = .returned (fdV (backF m f)) ∧ Grown w w' := by
  have HM := Lib.hid (fun wx => moved_w f.key m.dst m.src wx hk hs)
  have HK := Lib.hid (lookW_known m f w)
  have HR := Lib.hid (lookW_room m f w)
  have HW := Lib.hid (lookW_grown m f w)
  have hyes : m.dst.isPrefixOf f.key = true → backF m f = { f with key := m.src ++ f.key.drop m.dst.length } := fun h => by unfold backF movedS; rw [if_pos h]
  have hno : m.dst.isPrefixOf f.key = false → backF m f = f := backF_not
  obtain ⟨f1, f2, ⟨f3, f4, f5⟩, f6, f7, f8⟩ := f
  obtain ⟨k, m1, m2, m3, m4, m5, m6, m7⟩ := m
  clear hk hs
  dsimp only at HM hyes hno ⊢
  cases h : m6.isPrefixOf f6 with
  | true =>
    rw [movedV_yes h] at HM
    rw [hyes h]
    clear h hyes hno
    generalize m5 ++ f6.drop m6.length = r at *
    go_enter Tryz.func82, Tryz.ntmps82
    go_wp2_with (go_at_call 83; refine (HM.out _).mono ?_; rintro e w2 ⟨rfl, hg2⟩; have HG := Lib.hid hg2; obtain ⟨a0, a1, a2, a3, a4, a5, a6, a7⟩ := (hg2.blk HK.out).eightC; obtain ⟨b0, b1, b2, b3, b4, b5, b6, b7⟩ := (hg2.blk HK.out).eightF; obtain ⟨c0, c1, c2, c3, c4, c5, c6, c7⟩ := (hg2.blk HR.out).eightC; obtain ⟨e0, e1, e2, e3, e4, e5, e6, e7⟩ := (hg2.blk HR.out).eightF; clear hg2)
    refine bodyPost_ret (v := fdV ⟨f1, f2, (f3, f4, f5), r, f7, f8⟩) (by simp [results, Tryz.results82, go_sem, c0, c1, c2, c3, c4, c5, c6, c7]; try rfl) rfl ⟨rfl, ?_⟩
    repeat (with_reducible refine Grown.setCell ?_ _ _ _ (by omega))
    exact HW.out.trans HG.out
  | false =>
    rw [movedV_no h] at HM
    rw [hno h]
    clear h hyes hno
    go_enter Tryz.func82, Tryz.ntmps82
    go_wp2_with (go_at_call 83; refine (HM.out _).mono ?_; rintro e w2 ⟨rfl, hg2⟩; have HG := Lib.hid hg2; obtain ⟨a0, a1, a2, a3, a4, a5, a6, a7⟩ := (hg2.blk HK.out).eightC; obtain ⟨b0, b1, b2, b3, b4, b5, b6, b7⟩ := (hg2.blk HK.out).eightF; obtain ⟨c0, c1, c2, c3, c4, c5, c6, c7⟩ := (hg2.blk HR.out).eightC; obtain ⟨e0, e1, e2, e3, e4, e5, e6, e7⟩ := (hg2.blk HR.out).eightF; clear hg2)
    refine bodyPost_ret (v := fdV ⟨f1, f2, (f3, f4, f5), f6, f7, f8⟩) (by simp [results, Tryz.results82, go_sem, c0, c1, c2, c3, c4, c5, c6, c7]; try rfl) rfl ⟨rfl, ?_⟩
    repeat (with_reducible refine Grown.setCell ?_ _ _ _ (by omega))
    exact HW.out.trans HG.out

@[reducible] def fn1V : Value := .func (.func 82) #[] #[]
set_option maxHeartbeats 1000000 in
theorem look5_w (b : Nat) (m : Ms) (f : Fd) (w : World) (hb : w.cell? ⟨b, 0, none⟩ = some fn1V) (hk : f.key.length ≤ 140737488355328) (hs : m.src.length ≤ 140737488355328) :
    Calls Tryz.prog 89 (#[msgV m, fdV f] ++ #[.pointer (some ⟨b, 0, none⟩)]) w fun e w' => e = .returned (fdV (if m.dst.isPrefixOf f.key then backF m f else endF (m.src.isPrefixOf f.key) f)) ∧ Grown w w' := by
  have HA := Lib.hid (fun wx => hasPre_w f.key m.dst wx)
  have HB := Lib.hid (fun wx => hasPre_w f.key m.src wx)
  have HL := Lib.hid (fun wx => look1_w m f wx hk hs)
  have HE := Lib.hid (fun wx => endIf_w (m.src.isPrefixOf f.key) f wx)
  have HR := Lib.hid (lookW_room m f w)
  have HW := Lib.hid (lookW_grown m f w)
  have hb3 : (lookW m f w).cell? ⟨b, 0, none⟩ = some fn1V := (((lookW_grown m f w).below (Nat.le_refl _)).cell (p := ⟨b, 0, none⟩) (cell_lt hb)).trans hb
  clear hb
  have eg : ∀ args w, (callFunc 82 args).run Tryz.prog w = .ok (.enter 82 args) w := enters_of Tryz.func82 (by kernel_rfl) rfl
  obtain ⟨bk, hbk⟩ : ∃ bk, bk = backF m f := ⟨_, rfl⟩
  rw [← hbk] at HL ⊢
  clear hbk hk hs
  obtain ⟨g, hg⟩ : ∃ g, g = endF (m.src.isPrefixOf f.key) f := ⟨_, rfl⟩
  rw [← hg] at HE ⊢
  clear hg
  obtain ⟨f1, f2, ⟨f3, f4, f5⟩, f6, f7, f8⟩ := f
  obtain ⟨k, m1, m2, m3, m4, m5, m6, m7⟩ := m
  obtain ⟨g1, g2, ⟨g3, g4, g5⟩, g6, g7, g8⟩ := g
  obtain ⟨h1, h2, ⟨h3, h4, h5⟩, h6, h7, h8⟩ := bk
  dsimp only at HA HB HL HE ⊢
  unfold lookW at hb3
  simp only [encM, encF] at hb3
  generalize m6.isPrefixOf f6 = p at *
  generalize m5.isPrefixOf f6 = q at *
  cases p
  · go_enter Tryz.func89, Tryz.ntmps89
    go_wp2_with fail
    refine (HA.out _).mono ?_
    rintro e w1 ⟨rfl, rfl⟩
    go_wp2_with fail
    go_region_with (first
      | (go_at_call 90; refine (HB.out _).mono ?_; rintro e w1 ⟨rfl, rfl⟩)
      | (go_at_call 86; refine (HE.out _).mono ?_; rintro e w2 ⟨rfl, hg2⟩; have HG2 : Hid (Grown _ w2) := Lib.hid (grown_drew hg2); obtain ⟨c0, c1, c2, c3, c4, c5, c6, c7⟩ := (HG2.out.blk HR.out).eightC; obtain ⟨e0, e1, e2, e3, e4, e5, e6, e7⟩ := (HG2.out.blk HR.out).eightF; clear hg2))
    all_goals go_wp2
    all_goals
      refine bodyPost_ret (v := fdV ⟨g1, g2, (g3, g4, g5), g6, g7, g8⟩) (by simp [results, Tryz.results89, go_sem, c0, c1, c2, c3, c4, c5, c6, c7]; try rfl) rfl ⟨rfl, ?_⟩
      repeat (with_reducible refine Grown.setCell ?_ _ _ _ (by omega))
      exact HW.out.trans HG2.out
  · go_enter Tryz.func89, Tryz.ntmps89
    go_wp2_with fail
    refine (HA.out _).mono ?_
    rintro e w1 ⟨rfl, rfl⟩
    go_wp2_with (go_at_call 82; refine (HL.out _).mono ?_; rintro e w2 ⟨rfl, hg2⟩; have HG := Lib.hid hg2; obtain ⟨c0, c1, c2, c3, c4, c5, c6, c7⟩ := (hg2.blk HR.out).eightC; obtain ⟨e0, e1, e2, e3, e4, e5, e6, e7⟩ := (hg2.blk HR.out).eightF; clear hg2)
    refine bodyPost_ret (v := fdV ⟨h1, h2, (h3, h4, h5), h6, h7, h8⟩) (by simp [results, Tryz.results89, go_sem, c0, c1, c2, c3, c4, c5, c6, c7]; try rfl) rfl ⟨rfl, ?_⟩
    repeat (with_reducible refine Grown.setCell ?_ _ _ _ (by omega))
    exact HW.out.trans HG.out

end Go.Proofs.YthncnijkgkeohaaGreat
