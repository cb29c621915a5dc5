/-
  Walks: spans followed back through one message.
-/
import Derived.Test.YthncnijkgkeohaaGreatHS2
import Derived.Test.YthncnijkgkeohaaGreatHP2
import Derived.Test.YthncnijkgkeohaaGreatMDH
namespace Go.Proofs.YthncnijkgkeohaaGreat
open Go.RowKit Go.Sort
set_option linter.unusedVariables false

/-- Keys handed back in a row of the call's own, which may be the one that came. -/
def KOut (base : Nat) (v : Value) (w : World) (L : List Sp) (e : Ending) (w' : World) : Prop := ∃ v', e = .returned v' ∧ w'.ownsRow base 29 2 v' L.length (L.flatMap encS) ∧ Turn v v' w w'
set_option maxHeartbeats 1000000 in
theorem kset_w (base : Nat) (m : Ms) (v : Value) (L : List Sp) (w : World) (hv : w.ownsRow base 29 2 v L.length (L.flatMap encS)) (hn : Nrm L) (hb : base ≤ w.heap.size) (hl : L.length ≤ 400) (hz : m.key.length ≤ 1000000000) :
    Calls Tryz.prog 95 #[msgV m, v] w (KOut base v w (minusS L [oneS m.key])) := by
  have HO := Lib.hid (fun wx => one_w m.key wx (by omega))
  have HWO := Lib.hid (fun wx (hx : Below w.heap.size w wx) => kwithout_w base v L (oneS m.key) wx (owns_below hv hx) hn (Nat.le_trans hb hx.size) (by omega))
  obtain ⟨pd, capd, rfl, hnd, hmd, hpd⟩ := own_form hv
  unfold maxLen at hmd
  clear hpd hv hn
  simp only [strS, oneS] at HWO
  obtain ⟨k, m1, m2, m3, m4, m5, m6, m7⟩ := m
  dsimp only at *
  go_enter Tryz.func95, Tryz.ntmps95
  go_wp2_with (first
    | (go_at_call 97; refine (HO.out _).mono ?_; rintro e w2 ⟨rfl, hg⟩; have HG : Hid (Below w.heap.size w w2) := Lib.hid ((below_box _).trans (hg.below (by simp))); clear hg)
    | (go_at_call 96; refine (HWO.out _ HG.out).mono ?_; rintro e w3 ⟨v', rfl, ho, ht⟩; have Ho := Lib.hid ho; have Ht := Lib.hid ht; clear ho ht))
  go_ret
  exact ⟨_, rfl, Ho.out, turn_below HG.out Ht.out⟩
set_option maxHeartbeats 1000000 in
theorem kdrop_w (base : Nat) (m : Ms) (v : Value) (L : List Sp) (w : World) (hv : w.ownsRow base 29 2 v L.length (L.flatMap encS)) (hn : Nrm L) (hb : base ≤ w.heap.size) (hl : L.length ≤ 400) :
    Calls Tryz.prog 103 #[msgV m, v] w (KOut base v w (minusS L [(m.lo, m.hi)])) := by
  have HWO := Lib.hid (fun wx (hx : Below w.heap.size w wx) => kwithout_w base v L (m.lo, m.hi) wx (owns_below hv hx) hn (Nat.le_trans hb hx.size) (by omega))
  obtain ⟨pd, capd, rfl, hnd, hmd, hpd⟩ := own_form hv
  unfold maxLen at hmd
  clear hpd hv hn
  simp only [strS] at HWO
  obtain ⟨k, m1, m2, m3, m4, m5, m6, m7⟩ := m
  dsimp only at *
  have HG : Hid (Below w.heap.size w (w.alloc (.cells (encM ⟨k, m1, m2, m3, m4, m5, m6, m7⟩) 63))) := Lib.hid (below_box _)
  go_enter Tryz.func103, Tryz.ntmps103
  go_wp2_with (go_at_call 96; refine (HWO.out _ HG.out).mono ?_; rintro e w3 ⟨v', rfl, ho, ht⟩; have Ho := Lib.hid ho; have Ht := Lib.hid ht; clear ho ht)
  go_ret
  exact ⟨_, rfl, Ho.out, turn_below HG.out Ht.out⟩
set_option maxHeartbeats 1000000 in
theorem kstamp_w (base : Nat) (m : Ms) (v : Value) (L : List Sp) (w : World) (hv : w.ownsRow base 29 2 v L.length (L.flatMap encS)) :
    Calls Tryz.prog 105 #[msgV m, v] w (KOut base v w L) := by
  have HV := Lib.hid hv
  obtain ⟨pd, capd, rfl, hnd, hmd, hpd⟩ := own_form hv
  clear hpd hv
  go_enter Tryz.func105, Tryz.ntmps105
  go_wp2
  go_ret
  exact ⟨_, rfl, owns_below HV.out (below_box _), turn_below (below_box _) (turn_refl _ _)⟩

end Go.Proofs.YthncnijkgkeohaaGreat
