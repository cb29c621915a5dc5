/-
  Walks: spans followed back through one message.
-/
import Derived.Test.YthncnijkgkeohaaHS2
import Derived.Test.YthncnijkgkeohaaHP2
import Derived.Test.YthncnijkgkeohaaMDH
namespace Go.Proofs.Ythncnijkgkeohaa
open Go.RowKit Go.Sort
set_option linter.unusedVariables false

/-- Keys handed back in a row of the call's own, which may be the one that came. -/
def KOut (base : Nat) (v : Value) (w : World) (L : List Sp) (e : Ending) (w' : World) : Prop := ∃ v', e = .returned v' ∧ w'.ownsRow base 35 2 v' L.length (L.flatMap encS) ∧ Turn v v' w w'
set_option maxHeartbeats 1000000 in
theorem kset_w (base : Nat) (m : Ms) (v : Value) (L : List Sp) (w : World) (hv : w.ownsRow base 35 2 v L.length (L.flatMap encS)) (hn : Nrm L) (hb : base ≤ w.heap.size) (hl : L.length ≤ 400) (hz : m.key.length ≤ 1000000000) :
    Calls Try.prog 49 #[msgV m, v] w (KOut base v w (minusS L [oneS m.key])) := by
  have HO := Lib.hid (fun wx => one_w m.key wx (by omega))
  have HWO := Lib.hid (fun wx (hx : Below w.heap.size w wx) => kwithout_w base v L (oneS m.key) wx (owns_below hv hx) hn (Nat.le_trans hb hx.size) (by omega))
  obtain ⟨pd, capd, rfl, hnd, hmd, hpd⟩ := own_form hv
  unfold maxLen at hmd
  clear hpd hv hn
  simp only [strS, oneS] at HWO
  obtain ⟨k, m1, m2, m3, m4, m5, m6, m7⟩ := m
  dsimp only at *
  go_enter Try.func49, Try.ntmps49
  go_wp2_with (first
    | (go_at_call 51; refine (HO.out _).mono ?_; rintro e w2 ⟨rfl, hg⟩; have HG : Hid (Below w.heap.size w w2) := Lib.hid ((below_box _).trans (hg.below (by simp))); clear hg)
    | (go_at_call 50; refine (HWO.out _ HG.out).mono ?_; rintro e w3 ⟨v', rfl, ho, ht⟩; have Ho := Lib.hid ho; have Ht := Lib.hid ht; clear ho ht))
  go_ret
  exact ⟨_, rfl, Ho.out, turn_below HG.out Ht.out⟩
set_option maxHeartbeats 1000000 in
theorem kdrop_w (base : Nat) (m : Ms) (v : Value) (L : List Sp) (w : World) (hv : w.ownsRow base 35 2 v L.length (L.flatMap encS)) (hn : Nrm L) (hb : base ≤ w.heap.size) (hl : L.length ≤ 400) :
    Calls Try.prog 57 #[msgV m, v] w (KOut base v w (minusS L [(m.lo, m.hi)])) := by
  have HWO := Lib.hid (fun wx (hx : Below w.heap.size w wx) => kwithout_w base v L (m.lo, m.hi) wx (owns_below hv hx) hn (Nat.le_trans hb hx.size) (by omega))
  obtain ⟨pd, capd, rfl, hnd, hmd, hpd⟩ := own_form hv
  unfold maxLen at hmd
  clear hpd hv hn
  simp only [strS] at HWO
  obtain ⟨k, m1, m2, m3, m4, m5, m6, m7⟩ := m
  dsimp only at *
  have HG : Hid (Below w.heap.size w (w.alloc (.cells (encM ⟨k, m1, m2, m3, m4, m5, m6, m7⟩) 49))) := Lib.hid (below_box _)
  go_enter Try.func57, Try.ntmps57
  go_wp2_with (go_at_call 50; refine (HWO.out _ HG.out).mono ?_; rintro e w3 ⟨v', rfl, ho, ht⟩; have Ho := Lib.hid ho; have Ht := Lib.hid ht; clear ho ht)
  go_ret
  exact ⟨_, rfl, Ho.out, turn_below HG.out Ht.out⟩
set_option maxHeartbeats 1000000 in
theorem kstamp_w (base : Nat) (m : Ms) (v : Value) (L : List Sp) (w : World) (hv : w.ownsRow base 35 2 v L.length (L.flatMap encS)) :
    Calls Try.prog 59 #[msgV m, v] w (KOut base v w L) := by
  have HV := Lib.hid hv
  obtain ⟨pd, capd, rfl, hnd, hmd, hpd⟩ := own_form hv
  clear hpd hv
  go_enter Try.func59, Try.ntmps59
  go_wp2
  go_ret
  exact ⟨_, rfl, owns_below HV.out (below_box _), turn_below (below_box _) (turn_refl _ _)⟩

end Go.Proofs.Ythncnijkgkeohaa
