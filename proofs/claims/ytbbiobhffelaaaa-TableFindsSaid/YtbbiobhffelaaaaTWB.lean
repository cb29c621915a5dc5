/-
  Walks: the reference's Union.
-/
import Derived.Test.YtbbiobhffelaaaaTWA
namespace Go.Proofs.Ytbbiobhffelaaaa
open Go.RowKit Go.Sort
set_option linter.unusedVariables false

theorem union_take (a b : List Pr) (j : Nat) (h : j < b.length) : unionS a (b.take (j + 1)) = putS b[j] (unionS a (b.take j)) := by
  rw [List.take_add_one, List.getElem?_eq_getElem h]; exact union_snoc _ _ _

set_option maxRecDepth 100000 in
set_option maxHeartbeats 4000000 in
theorem runion_w (va vb : Value) (a b : List Pr) (w : World) (ha : IsPairs w va a) (hb : IsPairs w vb b) (sa : Srt a) (la : a.length ≤ 20000) (lb : b.length ≤ 20000) :
    Calls Try.prog 26 #[va, vb] w (OwnOut w.heap.size w (unionS a b)) := by
  obtain ⟨-, -, capa, pa, hva, hlca, hcma, -⟩ := ha.form
  obtain ⟨bb, off, cap, p, rfl, hlc, hcm, hpp, hcc⟩ := hb.form
  unfold maxLen at hcma hcm
  have HP := Lib.hid hpp
  have HC := Lib.hid hcc
  have HA := Lib.hid ha
  have Hbs := Lib.hid hb.small
  have Has := Lib.hid ha.small
  have Hsrt := Lib.hid sa
  clear ha hb hpp hcc sa
  subst hva
  go_enter Try.func26, Try.ntmps26
  go_wp2_with (at_builtin; refine append_pairs rfl _ _ rfl w.heap.size _ [] rfl (own_empty w w.heap.size (Nat.le_refl _)) _ a rfl (HA.out.below (below_box _)) (by simp; omega) (by simp) ?_; intro v1 w1 hown hbel)
  have Hown := Lib.hid hown
  have Hbel : Hid (Below w.heap.size w w1) := Lib.hid ((below_box _).trans hbel)
  clear hown hbel
  go_wp2
  go_loopw [5, 6] (fun o i wr => ∃ j : Nat, j ≤ b.length ∧ i = .int .i64 j ∧ wr.ownsRow w.heap.size 30 3 o (unionS a (b.take j)).length ((unionS a (b.take j)).flatMap encP) ∧ IsPairs wr o (unionS a (b.take j)) ∧ Below w.heap.size w wr) (fun _ i _ => b.length - (intOf i).toNat)
  case atStart => exact ⟨0, Nat.zero_le _, rfl, Hown.out, IsPairs.owned Hown.out Has.out, Hbel.out⟩
  case round =>
    clear Hown Hbel
    obtain ⟨j, hj, rfl, hown, hpr, hbel⟩ := hrel
    have hsz := hbel.size
    have Hown := Lib.hid hown
    have Hbel := Lib.hid hbel
    have Hpr := Lib.hid hpr
    clear hown hpr
    by_cases hlt : j < b.length
    · obtain ⟨rfl, hc⟩ := HC.out j hlt
      have hgl := (HP.out (by rintro rfl; simp at hlt)).2
      have hltz : (j : Int) < (b.length : Int) := by omega
      obtain ⟨c0, c1, c2⟩ := cells_in hbel hgl hc
      have hxs := Lib.hid (Hbs.out b[j] (List.getElem_mem hlt))
      have Htk := Lib.hid (union_take a b j hlt)
      have hul := union_length a (b.take j)
      have htl : (b.take j).length = j := by rw [List.length_take]; omega
      have hul2 : (unionS a (b.take j)).length ≤ 50000 := by omega
      have Hs2 := Lib.hid (srt_union Hsrt.out (b.take j))
      clear hul htl hbel hc
      generalize b[j] = x at *
      obtain ⟨xk, xv, xt⟩ := x
      simp only at c0 c1 c2 Htk
      generalize unionS a (b.take j) = u at *
      go_wp2_with fail
      refine (rput_w _ u xk xv xt _ Hpr.out Hs2.out hul2 hxs.out).mono ?_
      intro e w2 h2
      have H2 := Lib.hid (h2.lower Hbel.out hsz)
      obtain ⟨v', rfl, -⟩ := h2
      go_wp2
      go_roundw
      case rel =>
        obtain ⟨v2, e2, h3, h4, h5⟩ := H2.out
        injection e2 with e2
        subst e2
        exact ⟨j + 1, by omega, by go_num, by rw [Htk.out]; exact h3, by rw [Htk.out]; exact h4, h5⟩
      case measure => simp [intOf]; omega
    · obtain rfl : j = b.length := by omega
      rw [List.take_length] at Hown Hpr
      clear hbel
      go_wp2
      go_ret
      exact ⟨_, rfl, Hown.out, Hpr.out, Hbel.out⟩

end Go.Proofs.Ytbbiobhffelaaaa
