/-
  Walks: Find and Union of package table.
-/
import Derived.Test.YtaafckefeejjpaaGreatTW4
import Derived.WalkMore
namespace Go.Proofs.YtaafckefeejjpaaGreat
open Go.RowKit Go.Sort
set_option linter.unusedVariables false

def pairV (x : Pr) : Value := .agg #[.string (Str x.1), .string (Str x.2.1), .int .i64 x.2.2]
/-- What Find hands back. -/
def findV (l : List Pr) (k : Bs) : Value := match findS k l with
  | some x => .tuple #[.agg #[.string (Str x.1), .string (Str x.2.1), .int .i64 x.2.2], .bool true]
  | none => .tuple #[.agg #[.string (Str []), .string (Str []), .int .i64 0], .bool false]
theorem findV_some {l : List Pr} {k : Bs} {x : Pr} (h : findS k l = some x) : findV l k = .tuple #[.agg #[.string (Str x.1), .string (Str x.2.1), .int .i64 x.2.2], .bool true] := by unfold findV; rw [h]
theorem findV_none {l : List Pr} {k : Bs} (h : findS k l = none) : findV l k = .tuple #[.agg #[.string (Str []), .string (Str []), .int .i64 0], .bool false] := by unfold findV; rw [h]

theorem one_pairs {w : World} (x : Pr) (hx : x.1.length ≤ maxLen ∧ x.2.1.length ≤ maxLen) : IsPairs (w.alloc (.cells #[.string (Str x.1), .string (Str x.2.1), .int .i64 x.2.2] 91)) (.slice (some ⟨w.heap.size, 0, none⟩) 1 1) [x] := by
  refine ⟨_, 1, rfl, Nat.le_refl _, by unfold maxLen; omega, fun y hy => by simp at hy; subst hy; exact hx, fun _ => ⟨w.heap.size, 0, rfl, by simp, fun i hi => ?_⟩⟩
  obtain rfl : i = 0 := by simpa using hi
  have hB : Blk (w.alloc (.cells #[.string (Str x.1), .string (Str x.2.1), .int .i64 x.2.2] 91)) w.heap.size 91 #[.string (Str x.1), .string (Str x.2.1), .int .i64 x.2.2] := Blk.new _ _ _
  exact ⟨hB.c0 0 _ rfl, hB.c0 1 _ rfl, hB.c0 2 _ rfl⟩
/-- The number of a slice's elements. -/
def lenV : Value → Nat
  | .slice _ n _ => n
  | _ => 0
theorem IsPairs.lenV {w : World} {v : Value} {l : List Pr} (h : IsPairs w v l) : lenV v = l.length := by
  obtain ⟨a, cap, rfl, _⟩ := h; rfl
/-- The front of a list that is not empty, and what is behind it. -/
theorem front {w : World} {v : Value} {x : Pr} {r : List Pr} (h : IsPairs w v (x :: r)) : ∃ b off cap p1 m1 c1, v = .slice (some ⟨b, off, none⟩) (r.length + 1) cap ∧ b < w.heap.size ∧ r.length + 1 ≤ cap ∧ (cap : Int) ≤ 9223372036854775807 ∧
    (w.cell? ⟨b, off, none⟩ = some (.string (Str x.1)) ∧ w.cell? ⟨b, off + 1, none⟩ = some (.string (Str x.2.1)) ∧ w.cell? ⟨b, off + 2, none⟩ = some (.int .i64 x.2.2)) ∧
    (∀ w, (Instr.slice 38 (.slice (some ⟨b, off, none⟩) (r.length + 1) cap) (some (.int .i64 1)) none none).run Tryz.prog w = .ok (.slice p1 m1 c1) w) ∧ IsPairs w (.slice p1 m1 c1) r := by
  have h' := h
  obtain ⟨a, cap, rfl, hlc, hcm, hs, hc⟩ := h
  obtain ⟨b, off, rfl, hb, hcell⟩ := hc (by simp)
  have c := hcell 0 (by simp)
  simp only [Nat.zero_mul, Nat.add_zero, List.getElem_cons_zero] at c
  unfold maxLen at hcm
  refine ⟨b, off, cap, (if cap = 1 then some ⟨b, off, none⟩ else (some (⟨b, off, none⟩ : Addr)).map (·.add (1 * 3))), r.length + 1 - 1, cap - 1, rfl, hb, hlc, by omega, c, fun w1 => slice_l _ (r.length + 1) cap 1 (by omega) w1, ?_⟩
  have := h'.sliced 1 (r.length + 1) (by omega) (by simp)
  rwa [show ((x :: r).take (r.length + 1)).drop 1 = r from by simp] at this

set_option maxRecDepth 100000 in
set_option maxHeartbeats 4000000 in
theorem union_w (va vb : Value) (a b : List Pr) (w : World) (ha : IsPairs w va a) (hb : IsPairs w vb b) (sa : Srt a) (sb : Srt b) (la : a.length ≤ 20000) (lb : b.length ≤ 20000) :
    Calls Tryz.prog 31 #[va, vb] w (OwnOut w.heap.size w (unionS a b)) := by
  rw [← merge_eq sa sb]
  have hsm : ∀ x ∈ mergeS a b, x.1.length ≤ maxLen ∧ x.2.1.length ≤ maxLen := fun x hx => by
    rcases mem_merge_or a b x hx with h | h
    · exact ha.small x h
    · exact hb.small x h
  have Hsm := Lib.hid hsm
  clear hsm sa sb
  obtain ⟨-, -, capa, pa, hva, hlca, hcma, -⟩ := ha.form
  obtain ⟨-, -, capb, pb, hvb, hlcb, hcmb, -⟩ := hb.form
  have HA := Lib.hid ha
  have HB := Lib.hid hb
  clear ha hb
  unfold maxLen at hcma hcmb
  subst hva hvb
  obtain ⟨i0, hi, hz0, hz1, hz2⟩ := info_parts infoP
  go_enter Tryz.func31, Tryz.ntmps31
  go_wp2
  go_step3
  go_wp2_with (at_make; refine wpList_make_own _ rfl _ _ 38 rfl w.heap.size 91 i0 _ 3 Tryz.underlying38 hi hz0 hz1 .i64 .i64 _ (a.length + b.length) rfl rfl (by simp) (by rw [hz2]; omega) (by unfold maxLen; omega) (Nat.le_refl _) ?_; intro w1 hown hgrow)
  have Hown : Hid (w1.ownsRow w.heap.size 91 3 (.slice (some ⟨w.heap.size, 0, none⟩) 0 (a.length + b.length)) ([] : List Pr).length (([] : List Pr).flatMap encP)) := Lib.hid hown
  have Hbel : Hid (Below w.heap.size w w1) := Lib.hid (Below.grown (Below.refl _ _) hgrow (Nat.le_refl _) (fun q hq => by cases hq))
  clear hown hgrow
  go_step3
  go_wp2
  go_loopw [0, 1, 5] (fun x0 x1 x5 wr => ∃ (left a' b' : List Pr), wr.ownsRow w.heap.size 91 3 x5 left.length (left.flatMap encP) ∧ Below w.heap.size w wr ∧ Hid (left ++ mergeS a' b' = mergeS a b) ∧
    IsPairs w x0 a' ∧ IsPairs w x1 b' ∧ a'.length ≤ a.length ∧ b'.length ≤ b.length ∧ left.length + a'.length + b'.length ≤ a.length + b.length) (fun x0 x1 _ _ => lenV x0 + lenV x1)
  case atStart => exact ⟨[], a, b, Hown.out, Hbel.out, Lib.hid rfl, HA.out, HB.out, Nat.le_refl _, Nat.le_refl _, by simp⟩
  case round =>
    clear Hown Hbel HA HB
    obtain ⟨left, a', b', hown, hbel, hm, ha, hb, hla, hlb, hlt⟩ := hrel
    have Hown := Lib.hid hown
    have Hbel := Lib.hid hbel
    have hsz := hbel.size
    have HA := Lib.hid ha
    have HB := Lib.hid hb
    clear hown hbel
    rcases a' with _ | ⟨x, a'⟩
    · have Hm : Hid (left ++ [] ++ b' = mergeS a b) := Lib.hid (by rw [← hm.out, merge_nil']; simp)
      obtain ⟨-, -, ca, p0, rfl, hl1, hl2, -⟩ := ha.form
      obtain ⟨-, -, cb, p1, rfl, hl3, hl4, -⟩ := hb.form
      unfold maxLen at hl2 hl4
      clear ha hb hm
      go_wp2_with (first
        | (at_builtin; refine append_pairs rfl (.tmp 59) (.tmp 60) rfl w.heap.size _ left rfl Hown.out _ [] rfl (HA.out.below Hbel.out) (by simp only [List.length_nil] at *; omega) hsz ?_; intro v2 w2 hown2 hbel2; have Hown2 := Lib.hid hown2; have Hbel2 := Lib.hid (Hbel.out.trans hbel2); have hsz2 := Hbel2.out.size; clear hown2 hbel2)
        | (at_builtin; refine append_pairs rfl (.tmp 62) (.tmp 63) rfl w.heap.size _ (left ++ []) rfl Hown2.out _ b' rfl (HB.out.below Hbel2.out) (by simp only [List.length_append, List.length_nil] at *; omega) hsz2 ?_; intro v3 w3 hown3 hbel3; have Hown3 := Lib.hid hown3; have Hbel3 := Lib.hid (Hbel2.out.trans hbel3); clear hown3 hbel3))
      rw [Hm.out] at Hown3
      show bodyPost _ _ _ Exit.ret _ _
      go_ret
      exact ⟨_, rfl, Hown3.out, IsPairs.owned Hown3.out Hsm.out, Hbel3.out⟩
    · rcases b' with _ | ⟨y, b'⟩
      · have Hm : Hid (left ++ (x :: a') ++ [] = mergeS a b) := Lib.hid (by rw [← hm.out, merge_nil]; simp)
        obtain ⟨-, -, ca, p0, rfl, hl1, hl2, -⟩ := ha.form
        obtain ⟨-, -, cb, p1, rfl, hl3, hl4, -⟩ := hb.form
        unfold maxLen at hl2 hl4
        have hne : (((x :: a').length : Nat) : Int) ≠ 0 := by simp only [List.length_cons]; omega
        have hnb : ((((x :: a').length : Nat) : Int) == 0) = false := by simpa using hne
        have hxl : 1 ≤ (x :: a').length := by simp
        clear ha hb hm hne
        generalize x :: a' = a2 at *
        go_wp2_with (first
          | (at_builtin; refine append_pairs rfl (.tmp 59) (.tmp 60) rfl w.heap.size _ left rfl Hown.out _ a2 rfl (HA.out.below Hbel.out) (by simp only [List.length_nil] at *; omega) hsz ?_; intro v2 w2 hown2 hbel2; have Hown2 := Lib.hid hown2; have Hbel2 := Lib.hid (Hbel.out.trans hbel2); have hsz2 := Hbel2.out.size; clear hown2 hbel2)
          | (at_builtin; refine append_pairs rfl (.tmp 62) (.tmp 63) rfl w.heap.size _ (left ++ a2) rfl Hown2.out _ [] rfl (HB.out.below Hbel2.out) (by simp only [List.length_append, List.length_nil] at *; omega) hsz2 ?_; intro v3 w3 hown3 hbel3; have Hown3 := Lib.hid hown3; have Hbel3 := Lib.hid (Hbel2.out.trans hbel3); clear hown3 hbel3))
        rw [Hm.out] at Hown3
        show bodyPost _ _ _ Exit.ret _ _
        go_ret
        exact ⟨_, rfl, Hown3.out, IsPairs.owned Hown3.out Hsm.out, Hbel3.out⟩
      · simp only [List.length_cons] at hla hlb hlt
        obtain ⟨ba, oa, ca, p0, m0, c0, rfl, hba, hca, hca2, ⟨x0, x1, x2⟩, sla, hra⟩ := front ha
        obtain ⟨bb, ob, cb, p1, m1, c1, rfl, hbb, hcb, hcb2, ⟨y0, y1, y2⟩, slb, hrb⟩ := front hb
        have x0 := (Hbel.out.cell (p := ⟨ba, oa, none⟩) hba).trans x0
        have x1 := (Hbel.out.cell (p := ⟨ba, oa + 1, none⟩) hba).trans x1
        have x2 := (Hbel.out.cell (p := ⟨ba, oa + 2, none⟩) hba).trans x2
        have y0 := (Hbel.out.cell (p := ⟨bb, ob, none⟩) hbb).trans y0
        have y1 := (Hbel.out.cell (p := ⟨bb, ob + 1, none⟩) hbb).trans y1
        have y2 := (Hbel.out.cell (p := ⟨bb, ob + 2, none⟩) hbb).trans y2
        have Hra := Lib.hid hra
        have Hrb := Lib.hid hrb
        have Hxs := Lib.hid (ha.small x (by simp))
        have Hys := Lib.hid (hb.small y (by simp))
        have Hm0 : Hid (m0 = a'.length) := Lib.hid hra.lenV
        have Hm1 : Hid (m1 = b'.length) := Lib.hid hrb.lenV
        generalize hna : a'.length + 1 = na at *
        generalize hnb : b'.length + 1 = nb at *
        have Hna := Lib.hid hna
        have Hnb := Lib.hid hnb
        have hn1 : ((na : Int) == 0) = false := by simp; omega
        have hn2 : ((nb : Int) == 0) = false := by simp; omega
        have hn3 : (0 : Int) < (na : Int) := by omega
        have hn4 : (0 : Int) < (nb : Int) := by omega
        clear ha hb hra hrb hna hnb
        obtain ⟨xk, xv, xt⟩ := x
        obtain ⟨yk, yv, yt⟩ := y
        simp only at x0 x1 x2 y0 y1 y2
        have mixed := mixedA
        cases h1 : Op.bytesLess xk yk with
        | true =>
          have Hm : Hid ((left ++ [(xk, xv, xt)]) ++ mergeS a' ((yk, yv, yt) :: b') = mergeS a b) := Lib.hid (by rw [← hm.out, mergeS, if_pos h1]; simp)
          go_wp2_with fail
          go_quiet (fail)
          go_wp2_with (at_builtin; refine append_pairs rfl _ _ rfl w.heap.size _ left rfl (World.ownsRow.alloc (owns_below Hown.out (below_drewN _ _)) _) _ [(xk, xv, xt)] rfl (one_pairs (xk, xv, xt) Hxs.out) (by simp only [List.length_cons, List.length_nil]; omega) (by simp; omega) ?_; intro v2 w2 hown2 hbel2)
          have Hown2 := Lib.hid hown2
          have Hbel2 : Hid (Below w.heap.size w w2) := Lib.hid ((((Hbel.out.trans ((below_drewN _ _).mono hsz))).alloc (by simp; omega) _).trans hbel2)
          clear hown2 hbel2
          go_wp2
          go_roundw
          case rel =>
            refine ⟨left ++ [(xk, xv, xt)], a', (yk, yv, yt) :: b', Hown2.out, Hbel2.out, Hm, Hra.out, HB.out, ?_, ?_, ?_⟩
            · have := Hna.out; omega
            · have := Hnb.out; simp only [List.length_cons]; omega
            · have := Hna.out; have := Hnb.out; simp only [List.length_append, List.length_cons, List.length_nil]; omega
          case measure => have := Hm0.out; have := Hna.out; simp only [lenV]; omega
        | false =>
          by_cases h2 : xk = yk
          · have Hm : Hid (left ++ mergeS a' ((yk, yv, yt) :: b') = mergeS a b) := Lib.hid (by rw [← hm.out, mergeS, if_neg (by rw [h1]; simp), if_pos (by simpa using h2)])
            subst h2
            go_wp2_with fail
            go_quiet (fail)
            go_wp2_with fail
            go_quiet (fail)
            go_wp2
            go_roundw
            case rel =>
              refine ⟨left, a', (xk, yv, yt) :: b', owns_below Hown.out (below_drewN _ _), Hbel.out.trans (below_drewN _ _), Hm, Hra.out, HB.out, ?_, ?_, ?_⟩
              · have := Hna.out; omega
              · have := Hnb.out; simp only [List.length_cons]; omega
              · have := Hna.out; have := Hnb.out; simp only [List.length_cons]; omega
            case measure => have := Hm0.out; have := Hna.out; simp only [lenV]; omega
          · have Hm : Hid ((left ++ [(yk, yv, yt)]) ++ mergeS ((xk, xv, xt) :: a') b' = mergeS a b) := Lib.hid (by rw [← hm.out, mergeS, if_neg (by rw [h1]; simp), if_neg (by simpa using h2)]; simp)
            have h2b : (xk == yk) = false := by simpa using h2
            clear h2
            go_wp2_with fail
            go_quiet (fail)
            go_wp2_with fail
            go_quiet (fail)
            go_wp2_with (at_builtin; refine append_pairs rfl _ _ rfl w.heap.size _ left rfl (World.ownsRow.alloc (owns_below Hown.out (below_drewN _ _)) _) _ [(yk, yv, yt)] rfl (one_pairs (yk, yv, yt) Hys.out) (by simp only [List.length_cons, List.length_nil]; omega) (by simp; omega) ?_; intro v2 w2 hown2 hbel2)
            have Hown2 := Lib.hid hown2
            have Hbel2 : Hid (Below w.heap.size w w2) := Lib.hid ((((Hbel.out.trans ((below_drewN _ _).mono hsz))).alloc (by simp; omega) _).trans hbel2)
            clear hown2 hbel2
            go_wp2
            go_roundw
            case rel =>
              refine ⟨left ++ [(yk, yv, yt)], (xk, xv, xt) :: a', b', Hown2.out, Hbel2.out, Hm, HA.out, Hrb.out, ?_, ?_, ?_⟩
              · have := Hna.out; simp only [List.length_cons]; omega
              · have := Hnb.out; omega
              · have := Hna.out; have := Hnb.out; simp only [List.length_append, List.length_cons, List.length_nil]; omega
            case measure => have := Hm1.out; have := Hnb.out; simp only [lenV]; omega

end Go.Proofs.YtaafckefeejjpaaGreat
