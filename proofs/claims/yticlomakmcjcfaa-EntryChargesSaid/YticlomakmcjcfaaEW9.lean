/-
  Walks: Charge and Total of package entry.
-/
import Derived.Test.YticlomakmcjcfaaEW2
namespace Go.Proofs.Yticlomakmcjcfaa
open Go.RowKit Go.Sort
set_option linter.unusedVariables false

/-- What a pair is charged. -/
def chargeS (k v : Bs) : Int × Int :=
  match placeS k with
  | some x => if x.tag = 1 then (1, 0) else if x.tag = 2 ∨ x.tag = 3 then (0, v.length) else (0, 0)
  | none => (0, 0)

set_option maxRecDepth 100000 in
set_option maxHeartbeats 1000000 in
theorem charge_w (k v : Bs) (st : Int) (w : World) (hk : k.length ≤ maxLen) (hv : v.length ≤ maxLen) :
    Calls Try.prog 60 #[.agg #[.string (Str k), .string (Str v), .int .i64 st]] w fun e w' => e = .returned (.agg #[.int .i64 (chargeS k v).1, .int .i64 (chargeS k v).2]) ∧ Below w.heap.size w w' := by
  have hp := fun wx => place_w (Str k) wx (by rw [size_Str]; exact hk)
  simp only [toList_Str] at hp
  unfold maxLen at hv
  have S0 := Lib.hid (Blk.new w 81 #[.string (Str k), .string (Str v), .int .i64 st])
  cases hx : placeS k with
  | none =>
    have e : placeR k = .tuple #[.agg #[.string (Str []), .int .i64 0, .int .i64 0, .string (Str [])], .int .i64 12] := by unfold placeR; rw [hx]; rfl
    rw [e] at hp
    have H : Hid (chargeS k v = (0, 0)) := Lib.hid (by unfold chargeS; rw [hx])
    have Hp := Lib.hid hp
    clear hp e hx
    go_enter Try.func60, Try.ntmps60
    go_wp2_with (go_at_call 20; refine (Hp.out _).mono ?_; rintro e w1 ⟨rfl, hb1⟩; have hr := Blk.below (Blk.new' (n := w.heap.size + 1) (w.alloc (.cells #[.string (Str k), .string (Str v), .int .i64 st] 81)) 83 #[.int .i64 0, .int .i64 0] (by simp)) hb1 (by simp); have hp1 := Blk.below (S0.out.alloc (.cells #[.int .i64 0, .int .i64 0] 83)) hb1 (by simp; omega); have r0 := hr.c0 0 _ rfl; have r1 := hr.c0 1 _ rfl; have y0 := hr.free 0; have y1 := hr.free 1; have a1 := hp1.c0 1 _ rfl; simp at r0 r1 a1; have hlt0 := hr.lt; have hlt1 := hp1.lt; have HB1 := Lib.hid hb1; clear hb1 hr hp1)
    have HB : Below w.heap.size w w1 := ((below_box _).alloc (by simp) _).trans (HB1.out.mono (by simp; omega))
    refine bodyPost_ret (v := .agg #[.int .i64 0, .int .i64 0]) (by simp [results, Try.results60, go_sem, r0, r1, hlt0]) rfl ⟨by rw [H.out], ?_⟩
    repeat (first | exact HB | refine Below.setCell ?_ (by simp) _ | refine Below.alloc ?_ (by simp; omega) _)
  | some x =>
    obtain ⟨xr, xp, xt, xn, xm⟩ := x
    have e : placeR k = .tuple #[.agg #[.string (Str xp), .int .i64 xt, .int .i64 xn, .string (Str xm)], .int .i64 0] := by unfold placeR; rw [hx]; rfl
    rw [e] at hp
    have H0 : chargeS k v = if xt = 1 then (1, 0) else if xt = 2 ∨ xt = 3 then (0, (v.length : Int)) else (0, 0) := by unfold chargeS; rw [hx]
    have Hp := Lib.hid hp
    clear hp e hx
    by_cases h1 : xt = 1
    · have H : Hid (chargeS k v = (1, 0)) := Lib.hid (by rw [H0, if_pos h1])
      clear H0
      subst h1
      go_enter Try.func60, Try.ntmps60
      go_wp2_with (go_at_call 20; refine (Hp.out _).mono ?_; rintro e w1 ⟨rfl, hb1⟩; have hr := Blk.below (Blk.new' (n := w.heap.size + 1) (w.alloc (.cells #[.string (Str k), .string (Str v), .int .i64 st] 81)) 83 #[.int .i64 0, .int .i64 0] (by simp)) hb1 (by simp); have hp1 := Blk.below (S0.out.alloc (.cells #[.int .i64 0, .int .i64 0] 83)) hb1 (by simp; omega); have r0 := hr.c0 0 _ rfl; have r1 := hr.c0 1 _ rfl; have y0 := hr.free 0; have y1 := hr.free 1; have a1 := hp1.c0 1 _ rfl; simp at r0 r1 a1; have hlt0 := hr.lt; have hlt1 := hp1.lt; have HB1 := Lib.hid hb1; clear hb1 hr hp1)
      have HB : Below w.heap.size w w1 := ((below_box _).alloc (by simp) _).trans (HB1.out.mono (by simp; omega))
      refine bodyPost_ret (v := .agg #[.int .i64 1, .int .i64 0]) (by simp [results, Try.results60, go_sem, r0, r1, hlt0]) rfl ⟨by rw [H.out], ?_⟩
      repeat (first | exact HB | refine Below.setCell ?_ (by simp) _ | refine Below.alloc ?_ (by simp; omega) _)
    · have d1 : (xt == 1) = false := by simpa using h1
      by_cases h2 : xt = 2
      · have H : Hid (chargeS k v = (0, (v.length : Int))) := Lib.hid (by rw [H0, if_neg h1, if_pos (.inl h2)])
        clear H0
        subst h2
        clear h1
        go_enter Try.func60, Try.ntmps60
        go_wp2_with (go_at_call 20; refine (Hp.out _).mono ?_; rintro e w1 ⟨rfl, hb1⟩; have hr := Blk.below (Blk.new' (n := w.heap.size + 1) (w.alloc (.cells #[.string (Str k), .string (Str v), .int .i64 st] 81)) 83 #[.int .i64 0, .int .i64 0] (by simp)) hb1 (by simp); have hp1 := Blk.below (S0.out.alloc (.cells #[.int .i64 0, .int .i64 0] 83)) hb1 (by simp; omega); have r0 := hr.c0 0 _ rfl; have r1 := hr.c0 1 _ rfl; have y0 := hr.free 0; have y1 := hr.free 1; have a1 := hp1.c0 1 _ rfl; simp at r0 r1 a1; have hlt0 := hr.lt; have hlt1 := hp1.lt; have HB1 := Lib.hid hb1; clear hb1 hr hp1)
        have HB : Below w.heap.size w w1 := ((below_box _).alloc (by simp) _).trans (HB1.out.mono (by simp; omega))
        refine bodyPost_ret (v := .agg #[.int .i64 0, .int .i64 v.length]) (by simp [results, Try.results60, go_sem, r0, r1, hlt0]) rfl ⟨by rw [H.out], ?_⟩
        repeat (first | exact HB | refine Below.setCell ?_ (by simp) _ | refine Below.alloc ?_ (by simp; omega) _)
      · have d2 : (xt == 2) = false := by simpa using h2
        by_cases h3 : xt = 3
        · have H : Hid (chargeS k v = (0, (v.length : Int))) := Lib.hid (by rw [H0, if_neg h1, if_pos (.inr h3)])
          clear H0
          subst h3
          clear h1 h2
          go_enter Try.func60, Try.ntmps60
          go_wp2_with (go_at_call 20; refine (Hp.out _).mono ?_; rintro e w1 ⟨rfl, hb1⟩; have hr := Blk.below (Blk.new' (n := w.heap.size + 1) (w.alloc (.cells #[.string (Str k), .string (Str v), .int .i64 st] 81)) 83 #[.int .i64 0, .int .i64 0] (by simp)) hb1 (by simp); have hp1 := Blk.below (S0.out.alloc (.cells #[.int .i64 0, .int .i64 0] 83)) hb1 (by simp; omega); have r0 := hr.c0 0 _ rfl; have r1 := hr.c0 1 _ rfl; have y0 := hr.free 0; have y1 := hr.free 1; have a1 := hp1.c0 1 _ rfl; simp at r0 r1 a1; have hlt0 := hr.lt; have hlt1 := hp1.lt; have HB1 := Lib.hid hb1; clear hb1 hr hp1)
          have HB : Below w.heap.size w w1 := ((below_box _).alloc (by simp) _).trans (HB1.out.mono (by simp; omega))
          refine bodyPost_ret (v := .agg #[.int .i64 0, .int .i64 v.length]) (by simp [results, Try.results60, go_sem, r0, r1, hlt0]) rfl ⟨by rw [H.out], ?_⟩
          repeat (first | exact HB | refine Below.setCell ?_ (by simp) _ | refine Below.alloc ?_ (by simp; omega) _)
        · have d3 : (xt == 3) = false := by simpa using h3
          have H : Hid (chargeS k v = (0, 0)) := Lib.hid (by rw [H0, if_neg h1, if_neg (by omega)])
          clear H0 h1 h2 h3
          go_enter Try.func60, Try.ntmps60
          go_wp2_with (go_at_call 20; refine (Hp.out _).mono ?_; rintro e w1 ⟨rfl, hb1⟩; have hr := Blk.below (Blk.new' (n := w.heap.size + 1) (w.alloc (.cells #[.string (Str k), .string (Str v), .int .i64 st] 81)) 83 #[.int .i64 0, .int .i64 0] (by simp)) hb1 (by simp); have hp1 := Blk.below (S0.out.alloc (.cells #[.int .i64 0, .int .i64 0] 83)) hb1 (by simp; omega); have r0 := hr.c0 0 _ rfl; have r1 := hr.c0 1 _ rfl; have y0 := hr.free 0; have y1 := hr.free 1; have a1 := hp1.c0 1 _ rfl; simp at r0 r1 a1; have hlt0 := hr.lt; have hlt1 := hp1.lt; have HB1 := Lib.hid hb1; clear hb1 hr hp1)
          have HB : Below w.heap.size w w1 := ((below_box _).alloc (by simp) _).trans (HB1.out.mono (by simp; omega))
          refine bodyPost_ret (v := .agg #[.int .i64 0, .int .i64 0]) (by simp [results, Try.results60, go_sem, r0, r1, hlt0]) rfl ⟨by rw [H.out], ?_⟩
          repeat (first | exact HB | refine Below.setCell ?_ (by simp) _ | refine Below.alloc ?_ (by simp; omega) _)

end Go.Proofs.Yticlomakmcjcfaa
