/-
  The walk of the law SpanMoves.
-/
import Derived.Test.YtjfmilbpmnikpaaZWA
import Derived.Test.YtjfmilbpmnikpaaZF
namespace Go.Proofs.Ytjfmilbpmnikpaa
open Go.RowKit Go.Sort
set_option linter.unusedVariables false

attribute [go_sem] Str_add

set_option maxRecDepth 100000 in
set_option maxHeartbeats 4000000 in
theorem spanMoves_walk (w : World) (v0 : Value) (src : Bs) (r0 : IsStr w v0 src) (v1 : Value) (dst : Bs) (r1 : IsStr w v1 dst) (v2 : Value) (x : Bs × Bs) (r2 : IsTwo w v2 x) :
    Calls Try.prog 10 #[v0, v1, v2] w fun e w' => e = .returned (.bool true) ∧ Below w.heap.size w w' := by
  obtain ⟨rfl, m0⟩ := r0
  obtain ⟨rfl, m1⟩ := r1
  obtain ⟨x, y⟩ := x
  obtain ⟨rfl, m2, m3⟩ := r2
  simp only at m2 m3
  have mixed := mixedA
  have HB : Hid (Below w.heap.size w w) := Lib.hid (Below.refl _ _)
  by_cases l0 : (30 : Int) < (src.length : Int)
  · go_enter Try.func10, Try.ntmps10
    go_wp2_with (go_at_call 11; refine (sanity_w _).mono ?_; rintro e w1 ⟨rfl, hb⟩; have HB1 := Lib.hid (Below.next (HB.out.alloc (Nat.le_refl _) (.cells #[.string (Str x), .string (Str y)] 48)) (Nat.le_refl _) hb); clear hb)
    go_ret
    exact ⟨rfl, HB1.out⟩
  by_cases l1 : (30 : Int) < (dst.length : Int)
  · go_enter Try.func10, Try.ntmps10
    go_wp2_with (go_at_call 11; refine (sanity_w _).mono ?_; rintro e w1 ⟨rfl, hb⟩; have HB1 := Lib.hid (Below.next (HB.out.alloc (Nat.le_refl _) (.cells #[.string (Str x), .string (Str y)] 48)) (Nat.le_refl _) hb); clear hb)
    go_ret
    exact ⟨rfl, HB1.out⟩
  have hX : Hid (Blk (w.alloc (.cells #[.string (Str x), .string (Str y)] 48)) w.heap.size 48 #[.string (Str x), .string (Str y)]) := Lib.hid (Blk.new _ _ _)
  by_cases l2 : (30 : Int) < (x.length : Int)
  · go_enter Try.func10, Try.ntmps10
    go_wp2_with (go_at_call 11; refine (sanity_w _).mono ?_; rintro e w1 ⟨rfl, hb⟩; have HB1 := Lib.hid (Below.next (HB.out.alloc (Nat.le_refl _) (.cells #[.string (Str x), .string (Str y)] 48)) (Nat.le_refl _) hb); have bX := Blk.below hX.out hb (by simp); have c0 : w1.cell? ⟨w.heap.size, 0, none⟩ = some (.string (Str x)) := bX.c0 0 _ rfl; have c1 : w1.cell? ⟨w.heap.size, 1, none⟩ = some (.string (Str y)) := bX.c0 1 _ rfl; clear hb bX)
    go_ret
    exact ⟨rfl, HB1.out⟩
  by_cases l3 : (30 : Int) < (y.length : Int)
  · go_enter Try.func10, Try.ntmps10
    go_wp2_with (go_at_call 11; refine (sanity_w _).mono ?_; rintro e w1 ⟨rfl, hb⟩; have HB1 := Lib.hid (Below.next (HB.out.alloc (Nat.le_refl _) (.cells #[.string (Str x), .string (Str y)] 48)) (Nat.le_refl _) hb); have bX := Blk.below hX.out hb (by simp); have c0 : w1.cell? ⟨w.heap.size, 0, none⟩ = some (.string (Str x)) := bX.c0 0 _ rfl; have c1 : w1.cell? ⟨w.heap.size, 1, none⟩ = some (.string (Str y)) := bX.c0 1 _ rfl; clear hb bX)
    go_ret
    exact ⟨rfl, HB1.out⟩
  have n0 : src.length ≤ 30 := by omega
  have n1 : dst.length ≤ 30 := by omega
  have n2 : x.length ≤ 30 := by omega
  have n3 : y.length ≤ 30 := by omega
  have mv : ∀ (k a b : Bs), k.length ≤ 30 → a.length ≤ 30 → b.length ≤ 30 → ∀ wx, Calls Try.prog 13 #[.string (Str (a ++ k)), .string (Str a), .string (Str b)] wx fun e w' => e = .returned (.tuple #[.string (Str (b ++ k)), .bool true]) ∧ Grown wx w' := by
    intro k a b h1 h2 h3 wx
    have h := moved_w (a ++ k) a b wx (by rw [List.length_append]; omega) (by omega)
    rw [movedV_yes (prefix_app _ _), List.drop_left] at h
    exact h
  have ha := mv x src dst n2 n0 n1
  have hm := mv y src dst n3 n0 n1
  have hc := mv x dst src n2 n1 n0
  clear mv
  have hp := fun wx => prefix_w dst wx (by omega)
  have hh := fun wx => has_w dst (preT dst) (dst ++ x) wx
  rw [prefix_has, prefix_app] at hh
  have hless := less_same dst x y
  have hp2 := fun wx => prefix_w src wx (by omega)
  have hh2 := fun wx => has_w src (preT src) x wx
  rw [prefix_has] at hh2
  have hd := fun wx => moved_w x src dst wx (by omega) (by omega)
  have Hl : Hid (src.length ≤ 30 ∧ dst.length ≤ 30 ∧ x.length ≤ 30 ∧ y.length ≤ 30) := Lib.hid ⟨n0, n1, n2, n3⟩
  clear m0 m1 m2 m3
  generalize preT dst = hd1 at *
  generalize preT src = hd2 at *
  cases hxy : Op.bytesLess x y <;> cases hpx : src.isPrefixOf x
  all_goals
    rw [hxy] at hless
    rw [hpx] at hh2
    first | rw [movedV_yes hpx] at hd | rw [movedV_no hpx] at hd
    have Hpx := Lib.hid hpx
    clear hpx
    go_enter Try.func10, Try.ntmps10
    go_wp2_with (first
      | (go_at_call 11; refine (sanity_w _).mono ?_; rintro e w1 ⟨rfl, hb⟩; have HB1 := Lib.hid (Below.next (HB.out.alloc (Nat.le_refl _) (.cells #[.string (Str x), .string (Str y)] 48)) (Nat.le_refl _) hb); have bX := Blk.below hX.out hb (by simp); have c0 : w1.cell? ⟨w.heap.size, 0, none⟩ = some (.string (Str x)) := bX.c0 0 _ rfl; have c1 : w1.cell? ⟨w.heap.size, 1, none⟩ = some (.string (Str y)) := bX.c0 1 _ rfl; have HX1 := Lib.hid bX; clear hb bX)
      | (go_at_call_of 13 (Value.string (Str (src ++ x))); refine (ha _).mono ?_; rintro e w2 ⟨rfl, hg⟩; have HB2 := Lib.hid (Below.next HB1.out (Nat.le_refl _) (hg.below (Nat.le_refl _))); have bX := Grown.blk hg HX1.out; have c0 : w2.cell? ⟨w.heap.size, 0, none⟩ = some (.string (Str x)) := bX.c0 0 _ rfl; have c1 : w2.cell? ⟨w.heap.size, 1, none⟩ = some (.string (Str y)) := bX.c0 1 _ rfl; replace HX1 := Lib.hid bX; replace HB1 := HB2; clear HB2 hg bX)
      | (go_at_call_of 13 (Value.string (Str (src ++ y))); refine (hm _).mono ?_; rintro e w2 ⟨rfl, hg⟩; have HB2 := Lib.hid (Below.next HB1.out (Nat.le_refl _) (hg.below (Nat.le_refl _))); have bX := Grown.blk hg HX1.out; have c0 : w2.cell? ⟨w.heap.size, 0, none⟩ = some (.string (Str x)) := bX.c0 0 _ rfl; have c1 : w2.cell? ⟨w.heap.size, 1, none⟩ = some (.string (Str y)) := bX.c0 1 _ rfl; replace HX1 := Lib.hid bX; replace HB1 := HB2; clear HB2 hg bX)
      | (go_at_call_of 13 (Value.string (Str (dst ++ x))); refine (hc _).mono ?_; rintro e w2 ⟨rfl, hg⟩; have HB2 := Lib.hid (Below.next HB1.out (Nat.le_refl _) (hg.below (Nat.le_refl _))); have bX := Grown.blk hg HX1.out; have c0 : w2.cell? ⟨w.heap.size, 0, none⟩ = some (.string (Str x)) := bX.c0 0 _ rfl; have c1 : w2.cell? ⟨w.heap.size, 1, none⟩ = some (.string (Str y)) := bX.c0 1 _ rfl; replace HX1 := Lib.hid bX; replace HB1 := HB2; clear HB2 hg bX)
      | (go_at_call 13; refine (hd _).mono ?_; rintro e w2 ⟨rfl, hg⟩; have HB2 := Lib.hid (Below.next HB1.out (Nat.le_refl _) (hg.below (Nat.le_refl _))); have bX := Grown.blk hg HX1.out; have c0 : w2.cell? ⟨w.heap.size, 0, none⟩ = some (.string (Str x)) := bX.c0 0 _ rfl; have c1 : w2.cell? ⟨w.heap.size, 1, none⟩ = some (.string (Str y)) := bX.c0 1 _ rfl; replace HX1 := Lib.hid bX; replace HB1 := HB2; clear HB2 hg bX)
      | (go_at_call 15; refine (hp _).mono ?_; rintro e w2 ⟨rfl, hg⟩; have HB2 := Lib.hid (Below.next HB1.out (Nat.le_refl _) (hg.below (Nat.le_refl _))); have bX := Grown.blk hg HX1.out; have c0 : w2.cell? ⟨w.heap.size, 0, none⟩ = some (.string (Str x)) := bX.c0 0 _ rfl; have c1 : w2.cell? ⟨w.heap.size, 1, none⟩ = some (.string (Str y)) := bX.c0 1 _ rfl; replace HX1 := Lib.hid bX; replace HB1 := HB2; clear HB2 hg bX)
      | (go_at_call 21; refine (hh _).mono ?_; rintro e w2 ⟨rfl, hg⟩; have HB2 := Lib.hid (Below.next HB1.out (Nat.le_refl _) (hg.below (Nat.le_refl _))); have bX := Grown.blk hg HX1.out; have c0 : w2.cell? ⟨w.heap.size, 0, none⟩ = some (.string (Str x)) := bX.c0 0 _ rfl; have c1 : w2.cell? ⟨w.heap.size, 1, none⟩ = some (.string (Str y)) := bX.c0 1 _ rfl; replace HX1 := Lib.hid bX; replace HB1 := HB2; clear HB2 hg bX))
    have q0 := HX1.out.c 0 (.string (Str x)) rfl
    have q1 := HX1.out.c 1 (.string (Str y)) rfl
    refine wp_region_quiet_grown mixed (by kernel_rfl) ?_
    repeat (first | go_big_quiet_skip | (refine wpQuiet_step (fun K hK => ?_); have HK := Lib.hid hK; clear hK; go_simp; first | (refine HK.out _ ?_; clear HK K) | (apply Exists.intro; refine ⟨fun _ => ?_, HK.out _ ?_⟩; (first | (go_at_call 15; refine calls_grown (hp2 _)) | (go_at_call 21; refine calls_grown (hh2 _))); clear HK K)))
    refine wpQuiet_nil ?_
    intro _ hw'
    obtain ⟨⟨nq, osq⟩, hw''⟩ := hw'
    subst hw''
    go_wp2
    go_ret
    exact ⟨rfl, Below.next HB1.out (Nat.le_refl _) (below_grown _ _ _ (Nat.le_refl _))⟩

end Go.Proofs.Ytjfmilbpmnikpaa
