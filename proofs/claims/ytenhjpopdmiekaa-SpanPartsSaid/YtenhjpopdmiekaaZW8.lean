/-
  Walks: lists that are the same; the parts of a span.
-/
import Derived.Test.YtenhjpopdmiekaaZW7
import Derived.Laws.StructEq
namespace Go.Proofs.Ytenhjpopdmiekaa
open Go.RowKit Go.Sort
set_option linter.unusedVariables false

theorem eql_span (a b c d : Bs) (w : World) : (binOp .eql 29 (.agg #[.string (Str a), .string (Str b)]) (.agg #[.string (Str c), .string (Str d)])).run Try.prog w = .ok (.bool (a == c && b == d)) w := by
  have hS : Try.prog.underlying 29 = some (.struct (Try.prog.fieldsOf 29)) := by kernel_rfl
  have hp : Try.prog.stoodInHeld 29 = false := by kernel_rfl
  have u := Try.underlying9
  have ag := Try.isAgg9
  have sz := Try.sizeOf9
  rw [run_eql_struct, show (10000 : Nat) = 9999 + 1 from rfl, run_equalIn_agg w 9999 29 _ _ hS hp]
  simp only [Program.fieldsOf, Try.underlying29]
  go_simp
  by_cases h1 : a = c <;> by_cases h2 : b = d <;> simp [h1, h2]
theorem neq_span (a b c d : Bs) (w : World) : (binOp .neq 29 (.agg #[.string (Str a), .string (Str b)]) (.agg #[.string (Str c), .string (Str d)])).run Try.prog w = .ok (.bool (!(a == c && b == d))) w := by
  have hS : Try.prog.underlying 29 = some (.struct (Try.prog.fieldsOf 29)) := by kernel_rfl
  have hp : Try.prog.stoodInHeld 29 = false := by kernel_rfl
  have u := Try.underlying9
  have ag := Try.isAgg9
  have sz := Try.sizeOf9
  rw [run_neq_struct, show (10000 : Nat) = 9999 + 1 from rfl, run_equalIn_agg w 9999 29 _ _ hS hp]
  simp only [Program.fieldsOf, Try.underlying29]
  go_simp
  by_cases h1 : a = c <;> by_cases h2 : b = d <;> simp [h1, h2]
theorem guard_span (op : BinOp) (x y : Operand) (xs ys : Array Value) (w : World) : (eqGuard op 29 x y (.agg xs) (.agg ys)).run Try.prog w = .ok () w := run_eqGuard_agg w op 29 x y xs ys (by kernel_rfl)
attribute [go_sem high] eql_span neq_span guard_span

set_option maxHeartbeats 1000000 in
theorem same_w (v0 v1 : Value) (a b : List Sp) (w : World) (h0 : IsSpans w v0 a) (h1 : IsSpans w v1 b) :
    Calls Try.prog 25 #[v0, v1] w fun e w' => e = .returned (.bool (decide (a = b))) ∧ Grown w w' := by
  have mixed := mixedA
  obtain ⟨g0, o0, cap0, p0, rfl, hl0, hm0, hp0, hc0⟩ := h0.form
  obtain ⟨g1, o1, cap1, p1, rfl, hl1, hm1, hp1, hc1⟩ := h1.form
  unfold maxLen at hm0 hm1
  have HC0 := Lib.hid hc0
  have HC1 := Lib.hid hc1
  have HP0 := Lib.hid hp0
  have HP1 := Lib.hid hp1
  clear h0 h1 hp0 hp1 hc0 hc1
  by_cases hlen : a.length = b.length
  · have hlb : ((a.length : Int) != (b.length : Int)) = false := by rw [hlen]; simp
    have Hlen := Lib.hid hlen
    clear hlen
    go_enter Try.func25, Try.ntmps25
    go_wp2
    go_loopw [5] (fun i wr => ∃ k : Nat, k ≤ a.length ∧ i = .int .i64 k ∧ Hid (a.take k = b.take k) ∧ Grown w wr) (fun i _ => a.length - (intOf i).toNat)
    case atStart => exact ⟨0, Nat.zero_le _, rfl, Lib.hid rfl, Grown.refl _⟩
    case round =>
      obtain ⟨k, hk, rfl, htake, hgr⟩ := hrel
      by_cases hlt : k < a.length
      · have hltb : k < b.length := by have := Hlen.out; omega
        have hlz : (k : Int) < (b.length : Int) := by omega
        have hlza : (k : Int) < (a.length : Int) := by omega
        obtain ⟨rfl, c0, c1⟩ := HC0.out k hlt
        obtain ⟨rfl, d0, d1⟩ := HC1.out k hltb
        have g0l := (HP0.out (by rintro rfl; simp at hlt)).2
        have g1l := (HP1.out (by rintro rfl; simp at hltb)).2
        have hbel := hgr.below (B := w.heap.size) (Nat.le_refl _)
        have hc : ∀ g o v, g < w.heap.size → w.cell? ⟨g, o, none⟩ = some v → ∀ n os, (grow (wr.drewN n) os).cell? ⟨g, o, none⟩ = some v := fun g o v hg h n os =>
          cell_grown (by exact Nat.lt_of_lt_of_le hg hbel.size) (by rw [hbel.cell (by exact hg)]; exact h) n os
        have c0 := hc _ _ _ g0l c0
        have c1 := hc _ _ _ g0l c1
        have d0 := hc _ _ _ g1l d0
        have d1 := hc _ _ _ g1l d1
        have Ha := Lib.hid (show a.take (k + 1) = a.take k ++ [a[k]] from by rw [List.take_add_one, List.getElem?_eq_getElem hlt]; rfl)
        have Hb := Lib.hid (show b.take (k + 1) = b.take k ++ [b[k]] from by rw [List.take_add_one, List.getElem?_eq_getElem hltb]; rfl)
        have Hne : Hid (a[k] ≠ b[k] → a ≠ b) := Lib.hid (fun h e => h (by subst e; rfl))
        have Hg := Lib.hid hgr
        clear hc hbel hgr
        generalize hx : a[k] = x at *
        generalize hy : b[k] = y at *
        obtain ⟨x1, x2⟩ := x
        obtain ⟨y1, y2⟩ := y
        clear hx hy
        by_cases e1 : x1 = y1
        · by_cases e2 : x2 = y2
          · have hb1 : (x1 == y1) = true := by simpa using e1
            have hb2 : (x2 == y2) = true := by simpa using e2
            have He : Hid ((x1, x2) = (y1, y2)) := Lib.hid (by rw [e1, e2])
            clear e1 e2
            go_wp2_with fail
            refine wp_region_quiet_grown mixed (by kernel_rfl) ?_
            repeat (first | go_big_quiet_skip | (refine wpQuiet_step (fun K hK => ?_); have HK := Lib.hid hK; clear hK; go_simp; first | (refine HK.out _ ?_; clear HK K) | (apply Exists.intro; refine ⟨fun _ => ?_, HK.out _ ?_⟩; skip; clear HK K)))
            refine wpQuiet_nil ?_
            intro _ hw'
            obtain ⟨⟨nq, osq⟩, hw''⟩ := hw'
            subst hw''
            have Hg2 : Hid (Grown w (grow (wr.drewN nq) osq)) := Lib.hid (Hg.out.trans ⟨nq, osq, rfl⟩)
            go_wp2
            go_roundw
            case rel => exact ⟨k + 1, by omega, by go_num, Lib.hid (by rw [Ha.out, Hb.out, htake.out, He.out]), Hg2.out⟩
            case measure => simp [intOf]; omega
          · have hb1 : (x1 == y1) = true := by simpa using e1
            have hb2 : (x2 == y2) = false := by simpa using e2
            have He := Lib.hid (Hne.out (by intro h; exact e2 (by injection h)))
            clear e2
            go_wp2_with fail
            refine wp_region_quiet_grown mixed (by kernel_rfl) ?_
            repeat (first | go_big_quiet_skip | (refine wpQuiet_step (fun K hK => ?_); have HK := Lib.hid hK; clear hK; go_simp; first | (refine HK.out _ ?_; clear HK K) | (apply Exists.intro; refine ⟨fun _ => ?_, HK.out _ ?_⟩; skip; clear HK K)))
            refine wpQuiet_nil ?_
            intro _ hw'
            obtain ⟨⟨nq, osq⟩, hw''⟩ := hw'
            subst hw''
            have Hg2 : Hid (Grown w (grow (wr.drewN nq) osq)) := Lib.hid (Hg.out.trans ⟨nq, osq, rfl⟩)
            go_wp2
            go_ret
            exact ⟨ret_bool (by have := He.out; simp [this]), Hg2.out⟩
        · have hb1 : (x1 == y1) = false := by simpa using e1
          have He := Lib.hid (Hne.out (by intro h; exact e1 (by injection h)))
          clear e1
          go_wp2_with fail
          refine wp_region_quiet_grown mixed (by kernel_rfl) ?_
          repeat (first | go_big_quiet_skip | (refine wpQuiet_step (fun K hK => ?_); have HK := Lib.hid hK; clear hK; go_simp; first | (refine HK.out _ ?_; clear HK K) | (apply Exists.intro; refine ⟨fun _ => ?_, HK.out _ ?_⟩; skip; clear HK K)))
          refine wpQuiet_nil ?_
          intro _ hw'
          obtain ⟨⟨nq, osq⟩, hw''⟩ := hw'
          subst hw''
          have Hg2 : Hid (Grown w (grow (wr.drewN nq) osq)) := Lib.hid (Hg.out.trans ⟨nq, osq, rfl⟩)
          go_wp2
          go_ret
          exact ⟨ret_bool (by have := He.out; simp [this]), Hg2.out⟩
      · have He : Hid (a = b) := Lib.hid (by
          have := htake.out
          rwa [List.take_of_length_le (by omega), List.take_of_length_le (by have := Hlen.out; omega)] at this)
        go_wp2
        go_ret
        exact ⟨ret_bool (by have := He.out; simp [this]), hgr⟩
  · have hlb : ((a.length : Int) != (b.length : Int)) = true := by simp; omega
    have He : Hid (a ≠ b) := Lib.hid (fun e => hlen (by rw [e]))
    clear hlen
    go_enter Try.func25, Try.ntmps25
    go_wp2
    go_ret
    exact ⟨ret_bool (by have := He.out; simp [this]), Grown.refl _⟩

end Go.Proofs.Ytenhjpopdmiekaa
