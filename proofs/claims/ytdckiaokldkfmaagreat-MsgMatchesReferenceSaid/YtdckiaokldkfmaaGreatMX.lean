/-
  Walks: Valid.
-/
import Derived.Test.YtdckiaokldkfmaaGreatMW
namespace Go.Proofs.YtdckiaokldkfmaaGreat
open Go.RowKit Go.Sort
set_option linter.unusedVariables false

theorem of_g (k : Int) (b : Nat) (w : World) (h : w.cell? ⟨b, 0, none⟩ = some (.int .i64 k)) : Calls Tryz.prog 49 #[ptrV b] w fun e w' => e = .returned (.iface (kindT k) (ptrV b)) ∧ Grown w w' :=
  (of_w k b w h).mono fun e w' ⟨h1, h2⟩ => ⟨h1, h2 ▸ Grown.refl _⟩
set_option maxRecDepth 100000 in
set_option maxHeartbeats 4000000 in
theorem valid_w (m : Ms) (w : World) : Calls Tryz.prog 30 #[msgV m] w fun e w' => e = .returned (.bool (validM m)) ∧ Grown w w' := by
  obtain ⟨W0, hW0⟩ : ∃ W0, W0 = w.alloc (.cells (encM m) 34) := ⟨_, rfl⟩
  have b0 : MBlk W0 w.heap.size m := by rw [hW0]; exact Blk.new _ _ _
  have g0 : Grown w W0 := by rw [hW0]; exact (Grown.refl w).alloc _
  have HO := Lib.hid (fun n os => of_g m.kind w.heap.size (grow (W0.drewN n) os) ((b0.grown n os).c0 0 _ rfl))
  have hF := fun n os => fits_w w.heap.size m (grow (W0.drewN n) os) (b0.grown n os)
  have HB := Lib.hid (fun wx => bare_w m wx)
  have hm := disp_fits.m m.kind w.heap.size
  have hc := disp_fits.c m.kind
  have H : Hid (validM m = (fitsB m && decide (bareM m = zeroM m.kind))) := Lib.hid rfl
  have c0 : ∀ n os, (grow (W0.drewN n) os).cell? ⟨w.heap.size, 0, none⟩ = some (.int .i64 m.kind) := b0.c 0 _ rfl
  have c1 : ∀ n os, (grow (W0.drewN n) os).cell? ⟨w.heap.size, 1, none⟩ = some (.string (Str m.key)) := b0.c 1 _ rfl
  have c2 : ∀ n os, (grow (W0.drewN n) os).cell? ⟨w.heap.size, 2, none⟩ = some (.string (Str m.val)) := b0.c 2 _ rfl
  have c3 : ∀ n os, (grow (W0.drewN n) os).cell? ⟨w.heap.size, 3, none⟩ = some (.string (Str m.lo)) := b0.c 3 _ rfl
  have c4 : ∀ n os, (grow (W0.drewN n) os).cell? ⟨w.heap.size, 4, none⟩ = some (.string (Str m.hi)) := b0.c 4 _ rfl
  have c5 : ∀ n os, (grow (W0.drewN n) os).cell? ⟨w.heap.size, 5, none⟩ = some (.string (Str m.src)) := b0.c 5 _ rfl
  have c6 : ∀ n os, (grow (W0.drewN n) os).cell? ⟨w.heap.size, 6, none⟩ = some (.string (Str m.dst)) := b0.c 6 _ rfl
  have c7 : ∀ n os, (grow (W0.drewN n) os).cell? ⟨w.heap.size, 7, none⟩ = some (.int .i64 m.n) := b0.c 7 _ rfl
  have heq : ∀ wx, (binOp .eql 34 (msgV (bareM m)) (.agg #[.int .i64 m.kind, .string ⟨#[]⟩, .string ⟨#[]⟩, .string ⟨#[]⟩, .string ⟨#[]⟩, .string ⟨#[]⟩, .string ⟨#[]⟩, .int .i64 0])).run Tryz.prog wx = .ok (.bool (decide (bareM m = zeroM m.kind))) wx := fun wx => eql_msg (bareM m) (zeroM m.kind) wx
  have hgd : ∀ x y wx, (eqGuard .eql 34 x y (msgV (bareM m)) (.agg #[.int .i64 m.kind, .string ⟨#[]⟩, .string ⟨#[]⟩, .string ⟨#[]⟩, .string ⟨#[]⟩, .string ⟨#[]⟩, .string ⟨#[]⟩, .int .i64 0])).run Tryz.prog wx = .ok () wx := fun x y wx => guard_msg .eql x y (encM (bareM m)) (encM (zeroM m.kind)) wx
  have mixed := mixedA
  have Hg0 := Lib.hid g0
  clear b0 g0
  generalize decide (bareM m = zeroM m.kind) = r at *
  cases hfb : fitsB m with
  | false =>
    rw [hfb] at hF H
    have HF := Lib.hid hF
    clear hfb hF
    go_enter Tryz.func30, Tryz.ntmps30
    go_wp2_with fail
    subst hW0
    go_quiet_grown (first
      | (go_at_call 49; refine calls_grown (HO.out _ _))
      | (go_at_call 56; refine calls_grown (HB.out _))
      | (with_reducible refine calls_grown (HF.out _ _)))
    go_wp2
    go_ret
    exact ⟨ret_bool (by rw [H.out]; rfl), Hg0.out.trans ⟨_, _, rfl⟩⟩
  | true =>
    rw [hfb] at hF H
    have HF := Lib.hid hF
    clear hfb hF
    go_enter Tryz.func30, Tryz.ntmps30
    go_wp2_with fail
    subst hW0
    go_quiet_grown (first
      | (go_at_call 49; refine calls_grown (HO.out _ _))
      | (go_at_call 56; refine calls_grown (HB.out _))
      | (with_reducible refine calls_grown (HF.out _ _)))
    go_wp2
    go_ret
    exact ⟨ret_bool (by rw [H.out]; rfl), Hg0.out.trans ⟨_, _, rfl⟩⟩

end Go.Proofs.YtdckiaokldkfmaaGreat
