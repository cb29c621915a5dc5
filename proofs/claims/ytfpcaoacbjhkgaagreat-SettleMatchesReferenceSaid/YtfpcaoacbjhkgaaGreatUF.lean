/-
  Walks: List, First and Turn of package settle.
-/
import Derived.Test.YtfpcaoacbjhkgaaGreatUE
namespace Go.Proofs.YtfpcaoacbjhkgaaGreat
open Go.RowKit Go.Sort
set_option linter.unusedVariables false

set_option maxHeartbeats 1000000 in
theorem settled_w (m : Ms) (a : Option Addr) (n c : Nat) (w : World) : Calls Tryz.prog 70 #[msgV m, .slice a n c] w fun e w' =>
    e = .returned (.func (.func 103) #[] #[.pointer (some ⟨w.heap.size, 0, none⟩), .pointer (some ⟨w.heap.size + 1, 0, none⟩)]) ∧ w' = (w.alloc (.cells (encM m) 40)).alloc (.cells #[.slice a n c] 45) := by
  go_enter Tryz.func70, Tryz.ntmps70
  go_wp2
  go_ret
  exact ⟨by simp, rfl⟩

set_option maxHeartbeats 1000000 in
theorem slist_w (m : Ms) (sv : Value) (src : List Pr) (w : World) (hl : src.length ≤ 100000000) (hz : SizeM m) (hk : ∀ x ∈ src, m.src.isPrefixOf x.1 = true ∧ x.1.length ≤ 1000000000) (hI : IsPairs w sv src) :
    Calls Tryz.prog 29 #[msgV m, sv] w fun e w' => ∃ v', e = .returned v' ∧ OwnM w' w.heap.size v' (settledS m src) ∧ Below w.heap.size w w' := by
  have mixed := mixedA
  have hI0 := hI
  obtain ⟨a, c, rfl, -⟩ := hI0
  obtain ⟨sv, hsv⟩ : ∃ sv, sv = Value.slice a src.length c := ⟨_, rfl⟩
  have HSV := Lib.hid hsv
  rw [← hsv] at hI
  obtain ⟨W0, hW0⟩ : ∃ W0, W0 = w.alloc (.cells (encM m) 40) := ⟨_, rfl⟩
  have hb0 : Below w.heap.size w W0 := by rw [hW0]; exact below_box _
  obtain ⟨W1, hW1⟩ : ∃ W1, W1 = W0.alloc (.cells (encM m) 40) := ⟨_, rfl⟩
  obtain ⟨W2, hW2⟩ : ∃ W2, W2 = W1.alloc (.cells #[sv] 45) := ⟨_, rfl⟩
  have hs1 : W1.heap.size = W0.heap.size + 1 := by rw [hW1]; simp
  have hs2 : W2.heap.size = W1.heap.size + 1 := by rw [hW2]; simp
  have hb1 : Below W0.heap.size W0 W1 := by rw [hW1]; exact below_box _
  have hb2 : Below W1.heap.size W1 W2 := by rw [hW2]; exact below_box _
  have hbw : Below w.heap.size w W2 := hb0.trans ((hb1.mono hb0.size).trans (hb2.mono (Nat.le_trans hb0.size hb1.size)))
  have hm : Blk W2 W0.heap.size 40 (encM m) := (show Blk W1 W0.heap.size 40 (encM m) by rw [hW1]; exact Blk.new _ _ _).below hb2 (by omega)
  have hp : W2.cell? ⟨W0.heap.size + 1, 0, none⟩ = some sv := by
    have h := (Blk.new W1 45 #[sv]).c0 0 sv rfl
    rw [hs1, ← hW2] at h; exact h
  have HAP := Lib.hid (appendSeq_w W0.heap.size (W0.heap.size + 1) m sv src W2 hl hz hk hm (by omega) hp (hI.below hbw))
  have HSE := Lib.hid (settled_w m a src.length c W0)
  rw [← hsv] at HSE ⊢
  clear hsv
  rw [← hW1, ← hW2] at HSE
  have HBW := Lib.hid hbw
  have HW0 := Lib.hid hW0
  have hl2 := hbw.size
  clear hW0 hW1 hW2 hb0 hb1 hb2 hbw hm hp hI hz hk hs1 hs2 hl
  have HCO : Hid (Calls Tryz.prog 69 #[.func (.func 103) #[] #[.pointer (some ⟨W0.heap.size, 0, none⟩), .pointer (some ⟨W0.heap.size + 1, 0, none⟩)]] W2 fun e w' => ∃ v', e = .returned v' ∧ OwnM w' W2.heap.size v' (settledS m src) ∧ Below W2.heap.size W2 w') := Lib.hid (by
    go_enter Tryz.func69, Tryz.ntmps69
    go_wp2_with (go_at_call 102; refine HAP.out.mono ?_; rintro e w5 ⟨v5, rfl, ho, hb⟩)
    go_ret
    exact ⟨_, rfl, ho, hb⟩)
  go_enter Tryz.func29, Tryz.ntmps29
  go_wp2_with fail
  rw [← HW0.out]
  refine HSE.out.mono ?_
  rintro e w3 ⟨rfl, rfl⟩
  go_wp2_with fail
  refine HCO.out.mono ?_
  rintro e w5 ⟨v5, rfl, ho, hb⟩
  go_wp2
  go_ret
  exact ⟨_, rfl, owns_lower ho hl2, HBW.out.trans (hb.mono hl2)⟩

end Go.Proofs.YtfpcaoacbjhkgaaGreat
