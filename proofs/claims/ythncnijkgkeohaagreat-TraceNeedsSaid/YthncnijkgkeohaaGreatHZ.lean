/-
  Walks: spans followed back through any message.
-/
import Derived.Test.YthncnijkgkeohaaGreatHY
namespace Go.Proofs.YthncnijkgkeohaaGreat
open Go.RowKit Go.Sort
set_option linter.unusedVariables false

@[reducible] def slooksA (b : Nat) : Array Value := #[.nilFunc, .func (.func 95) #[] #[], .func (.func 95) #[] #[], .func (.func 103) #[] #[], .func (.func 104) #[] #[.pointer (some ⟨b, 0, none⟩)], fk2V, .func (.func 105) #[] #[]]
@[reducible] def slooksV (b : Nat) : Value := .agg (slooksA b)
/-- What the choice of such a function has laid. -/
@[reducible] def sefW (b : Nat) (m : Ms) (w : World) : World := (w.alloc (.cells #[.nilFunc, .func (.func 95) #[] #[], .func (.func 95) #[] #[], .func (.func 103) #[] #[], .func (.func 104) #[] #[.pointer (some ⟨b, 0, none⟩)], fk2V, .func (.func 105) #[] #[]] 94)).alloc (.cells (encM m) 63)
theorem sefW_below (b : Nat) (m : Ms) (w : World) : Below w.heap.size w (sefW b m w) := ((Below.refl _ w).alloc (Nat.le_refl _) _).alloc (by simp) _
theorem sefW_looks (b : Nat) (m : Ms) (w : World) : Blk (sefW b m w) w.heap.size 94 (slooksA b) := (Blk.new _ _ _).alloc _
theorem sefW_msg (b : Nat) (m : Ms) (w : World) : Blk (sefW b m w) (w.heap.size + 1) 63 (encM m) := Blk.new' _ _ _ (by simp)
set_option maxHeartbeats 2000000 in
theorem sbefore1_w (base b : Nat) (m : Ms) (p : Option Addr) (ln cp : Nat) (R : List Sp) (w : World) (hk : m.kind = 1) (hvlt : ∀ j, (Value.slice p ln cp).ownBlock = some j → j < w.heap.size) (HC : ∀ wx, Below w.heap.size w wx → Calls Tryz.prog 95 #[msgV m, .slice p ln cp] wx (KOut base (.slice p ln cp) wx R)) :
    Calls Tryz.prog 49 #[slooksV b, msgV m, .slice p ln cp] w (KOut base (.slice p ln cp) w R) := by
  have hbd : Below w.heap.size w (sefW b m w).drew := (sefW_below b m w).trans (below_drewN _ 1)
  have HC0 := Lib.hid (HC _ hbd)
  have HBD := Lib.hid hbd
  have eg : ∀ args w, (callFunc 95 args).run Tryz.prog w = .ok (.enter 95 args) w := enters_of Tryz.func95 (by kernel_rfl) rfl
  have hne0 : some w.heap.size ≠ (Value.slice p ln cp).ownBlock := fun he => by have := hvlt _ he.symm; omega
  have hne1 : some (w.heap.size + 1) ≠ (Value.slice p ln cp).ownBlock := fun he => by have := hvlt _ he.symm; omega
  have hM0 := sefW_msg b m w
  have hL : ∀ wr, (sefW b m w).grownBy wr (Value.slice p ln cp).ownBlock → wr.cell? ⟨w.heap.size, 1, none⟩ = some (slooksA b)[1] := fun wr h => h.cell ((sefW_looks b m w).c0 1 _ rfl) hne0
  have n0 : ∀ wr, (sefW b m w).grownBy wr (Value.slice p ln cp).ownBlock → wr.cell? ⟨w.heap.size + 1, 0, none⟩ = some (.int .i64 m.kind) := fun wr h => h.cell (hM0.c0 0 _ rfl) hne1
  have n1 : ∀ wr, (sefW b m w).grownBy wr (Value.slice p ln cp).ownBlock → wr.cell? ⟨w.heap.size + 1, 1, none⟩ = some (.string (Str m.key)) := fun wr h => h.cell (hM0.c0 1 _ rfl) hne1
  have n2 : ∀ wr, (sefW b m w).grownBy wr (Value.slice p ln cp).ownBlock → wr.cell? ⟨w.heap.size + 1, 2, none⟩ = some (.string (Str m.val)) := fun wr h => h.cell (hM0.c0 2 _ rfl) hne1
  have n3 : ∀ wr, (sefW b m w).grownBy wr (Value.slice p ln cp).ownBlock → wr.cell? ⟨w.heap.size + 1, 3, none⟩ = some (.string (Str m.lo)) := fun wr h => h.cell (hM0.c0 3 _ rfl) hne1
  have n4 : ∀ wr, (sefW b m w).grownBy wr (Value.slice p ln cp).ownBlock → wr.cell? ⟨w.heap.size + 1, 4, none⟩ = some (.string (Str m.hi)) := fun wr h => h.cell (hM0.c0 4 _ rfl) hne1
  have n5 : ∀ wr, (sefW b m w).grownBy wr (Value.slice p ln cp).ownBlock → wr.cell? ⟨w.heap.size + 1, 5, none⟩ = some (.string (Str m.src)) := fun wr h => h.cell (hM0.c0 5 _ rfl) hne1
  have n6 : ∀ wr, (sefW b m w).grownBy wr (Value.slice p ln cp).ownBlock → wr.cell? ⟨w.heap.size + 1, 6, none⟩ = some (.string (Str m.dst)) := fun wr h => h.cell (hM0.c0 6 _ rfl) hne1
  have n7 : ∀ wr, (sefW b m w).grownBy wr (Value.slice p ln cp).ownBlock → wr.cell? ⟨w.heap.size + 1, 7, none⟩ = some (.int .i64 m.n) := fun wr h => h.cell (hM0.c0 7 _ rfl) hne1
  have HS0 : Hid ((sefW b m w).grownBy (sefW b m w) (Value.slice p ln cp).ownBlock) := Lib.hid (grownBy_refl _ _)
  clear HC hM0 hne0 hne1 hvlt hbd
  obtain ⟨k, m1, m2, m3, m4, m5, m6, m7⟩ := m
  dsimp only at hk
  subst hk
  dsimp only [slooksA, List.getElem_toArray, List.getElem_cons_succ, List.getElem_cons_zero] at n0 n1 n2 n3 n4 n5 n6 n7 hL
  go_enter Tryz.func49, Tryz.ntmps49
  go_wp2_with fail
  go_region_held3 (fun wr => (sefW b ⟨1, m1, m2, m3, m4, m5, m6, m7⟩ w).grownBy wr (Value.slice p ln cp).ownBlock)
    (repeat (first | with_reducible assumption | with_reducible exact HS0.out | with_reducible refine keep_d ?_ | with_reducible refine keep_a ?_ _))
    (first
      | (go_at_call 95; refine HC0.out.mono ?_; rintro e w2 ⟨v2, rfl, ho2, ht2⟩; have hS2 := (keep_d HS0.out).trans ht2.1)
      | fail "no arm")
  all_goals
    have HO := Lib.hid ho2
    have HT := Lib.hid (turn_below HBD.out ht2)
    clear ho2 ht2 hS2 n0 n1 n2 n3 n4 n5 n6 n7 hL
    go_wp2
    go_ret
    exact ⟨_, rfl, HO.out, HT.out⟩
set_option maxHeartbeats 2000000 in
theorem sbefore2_w (base b : Nat) (m : Ms) (p : Option Addr) (ln cp : Nat) (R : List Sp) (w : World) (hk : m.kind = 2) (hvlt : ∀ j, (Value.slice p ln cp).ownBlock = some j → j < w.heap.size) (HC : ∀ wx, Below w.heap.size w wx → Calls Tryz.prog 95 #[msgV m, .slice p ln cp] wx (KOut base (.slice p ln cp) wx R)) :
    Calls Tryz.prog 49 #[slooksV b, msgV m, .slice p ln cp] w (KOut base (.slice p ln cp) w R) := by
  have hbd : Below w.heap.size w (sefW b m w).drew := (sefW_below b m w).trans (below_drewN _ 1)
  have HC0 := Lib.hid (HC _ hbd)
  have HBD := Lib.hid hbd
  have eg : ∀ args w, (callFunc 95 args).run Tryz.prog w = .ok (.enter 95 args) w := enters_of Tryz.func95 (by kernel_rfl) rfl
  have hne0 : some w.heap.size ≠ (Value.slice p ln cp).ownBlock := fun he => by have := hvlt _ he.symm; omega
  have hne1 : some (w.heap.size + 1) ≠ (Value.slice p ln cp).ownBlock := fun he => by have := hvlt _ he.symm; omega
  have hM0 := sefW_msg b m w
  have hL : ∀ wr, (sefW b m w).grownBy wr (Value.slice p ln cp).ownBlock → wr.cell? ⟨w.heap.size, 2, none⟩ = some (slooksA b)[2] := fun wr h => h.cell ((sefW_looks b m w).c0 2 _ rfl) hne0
  have n0 : ∀ wr, (sefW b m w).grownBy wr (Value.slice p ln cp).ownBlock → wr.cell? ⟨w.heap.size + 1, 0, none⟩ = some (.int .i64 m.kind) := fun wr h => h.cell (hM0.c0 0 _ rfl) hne1
  have n1 : ∀ wr, (sefW b m w).grownBy wr (Value.slice p ln cp).ownBlock → wr.cell? ⟨w.heap.size + 1, 1, none⟩ = some (.string (Str m.key)) := fun wr h => h.cell (hM0.c0 1 _ rfl) hne1
  have n2 : ∀ wr, (sefW b m w).grownBy wr (Value.slice p ln cp).ownBlock → wr.cell? ⟨w.heap.size + 1, 2, none⟩ = some (.string (Str m.val)) := fun wr h => h.cell (hM0.c0 2 _ rfl) hne1
  have n3 : ∀ wr, (sefW b m w).grownBy wr (Value.slice p ln cp).ownBlock → wr.cell? ⟨w.heap.size + 1, 3, none⟩ = some (.string (Str m.lo)) := fun wr h => h.cell (hM0.c0 3 _ rfl) hne1
  have n4 : ∀ wr, (sefW b m w).grownBy wr (Value.slice p ln cp).ownBlock → wr.cell? ⟨w.heap.size + 1, 4, none⟩ = some (.string (Str m.hi)) := fun wr h => h.cell (hM0.c0 4 _ rfl) hne1
  have n5 : ∀ wr, (sefW b m w).grownBy wr (Value.slice p ln cp).ownBlock → wr.cell? ⟨w.heap.size + 1, 5, none⟩ = some (.string (Str m.src)) := fun wr h => h.cell (hM0.c0 5 _ rfl) hne1
  have n6 : ∀ wr, (sefW b m w).grownBy wr (Value.slice p ln cp).ownBlock → wr.cell? ⟨w.heap.size + 1, 6, none⟩ = some (.string (Str m.dst)) := fun wr h => h.cell (hM0.c0 6 _ rfl) hne1
  have n7 : ∀ wr, (sefW b m w).grownBy wr (Value.slice p ln cp).ownBlock → wr.cell? ⟨w.heap.size + 1, 7, none⟩ = some (.int .i64 m.n) := fun wr h => h.cell (hM0.c0 7 _ rfl) hne1
  have HS0 : Hid ((sefW b m w).grownBy (sefW b m w) (Value.slice p ln cp).ownBlock) := Lib.hid (grownBy_refl _ _)
  clear HC hM0 hne0 hne1 hvlt hbd
  obtain ⟨k, m1, m2, m3, m4, m5, m6, m7⟩ := m
  dsimp only at hk
  subst hk
  dsimp only [slooksA, List.getElem_toArray, List.getElem_cons_succ, List.getElem_cons_zero] at n0 n1 n2 n3 n4 n5 n6 n7 hL
  go_enter Tryz.func49, Tryz.ntmps49
  go_wp2_with fail
  go_region_held3 (fun wr => (sefW b ⟨2, m1, m2, m3, m4, m5, m6, m7⟩ w).grownBy wr (Value.slice p ln cp).ownBlock)
    (repeat (first | with_reducible assumption | with_reducible exact HS0.out | with_reducible refine keep_d ?_ | with_reducible refine keep_a ?_ _))
    (first
      | (go_at_call 95; refine HC0.out.mono ?_; rintro e w2 ⟨v2, rfl, ho2, ht2⟩; have hS2 := (keep_d HS0.out).trans ht2.1)
      | fail "no arm")
  all_goals
    have HO := Lib.hid ho2
    have HT := Lib.hid (turn_below HBD.out ht2)
    clear ho2 ht2 hS2 n0 n1 n2 n3 n4 n5 n6 n7 hL
    go_wp2
    go_ret
    exact ⟨_, rfl, HO.out, HT.out⟩
set_option maxHeartbeats 2000000 in
theorem sbefore3_w (base b : Nat) (m : Ms) (p : Option Addr) (ln cp : Nat) (R : List Sp) (w : World) (hk : m.kind = 3) (hvlt : ∀ j, (Value.slice p ln cp).ownBlock = some j → j < w.heap.size) (HC : ∀ wx, Below w.heap.size w wx → Calls Tryz.prog 103 #[msgV m, .slice p ln cp] wx (KOut base (.slice p ln cp) wx R)) :
    Calls Tryz.prog 49 #[slooksV b, msgV m, .slice p ln cp] w (KOut base (.slice p ln cp) w R) := by
  have hbd : Below w.heap.size w (sefW b m w).drew := (sefW_below b m w).trans (below_drewN _ 1)
  have HC0 := Lib.hid (HC _ hbd)
  have HBD := Lib.hid hbd
  have eg : ∀ args w, (callFunc 103 args).run Tryz.prog w = .ok (.enter 103 args) w := enters_of Tryz.func103 (by kernel_rfl) rfl
  have hne0 : some w.heap.size ≠ (Value.slice p ln cp).ownBlock := fun he => by have := hvlt _ he.symm; omega
  have hne1 : some (w.heap.size + 1) ≠ (Value.slice p ln cp).ownBlock := fun he => by have := hvlt _ he.symm; omega
  have hM0 := sefW_msg b m w
  have hL : ∀ wr, (sefW b m w).grownBy wr (Value.slice p ln cp).ownBlock → wr.cell? ⟨w.heap.size, 3, none⟩ = some (slooksA b)[3] := fun wr h => h.cell ((sefW_looks b m w).c0 3 _ rfl) hne0
  have n0 : ∀ wr, (sefW b m w).grownBy wr (Value.slice p ln cp).ownBlock → wr.cell? ⟨w.heap.size + 1, 0, none⟩ = some (.int .i64 m.kind) := fun wr h => h.cell (hM0.c0 0 _ rfl) hne1
  have n1 : ∀ wr, (sefW b m w).grownBy wr (Value.slice p ln cp).ownBlock → wr.cell? ⟨w.heap.size + 1, 1, none⟩ = some (.string (Str m.key)) := fun wr h => h.cell (hM0.c0 1 _ rfl) hne1
  have n2 : ∀ wr, (sefW b m w).grownBy wr (Value.slice p ln cp).ownBlock → wr.cell? ⟨w.heap.size + 1, 2, none⟩ = some (.string (Str m.val)) := fun wr h => h.cell (hM0.c0 2 _ rfl) hne1
  have n3 : ∀ wr, (sefW b m w).grownBy wr (Value.slice p ln cp).ownBlock → wr.cell? ⟨w.heap.size + 1, 3, none⟩ = some (.string (Str m.lo)) := fun wr h => h.cell (hM0.c0 3 _ rfl) hne1
  have n4 : ∀ wr, (sefW b m w).grownBy wr (Value.slice p ln cp).ownBlock → wr.cell? ⟨w.heap.size + 1, 4, none⟩ = some (.string (Str m.hi)) := fun wr h => h.cell (hM0.c0 4 _ rfl) hne1
  have n5 : ∀ wr, (sefW b m w).grownBy wr (Value.slice p ln cp).ownBlock → wr.cell? ⟨w.heap.size + 1, 5, none⟩ = some (.string (Str m.src)) := fun wr h => h.cell (hM0.c0 5 _ rfl) hne1
  have n6 : ∀ wr, (sefW b m w).grownBy wr (Value.slice p ln cp).ownBlock → wr.cell? ⟨w.heap.size + 1, 6, none⟩ = some (.string (Str m.dst)) := fun wr h => h.cell (hM0.c0 6 _ rfl) hne1
  have n7 : ∀ wr, (sefW b m w).grownBy wr (Value.slice p ln cp).ownBlock → wr.cell? ⟨w.heap.size + 1, 7, none⟩ = some (.int .i64 m.n) := fun wr h => h.cell (hM0.c0 7 _ rfl) hne1
  have HS0 : Hid ((sefW b m w).grownBy (sefW b m w) (Value.slice p ln cp).ownBlock) := Lib.hid (grownBy_refl _ _)
  clear HC hM0 hne0 hne1 hvlt hbd
  obtain ⟨k, m1, m2, m3, m4, m5, m6, m7⟩ := m
  dsimp only at hk
  subst hk
  dsimp only [slooksA, List.getElem_toArray, List.getElem_cons_succ, List.getElem_cons_zero] at n0 n1 n2 n3 n4 n5 n6 n7 hL
  go_enter Tryz.func49, Tryz.ntmps49
  go_wp2_with fail
  go_region_held3 (fun wr => (sefW b ⟨3, m1, m2, m3, m4, m5, m6, m7⟩ w).grownBy wr (Value.slice p ln cp).ownBlock)
    (repeat (first | with_reducible assumption | with_reducible exact HS0.out | with_reducible refine keep_d ?_ | with_reducible refine keep_a ?_ _))
    (first
      | (go_at_call 103; refine HC0.out.mono ?_; rintro e w2 ⟨v2, rfl, ho2, ht2⟩; have hS2 := (keep_d HS0.out).trans ht2.1)
      | fail "no arm")
  all_goals
    have HO := Lib.hid ho2
    have HT := Lib.hid (turn_below HBD.out ht2)
    clear ho2 ht2 hS2 n0 n1 n2 n3 n4 n5 n6 n7 hL
    go_wp2
    go_ret
    exact ⟨_, rfl, HO.out, HT.out⟩
set_option maxHeartbeats 2000000 in
theorem sbefore4_w (base b : Nat) (m : Ms) (p : Option Addr) (ln cp : Nat) (R : List Sp) (w : World) (hk : m.kind = 4) (hvlt : ∀ j, (Value.slice p ln cp).ownBlock = some j → j < w.heap.size) (HC : ∀ wx, Below w.heap.size w wx → Calls Tryz.prog 104 (#[msgV m, .slice p ln cp] ++ #[.pointer (some ⟨b, 0, none⟩)]) wx (KOut base (.slice p ln cp) wx R)) :
    Calls Tryz.prog 49 #[slooksV b, msgV m, .slice p ln cp] w (KOut base (.slice p ln cp) w R) := by
  have hbd : Below w.heap.size w (sefW b m w).drew := (sefW_below b m w).trans (below_drewN _ 1)
  have HC0 := Lib.hid (HC _ hbd)
  have HBD := Lib.hid hbd
  have eg : ∀ args w, (callFunc 104 args).run Tryz.prog w = .ok (.enter 104 args) w := enters_of Tryz.func104 (by kernel_rfl) rfl
  have hne0 : some w.heap.size ≠ (Value.slice p ln cp).ownBlock := fun he => by have := hvlt _ he.symm; omega
  have hne1 : some (w.heap.size + 1) ≠ (Value.slice p ln cp).ownBlock := fun he => by have := hvlt _ he.symm; omega
  have hM0 := sefW_msg b m w
  have hL : ∀ wr, (sefW b m w).grownBy wr (Value.slice p ln cp).ownBlock → wr.cell? ⟨w.heap.size, 4, none⟩ = some (slooksA b)[4] := fun wr h => h.cell ((sefW_looks b m w).c0 4 _ rfl) hne0
  have n0 : ∀ wr, (sefW b m w).grownBy wr (Value.slice p ln cp).ownBlock → wr.cell? ⟨w.heap.size + 1, 0, none⟩ = some (.int .i64 m.kind) := fun wr h => h.cell (hM0.c0 0 _ rfl) hne1
  have n1 : ∀ wr, (sefW b m w).grownBy wr (Value.slice p ln cp).ownBlock → wr.cell? ⟨w.heap.size + 1, 1, none⟩ = some (.string (Str m.key)) := fun wr h => h.cell (hM0.c0 1 _ rfl) hne1
  have n2 : ∀ wr, (sefW b m w).grownBy wr (Value.slice p ln cp).ownBlock → wr.cell? ⟨w.heap.size + 1, 2, none⟩ = some (.string (Str m.val)) := fun wr h => h.cell (hM0.c0 2 _ rfl) hne1
  have n3 : ∀ wr, (sefW b m w).grownBy wr (Value.slice p ln cp).ownBlock → wr.cell? ⟨w.heap.size + 1, 3, none⟩ = some (.string (Str m.lo)) := fun wr h => h.cell (hM0.c0 3 _ rfl) hne1
  have n4 : ∀ wr, (sefW b m w).grownBy wr (Value.slice p ln cp).ownBlock → wr.cell? ⟨w.heap.size + 1, 4, none⟩ = some (.string (Str m.hi)) := fun wr h => h.cell (hM0.c0 4 _ rfl) hne1
  have n5 : ∀ wr, (sefW b m w).grownBy wr (Value.slice p ln cp).ownBlock → wr.cell? ⟨w.heap.size + 1, 5, none⟩ = some (.string (Str m.src)) := fun wr h => h.cell (hM0.c0 5 _ rfl) hne1
  have n6 : ∀ wr, (sefW b m w).grownBy wr (Value.slice p ln cp).ownBlock → wr.cell? ⟨w.heap.size + 1, 6, none⟩ = some (.string (Str m.dst)) := fun wr h => h.cell (hM0.c0 6 _ rfl) hne1
  have n7 : ∀ wr, (sefW b m w).grownBy wr (Value.slice p ln cp).ownBlock → wr.cell? ⟨w.heap.size + 1, 7, none⟩ = some (.int .i64 m.n) := fun wr h => h.cell (hM0.c0 7 _ rfl) hne1
  have HS0 : Hid ((sefW b m w).grownBy (sefW b m w) (Value.slice p ln cp).ownBlock) := Lib.hid (grownBy_refl _ _)
  clear HC hM0 hne0 hne1 hvlt hbd
  obtain ⟨k, m1, m2, m3, m4, m5, m6, m7⟩ := m
  dsimp only at hk
  subst hk
  dsimp only [slooksA, List.getElem_toArray, List.getElem_cons_succ, List.getElem_cons_zero] at n0 n1 n2 n3 n4 n5 n6 n7 hL
  go_enter Tryz.func49, Tryz.ntmps49
  go_wp2_with fail
  go_region_held3 (fun wr => (sefW b ⟨4, m1, m2, m3, m4, m5, m6, m7⟩ w).grownBy wr (Value.slice p ln cp).ownBlock)
    (repeat (first | with_reducible assumption | with_reducible exact HS0.out | with_reducible refine keep_d ?_ | with_reducible refine keep_a ?_ _))
    (first
      | (go_at_call 104; refine HC0.out.mono ?_; rintro e w2 ⟨v2, rfl, ho2, ht2⟩; have hS2 := (keep_d HS0.out).trans ht2.1)
      | fail "no arm")
  all_goals
    have HO := Lib.hid ho2
    have HT := Lib.hid (turn_below HBD.out ht2)
    clear ho2 ht2 hS2 n0 n1 n2 n3 n4 n5 n6 n7 hL
    go_wp2
    go_ret
    exact ⟨_, rfl, HO.out, HT.out⟩
set_option maxHeartbeats 2000000 in
theorem sbefore5_w (base b : Nat) (m : Ms) (p : Option Addr) (ln cp : Nat) (R : List Sp) (w : World) (hk : m.kind = 5) (hvlt : ∀ j, (Value.slice p ln cp).ownBlock = some j → j < w.heap.size) (HC : ∀ wx, Below w.heap.size w wx → Calls Tryz.prog 98 #[msgV m, .slice p ln cp] wx (KOut base (.slice p ln cp) wx R)) :
    Calls Tryz.prog 49 #[slooksV b, msgV m, .slice p ln cp] w (KOut base (.slice p ln cp) w R) := by
  have hbd : Below w.heap.size w (sefW b m w).drew := (sefW_below b m w).trans (below_drewN _ 1)
  have HC0 := Lib.hid (HC _ hbd)
  have HBD := Lib.hid hbd
  have eg : ∀ args w, (callFunc 98 args).run Tryz.prog w = .ok (.enter 98 args) w := enters_of Tryz.func98 (by kernel_rfl) rfl
  have hne0 : some w.heap.size ≠ (Value.slice p ln cp).ownBlock := fun he => by have := hvlt _ he.symm; omega
  have hne1 : some (w.heap.size + 1) ≠ (Value.slice p ln cp).ownBlock := fun he => by have := hvlt _ he.symm; omega
  have hM0 := sefW_msg b m w
  have hL : ∀ wr, (sefW b m w).grownBy wr (Value.slice p ln cp).ownBlock → wr.cell? ⟨w.heap.size, 5, none⟩ = some (slooksA b)[5] := fun wr h => h.cell ((sefW_looks b m w).c0 5 _ rfl) hne0
  have n0 : ∀ wr, (sefW b m w).grownBy wr (Value.slice p ln cp).ownBlock → wr.cell? ⟨w.heap.size + 1, 0, none⟩ = some (.int .i64 m.kind) := fun wr h => h.cell (hM0.c0 0 _ rfl) hne1
  have n1 : ∀ wr, (sefW b m w).grownBy wr (Value.slice p ln cp).ownBlock → wr.cell? ⟨w.heap.size + 1, 1, none⟩ = some (.string (Str m.key)) := fun wr h => h.cell (hM0.c0 1 _ rfl) hne1
  have n2 : ∀ wr, (sefW b m w).grownBy wr (Value.slice p ln cp).ownBlock → wr.cell? ⟨w.heap.size + 1, 2, none⟩ = some (.string (Str m.val)) := fun wr h => h.cell (hM0.c0 2 _ rfl) hne1
  have n3 : ∀ wr, (sefW b m w).grownBy wr (Value.slice p ln cp).ownBlock → wr.cell? ⟨w.heap.size + 1, 3, none⟩ = some (.string (Str m.lo)) := fun wr h => h.cell (hM0.c0 3 _ rfl) hne1
  have n4 : ∀ wr, (sefW b m w).grownBy wr (Value.slice p ln cp).ownBlock → wr.cell? ⟨w.heap.size + 1, 4, none⟩ = some (.string (Str m.hi)) := fun wr h => h.cell (hM0.c0 4 _ rfl) hne1
  have n5 : ∀ wr, (sefW b m w).grownBy wr (Value.slice p ln cp).ownBlock → wr.cell? ⟨w.heap.size + 1, 5, none⟩ = some (.string (Str m.src)) := fun wr h => h.cell (hM0.c0 5 _ rfl) hne1
  have n6 : ∀ wr, (sefW b m w).grownBy wr (Value.slice p ln cp).ownBlock → wr.cell? ⟨w.heap.size + 1, 6, none⟩ = some (.string (Str m.dst)) := fun wr h => h.cell (hM0.c0 6 _ rfl) hne1
  have n7 : ∀ wr, (sefW b m w).grownBy wr (Value.slice p ln cp).ownBlock → wr.cell? ⟨w.heap.size + 1, 7, none⟩ = some (.int .i64 m.n) := fun wr h => h.cell (hM0.c0 7 _ rfl) hne1
  have HS0 : Hid ((sefW b m w).grownBy (sefW b m w) (Value.slice p ln cp).ownBlock) := Lib.hid (grownBy_refl _ _)
  clear HC hM0 hne0 hne1 hvlt hbd
  obtain ⟨k, m1, m2, m3, m4, m5, m6, m7⟩ := m
  dsimp only at hk
  subst hk
  dsimp only [slooksA, List.getElem_toArray, List.getElem_cons_succ, List.getElem_cons_zero] at n0 n1 n2 n3 n4 n5 n6 n7 hL
  go_enter Tryz.func49, Tryz.ntmps49
  go_wp2_with fail
  go_region_held3 (fun wr => (sefW b ⟨5, m1, m2, m3, m4, m5, m6, m7⟩ w).grownBy wr (Value.slice p ln cp).ownBlock)
    (repeat (first | with_reducible assumption | with_reducible exact HS0.out | with_reducible refine keep_d ?_ | with_reducible refine keep_a ?_ _))
    (first
      | (go_at_call 98; refine HC0.out.mono ?_; rintro e w2 ⟨v2, rfl, ho2, ht2⟩; have hS2 := (keep_d HS0.out).trans ht2.1)
      | fail "no arm")
  all_goals
    have HO := Lib.hid ho2
    have HT := Lib.hid (turn_below HBD.out ht2)
    clear ho2 ht2 hS2 n0 n1 n2 n3 n4 n5 n6 n7 hL
    go_wp2
    go_ret
    exact ⟨_, rfl, HO.out, HT.out⟩
set_option maxHeartbeats 2000000 in
theorem sbefore6_w (base b : Nat) (m : Ms) (p : Option Addr) (ln cp : Nat) (R : List Sp) (w : World) (hk : m.kind = 6) (hvlt : ∀ j, (Value.slice p ln cp).ownBlock = some j → j < w.heap.size) (HC : ∀ wx, Below w.heap.size w wx → Calls Tryz.prog 105 #[msgV m, .slice p ln cp] wx (KOut base (.slice p ln cp) wx R)) :
    Calls Tryz.prog 49 #[slooksV b, msgV m, .slice p ln cp] w (KOut base (.slice p ln cp) w R) := by
  have hbd : Below w.heap.size w (sefW b m w).drew := (sefW_below b m w).trans (below_drewN _ 1)
  have HC0 := Lib.hid (HC _ hbd)
  have HBD := Lib.hid hbd
  have eg : ∀ args w, (callFunc 105 args).run Tryz.prog w = .ok (.enter 105 args) w := enters_of Tryz.func105 (by kernel_rfl) rfl
  have hne0 : some w.heap.size ≠ (Value.slice p ln cp).ownBlock := fun he => by have := hvlt _ he.symm; omega
  have hne1 : some (w.heap.size + 1) ≠ (Value.slice p ln cp).ownBlock := fun he => by have := hvlt _ he.symm; omega
  have hM0 := sefW_msg b m w
  have hL : ∀ wr, (sefW b m w).grownBy wr (Value.slice p ln cp).ownBlock → wr.cell? ⟨w.heap.size, 6, none⟩ = some (slooksA b)[6] := fun wr h => h.cell ((sefW_looks b m w).c0 6 _ rfl) hne0
  have n0 : ∀ wr, (sefW b m w).grownBy wr (Value.slice p ln cp).ownBlock → wr.cell? ⟨w.heap.size + 1, 0, none⟩ = some (.int .i64 m.kind) := fun wr h => h.cell (hM0.c0 0 _ rfl) hne1
  have n1 : ∀ wr, (sefW b m w).grownBy wr (Value.slice p ln cp).ownBlock → wr.cell? ⟨w.heap.size + 1, 1, none⟩ = some (.string (Str m.key)) := fun wr h => h.cell (hM0.c0 1 _ rfl) hne1
  have n2 : ∀ wr, (sefW b m w).grownBy wr (Value.slice p ln cp).ownBlock → wr.cell? ⟨w.heap.size + 1, 2, none⟩ = some (.string (Str m.val)) := fun wr h => h.cell (hM0.c0 2 _ rfl) hne1
  have n3 : ∀ wr, (sefW b m w).grownBy wr (Value.slice p ln cp).ownBlock → wr.cell? ⟨w.heap.size + 1, 3, none⟩ = some (.string (Str m.lo)) := fun wr h => h.cell (hM0.c0 3 _ rfl) hne1
  have n4 : ∀ wr, (sefW b m w).grownBy wr (Value.slice p ln cp).ownBlock → wr.cell? ⟨w.heap.size + 1, 4, none⟩ = some (.string (Str m.hi)) := fun wr h => h.cell (hM0.c0 4 _ rfl) hne1
  have n5 : ∀ wr, (sefW b m w).grownBy wr (Value.slice p ln cp).ownBlock → wr.cell? ⟨w.heap.size + 1, 5, none⟩ = some (.string (Str m.src)) := fun wr h => h.cell (hM0.c0 5 _ rfl) hne1
  have n6 : ∀ wr, (sefW b m w).grownBy wr (Value.slice p ln cp).ownBlock → wr.cell? ⟨w.heap.size + 1, 6, none⟩ = some (.string (Str m.dst)) := fun wr h => h.cell (hM0.c0 6 _ rfl) hne1
  have n7 : ∀ wr, (sefW b m w).grownBy wr (Value.slice p ln cp).ownBlock → wr.cell? ⟨w.heap.size + 1, 7, none⟩ = some (.int .i64 m.n) := fun wr h => h.cell (hM0.c0 7 _ rfl) hne1
  have HS0 : Hid ((sefW b m w).grownBy (sefW b m w) (Value.slice p ln cp).ownBlock) := Lib.hid (grownBy_refl _ _)
  clear HC hM0 hne0 hne1 hvlt hbd
  obtain ⟨k, m1, m2, m3, m4, m5, m6, m7⟩ := m
  dsimp only at hk
  subst hk
  dsimp only [slooksA, List.getElem_toArray, List.getElem_cons_succ, List.getElem_cons_zero] at n0 n1 n2 n3 n4 n5 n6 n7 hL
  go_enter Tryz.func49, Tryz.ntmps49
  go_wp2_with fail
  go_region_held3 (fun wr => (sefW b ⟨6, m1, m2, m3, m4, m5, m6, m7⟩ w).grownBy wr (Value.slice p ln cp).ownBlock)
    (repeat (first | with_reducible assumption | with_reducible exact HS0.out | with_reducible refine keep_d ?_ | with_reducible refine keep_a ?_ _))
    (first
      | (go_at_call 105; refine HC0.out.mono ?_; rintro e w2 ⟨v2, rfl, ho2, ht2⟩; have hS2 := (keep_d HS0.out).trans ht2.1)
      | fail "no arm")
  all_goals
    have HO := Lib.hid ho2
    have HT := Lib.hid (turn_below HBD.out ht2)
    clear ho2 ht2 hS2 n0 n1 n2 n3 n4 n5 n6 n7 hL
    go_wp2
    go_ret
    exact ⟨_, rfl, HO.out, HT.out⟩

theorem sbefore_w (base b : Nat) (m : Ms) (v : Value) (L : List Sp) (w : World) (hbk : w.cell? ⟨b, 0, none⟩ = some fk2V) (hv : w.ownsRow base 29 2 v L.length (L.flatMap encS)) (hvb : v.ownBlock ≠ some b) (hn : Nrm L) (hb : base ≤ w.heap.size) (hl : L.length ≤ 290) (hz : SizeM m) (hvm : validM m = true) (hlen : LenS 50000000000 L) :
    Calls Tryz.prog 49 #[slooksV b, msgV m, v] w (KOut base v w (backS m L)) := by
  have hvlt : ∀ j, v.ownBlock = some j → j < w.heap.size := fun j hj => (hv.lt j hj).2
  have hk : ∀ wx, Below w.heap.size w wx → wx.cell? ⟨b, 0, none⟩ = some fk2V := fun wx h => (h.cell (p := ⟨b, 0, none⟩) (cell_lt hbk)).trans hbk
  obtain ⟨pd, capd, rfl, -⟩ := own_form hv
  rcases kind_cases m hvm with h | h | h | h | h | h
  · have e : backS m L = minusS L [oneS m.key] := by unfold backS; rw [if_pos h]
    rw [e]
    exact sbefore1_w base b m _ _ _ _ w h hvlt fun wx hx => kset_w base m _ L wx (owns_below hv hx) hn (Nat.le_trans hb hx.size) (by omega) hz.1
  · have e : backS m L = minusS L [oneS m.key] := by unfold backS; rw [if_neg (by omega), if_pos h]
    rw [e]
    exact sbefore2_w base b m _ _ _ _ w h hvlt fun wx hx => kset_w base m _ L wx (owns_below hv hx) hn (Nat.le_trans hb hx.size) (by omega) hz.1
  · have e : backS m L = minusS L [(m.lo, m.hi)] := by unfold backS; rw [if_neg (by omega), if_neg (by omega), if_pos h]
    rw [e]
    exact sbefore3_w base b m _ _ _ _ w h hvlt fun wx hx => kdrop_w base m _ L wx (owns_below hv hx) hn (Nat.le_trans hb hx.size) (by omega)
  · have e : backS m L = moveB m (minusS L [preS m.src]) := by unfold backS; rw [if_neg (by omega), if_neg (by omega), if_neg (by omega), if_pos h]
    rw [e]
    exact sbefore4_w base b m _ _ _ _ w h hvlt fun wx hx => kmove_w base b m _ L wx (hk wx hx) (owns_below hv hx) hvb hn (Nat.le_trans hb hx.size) hl hz hlen (valid_apart hvm (.inl h)).2.1
  · have e : backS m L = moveB m L := by unfold backS; rw [if_neg (by omega), if_neg (by omega), if_neg (by omega), if_neg (by omega), if_pos h]
    rw [e]
    exact sbefore5_w base b m _ _ _ _ w h hvlt fun wx hx => kback_w base m _ L wx (owns_below hv hx) hn (Nat.le_trans hb hx.size) (by omega) hz (hlen.mono (by omega)) (valid_apart hvm (.inr h)).2.1
  · have e : backS m L = L := by unfold backS; rw [if_neg (by omega), if_neg (by omega), if_neg (by omega), if_neg (by omega), if_neg (by omega)]
    rw [e]
    exact sbefore6_w base b m _ _ _ _ w h hvlt fun wx hx => kstamp_w base m _ L wx (owns_below hv hx)

end Go.Proofs.YthncnijkgkeohaaGreat
