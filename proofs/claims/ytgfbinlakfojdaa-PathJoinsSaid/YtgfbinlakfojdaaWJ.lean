/-
  The walk of the law PathJoins.
-/
import Derived.Test.YtgfbinlakfojdaaWB
import Derived.Test.YtgfbinlakfojdaaS2
namespace Go.Proofs.Ytgfbinlakfojdaa
open Go.RowKit
set_option linter.unusedVariables false

theorem prefix_self' (p : Bs) : p.isPrefixOf p = true := by have := prefix_self p []; rwa [List.append_nil] at this

set_option maxRecDepth 100000 in
set_option maxHeartbeats 4000000 in
theorem pathJoins_walk (w : World) (v0 : Value) (l : Bs) (h0 : IsBytes w v0 l) (v1 : Value) (s : Bs) (h1 : IsStr w v1 s) :
    Calls Try.prog 6 #[v0, v1] w fun e w' => e = .returned (.bool true) ∧ Below w.heap.size w w' := by
  obtain ⟨rfl, hs⟩ := h1
  by_cases hlong : 20 < s.length
  · have hl : (20 : Int) < (s.length : Int) := by omega
    clear hlong
    go_enter Try.func6, Try.ntmps6
    go_wp2_with (go_at_call 12; refine (sanity_w _).mono ?_; rintro e w1 ⟨rfl, hb⟩)
    go_ret
    exact ⟨rfl, hb⟩
  · have hl : (s.length : Int) ≤ 20 := by omega
    have hsl : s.length ≤ 20 := by omega
    have hm := fun wx (h : Below w.heap.size w wx) => made_w v0 l wx (h0.below h)
    have hp := validB_made l
    have hpl := madeS_le l
    have Hm := Lib.hid hm
    clear hm hlong h0
    generalize madeS l = p at *
    have hj := fun wx => join_w (Str p) (Str s) wx (by rw [size_Str]; omega) (by rw [size_Str]; omega)
    have hsp := fun wx => lsplit_w (Str p) wx (by rw [size_Str]; omega)
    simp only [toList_Str, splitV] at hj hsp
    have hu1 := fun wx => under_w (Str (p ++ s ++ [47])) (Str p) wx
    have hu2 := fun wx => under_w (Str p) (Str (p ++ s ++ [47])) wx
    simp only [toList_Str] at hu1 hu2
    rw [List.append_assoc, prefix_self] at hu1
    rw [prefix_long (by simp)] at hu2
    have hsq := fun wx => lsplit_w (Str (p ++ s ++ [47])) wx (by rw [size_Str]; simp; omega)
    have hvq := fun wx => valid_w (Str (p ++ s ++ [47])) wx (by rw [size_Str]; unfold maxLen; simp; omega)
    simp only [toList_Str, splitV] at hsq hvq
    rw [← List.append_assoc] at hu1
    have Hu1 := Lib.hid hu1
    have Hu2 := Lib.hid hu2
    clear hu1 hu2
    cases hN : nameB s with
    | true =>
      have hjv : joinS p s = (p ++ s ++ [47], 0) := by unfold joinS; rw [if_pos hp, if_pos hN, if_pos (by omega)]
      rw [split_join hp hN] at hsq
      rw [valid_join hp hN] at hvq
      rw [hjv] at hj
      have hql : (p ++ s ++ [47]).length ≤ 80 := by simp; omega
      have Hsq := Lib.hid hsq
      have Hvq := Lib.hid hvq
      have Hj := Lib.hid hj
      clear hsq hvq hj hjv hN
      generalize hq : p ++ s ++ [47] = q at *
      clear hq
      by_cases hpe : p = []
      · subst hpe
        rw [splitS_nil] at hsp
        have Hsp := Lib.hid hsp
        clear hsp
        have HB : Hid (Below w.heap.size w w) := Lib.hid (Below.refl _ _)
        go_enter Try.func6, Try.ntmps6
        go_wp2_with (first
          | (go_at_call 12; refine (sanity_w _).mono ?_; rintro e w1 ⟨rfl, hb⟩; replace HB := Lib.hid (Below.next HB.out (Nat.le_refl _) hb); clear hb)
          | (go_at_call 13; refine (Hm.out _ HB.out).mono ?_; rintro e w1 ⟨rfl, hb⟩; replace HB := Lib.hid (Below.next HB.out (Nat.le_refl _) hb); clear hb)
          | (go_at_call_of 16 (Str s); refine (Hj.out _).mono ?_; rintro e w1 ⟨rfl, hb⟩; replace HB := Lib.hid (Below.next HB.out (Nat.le_refl _) hb); clear hb)
          | (go_at_call_of 20 (Str q); refine (Hvq.out _).mono ?_; rintro e w1 ⟨rfl, hb⟩; replace HB := Lib.hid (Below.next HB.out (Nat.le_refl _) hb); clear hb)
          | (go_at_call_of 22 (Str q); refine (Hsq.out _).mono ?_; rintro e w1 ⟨rfl, hb⟩; replace HB := Lib.hid (Below.next HB.out (Nat.le_refl _) hb); clear hb)
          | (go_at_call 24; refine (Hu1.out _).mono ?_; rintro e w1 ⟨rfl, rfl⟩)
          | (go_at_call 24; refine (Hu2.out _).mono ?_; rintro e w1 ⟨rfl, rfl⟩)
          | (go_at_call 22; refine (Hsp.out _).mono ?_; rintro e w1 ⟨rfl, hb⟩; replace HB := Lib.hid (Below.next HB.out (Nat.le_refl _) hb); clear hb))
        go_ret
        exact ⟨rfl, HB.out.alloc HB.out.size _⟩
      · obtain ⟨a, m, hs2, ha, hm2, he⟩ := split_ne hp hpe
        rw [hs2] at hsp
        have hpb : p.isEmpty = false := by simpa using hpe
        have hal : a.length + m.length + 1 ≤ 52 := by have := congrArg List.length he; simp at this; omega
        have hj2 := fun wx => join_w (Str a) (Str m) wx (by rw [size_Str]; omega) (by rw [size_Str]; omega)
        have hva := fun wx => valid_w (Str a) wx (by rw [size_Str]; unfold maxLen; omega)
        simp only [toList_Str] at hj2 hva
        have hjm : joinS a m = (p, 0) := by unfold joinS; rw [if_pos ha, if_pos hm2, if_pos (by omega), he]
        rw [hjm] at hj2
        rw [ha] at hva
        have Hsp := Lib.hid hsp
        have Hj2 := Lib.hid hj2
        have Hva := Lib.hid hva
        clear hsp hj2 hva hs2 ha hm2 he hpe hjm hp
        have HB : Hid (Below w.heap.size w w) := Lib.hid (Below.refl _ _)
        go_enter Try.func6, Try.ntmps6
        go_wp2_with (first
          | (go_at_call 12; refine (sanity_w _).mono ?_; rintro e w1 ⟨rfl, hb⟩; replace HB := Lib.hid (Below.next HB.out (Nat.le_refl _) hb); clear hb)
          | (go_at_call 13; refine (Hm.out _ HB.out).mono ?_; rintro e w1 ⟨rfl, hb⟩; replace HB := Lib.hid (Below.next HB.out (Nat.le_refl _) hb); clear hb)
          | (go_at_call_of 16 (Str s); refine (Hj.out _).mono ?_; rintro e w1 ⟨rfl, hb⟩; replace HB := Lib.hid (Below.next HB.out (Nat.le_refl _) hb); clear hb)
          | (go_at_call_of 20 (Str q); refine (Hvq.out _).mono ?_; rintro e w1 ⟨rfl, hb⟩; replace HB := Lib.hid (Below.next HB.out (Nat.le_refl _) hb); clear hb)
          | (go_at_call_of 22 (Str q); refine (Hsq.out _).mono ?_; rintro e w1 ⟨rfl, hb⟩; replace HB := Lib.hid (Below.next HB.out (Nat.le_refl _) hb); clear hb)
          | (go_at_call 24; refine (Hu1.out _).mono ?_; rintro e w1 ⟨rfl, rfl⟩)
          | (go_at_call 24; refine (Hu2.out _).mono ?_; rintro e w1 ⟨rfl, rfl⟩)
          | (go_at_call 22; refine (Hsp.out _).mono ?_; rintro e w1 ⟨rfl, hb⟩; replace HB := Lib.hid (Below.next HB.out (Nat.le_refl _) hb); clear hb)
          | (go_at_call 16; refine (Hj2.out _).mono ?_; rintro e w1 ⟨rfl, hb⟩; have hk := Blk.below (Blk.new _ 37 #[.string (Str a), .string (Str m), .int .i64 0]) hb (by simp); have k0 := hk.cell 0; have k1 := hk.cell 1; have k2 := hk.cell 2; simp at k0 k1 k2; replace HB := Lib.hid (Below.next (HB.out.alloc HB.out.size _) (Nat.le_refl _) hb); clear hb hk)
          | (go_at_call 20; refine (Hva.out _).mono ?_; rintro e w1 ⟨rfl, hb⟩; replace HB := Lib.hid (Below.next HB.out (Nat.le_refl _) hb); clear hb))
        go_ret
        exact ⟨rfl, HB.out⟩
    | false =>
      have hjv : joinS p s = ([], 11) := by unfold joinS; rw [if_pos hp, if_neg (by rw [hN]; simp)]
      rw [hjv] at hj
      have Hj := Lib.hid hj
      clear hj hjv hN hsq hvq Hu1 Hu2
      by_cases hpe : p = []
      · subst hpe
        rw [splitS_nil] at hsp
        have Hsp := Lib.hid hsp
        clear hsp
        have HB : Hid (Below w.heap.size w w) := Lib.hid (Below.refl _ _)
        go_enter Try.func6, Try.ntmps6
        go_wp2_with (first
          | (go_at_call 12; refine (sanity_w _).mono ?_; rintro e w1 ⟨rfl, hb⟩; replace HB := Lib.hid (Below.next HB.out (Nat.le_refl _) hb); clear hb)
          | (go_at_call 13; refine (Hm.out _ HB.out).mono ?_; rintro e w1 ⟨rfl, hb⟩; replace HB := Lib.hid (Below.next HB.out (Nat.le_refl _) hb); clear hb)
          | (go_at_call_of 16 (Str s); refine (Hj.out _).mono ?_; rintro e w1 ⟨rfl, hb⟩; replace HB := Lib.hid (Below.next HB.out (Nat.le_refl _) hb); clear hb)
          | (go_at_call 22; refine (Hsp.out _).mono ?_; rintro e w1 ⟨rfl, hb⟩; replace HB := Lib.hid (Below.next HB.out (Nat.le_refl _) hb); clear hb))
        go_ret
        exact ⟨rfl, HB.out.alloc HB.out.size _⟩
      · obtain ⟨a, m, hs2, ha, hm2, he⟩ := split_ne hp hpe
        rw [hs2] at hsp
        have hpb : p.isEmpty = false := by simpa using hpe
        have hal : a.length + m.length + 1 ≤ 52 := by have := congrArg List.length he; simp at this; omega
        have hj2 := fun wx => join_w (Str a) (Str m) wx (by rw [size_Str]; omega) (by rw [size_Str]; omega)
        have hva := fun wx => valid_w (Str a) wx (by rw [size_Str]; unfold maxLen; omega)
        simp only [toList_Str] at hj2 hva
        have hjm : joinS a m = (p, 0) := by unfold joinS; rw [if_pos ha, if_pos hm2, if_pos (by omega), he]
        rw [hjm] at hj2
        rw [ha] at hva
        have Hsp := Lib.hid hsp
        have Hj2 := Lib.hid hj2
        have Hva := Lib.hid hva
        clear hsp hj2 hva hs2 ha hm2 he hpe hjm hp
        have HB : Hid (Below w.heap.size w w) := Lib.hid (Below.refl _ _)
        go_enter Try.func6, Try.ntmps6
        go_wp2_with (first
          | (go_at_call 12; refine (sanity_w _).mono ?_; rintro e w1 ⟨rfl, hb⟩; replace HB := Lib.hid (Below.next HB.out (Nat.le_refl _) hb); clear hb)
          | (go_at_call 13; refine (Hm.out _ HB.out).mono ?_; rintro e w1 ⟨rfl, hb⟩; replace HB := Lib.hid (Below.next HB.out (Nat.le_refl _) hb); clear hb)
          | (go_at_call_of 16 (Str s); refine (Hj.out _).mono ?_; rintro e w1 ⟨rfl, hb⟩; replace HB := Lib.hid (Below.next HB.out (Nat.le_refl _) hb); clear hb)
          | (go_at_call 22; refine (Hsp.out _).mono ?_; rintro e w1 ⟨rfl, hb⟩; replace HB := Lib.hid (Below.next HB.out (Nat.le_refl _) hb); clear hb)
          | (go_at_call 16; refine (Hj2.out _).mono ?_; rintro e w1 ⟨rfl, hb⟩; have hk := Blk.below (Blk.new _ 37 #[.string (Str a), .string (Str m), .int .i64 0]) hb (by simp); have k0 := hk.cell 0; have k1 := hk.cell 1; have k2 := hk.cell 2; simp at k0 k1 k2; replace HB := Lib.hid (Below.next (HB.out.alloc HB.out.size _) (Nat.le_refl _) hb); clear hb hk)
          | (go_at_call 20; refine (Hva.out _).mono ?_; rintro e w1 ⟨rfl, hb⟩; replace HB := Lib.hid (Below.next HB.out (Nat.le_refl _) hb); clear hb))
        go_ret
        exact ⟨rfl, HB.out⟩

end Go.Proofs.Ytgfbinlakfojdaa
