/-
  The walk of the law PathTyped.
-/
import Derived.Test.YtgfbinlakfojdaaWB
import Derived.Test.YtgfbinlakfojdaaS2
namespace Go.Proofs.Ytgfbinlakfojdaa
open Go.RowKit
set_option linter.unusedVariables false

theorem typed_ret {s : Bs} : textS [] = [47] := rfl

set_option maxRecDepth 100000 in
set_option maxHeartbeats 2000000 in
theorem pathTyped_walk (w : World) (v0 : Value) (l : Bs) (h0 : IsBytes w v0 l) (v1 : Value) (s : Bs) (h1 : IsStr w v1 s) :
    Calls Try.prog 5 #[v0, v1] w fun e w' => e = .returned (.bool true) ∧ Below w.heap.size w w' := by
  obtain ⟨rfl, hs⟩ := h1
  by_cases hlong : 220 < s.length
  · have hl : (220 : Int) < (s.length : Int) := by omega
    clear hlong
    go_enter Try.func5, Try.ntmps5
    go_wp2_with (go_at_call 12; refine (sanity_w _).mono ?_; rintro e w1 ⟨rfl, hb⟩)
    go_ret
    exact ⟨rfl, hb⟩
  · have hl : (s.length : Int) ≤ 220 := by omega
    have hm := fun wx (h : Below w.heap.size w wx) => made_w v0 l wx (h0.below h)
    have hp := validB_made l
    have hpl := madeS_le l
    have hpt := parse_text hp (by omega)
    have htl : (textS (madeS l)).length ≤ 60 := by
      have := Lib.trimSuffix_le (madeS l) [47]
      unfold textS; simp only [List.length_cons]; omega
    have htx := fun wx => text_w (Str (madeS l)) wx (by rw [size_Str]; omega)
    have hpa := fun wx => parse_w (Str (textS (madeS l))) wx (by rw [size_Str]; unfold maxLen; omega)
    simp only [toList_Str, hpt] at htx hpa
    have Hm := Lib.hid hm
    have Htx := Lib.hid htx
    have Hpa := Lib.hid hpa
    have hps := fun wx => parse_w (Str s) wx (by rw [size_Str]; unfold maxLen; omega)
    simp only [toList_Str] at hps
    clear hm htx hpa hp hpt hlong h0
    generalize madeS l = p at *
    generalize textS p = tp at *
    rcases parse_cases s with hc | ⟨r, hc, hv, ht, hrl⟩
    · rw [hc] at hps
      have Hps := Lib.hid hps
      clear hps hc
      go_enter Try.func5, Try.ntmps5
      have HB : Hid (Below w.heap.size w w) := Lib.hid (Below.refl _ _)
      go_wp2_with (first
        | (go_at_call 12; refine (sanity_w _).mono ?_; rintro e w1 ⟨rfl, hb⟩; replace HB := Lib.hid (Below.next HB.out (Nat.le_refl _) hb); clear hb)
        | (go_at_call 13; refine (Hm.out _ HB.out).mono ?_; rintro e w1 ⟨rfl, hb⟩; replace HB := Lib.hid (Below.next HB.out (Nat.le_refl _) hb); clear hb)
        | (go_at_call 26; refine (Htx.out _).mono ?_; rintro e w1 ⟨rfl, rfl⟩)
        | (go_at_call_of 14 (Str tp); refine (Hpa.out _).mono ?_; rintro e w1 ⟨rfl, hb⟩; replace HB := Lib.hid (Below.next HB.out (Nat.le_refl _) hb); clear hb)
        | (go_at_call 14; refine (Hps.out _).mono ?_; rintro e w1 ⟨rfl, hb⟩; replace HB := Lib.hid (Below.next HB.out (Nat.le_refl _) hb); clear hb))
      go_ret
      exact ⟨rfl, HB.out⟩
    · rw [hc] at hps
      have Hps := Lib.hid hps
      have hva := fun wx => valid_w (Str r) wx (by rw [size_Str]; unfold maxLen; omega)
      have htr := fun wx => text_w (Str r) wx (by rw [size_Str]; omega)
      simp only [toList_Str, hv, ht] at hva htr
      have Hva := Lib.hid hva
      have Htr := Lib.hid htr
      clear hps hc hv hva htr ht
      go_enter Try.func5, Try.ntmps5
      have HB : Hid (Below w.heap.size w w) := Lib.hid (Below.refl _ _)
      go_wp2_with (first
        | (go_at_call 12; refine (sanity_w _).mono ?_; rintro e w1 ⟨rfl, hb⟩; replace HB := Lib.hid (Below.next HB.out (Nat.le_refl _) hb); clear hb)
        | (go_at_call 13; refine (Hm.out _ HB.out).mono ?_; rintro e w1 ⟨rfl, hb⟩; replace HB := Lib.hid (Below.next HB.out (Nat.le_refl _) hb); clear hb)
        | (go_at_call_of 26 (Str p); refine (Htx.out _).mono ?_; rintro e w1 ⟨rfl, rfl⟩)
        | (go_at_call_of 14 (Str tp); refine (Hpa.out _).mono ?_; rintro e w1 ⟨rfl, hb⟩; replace HB := Lib.hid (Below.next HB.out (Nat.le_refl _) hb); clear hb)
        | (go_at_call 14; refine (Hps.out _).mono ?_; rintro e w1 ⟨rfl, hb⟩; replace HB := Lib.hid (Below.next HB.out (Nat.le_refl _) hb); clear hb)
        | (go_at_call 20; refine (Hva.out _).mono ?_; rintro e w1 ⟨rfl, hb⟩; replace HB := Lib.hid (Below.next HB.out (Nat.le_refl _) hb); clear hb)
        | (go_at_call 26; refine (Htr.out _).mono ?_; rintro e w1 ⟨rfl, rfl⟩))
      go_ret
      exact ⟨rfl, HB.out⟩

end Go.Proofs.Ytgfbinlakfojdaa
