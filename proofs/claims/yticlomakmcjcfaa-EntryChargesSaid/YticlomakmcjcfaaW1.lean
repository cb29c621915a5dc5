/-
  Walks: leaves of package path and of the library that it calls.
-/
import Derived.Test.YticlomakmcjcfaaRows
import Derived.Test.YticlomakmcjcfaaS1
import Derived.WalkKit
import Derived.WalkSpells
import Derived.WalkLawsBesides
import Derived.Lib.Hide
import Derived.Outline
import Derived.Deep.Light
namespace Go.Proofs.Yticlomakmcjcfaa
open Go.RowKit

theorem ret_bool {a b : Bool} (h : a = b) : Ending.returned (.bool a) = .returned (.bool b) := by rw [h]


theorem size_len (s : ByteArray) : s.size = s.toList.length := by rw [Lib.toList_data, Lib.size_eq]
theorem get_toList (s : ByteArray) (k : Nat) (h : k < s.size) : s.toList[k]? = some s[k] := by
  rw [Lib.toList_data, Array.getElem?_toList]
  exact Array.getElem?_eq_getElem h
theorem take_succ' (s : ByteArray) (k : Nat) (h : k < s.size) : s.toList.take (k + 1) = s.toList.take k ++ [s[k]] := by
  rw [List.take_add_one, get_toList s k h]; rfl

theorem nameB_bad {l : Bs} (h : (l.isEmpty = true ∨ 12 < (l.length : Int)) ∨ l = [46] ∨ l = [46, 46]) : nameB l = false := by
  unfold nameB
  rcases h with (h | h) | h | h
  · simp [h]
  · have : decide (l.length ≤ 12) = false := by simp; omega
    simp [this]
  · subst h; decide
  · subst h; decide

theorem nameB_all {l : Bs} (h1 : l.isEmpty = false) (h2 : (l.length : Int) ≤ 12) (h3 : (l == [46]) = false) (h4 : (l == [46, 46]) = false) : nameB l = l.all chB := by
  unfold nameB
  have : decide (l.length ≤ 12) = true := by simp; omega
  simp [h1, h3, h4, this]

theorem all_bad {l : Bs} {k : Nat} {c : UInt8} (h : l[k]? = some c) (hc : chB c = false) : l.all chB = false := by
  rw [List.all_eq_false]
  exact ⟨c, List.mem_of_getElem? h, by simp [hc]⟩

theorem chB_of {c : UInt8} (h1 : 32 < (c.toNat : Int)) (h2 : (c.toNat : Int) ≤ 126) (h3 : (c.toNat : Int) ≠ 47) : chB c = true := by
  have h4 : ¬ c = 47 := fun e => h3 (by rw [e]; rfl)
  simp [chB, h4]; omega
theorem chB_no {c : UInt8} (h : (c.toNat : Int) ≤ 32 ∨ 126 < (c.toNat : Int) ∨ (c.toNat : Int) = 47) : chB c = false := by
  simp only [chB, Bool.and_eq_false_iff, decide_eq_false_iff_not, Bool.not_eq_false', beq_iff_eq]
  rcases h with h | h | h
  · exact .inl (.inl (by omega))
  · exact .inl (.inr (by omega))
  · exact .inr (by apply UInt8.toNat_inj.1; simpa using (by omega : c.toNat = 47))

set_option maxHeartbeats 400000 in
theorem isName_w (s : ByteArray) (w : World) (hs : s.size ≤ maxLen) :
    Calls Try.prog 95 #[.string s] w fun e w' => e = .returned (.bool (nameB s.toList)) ∧ w = w' := by
  unfold maxLen at hs
  have hz := size_len s
  have Hz := Lib.hid hz
  clear hz
  by_cases g : (s.toList.isEmpty = true ∨ 12 < (s.size : Int)) ∨ s.toList = [46] ∨ s.toList = [46, 46]
  · have hn : nameB s.toList = false := nameB_bad (by rw [← Hz.out]; exact g)
    have Hn := Lib.hid hn
    have Hg := Lib.hid g
    clear hn g
    go_enter Try.func95, Try.ntmps95
    go_wp2
    all_goals first
      | (go_ret; exact ⟨ret_bool Hn.out.symm, rfl⟩)
      | (exfalso; go_light; rcases Hg.out with (g | g) | g | g <;> first | (simp_all; done) | (simp_all; omega))
  · have h1 : s.toList.isEmpty = false := by simp at g ⊢; exact g.1.1
    have h2 : (s.size : Int) ≤ 12 := by omega
    have h3 : (s.toList == [46]) = false := by simp at g ⊢; exact g.2.1
    have h4 : (s.toList == [46, 46]) = false := by simp at g ⊢; exact g.2.2
    have hn : nameB s.toList = s.toList.all chB := nameB_all h1 (by rw [← Hz.out]; exact h2) h3 h4
    have Hn := Lib.hid hn
    clear hn g
    go_enter Try.func95, Try.ntmps95
    go_wp2
    go_loop [21] (fun i => ∃ k : Nat, k ≤ s.size ∧ i = .int .i64 k ∧ Hid ((s.toList.take k).all chB = true)) (fun i => s.size - (intOf i).toNat)
    case atStart => exact ⟨0, Nat.zero_le _, rfl, Lib.hid rfl⟩
    case round =>
      obtain ⟨k, hk, rfl, hall⟩ := hrel
      by_cases hlt : k < s.size
      · have hg := Lib.hid (get_toList s k hlt)
        have ht := Lib.hid (take_succ' s k hlt)
        go_wp2
        all_goals first
          | (go_ret
             exact ⟨ret_bool (by rw [Hn.out]; exact (all_bad hg.out (chB_no (by
               go_light; (try simp only [beq_iff_eq] at *); omega))).symm), rfl⟩)
          | (go_round
             case rel => exact ⟨k + 1, by omega, by go_num, Lib.hid (by
               rw [ht.out, List.all_append, hall.out]
               have : chB s[k] = true := chB_of (by go_light; omega) (by go_light; omega) (by go_light; (try simp only [beq_eq_false_iff_ne, ne_eq] at *); omega)
               simp [this])⟩
             case measure => simp [intOf]; omega)
      · go_wp2
        go_ret
        exact ⟨ret_bool (by rw [Hn.out, ← hall.out, List.take_of_length_le (by rw [← Hz.out]; omega)]), rfl⟩

end Go.Proofs.Yticlomakmcjcfaa
