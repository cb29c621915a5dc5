/-
  Walks: Text and Split of package path, and the law's split.
-/
import Derived.Test.YticlomakmcjcfaaW6
namespace Go.Proofs.Yticlomakmcjcfaa
open Go.RowKit
set_option linter.unusedVariables false

set_option maxRecDepth 100000 in
theorem text_w (p : ByteArray) (w : World) (hp : p.size ≤ 140737488355328) :
    Calls Try.prog 28 #[.string p] w fun e w' => e = .returned (.string (Str (textS p.toList))) ∧ w = w' := by
  have h := fun w => Try.strings_TrimSuffix p ⟨#[47]⟩ w (by omega)
  have H := Lib.hid h
  have hl := Lib.trimSuffix_le p.data.toList [47]
  rw [← Lib.toList_data, ← size_len] at hl
  have hl2 : (Lib.trimSuffix p.toList [47]).length ≤ 140737488355328 := by omega
  have Hx : Hid ((⟨#[47]⟩ : ByteArray) ++ (⟨(Lib.trimSuffix p.toList [47]).toArray⟩ : ByteArray) = Str (textS p.toList)) := Lib.hid (lit_Str _ [47])
  rw [Lib.toList_data] at hl2 Hx ⊢
  generalize Lib.trimSuffix p.data.toList [47] = q at *
  clear h hp hl
  go_enter Try.func28, Try.ntmps28
  go_wp2_with (go_at_call 103; refine (H.out _).mono ?_; rintro e w' ⟨he, rfl⟩; have he2 : e = .returned (.string ⟨q.toArray⟩) := he; subst he2)
  go_ret
  exact ⟨ret_str Hx.out, rfl⟩

theorem lastCut_of (s : ByteArray) : Lib.lastIndexByte s 47 + 1 = (lastCut s.toList : Int) := by
  have hg : ∀ j (h : j < s.size), s.toList[j]? = some s.data[j]! := fun j h => by
    rw [Lib.toList_data, Array.getElem?_toList, getElem!_pos s.data j h]; exact Array.getElem?_eq_getElem h
  have hlen := size_len s
  have h47 : ∀ j, j < s.size → s.toList[j]? = some 47 → ((s.data[j]!).toNat : Int) = 47 := fun j h e => by
    rw [hg j h] at e; simp only [Option.some.injEq] at e; rw [e]; rfl
  rcases Lib.lastIdx_spec s 47 s.size with ⟨h1, h2⟩ | ⟨i, hi, h1, h2, h3⟩
  · unfold Lib.lastIndexByte
    rw [h1, lastCut_zero]; rfl
    intro i hi
    by_cases h : i < s.size
    · exact h2 i h (h47 i h hi)
    · rw [List.getElem?_eq_none (by omega)] at hi; cases hi
  · unfold Lib.lastIndexByte
    rw [h1, lastCut_pos (i := i)]; rfl
    · rw [hg i hi, (u8_eq (n := 47) (by omega)).1 h2]; rfl
    · intro j hj he
      by_cases h : j < s.size
      · exact h3 j hj h (h47 j h he)
      · rw [List.getElem?_eq_none (by omega)] at he; cases he

theorem lastSlash_w (l : Bs) (w : World) (hs : l.length < 4611686018427387904) :
    Calls Try.prog 135 #[.string (Str l), .int .u8 47] w fun e w' => e = .returned (.int .i64 ((lastCut l : Int) - 1)) ∧ w = w' :=
  (Try.strings_LastIndexByte (Str l) 47 (by rw [size_Str]; exact hs) w).mono fun e w' ⟨he, hw⟩ => ⟨by
    rw [he]; have := lastCut_of (Str l); rw [toList_Str] at this; rw [← this]; congr 2; omega, hw.symm⟩

set_option maxHeartbeats 1000000 in
theorem split_w (p : ByteArray) (w : World) (hp : p.size ≤ 140737488355328) :
    Calls Try.prog 101 #[.string p] w fun e w' => e = .returned (.tuple #[.string (Str (splitS p.toList).1), .string (Str (splitS p.toList).2.1), .int .i64 (splitS p.toList).2.2]) ∧ Below w.heap.size w w' := by
  obtain ⟨p, rfl⟩ := Str_ex p
  have Hp : Hid ((Str p).size ≤ maxLen) := Lib.hid (by unfold maxLen; omega)
  rw [size_Str] at hp
  rw [toList_Str]
  have hv := valid_w (Str p)
  rw [toList_Str] at hv
  have hx := lastSlash_w (p.take (p.length - 1))
  have Hx := Lib.hid (fun w => hx w (by simp; omega))
  have Hpp := Lib.hid hp
  clear hx hp
  cases hV : validB p with
  | false =>
    have H : Hid (splitS p = ([], [], 10)) := Lib.hid (by unfold splitS; rw [if_neg (by rw [hV]; simp)])
    rw [hV] at hv
    have Hv := Lib.hid hv
    clear hv hV
    go_enter Try.func101, Try.ntmps101
    go_wp2_with (go_at_call 22; refine (Hv.out _ Hp.out).mono ?_; rintro e w1 ⟨rfl, hb⟩)
    go_ret3
    rw [H.out]
    exact ⟨rfl, hb⟩
  | true =>
    by_cases he : p = []
    · have H : Hid (splitS p = ([], [], 337)) := Lib.hid (by unfold splitS; rw [if_pos hV, if_pos he])
      have d : p.isEmpty = true := by rw [he]; rfl
      rw [hV] at hv
      have Hv := Lib.hid hv
      clear hv hV he
      go_enter Try.func101, Try.ntmps101
      go_wp2_with (go_at_call 22; refine (Hv.out _ Hp.out).mono ?_; rintro e w1 ⟨rfl, hb⟩)
      go_ret3
      rw [H.out]
      exact ⟨rfl, hb⟩
    · have H : Hid (splitS p = ((p.take (p.length - 1)).take (lastCut (p.take (p.length - 1))), (p.take (p.length - 1)).drop (lastCut (p.take (p.length - 1))), 0)) := Lib.hid (by unfold splitS; rw [if_pos hV, if_neg he])
      have d : p.isEmpty = false := by simpa using he
      have hlen : 1 ≤ p.length := List.length_pos_iff.2 he
      have hc : lastCut (p.take (p.length - 1)) ≤ p.length - 1 := by have := lastCut_le (p.take (p.length - 1)); rw [List.length_take] at this; omega
      have hm : p.length ≤ 9223372036854775807 := by have := Hpp.out; omega
      rw [hV] at hv
      have Hv := Lib.hid hv
      clear hv hV he
      go_enter Try.func101, Try.ntmps101
      go_wp2_with (first
        | (go_at_call 22; refine (Hv.out _ Hp.out).mono ?_; rintro e w1 ⟨rfl, hb⟩)
        | fail)
      generalize List.take (p.length - 1) p = q at *
      have hq := lastCut_le q
      have hsum : (lastCut q : Int) - 1 + 1 = lastCut q := by omega
      generalize lastCut q = n at *
      go_wp2_with (go_at_call 135; refine (Hx.out _).mono ?_; rintro e w2 ⟨rfl, rfl⟩)
      go_region
      go_wp2
      go_ret3
      rw [H.out]
      exact ⟨rfl, hb.drew⟩

end Go.Proofs.Yticlomakmcjcfaa
