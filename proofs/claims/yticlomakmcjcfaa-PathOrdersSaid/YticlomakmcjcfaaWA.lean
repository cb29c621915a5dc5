/-
  Walks: the fixed examples that every law of package path tries.
-/
import Derived.Test.YticlomakmcjcfaaW9
namespace Go.Proofs.Yticlomakmcjcfaa
open Go.RowKit
set_option linter.unusedVariables false

theorem Below.next {B : Nat} {w wx w1 : World} (h : Below B w wx) (hB : B ≤ w.heap.size) (k : Below wx.heap.size wx w1) : Below B w w1 := h.trans (k.mono (Nat.le_trans hB h.size))

theorem sc_parse1 (w : World) : Calls Try.prog 16 #[.string ⟨#[47, 97, 47, 98]⟩] w fun e w' => e = .returned (.tuple #[.string ⟨#[97, 47, 98, 47]⟩, .int .i64 0]) ∧ Below w.heap.size w w' := by
  have h := parse_w (Str [47, 97, 47, 98]) w (by rw [size_Str]; decide)
  rw [toList_Str, show parseS [47, 97, 47, 98] = ([97, 47, 98, 47], 0) from by decide +kernel] at h
  exact h
theorem sc_parse2 (w : World) : Calls Try.prog 16 #[.string ⟨#[47]⟩] w fun e w' => e = .returned (.tuple #[.string ⟨#[]⟩, .int .i64 0]) ∧ Below w.heap.size w w' := by
  have h := parse_w (Str [47]) w (by rw [size_Str]; decide)
  rw [toList_Str, show parseS [47] = ([], 0) from by decide +kernel] at h
  exact h
theorem sc_parse3 (w : World) : Calls Try.prog 16 #[.string ⟨#[47, 97, 47]⟩] w fun e w' => e = .returned (.tuple #[.string ⟨#[]⟩, .int .i64 10]) ∧ Below w.heap.size w w' := by
  have h := parse_w (Str [47, 97, 47]) w (by rw [size_Str]; decide)
  rw [toList_Str, show parseS [47, 97, 47] = ([], 10) from by decide +kernel] at h
  exact h
theorem sc_parse4 (w : World) : Calls Try.prog 16 #[.string ⟨#[97]⟩] w fun e w' => e = .returned (.tuple #[.string ⟨#[]⟩, .int .i64 10]) ∧ Below w.heap.size w w' := by
  have h := parse_w (Str [97]) w (by rw [size_Str]; decide)
  rw [toList_Str, show parseS [97] = ([], 10) from by decide +kernel] at h
  exact h
theorem sc_join (w : World) : Calls Try.prog 18 #[.string ⟨#[97, 47]⟩, .string ⟨#[46, 46]⟩] w fun e w' => e = .returned (.tuple #[.string ⟨#[]⟩, .int .i64 11]) ∧ Below w.heap.size w w' := by
  have h := join_w (Str [97, 47]) (Str [46, 46]) w (by rw [size_Str]; decide) (by rw [size_Str]; decide)
  rw [toList_Str, toList_Str, show joinS [97, 47] [46, 46] = ([], 11) from by decide +kernel] at h
  exact h
theorem sc_key1 (w : World) : Calls Try.prog 31 #[.agg #[.string ⟨#[97, 47]⟩, .int .i64 2, .int .i64 258, .string ⟨#[]⟩]] w fun e w' => e = .returned (.tuple #[.string ⟨#[97, 47, 2, 1, 2]⟩, .int .i64 0]) ∧ Below w.heap.size w w' := by
  have h := keyF_w 2 258 (Str [97, 47]) (Str []) w (by rw [size_Str]; decide) (by rw [size_Str]; decide)
  rw [toList_Str, toList_Str, show keyF [97, 47] 2 258 [] = ([97, 47, 2, 1, 2], 0) from by decide +kernel] at h
  exact h
theorem sc_body (w : World) : Calls Try.prog 94 #[.int .i64 255] w fun e w' => e = .returned (.string ⟨#[5, 48, 48, 48, 48, 48, 48, 102, 102, 47]⟩) ∧ Below w.heap.size w w' := by
  have h := body_w 255 w
  rw [show bodyS 255 = [5, 48, 48, 48, 48, 48, 48, 102, 102, 47] from by decide +kernel] at h
  exact h
theorem sc_key2 (w : World) : Calls Try.prog 31 #[.agg #[.string ⟨#[5, 48, 48, 48, 48, 48, 48, 102, 102, 47]⟩, .int .i64 1, .int .i64 0, .string ⟨#[]⟩]] w fun e w' => e = .returned (.tuple #[.string ⟨#[5, 48, 48, 48, 48, 48, 48, 102, 102, 47, 1]⟩, .int .i64 0]) ∧ Below w.heap.size w w' := by
  have h := keyF_w 1 0 (Str [5, 48, 48, 48, 48, 48, 48, 102, 102, 47]) (Str []) w (by rw [size_Str]; decide) (by rw [size_Str]; decide)
  rw [toList_Str, toList_Str, show keyF [5, 48, 48, 48, 48, 48, 48, 102, 102, 47] 1 0 [] = ([5, 48, 48, 48, 48, 48, 48, 102, 102, 47, 1], 0) from by decide +kernel] at h
  exact h
theorem sc_place (w : World) : Calls Try.prog 20 #[.string ⟨#[97, 47, 2, 1]⟩] w fun e w' => e = .returned (.tuple #[.agg #[.string ⟨#[]⟩, .int .i64 0, .int .i64 0, .string ⟨#[]⟩], .int .i64 12]) ∧ Below w.heap.size w w' := by
  have h := place_w (Str [97, 47, 2, 1]) w (by rw [size_Str]; decide)
  have e : (keyS ⟨[97, 47, 2, 1], [], 0, 0, []⟩).1 = false := by decide +kernel
  rw [toList_Str, show placeR [97, 47, 2, 1] = .tuple #[placeV [] 0 0 [], .int .i64 12] from by unfold placeR placeS; simp only [e]; rfl] at h
  exact h
theorem sc_text1 (w : World) : Calls Try.prog 28 #[.string ⟨#[97, 47, 98, 47]⟩] w fun e w' => e = .returned (.string ⟨#[47, 97, 47, 98]⟩) ∧ w = w' := by
  have h := text_w (Str [97, 47, 98, 47]) w (by rw [size_Str]; decide)
  rw [toList_Str, show textS [97, 47, 98, 47] = [47, 97, 47, 98] from by decide +kernel] at h
  exact h
theorem sc_text2 (w : World) : Calls Try.prog 28 #[.string ⟨#[]⟩] w fun e w' => e = .returned (.string ⟨#[47]⟩) ∧ w = w' := by
  have h := text_w (Str []) w (by rw [size_Str]; decide)
  rw [toList_Str, show textS [] = [47] from by decide +kernel] at h
  exact h
theorem sc_split1 (w : World) : Calls Try.prog 24 #[.string ⟨#[97, 47, 98, 47]⟩] w fun e w' => e = .returned (.agg #[.string ⟨#[97, 47]⟩, .string ⟨#[98]⟩, .int .i64 0]) ∧ Below w.heap.size w w' := by
  have h := lsplit_w (Str [97, 47, 98, 47]) w (by rw [size_Str]; decide)
  rw [toList_Str, show splitS [97, 47, 98, 47] = ([97, 47], [98], 0) from by decide +kernel] at h
  exact h
theorem sc_split2 (w : World) : Calls Try.prog 24 #[.string ⟨#[]⟩] w fun e w' => e = .returned (.agg #[.string ⟨#[]⟩, .string ⟨#[]⟩, .int .i64 337]) ∧ Below w.heap.size w w' := by
  have h := lsplit_w (Str []) w (by rw [size_Str]; decide)
  rw [toList_Str, show splitS [] = ([], [], 337) from by decide +kernel] at h
  exact h
theorem sc_under1 (w : World) : Calls Try.prog 26 #[.string ⟨#[97, 47, 98, 47]⟩, .string ⟨#[97, 47]⟩] w fun e w' => e = .returned (.bool true) ∧ w = w' := by
  have h := under_w (Str [97, 47, 98, 47]) (Str [97, 47]) w
  rw [toList_Str, toList_Str] at h
  exact h
theorem sc_under2 (w : World) : Calls Try.prog 26 #[.string ⟨#[97, 47]⟩, .string ⟨#[97, 47, 98, 47]⟩] w fun e w' => e = .returned (.bool false) ∧ w = w' := by
  have h := under_w (Str [97, 47]) (Str [97, 47, 98, 47]) w
  rw [toList_Str, toList_Str] at h
  exact h
theorem sc_valid1 (w : World) : Calls Try.prog 22 #[.string ⟨#[]⟩] w fun e w' => e = .returned (.bool true) ∧ Below w.heap.size w w' := by
  have h := valid_w (Str []) w (by rw [size_Str]; decide)
  rw [toList_Str, show validB [] = true from by decide +kernel] at h
  exact h
theorem sc_valid2 (w : World) : Calls Try.prog 22 #[.string ⟨#[97]⟩] w fun e w' => e = .returned (.bool false) ∧ Below w.heap.size w w' := by
  have h := valid_w (Str [97]) w (by rw [size_Str]; decide)
  rw [toList_Str, show validB [97] = false from by decide +kernel] at h
  exact h

set_option maxRecDepth 100000 in
set_option maxHeartbeats 2000000 in
theorem sanity_w (w : World) : Calls Try.prog 14 #[] w fun e w' => e = .returned (.bool true) ∧ Below w.heap.size w w' := by
  have HB : Hid (Below w.heap.size w w) := Lib.hid (Below.refl _ _)
  go_enter Try.func14, Try.ntmps14
  go_wp2_with (first
    | (go_at_call_of 16 (Value.string ⟨#[47, 97, 47, 98]⟩); refine (sc_parse1 _).mono ?_; rintro e w1 ⟨rfl, hb⟩; replace HB := Lib.hid (Below.next HB.out (Nat.le_refl _) hb); clear hb)
    | (go_at_call_of 16 (Value.string ⟨#[47]⟩); refine (sc_parse2 _).mono ?_; rintro e w1 ⟨rfl, hb⟩; replace HB := Lib.hid (Below.next HB.out (Nat.le_refl _) hb); clear hb)
    | (go_at_call_of 16 (Value.string ⟨#[47, 97, 47]⟩); refine (sc_parse3 _).mono ?_; rintro e w1 ⟨rfl, hb⟩; replace HB := Lib.hid (Below.next HB.out (Nat.le_refl _) hb); clear hb)
    | (go_at_call_of 16 (Value.string ⟨#[97]⟩); refine (sc_parse4 _).mono ?_; rintro e w1 ⟨rfl, hb⟩; replace HB := Lib.hid (Below.next HB.out (Nat.le_refl _) hb); clear hb)
    | (go_at_call 18; refine (sc_join _).mono ?_; rintro e w1 ⟨rfl, hb⟩; replace HB := Lib.hid (Below.next HB.out (Nat.le_refl _) hb); clear hb)
    | (go_at_call_of 31 (Value.int IntKind.i64 258); refine (sc_key1 _).mono ?_; rintro e w1 ⟨rfl, hb⟩; replace HB := Lib.hid (Below.next HB.out (Nat.le_refl _) hb); clear hb)
    | (go_at_call 31; refine (sc_key2 _).mono ?_; rintro e w1 ⟨rfl, hb⟩; replace HB := Lib.hid (Below.next HB.out (Nat.le_refl _) hb); clear hb)
    | (go_at_call 94; refine (sc_body _).mono ?_; rintro e w1 ⟨rfl, hb⟩; replace HB := Lib.hid (Below.next HB.out (Nat.le_refl _) hb); clear hb)
    | (go_at_call 20; refine (sc_place _).mono ?_; rintro e w1 ⟨rfl, hb⟩; replace HB := Lib.hid (Below.next HB.out (Nat.le_refl _) hb); clear hb)
    | (go_at_call_of 28 (Value.string ⟨#[97, 47, 98, 47]⟩); refine (sc_text1 _).mono ?_; rintro e w1 ⟨rfl, rfl⟩; replace HB := Lib.hid (Below.alloc HB.out HB.out.size (.cells #[.string ⟨#[]⟩, .int .i64 0, .int .i64 0, .string ⟨#[]⟩] 32)))
    | (go_at_call 28; refine (sc_text2 _).mono ?_; rintro e w1 ⟨rfl, rfl⟩)
    | (go_at_call_of 24 (Value.string ⟨#[97, 47, 98, 47]⟩); refine (sc_split1 _).mono ?_; rintro e w1 ⟨rfl, hb⟩; replace HB := Lib.hid (Below.next HB.out (Nat.le_refl _) hb); clear hb)
    | (go_at_call 24; refine (sc_split2 _).mono ?_; rintro e w1 ⟨rfl, hb⟩; replace HB := Lib.hid (Below.next HB.out (Nat.le_refl _) hb); clear hb)
    | (go_at_call 26; refine (sc_under1 _).mono ?_; rintro e w1 ⟨rfl, rfl⟩)
    | (go_at_call 26; refine (sc_under2 _).mono ?_; rintro e w1 ⟨rfl, rfl⟩)
    | (go_at_call_of 22 (Value.string ⟨#[97]⟩); refine (sc_valid2 _).mono ?_; rintro e w1 ⟨rfl, hb⟩; replace HB := Lib.hid (Below.next HB.out (Nat.le_refl _) hb); clear hb)
    | (go_at_call 22; refine (sc_valid1 _).mono ?_; rintro e w1 ⟨rfl, hb⟩; replace HB := Lib.hid (Below.next HB.out (Nat.le_refl _) hb); clear hb))
  go_outline
  go_ret
  exact ⟨rfl, HB.out⟩

end Go.Proofs.Yticlomakmcjcfaa
