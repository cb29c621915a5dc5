/-
  Walks: Parse, Text, Join, Under, Split of package path.
-/
import Derived.Test.YticlomakmcjcfaaW5
namespace Go.Proofs.Yticlomakmcjcfaa
open Go.RowKit
set_option linter.unusedVariables false

set_option maxHeartbeats 400000 in
theorem valid_w (s : ByteArray) (w : World) (hs : s.size ≤ maxLen) :
    Calls Try.prog 22 #[.string s] w fun e w' => e = .returned (.bool (validB s.toList)) ∧ Below w.heap.size w w' := by
  have Hs := Lib.hid hs
  unfold maxLen at hs
  go_enter Try.func22, Try.ntmps22
  go_wp2_with fail
  refine (path_w w.heap.size 116 #[.string s] s _ Hs.out (by exact Blk.new _ _ _) rfl).mono ?_
  rintro e w1 ⟨rfl, ht⟩
  have c0 := ht.1.cell 0
  have hB : Below w.heap.size w w1 := ((Below.refl _ w).alloc (Nat.le_refl _) _).trans (ht.below (Nat.le_refl _))
  simp at c0
  have HB := Lib.hid hB
  clear hB ht
  have Hv : Hid (validB s.toList = (restP s.toList).isEmpty) := Lib.hid (by unfold validB; cases restP s.toList <;> rfl)
  generalize restP s.toList = r at *
  go_wp2
  go_ret
  exact ⟨ret_bool (by rw [Hv.out]), HB.out⟩

theorem Str_append (a b : Bs) : Str a ++ Str b = Str (a ++ b) := by
  rw [← Str_toList (Str a ++ Str b)]
  congr 1
  rw [Lib.toList_data]; simp [Str]
theorem Str_lit (a b : Bs) : Str a ++ (⟨b.toArray⟩ : ByteArray) = Str (a ++ b) := Str_append a b
theorem lit_Str (a b : Bs) : (⟨b.toArray⟩ : ByteArray) ++ Str a = Str (b ++ a) := Str_append b a
attribute [go_sem] Str_append Str_lit lit_Str
theorem ret2 {a b : ByteArray} {m n : Int} (h : a = b) (k : m = n) : Ending.returned (.tuple #[.string a, .int .i64 m]) = .returned (.tuple #[.string b, .int .i64 n]) := by rw [h, k]

set_option maxHeartbeats 1000000 in
theorem parse_w (s : ByteArray) (w : World) (hs : s.size ≤ maxLen) :
    Calls Try.prog 16 #[.string s] w fun e w' => e = .returned (.tuple #[.string (Str (parseS s.toList).1), .int .i64 (parseS s.toList).2]) ∧ Below w.heap.size w w' := by
  obtain ⟨l, rfl⟩ := Str_ex s
  have Hs := Lib.hid hs
  rw [size_Str] at hs
  rw [toList_Str]
  unfold maxLen at hs
  by_cases h1 : l = [47]
  · subst h1
    have H : Hid (parseS [47] = ([], 0)) := Lib.hid (by decide)
    go_enter Try.func16, Try.ntmps16
    go_wp2
    go_ret2
    rw [H.out]
    exact ⟨rfl, Below.refl _ _⟩
  · have d1 : (l == [47]) = false := by simpa using h1
    by_cases h2 : l = []
    · subst h2
      have H : Hid (parseS [] = ([], 10)) := Lib.hid (by decide)
      go_enter Try.func16, Try.ntmps16
      go_wp2
      go_ret2
      rw [H.out]
      exact ⟨rfl, Below.refl _ _⟩
    · have d2 : l.isEmpty = false := by simpa using h2
      have hp : 0 < l.length := List.length_pos_iff.2 h2
      have g0 : l[0]? = some l[0] := List.getElem?_eq_getElem hp
      by_cases h3 : l[0] = 47
      · have d3 : ((l[0].toNat : Int) != 47) = false := by rw [h3]; rfl
        by_cases h4 : 200 < (l.length : Int)
        · have H : Hid (parseS l = ([], 10)) := Lib.hid (by unfold parseS; rw [if_neg h1, if_pos (by right; right; omega)])
          clear h1 h2 h3 g0
          go_enter Try.func16, Try.ntmps16
          go_wp2
          go_ret2
          rw [H.out]
          exact ⟨rfl, Below.refl _ _⟩
        · have h4' : (l.length : Int) ≤ 200 := by omega
          have hv := valid_w (Str (l.tail ++ [47]))
          rw [toList_Str] at hv
          have H : Hid (parseS l = if validB (l.tail ++ [47]) = true then (l.tail ++ [47], 0) else ([], 10)) := Lib.hid (by
            unfold parseS; rw [if_neg h1, if_neg (by rw [g0, h3]; simp; exact ⟨h2, by omega⟩)])
          have Hr : Hid ((Str (l.tail ++ [47])).size ≤ maxLen) := Lib.hid (by rw [size_Str]; unfold maxLen; simp; omega)
          clear h1 h2 h3 h4 g0
          cases hV : validB (l.tail ++ [47]) with
          | true =>
            rw [hV] at hv
            have Hv := Lib.hid hv
            have HV := Lib.hid hV
            clear hv hV
            go_enter Try.func16, Try.ntmps16
            go_wp2_with (go_at_call 22; refine (Hv.out _ Hr.out).mono ?_; rintro e w1 ⟨rfl, hb⟩)
            go_ret2
            rw [H.out, HV.out]
            exact ⟨rfl, hb⟩
          | false =>
            rw [hV] at hv
            have Hv := Lib.hid hv
            have HV := Lib.hid hV
            clear hv hV
            go_enter Try.func16, Try.ntmps16
            go_wp2_with (go_at_call 22; refine (Hv.out _ Hr.out).mono ?_; rintro e w1 ⟨rfl, hb⟩)
            go_ret2
            rw [H.out, HV.out]
            exact ⟨rfl, hb⟩
      · have d3 : ((l[0].toNat : Int) != 47) = true := by
          simp only [bne_iff_ne, ne_eq]
          intro h; exact h3 ((u8_eq (n := 47) (by omega)).1 h)
        have H : Hid (parseS l = ([], 10)) := Lib.hid (by unfold parseS; rw [if_neg h1, if_pos (by right; left; rw [g0]; simpa using h3)])
        clear h1 h2 h3 g0
        go_enter Try.func16, Try.ntmps16
        go_wp2
        go_ret2
        rw [H.out]
        exact ⟨rfl, Below.refl _ _⟩

set_option maxRecDepth 100000 in
set_option maxHeartbeats 1000000 in
theorem join_w (p m : ByteArray) (w : World) (hp : p.size ≤ 140737488355328) (hm : m.size ≤ 140737488355328) :
    Calls Try.prog 18 #[.string p, .string m] w fun e w' => e = .returned (.tuple #[.string (Str (joinS p.toList m.toList).1), .int .i64 (joinS p.toList m.toList).2]) ∧ Below w.heap.size w w' := by
  obtain ⟨p, rfl⟩ := Str_ex p
  obtain ⟨m, rfl⟩ := Str_ex m
  have Hp : Hid ((Str p).size ≤ maxLen) := Lib.hid (by unfold maxLen; omega)
  have Hm : Hid ((Str m).size ≤ maxLen) := Lib.hid (by unfold maxLen; omega)
  rw [size_Str] at hp hm
  rw [toList_Str, toList_Str]
  have hv := valid_w (Str p)
  have hn := isName_w (Str m)
  rw [toList_Str] at hv hn
  cases hV : validB p with
  | false =>
    have H : Hid (joinS p m = ([], 10)) := Lib.hid (by unfold joinS; rw [if_neg (by rw [hV]; simp)])
    rw [hV] at hv
    have Hv := Lib.hid hv
    clear hv hV hn
    go_enter Try.func18, Try.ntmps18
    go_wp2_with (go_at_call 22; refine (Hv.out _ Hp.out).mono ?_; rintro e w1 ⟨rfl, hb⟩)
    go_ret2
    rw [H.out]
    exact ⟨rfl, hb⟩
  | true =>
    cases hN : nameB m with
    | false =>
      have H : Hid (joinS p m = ([], 11)) := Lib.hid (by unfold joinS; rw [if_pos hV, if_neg (by rw [hN]; simp)])
      rw [hV] at hv
      rw [hN] at hn
      have Hv := Lib.hid hv
      have Hn := Lib.hid hn
      clear hv hV hn hN
      go_enter Try.func18, Try.ntmps18
      go_wp2_with (first
        | (go_at_call 22; refine (Hv.out _ Hp.out).mono ?_; rintro e w1 ⟨rfl, hb⟩)
        | (go_at_call 95; refine (Hn.out _ Hm.out).mono ?_; rintro e w1 ⟨rfl, rfl⟩))
      go_ret2
      rw [H.out]
      exact ⟨rfl, hb⟩
    | true =>
      by_cases h : p.length + m.length + 1 ≤ 200
      · have H : Hid (joinS p m = (p ++ m ++ [47], 0)) := Lib.hid (by unfold joinS; rw [if_pos hV, if_pos hN, if_pos h])
        rw [hV] at hv
        rw [hN] at hn
        have Hv := Lib.hid hv
        have Hn := Lib.hid hn
        clear hv hV hn hN
        go_enter Try.func18, Try.ntmps18
        go_wp2_with (first
          | (go_at_call 22; refine (Hv.out _ Hp.out).mono ?_; rintro e w1 ⟨rfl, hb⟩)
          | (go_at_call 95; refine (Hn.out _ Hm.out).mono ?_; rintro e w1 ⟨rfl, rfl⟩))
        go_ret2
        rw [H.out]
        refine ⟨ret2 ?_ rfl, hb⟩
        simp
      · have H : Hid (joinS p m = ([], 2)) := Lib.hid (by unfold joinS; rw [if_pos hV, if_pos hN, if_neg h])
        rw [hV] at hv
        rw [hN] at hn
        have Hv := Lib.hid hv
        have Hn := Lib.hid hn
        clear hv hV hn hN
        go_enter Try.func18, Try.ntmps18
        go_wp2_with (first
          | (go_at_call 22; refine (Hv.out _ Hp.out).mono ?_; rintro e w1 ⟨rfl, hb⟩)
          | (go_at_call 95; refine (Hn.out _ Hm.out).mono ?_; rintro e w1 ⟨rfl, rfl⟩))
        go_ret2
        rw [H.out]
        exact ⟨rfl, hb⟩

theorem under_w (p q : ByteArray) (w : World) :
    Calls Try.prog 26 #[.string p, .string q] w fun e w' => e = .returned (.bool (q.toList.isPrefixOf p.toList)) ∧ w = w' := by
  have h := Try.strings_HasPrefix p q
  have H := Lib.hid h
  clear h
  go_enter Try.func26, Try.ntmps26
  go_wp2_with (go_at_call 102; refine (H.out _).mono ?_; rintro e w' ⟨rfl, rfl⟩)
  go_ret
  exact ⟨ret_bool (by unfold Lib.hasPrefix; rw [Lib.toList_data, Lib.toList_data]), rfl⟩

end Go.Proofs.Yticlomakmcjcfaa
