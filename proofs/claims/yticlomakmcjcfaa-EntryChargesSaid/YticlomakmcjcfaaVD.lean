/-
  Walks: the reference's names and paths.
-/
import Derived.Test.YticlomakmcjcfaaVE
import Derived.Test.YticlomakmcjcfaaS5
import Derived.Deep.QuietTactic
import Derived.BigQuiet
namespace Go.Proofs.Yticlomakmcjcfaa
open Go.RowKit Go.Sort
set_option linter.unusedVariables false

set_option maxHeartbeats 400000 in
theorem rname_w (l : Bs) (w : World) (hs : l.length ≤ maxLen) :
    Calls Try.prog 96 #[.string (Str l)] w fun e w' => e = .returned (.bool (nameB l)) ∧ w = w' := by
  unfold maxLen at hs
  by_cases g : (l.isEmpty = true ∨ 12 < (l.length : Int)) ∨ l = [46] ∨ l = [46, 46]
  · have hn : nameB l = false := nameB_bad g
    have Hn := Lib.hid hn
    clear hn
    have g' : (l.length : Int) < 1 ∨ (¬ (l.length : Int) < 1 ∧ 12 < (l.length : Int)) ∨ (¬ (l.length : Int) < 1 ∧ ¬ 12 < (l.length : Int) ∧ (l == [46]) = true) ∨ (¬ (l.length : Int) < 1 ∧ ¬ 12 < (l.length : Int) ∧ (l == [46]) = false ∧ (l == [46, 46]) = true) := by
      rcases g with (g | g) | g | g
      · left; simp at g; subst g; decide
      · by_cases h : (l.length : Int) < 1
        · exact .inl h
        · exact .inr (.inl ⟨h, g⟩)
      · subst g; right; right; left; decide
      · subst g; right; right; right; decide
    clear g
    rcases g' with g | ⟨g1, g2⟩ | ⟨g1, g2, g3⟩ | ⟨g1, g2, g3, g4⟩
    all_goals
      go_enter Try.func96, Try.ntmps96
      go_wp2
      go_ret
      exact ⟨ret_bool Hn.out.symm, rfl⟩
  · have h1 : l.isEmpty = false := by simp at g ⊢; exact g.1.1
    have h2 : (l.length : Int) ≤ 12 := by omega
    have h0 : ¬ (l.length : Int) < 1 := by simp at h1; have := List.length_pos_iff.2 h1; omega
    have h3 : (l == [46]) = false := by simp at g ⊢; exact g.2.1
    have h4 : (l == [46, 46]) = false := by simp at g ⊢; exact g.2.2
    have hn : nameB l = l.all chB := nameB_all h1 h2 h3 h4
    have Hn := Lib.hid hn
    have H1 := Lib.hid h1
    clear hn g h1
    go_enter Try.func96, Try.ntmps96
    go_wp2
    go_loop [3] (fun i => ∃ k : Nat, k ≤ l.length ∧ i = .int .i64 k ∧ Hid ((l.take k).all chB = true)) (fun i => l.length - (intOf i).toNat)
    case atStart => exact ⟨0, Nat.zero_le _, rfl, Lib.hid rfl⟩
    case round =>
      obtain ⟨k, hk, rfl, hall⟩ := hrel
      by_cases hlt : k < l.length
      · have hg := Lib.hid (List.getElem?_eq_getElem hlt)
        have ht : Hid (l.take (k + 1) = l.take k ++ [l[k]]) := Lib.hid (by rw [List.take_add_one, List.getElem?_eq_getElem hlt]; rfl)
        go_wp2
        all_goals first
          | (go_ret
             exact ⟨ret_bool (by rw [Hn.out]; exact (all_bad hg.out (chB_no (by
               go_light; (try simp only [beq_iff_eq] at *); omega))).symm), rfl⟩)
          | (go_round
             case rel => exact ⟨k + 1, by omega, by go_num, Lib.hid (by
               rw [ht.out, List.all_append, hall.out]
               have : chB l[k] = true := chB_of (by go_light; omega) (by go_light; omega) (by go_light; (try simp only [beq_eq_false_iff_ne, ne_eq] at *); omega)
               simp [this])⟩
             case measure => simp [intOf]; omega)
      · go_wp2
        go_ret
        exact ⟨ret_bool (by rw [Hn.out, ← hall.out, List.take_of_length_le (by omega)]), rfl⟩



set_option maxRecDepth 100000 in
set_option maxHeartbeats 4000000 in
theorem rnames_w (p : Bs) (w : World) (hp : p.length ≤ 90000) :
    Calls Try.prog 100 #[.string (Str p)] w fun e w' => ∃ v', e = .returned (.tuple #[v', .bool ((namesS p).2.isEmpty)]) ∧ IsStrs w' v' (namesS p).1 ∧ Below w.heap.size w w' := by
  have mixed := mixedA
  go_enter Try.func100, Try.ntmps100
  go_wp2
  go_loopw [4, 5, 6] (fun vo vl i wr => ∃ (k : Nat) (out : List Bs) (last : Bs), k ≤ p.length ∧ i = .int .i64 k ∧ vl = .string (Str last) ∧ Hid (wr.ownsRow w.heap.size 9 1 vo out.length (cellsK out)) ∧ Hid (namesS (p.take k) = (out, last)) ∧ out.length ≤ k ∧ last.length ≤ k ∧ Below w.heap.size w wr) (fun _ _ i _ => p.length - (intOf i).toNat)
  case atStart => exact ⟨0, [], [], Nat.zero_le _, rfl, rfl, Lib.hid (own_emptyK w w.heap.size (Nat.le_refl _)), Lib.hid rfl, Nat.le_refl _, Nat.le_refl _, below_box _⟩
  case round =>
    obtain ⟨k, out, last, hk, rfl, rfl, Hown, Hnm, hol, hll, hbel⟩ := hrel
    have Hbel := Lib.hid hbel
    clear hbel
    by_cases hlt : k < p.length
    · have hs := namesS_snoc (p.take k) p[k]
      have ht : p.take (k + 1) = p.take k ++ [p[k]] := by rw [List.take_add_one, List.getElem?_eq_getElem hlt]; rfl
      rw [← ht, Hnm.out] at hs
      clear ht
      by_cases hc : p[k] = 47
      · rw [if_pos hc] at hs
        have hb : ((p[k].toNat : Int) == 47) = true := by rw [hc]; rfl
        have Hs := Lib.hid hs
        clear hs hc
        go_wp2_with (at_builtin; refine append_strs rfl _ _ rfl w.heap.size _ out rfl (Hown.out.alloc _) _ [last] rfl (one_strs (by first | rfl | simp) last) (by simp; omega) (size_box (n := 0) _ Hbel.out.size) ?_; intro v8 w8 hown hb; have Hown8 := Lib.hid hown; have H8 : Hid (Below w.heap.size w w8) := Lib.hid ((Hbel.out.alloc Hbel.out.size _).trans hb); clear hown hb)
        go_wp2
        go_roundw
        case rel => exact ⟨k + 1, out ++ [last], [], by omega, by go_num, rfl, Hown8, Hs, by simp; omega, by simp, H8.out⟩
        case measure => simp [intOf]; omega
      · rw [if_neg hc] at hs
        have hb : ((p[k].toNat : Int) == 47) = false := by
          rw [beq_eq_false_iff_ne]; intro h; exact hc ((u8_eq (n := 47) (by omega)).1 h)
        have Hs := Lib.hid hs
        have hx : (p.drop k).take (k + 1 - k) = [p[k]] := by
          rw [List.drop_eq_getElem_cons hlt, show k + 1 - k = 1 by omega]; rfl
        clear hs hc
        go_wp2
        go_roundw
        case rel => exact ⟨k + 1, out, last ++ [p[k]], by omega, by go_num, by rw [extract_Str, toList_Str, hx, Str_append], Hown, Hs, by omega, by simp; omega, Hbel.out⟩
        case measure => simp [intOf]; omega
    · have he : namesS p = (out, last) := by rw [← Hnm.out, List.take_of_length_le (by omega)]
      go_wp2
      go_ret2
      rw [he]
      exact ⟨_, rfl, IsStrs.owned Hown.out, Hbel.out⟩


set_option maxRecDepth 100000 in
set_option maxHeartbeats 4000000 in
theorem rvalid_w (p : Bs) (w : World) (hp : p.length ≤ 90000) :
    Calls Try.prog 23 #[.string (Str p)] w fun e w' => e = .returned (.bool (validB p)) ∧ Below w.heap.size w w' := by
  have mixed := mixedA
  have Hn := Lib.hid (rnames_w p w hp)
  have hv := valid_names p
  have hls := (namesS_len p).1
  have he := namesS_each p
  generalize (namesS p).1 = l at *
  generalize (namesS p).2 = last at *
  have Hv := Lib.hid hv
  have He := Lib.hid he
  clear hv he
  go_enter Try.func23, Try.ntmps23
  go_wp2_with (go_at_call 100; refine Hn.out.mono ?_; rintro e w1 ⟨v', rfl, hl, hb⟩; obtain ⟨g, off, cap, q, rfl, hlc, hcm, hpp, hcc⟩ := hl.form; unfold maxLen at hcm; have HP := Lib.hid hpp; have HC := Lib.hid hcc; have HB := Lib.hid hb; clear hl hpp hcc hb)
  go_loop [5] (fun i => ∃ k : Nat, k ≤ l.length ∧ i = .int .i64 k ∧ Hid ((l.take k).all nameB = true)) (fun i => l.length - (intOf i).toNat)
  case atStart => exact ⟨0, Nat.zero_le _, rfl, Lib.hid rfl⟩
  case round =>
    obtain ⟨k, hk, rfl, hall⟩ := hrel
    by_cases hlt : k < l.length
    · obtain ⟨rfl, c0⟩ := HC.out k hlt
      have ht : Hid (l.take (k + 1) = l.take k ++ [l[k]]) := Lib.hid (by rw [List.take_add_one, List.getElem?_eq_getElem hlt]; rfl)
      have hln : (l[k]).length ≤ 90000 := Nat.le_trans (He.out _ (List.getElem_mem hlt)) hp
      have Hm := Lib.hid (List.getElem_mem hlt)
      generalize l[k] = x at *
      have Hr := Lib.hid (rname_w x w1 (by unfold maxLen; omega))
      cases hB : nameB x with
      | true =>
        have HB2 := Lib.hid hB
        clear hB
        go_wp2_with (go_at_call 96; refine Hr.out.mono ?_; rw [HB2.out]; rintro e w' ⟨rfl, rfl⟩)
        go_round
        case rel => exact ⟨k + 1, by omega, by go_num, Lib.hid (by rw [ht.out, List.all_append, hall.out]; simp [HB2.out])⟩
        case measure => simp [intOf]; omega
      | false =>
        have HB2 := Lib.hid hB
        clear hB
        go_wp2_with (go_at_call 96; refine Hr.out.mono ?_; rw [HB2.out]; rintro e w' ⟨rfl, rfl⟩)
        go_ret
        refine ⟨ret_bool ?_, HB.out⟩
        rw [← Hv.out]
        have : l.all nameB = false := by rw [List.all_eq_false]; exact ⟨x, Hm.out, by simp [HB2.out]⟩
        rw [this]; rfl
    · go_wp2
      go_ret
      refine ⟨ret_bool ?_, HB.out⟩
      rw [← Hv.out]
      have h := hall.out
      rw [List.take_of_length_le (by omega)] at h
      rw [h]; rfl

theorem parse_bad {l : Bs} (h1 : ¬ l = [47]) (h : l.length < 2 ∨ 200 < l.length ∨ l[0]? ≠ some 47 ∨ l.getLast? = some 47 ∨ validB (l.tail ++ [47]) = false) : parseS l = ([], 10) := by
  unfold parseS
  rw [if_neg h1]
  by_cases g : l = [] ∨ ¬ l[0]? = some 47 ∨ 200 < l.length
  · rw [if_pos g]
  · rw [if_neg g]
    have hv : validB (l.tail ++ [47]) = false := by
      simp only [not_or] at g
      rcases h with h | h | h | h | h
      · have : l = [47] := by
          match l, h, g with
          | [a], _, g => have := g.2.1; simp at this; rw [this]
        exact absurd this h1
      · omega
      · exact absurd h g.2.1
      · obtain ⟨q, rfl⟩ : ∃ q, l = q ++ [47] := by
          refine ⟨l.dropLast, ?_⟩
          have hne : l ≠ [] := g.1
          have := List.getLast?_eq_some_getLast hne
          rw [this] at h
          simp only [Option.some.injEq] at h
          have h2 := List.dropLast_concat_getLast hne
          rw [h] at h2
          exact h2.symm
        cases q with
        | nil => exact absurd rfl h1
        | cons a q => show validB (q ++ [47] ++ [47]) = false; exact valid_two
      · exact h
    rw [hv]; rfl
theorem parse_good {l : Bs} (h1 : 2 ≤ l.length) (h2 : l.length ≤ 200) (h3 : l[0]? = some 47) (h4 : validB (l.tail ++ [47]) = true) : parseS l = (l.tail ++ [47], 0) := by
  unfold parseS
  rw [if_neg (by intro e; subst e; simp at h1), if_neg (by rintro (h | h | h); (subst h; simp at h1); exact h h3; omega), if_pos h4]

set_option maxRecDepth 100000 in
set_option maxHeartbeats 4000000 in
theorem rparse_w (l : Bs) (w : World) (hs : l.length ≤ maxLen) :
    Calls Try.prog 17 #[.string (Str l)] w fun e w' => e = .returned (.tuple #[.string (Str (parseS l).1), .int .i64 (parseS l).2]) ∧ Below w.heap.size w w' := by
  unfold maxLen at hs
  by_cases h1 : l = [47]
  · subst h1
    have H : Hid (parseS [47] = ([], 0)) := Lib.hid (by decide)
    go_enter Try.func17, Try.ntmps17
    go_wp2
    go_ret2
    rw [H.out]
    exact ⟨rfl, Below.refl _ _⟩
  · have d1 : (l == [47]) = false := by simpa using h1
    by_cases h2 : (l.length : Int) < 2
    · have H := Lib.hid (parse_bad h1 (.inl (by omega)))
      clear h1
      go_enter Try.func17, Try.ntmps17
      go_wp2
      go_ret2
      rw [H.out]
      exact ⟨rfl, Below.refl _ _⟩
    · by_cases h3 : 200 < (l.length : Int)
      · have H := Lib.hid (parse_bad h1 (.inr (.inl (by omega))))
        clear h1
        go_enter Try.func17, Try.ntmps17
        go_wp2
        go_ret2
        rw [H.out]
        exact ⟨rfl, Below.refl _ _⟩
      · have hp : 0 < l.length := by omega
        have g0 : l[0]? = some l[0] := List.getElem?_eq_getElem hp
        by_cases h4 : l[0] = 47
        · have d4 : ((l[0].toNat : Int) != 47) = false := by rw [h4]; rfl
          have hq : l.length - 1 < l.length := by omega
          have gl : l.getLast? = some l[l.length - 1] := by rw [List.getLast?_eq_getElem?, List.getElem?_eq_getElem hq]
          have hw1 : IntKind.i64.wrap ((l.length : Int) - 1) = ((l.length - 1 : Nat) : Int) := by rw [IntKind.wrap_i64]; omega
          by_cases h5 : l[l.length - 1] = 47
          · have d5 : ((l[l.length - 1].toNat : Int) == 47) = true := by rw [h5]; rfl
            have H := Lib.hid (parse_bad h1 (.inr (.inr (.inr (.inl (by rw [gl, h5]))))))
            clear h1 h4 h5 g0 gl
            go_enter Try.func17, Try.ntmps17
            go_wp2
            go_ret2
            rw [H.out]
            exact ⟨rfl, Below.refl _ _⟩
          · have d5 : ((l[l.length - 1].toNat : Int) == 47) = false := by
              rw [beq_eq_false_iff_ne]; intro h; exact h5 ((u8_eq (n := 47) (by omega)).1 h)
            have hx : (Str l).extract 1 l.length = Str l.tail := by rw [extract_StrN]; simp
            cases hV : validB (l.tail ++ [47]) with
            | true =>
              have H := Lib.hid (parse_good (by omega) (by omega) (by rw [g0, h4]) hV)
              have Hv := Lib.hid (rvalid_w (l.tail ++ [47]) w (by simp; omega))
              have HV := Lib.hid hV
              clear h1 h4 h5 g0 gl hV
              go_enter Try.func17, Try.ntmps17
              go_wp2_with (go_at_call 23; refine Hv.out.mono ?_; rw [HV.out]; rintro e w1 ⟨rfl, hb⟩)
              go_ret2
              rw [H.out]
              exact ⟨rfl, hb⟩
            | false =>
              have H := Lib.hid (parse_bad h1 (.inr (.inr (.inr (.inr hV)))))
              have Hv := Lib.hid (rvalid_w (l.tail ++ [47]) w (by simp; omega))
              have HV := Lib.hid hV
              clear h1 h4 h5 g0 gl hV
              go_enter Try.func17, Try.ntmps17
              go_wp2_with (go_at_call 23; refine Hv.out.mono ?_; rw [HV.out]; rintro e w1 ⟨rfl, hb⟩)
              go_ret2
              rw [H.out]
              exact ⟨rfl, hb⟩
        · have d4 : ((l[0].toNat : Int) != 47) = true := by
            simp only [bne_iff_ne, ne_eq]
            intro h; exact h4 ((u8_eq (n := 47) (by omega)).1 h)
          have H := Lib.hid (parse_bad h1 (.inr (.inr (.inl (by rw [g0]; simpa using h4)))))
          clear h1 h4 g0
          go_enter Try.func17, Try.ntmps17
          go_wp2
          go_ret2
          rw [H.out]
          exact ⟨rfl, Below.refl _ _⟩

end Go.Proofs.Yticlomakmcjcfaa
