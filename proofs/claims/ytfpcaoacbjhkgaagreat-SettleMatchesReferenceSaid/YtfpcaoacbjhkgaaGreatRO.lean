/-
  Walks of package route: the functions that it hands on, and whether a list of spans has one at which they say yes.
-/
import Derived.Test.YtfpcaoacbjhkgaaGreatRN
namespace Go.Proofs.YtfpcaoacbjhkgaaGreat
open Go.RowKit Go.Sort
set_option linter.unusedVariables false

set_option maxHeartbeats 1000000 in
theorem partC_w (bs : Nat) (s x : Sp) (w : World) (hc : w.cell? ⟨bs, 0, none⟩ = some (.string (Str s.1)) ∧ w.cell? ⟨bs, 1, none⟩ = some (.string (Str s.2))) :
    Calls Tryz.prog 58 #[strS x, .pointer (some ⟨bs, 0, none⟩)] w fun e w' => e = .returned (.bool (!emptyB (meetS x s))) ∧ Grown w w' := by
  have mixed := mixedA
  have HM := Lib.hid (fun wx => meet_w x s wx)
  have HEM := Lib.hid (fun lo hi wx => empty_w lo hi wx)
  obtain ⟨c0, c1⟩ := hc
  have hbs := cell_lt c0
  generalize meetS x s = y at *
  obtain ⟨y1, y2⟩ := y
  obtain ⟨x1, x2⟩ := x
  simp only [strS] at HM ⊢
  generalize hem : emptyB (y1, y2) = em at *
  have HEY : Hid (∀ wx, Calls Tryz.prog 59 #[.agg #[.string (Str y1), .string (Str y2)]] wx fun e w' => e = .returned (.bool em) ∧ Grown wx w') := Lib.hid (fun wx => by rw [← hem]; exact HEM.out y1 y2 wx)
  clear hem HEM
  cases em
  all_goals
    go_enter Tryz.func58, Tryz.ntmps58
    go_wp2_with (first
      | (go_at_call 60; (refine (HM.out _).mono ?_); rintro e w2 ⟨rfl, hg2⟩; have Hg2 := Lib.hid hg2; clear hg2)
      | (go_at_call 59; (refine (HEY.out _).mono ?_); rintro e w3 ⟨rfl, hg3⟩; have Hg3 := Lib.hid hg3; clear hg3))
    go_ret
    exact ⟨by first | rfl | simp, (((Grown.refl w).alloc _).trans Hg2.out).trans Hg3.out⟩
set_option maxHeartbeats 1000000 in
theorem liesC_w (bs : Nat) (s x : Sp) (w : World) (hc : w.cell? ⟨bs, 0, none⟩ = some (.string (Str s.1)) ∧ w.cell? ⟨bs, 1, none⟩ = some (.string (Str s.2))) :
    Calls Tryz.prog 89 #[strS x, .pointer (some ⟨bs, 0, none⟩)] w fun e w' => e = .returned (.bool (!coversB s x)) ∧ Grown w w' := by
  have mixed := mixedA
  have hm := fun wx => covers_w s x wx
  obtain ⟨c0, c1⟩ := hc
  have hbs := cell_lt c0
  obtain ⟨x1, x2⟩ := x
  obtain ⟨s1, s2⟩ := s
  simp only [strS] at hm ⊢
  generalize coversB (s1, s2) (x1, x2) = em at *
  have HM := Lib.hid hm
  clear hm
  cases em
  all_goals
    go_enter Tryz.func89, Tryz.ntmps89
    go_wp2_with (go_at_call 90; (refine (HM.out _).mono ?_); rintro e w2 ⟨rfl, hg2⟩; have Hg2 := Lib.hid hg2; clear hg2)
    go_ret
    exact ⟨by first | rfl | simp, ((Grown.refl w).alloc _).trans Hg2.out⟩

set_option maxRecDepth 100000 in
set_option maxHeartbeats 2000000 in
theorem indexP_w (v : Value) (l : List Sp) (bs : Nat) (s : Sp) (w : World) (h : IsSpans w v l) (hp : w.cell? ⟨bs, 0, none⟩ = some (.string (Str s.1)) ∧ w.cell? ⟨bs, 1, none⟩ = some (.string (Str s.2))) :
    Calls Tryz.prog 97 #[v, .func (.func 58) #[] #[.pointer (some ⟨bs, 0, none⟩)]] w fun e w' => ∃ r : Int, e = .returned (.int .i64 r) ∧ decide (0 ≤ r) = l.any (fun x => !emptyB (meetS x s)) ∧ Grown w w' := by
  have mixed := mixedA
  have H := Lib.hid h
  obtain ⟨PQ, HP⟩ : ∃ PQ : Sp → Bool, ∀ x, (!emptyB (meetS x s)) = PQ x := ⟨fun x => (!emptyB (meetS x s)), fun x => rfl⟩
  have HL := Lib.hid (fun wx (hx : Grown w wx) x => partC_w bs s x wx (hx.keepS hp))
  simp only [HP] at HL
  clear hp
  obtain ⟨a, cap, rfl, hlc, hcm, -⟩ := h
  unfold maxLen at hcm
  have HPQ : Hid (∀ x, (!emptyB (meetS x s)) = PQ x) := Lib.hid HP
  have HE : Hid (l.any (fun x => !emptyB (meetS x s)) = l.any PQ) := Lib.hid (by congr 1; funext x; exact HP x)
  rw [HE.out]
  clear HP HPQ HE
  go_enter Tryz.func97, Tryz.ntmps97
  go_wp2
  go_loopw [8] (fun i wr => ∃ k : Nat, k ≤ l.length ∧ i = .int .i64 k ∧ Grown w wr ∧ (l.take k).any PQ = false) (fun i _ => l.length - (intOf i).toNat)
  case atStart => exact ⟨0, Nat.zero_le _, rfl, Grown.refl _, by simp⟩
  case round =>
    obtain ⟨k, hk, rfl, hg, hno⟩ := hrel
    have Hg := Lib.hid hg
    have Hno := Lib.hid hno
    clear hg hno
    by_cases hlt : k < l.length
    · obtain ⟨b, off, cap', he, hbl, hlz, x0, x1⟩ := span_cells (H.out.below (Hg.out.below (Nat.le_refl _))) k hlt
      injection he with he1 he2 he3
      subst he1 he3
      clear he2
      have hltz : (k : Int) < (l.length : Int) := by omega
      have HT := Lib.hid (show (l.take (k + 1)).any PQ = ((l.take k).any PQ || PQ l[k]) by rw [List.take_succ_eq_append_getElem hlt, List.any_append]; simp)
      have HA := Lib.hid (fun (h : PQ l[k] = true) => (List.any_eq_true.2 ⟨l[k], List.getElem_mem hlt, h⟩ : l.any PQ = true))
      have HC := Lib.hid (HL.out _ Hg.out l[k])
      generalize l[k] = x at *
      generalize hlk : PQ x = lk at *
      have Hlk := Lib.hid hlk
      clear hlk
      cases lk
      all_goals
        go_wp2_with (go_at_call 58; refine HC.out.mono ?_; rintro e w2 ⟨rfl, hg2⟩; have Hg2 := Lib.hid hg2; clear hg2)
      · go_roundw
        case rel => exact ⟨k + 1, by omega, by go_num, Hg.out.trans Hg2.out, by rw [HT.out, Hno.out]; rfl⟩
        case measure => simp [intOf]; omega
      · go_ret
        exact ⟨_, rfl, by rw [HA.out trivial]; simp, Hg.out.trans Hg2.out⟩
    · obtain rfl : k = l.length := by omega
      rw [List.take_length] at Hno
      go_wp2
      go_ret
      exact ⟨_, rfl, by rw [Hno.out]; rfl, Hg.out⟩
theorem containsP_w (v : Value) (l : List Sp) (bs : Nat) (s : Sp) (w : World) (h : IsSpans w v l) (hp : w.cell? ⟨bs, 0, none⟩ = some (.string (Str s.1)) ∧ w.cell? ⟨bs, 1, none⟩ = some (.string (Str s.2))) :
    Calls Tryz.prog 61 #[v, .func (.func 58) #[] #[.pointer (some ⟨bs, 0, none⟩)]] w fun e w' => e = .returned (.bool (l.any (fun x => !emptyB (meetS x s)))) ∧ Grown w w' := by
  have HI := Lib.hid (indexP_w v l bs s w h hp)
  clear h hp
  go_enter Tryz.func61, Tryz.ntmps61
  go_wp2_with (go_at_call 97; refine HI.out.mono ?_; rintro e w2 ⟨r, rfl, hr, hg2⟩; have Hg2 := Lib.hid hg2; have Hr := Lib.hid hr; clear hg2 hr)
  go_ret
  exact ⟨ret_bool (by rw [← Hr.out]), Hg2.out⟩

set_option maxRecDepth 100000 in
set_option maxHeartbeats 2000000 in
theorem indexL_w (v : Value) (l : List Sp) (bs : Nat) (s : Sp) (w : World) (h : IsSpans w v l) (hp : w.cell? ⟨bs, 0, none⟩ = some (.string (Str s.1)) ∧ w.cell? ⟨bs, 1, none⟩ = some (.string (Str s.2))) :
    Calls Tryz.prog 97 #[v, .func (.func 89) #[] #[.pointer (some ⟨bs, 0, none⟩)]] w fun e w' => ∃ r : Int, e = .returned (.int .i64 r) ∧ decide (0 ≤ r) = l.any (fun x => !coversB s x) ∧ Grown w w' := by
  have mixed := mixedA
  have H := Lib.hid h
  obtain ⟨PQ, HP⟩ : ∃ PQ : Sp → Bool, ∀ x, (!coversB s x) = PQ x := ⟨fun x => (!coversB s x), fun x => rfl⟩
  have HL := Lib.hid (fun wx (hx : Grown w wx) x => liesC_w bs s x wx (hx.keepS hp))
  simp only [HP] at HL
  clear hp
  obtain ⟨a, cap, rfl, hlc, hcm, -⟩ := h
  unfold maxLen at hcm
  have HPQ : Hid (∀ x, (!coversB s x) = PQ x) := Lib.hid HP
  have HE : Hid (l.any (fun x => !coversB s x) = l.any PQ) := Lib.hid (by congr 1; funext x; exact HP x)
  rw [HE.out]
  clear HP HPQ HE
  go_enter Tryz.func97, Tryz.ntmps97
  go_wp2
  go_loopw [8] (fun i wr => ∃ k : Nat, k ≤ l.length ∧ i = .int .i64 k ∧ Grown w wr ∧ (l.take k).any PQ = false) (fun i _ => l.length - (intOf i).toNat)
  case atStart => exact ⟨0, Nat.zero_le _, rfl, Grown.refl _, by simp⟩
  case round =>
    obtain ⟨k, hk, rfl, hg, hno⟩ := hrel
    have Hg := Lib.hid hg
    have Hno := Lib.hid hno
    clear hg hno
    by_cases hlt : k < l.length
    · obtain ⟨b, off, cap', he, hbl, hlz, x0, x1⟩ := span_cells (H.out.below (Hg.out.below (Nat.le_refl _))) k hlt
      injection he with he1 he2 he3
      subst he1 he3
      clear he2
      have hltz : (k : Int) < (l.length : Int) := by omega
      have HT := Lib.hid (show (l.take (k + 1)).any PQ = ((l.take k).any PQ || PQ l[k]) by rw [List.take_succ_eq_append_getElem hlt, List.any_append]; simp)
      have HA := Lib.hid (fun (h : PQ l[k] = true) => (List.any_eq_true.2 ⟨l[k], List.getElem_mem hlt, h⟩ : l.any PQ = true))
      have HC := Lib.hid (HL.out _ Hg.out l[k])
      generalize l[k] = x at *
      generalize hlk : PQ x = lk at *
      have Hlk := Lib.hid hlk
      clear hlk
      cases lk
      all_goals
        go_wp2_with (go_at_call 89; refine HC.out.mono ?_; rintro e w2 ⟨rfl, hg2⟩; have Hg2 := Lib.hid hg2; clear hg2)
      · go_roundw
        case rel => exact ⟨k + 1, by omega, by go_num, Hg.out.trans Hg2.out, by rw [HT.out, Hno.out]; rfl⟩
        case measure => simp [intOf]; omega
      · go_ret
        exact ⟨_, rfl, by rw [HA.out trivial]; simp, Hg.out.trans Hg2.out⟩
    · obtain rfl : k = l.length := by omega
      rw [List.take_length] at Hno
      go_wp2
      go_ret
      exact ⟨_, rfl, by rw [Hno.out]; rfl, Hg.out⟩
theorem containsL_w (v : Value) (l : List Sp) (bs : Nat) (s : Sp) (w : World) (h : IsSpans w v l) (hp : w.cell? ⟨bs, 0, none⟩ = some (.string (Str s.1)) ∧ w.cell? ⟨bs, 1, none⟩ = some (.string (Str s.2))) :
    Calls Tryz.prog 61 #[v, .func (.func 89) #[] #[.pointer (some ⟨bs, 0, none⟩)]] w fun e w' => e = .returned (.bool (l.any (fun x => !coversB s x))) ∧ Grown w w' := by
  have HI := Lib.hid (indexL_w v l bs s w h hp)
  clear h hp
  go_enter Tryz.func61, Tryz.ntmps61
  go_wp2_with (go_at_call 97; refine HI.out.mono ?_; rintro e w2 ⟨r, rfl, hr, hg2⟩; have Hg2 := Lib.hid hg2; have Hr := Lib.hid hr; clear hg2 hr)
  go_ret
  exact ⟨ret_bool (by rw [← Hr.out]), Hg2.out⟩

end Go.Proofs.YtfpcaoacbjhkgaaGreat
