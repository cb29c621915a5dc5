/-
  The walk of the law PathBelow.
-/
import Derived.Test.YtgfbinlakfojdaaWB
import Derived.Test.YtgfbinlakfojdaaS2
import Derived.Deep.RegionHeld3
import Derived.Deep.DeepCutAuto
namespace Go.Proofs.Ytgfbinlakfojdaa
open Go.RowKit
set_option linter.unusedVariables false

/-- What the law of PathBelow knows of three paths. -/
def BelowCut (w : World) (cs : Array Value) (p q r : Bs) (s6 s7 s8 : Value) (wx : World) : Prop :=
  s6 = .string (Str p) ∧ s7 = .string (Str q) ∧ s8 = .string (Str r) ∧ Below w.heap.size w wx ∧ Blk wx w.heap.size 53 cs

theorem pre_antisymm {p q : Bs} (h1 : q.isPrefixOf p = true) (h2 : p.isPrefixOf q = true) : (p == q) = true := by
  rw [List.isPrefixOf_iff_prefix] at h1 h2
  have : q = p := h1.eq_of_length_le h2.length_le
  rw [this]; simp
theorem pre_trans {p q r : Bs} (h1 : q.isPrefixOf p = true) (h2 : r.isPrefixOf q = true) : r.isPrefixOf p = true := by
  rw [List.isPrefixOf_iff_prefix] at h1 h2 ⊢
  exact h2.trans h1
theorem pre_total {p q r : Bs} (h1 : q.isPrefixOf p = true) (h2 : r.isPrefixOf p = true) : r.isPrefixOf q = true ∨ q.isPrefixOf r = true := by
  rw [List.isPrefixOf_iff_prefix] at h1 h2
  rcases Nat.le_total r.length q.length with h | h
  · left; rw [List.isPrefixOf_iff_prefix]; exact List.prefix_of_prefix_length_le h2 h1 h
  · right; rw [List.isPrefixOf_iff_prefix]; exact List.prefix_of_prefix_length_le h1 h2 h

/-- The end of the law: from three paths on. -/
theorem below_bool (p q r : Bs) : True := trivial

set_option maxRecDepth 100000 in
set_option maxHeartbeats 4000000 in
theorem pathBelow_walk (w : World) (v0 : Value) (x : (Value × Bs) × (Value × Bs) × (Value × Bs)) (h0 : IsArr3 w v0 x) (v1 : Value) (n : Nat) (h1 : IsU8 w v1 n) :
    Calls Try.prog 7 #[v0, v1] w fun e w' => e = .returned (.bool true) ∧ Below w.heap.size w w' := by
  obtain ⟨rfl, hn⟩ := h1
  obtain ⟨⟨a0, l0⟩, ⟨a1, l1⟩, a2, l2⟩ := x
  obtain ⟨rfl, hb0, hb1, hb2⟩ := h0
  simp only at hb0 hb1 hb2
  have hm0 := fun wx (h : Below w.heap.size w wx) => made_w a0 l0 wx (hb0.below h)
  have hm1 := fun wx (h : Below w.heap.size w wx) => made_w a1 l1 wx (hb1.below h)
  have hm2 := fun wx (h : Below w.heap.size w wx) => made_w a2 l2 wx (hb2.below h)
  have Hm0 := Lib.hid hm0
  have Hm1 := Lib.hid hm1
  have Hm2 := Lib.hid hm2
  have Hb0 := Lib.hid hb0
  clear hm0 hm1 hm2 hb0 hb1 hb2
  have HB : Hid (Below w.heap.size w (w.alloc (.cells #[a0, a1, a2] 53))) := Lib.hid ((Below.refl _ _).alloc (Nat.le_refl _) _)
  have HK : Hid (Blk (w.alloc (.cells #[a0, a1, a2] 53)) w.heap.size 53 #[a0, a1, a2]) := Lib.hid (Blk.new _ _ _)
  go_enter Try.func7, Try.ntmps7
  go_upto_region 2 with (go_at_call 12; refine (sanity_w _).mono ?_; rintro e w1 ⟨rfl, hb⟩; have hk := Blk.below HK.out hb (by simp); have c0 := hk.cell 0; have c1 := hk.cell 1; have c2 := hk.cell 2; simp at c0 c1 c2; replace HK := Lib.hid hk; replace HB := Lib.hid (Below.next HB.out (Nat.le_refl _) hb); clear hk hb)
  go_cut [6, 7, 8] (fun s6 s7 s8 wx => BelowCut w #[a0, a1, a2] (madeS l0) (madeS l1) (madeS l2) s6 s7 s8 wx)
  case first =>
    go_region_held3 (fun wr => wr.cell? ⟨w.heap.size, 0, none⟩ = some a0 ∧ wr.cell? ⟨w.heap.size, 1, none⟩ = some a1 ∧ wr.cell? ⟨w.heap.size, 2, none⟩ = some a2) (go_keep)
      (first
        | (go_at_call_of 13 (a0); refine (Hm0.out _ (by first | exact HB.out | exact HB.out.drew)).mono ?_; rintro e w1 ⟨rfl, hb⟩; have hk : Blk w1 w.heap.size 53 #[a0, a1, a2] := Blk.below (by exact HK.out) hb (by exact HK.out.lt); have d0 := hk.cell 0; have d1 := hk.cell 1; have d2 := hk.cell 2; simp at d0 d1 d2; replace HK := Lib.hid hk; replace HB := Lib.hid (Below.next (by first | exact HB.out | exact HB.out.drew) (Nat.le_refl _) hb); clear hk hb)
        | (go_at_call_of 13 (a1); refine (Hm1.out _ (by first | exact HB.out | exact HB.out.drew)).mono ?_; rintro e w1 ⟨rfl, hb⟩; have hk : Blk w1 w.heap.size 53 #[a0, a1, a2] := Blk.below (by exact HK.out) hb (by exact HK.out.lt); have d0 := hk.cell 0; have d1 := hk.cell 1; have d2 := hk.cell 2; simp at d0 d1 d2; replace HK := Lib.hid hk; replace HB := Lib.hid (Below.next (by first | exact HB.out | exact HB.out.drew) (Nat.le_refl _) hb); clear hk hb)
        | (go_at_call_of 13 (a2); refine (Hm2.out _ (by first | exact HB.out | exact HB.out.drew)).mono ?_; rintro e w1 ⟨rfl, hb⟩; have hk : Blk w1 w.heap.size 53 #[a0, a1, a2] := Blk.below (by exact HK.out) hb (by exact HK.out.lt); have d0 := hk.cell 0; have d1 := hk.cell 1; have d2 := hk.cell 2; simp at d0 d1 d2; replace HK := Lib.hid hk; replace HB := Lib.hid (Below.next (by first | exact HB.out | exact HB.out.drew) (Nat.le_refl _) hb); clear hk hb))
    all_goals (go_wp2_with fail; go_meet; exact ⟨rfl, rfl, rfl, HB.out, HK.out⟩)
  case rest =>
    obtain ⟨rfl, rfl, rfl, hB, hK⟩ := hcut
    have d0 := hK.cell 0
    simp at d0
    replace HB := Lib.hid hB
    replace HK := Lib.hid hK
    clear hB hK c0 c1 c2 Hm1 Hm2
    obtain ⟨A0, C0, hv0, hc0, hm0⟩ := Hb0.out.form
    have hll : l0.length ≤ 9223372036854775807 := by unfold maxLen at hm0; omega
    subst hv0
    by_cases he : n % 2 = 0
    · have e1 : (n : Int).tmod 2 = 0 := by rw [Int.tmod_eq_emod_of_nonneg (by omega)]; omega
      have e1' : (n : Int) % 2 = 0 := by omega
      obtain ⟨k1, hk1⟩ : ∃ k, k = min l0.length (n / 2 % 4) := ⟨_, rfl⟩
      obtain ⟨k2, hk2⟩ : ∃ k, k = min l0.length (n / 8 % 4) := ⟨_, rfl⟩
      have m1 : min (l0.length : Int) ((n : Int) / 2 % 4) = (k1 : Int) := by omega
      have m2 : min (l0.length : Int) ((n : Int) / 8 % 4) = (k2 : Int) := by omega
      have k1c : k1 ≤ C0 := by omega
      have k2c : k2 ≤ C0 := by omega
      have hM1 := fun wx (h : Below w.heap.size w wx) => made_w _ _ wx ((Hb0.out.cut k1 (by omega)).below h)
      have hM2 := fun wx (h : Below w.heap.size w wx) => made_w _ _ wx ((Hb0.out.cut k2 (by omega)).below h)
      have HM1 := Lib.hid hM1
      have HM2 := Lib.hid hM2
      clear hM1 hM2 hk1 hk2 he hc0 hm0 Hm0
      generalize madeS (l0.take k1) = q at *
      generalize madeS (l0.take k2) = r at *
      generalize madeS l0 = p at *
      have hpp := fun wx => under_w (Str p) (Str p) wx
      have hpn := fun wx => under_w (Str p) ⟨#[]⟩ wx
      have hpq := fun wx => under_w (Str p) (Str q) wx
      have hqp := fun wx => under_w (Str q) (Str p) wx
      have hqr := fun wx => under_w (Str q) (Str r) wx
      have hpr := fun wx => under_w (Str p) (Str r) wx
      have hrq := fun wx => under_w (Str r) (Str q) wx
      simp only [toList_Str] at hpp hpq hqp hqr hpr hrq
      have hnil : (⟨#[]⟩ : ByteArray).toList = [] := toList_Str []
      simp only [hnil, toList_Str] at hpn
      have hself : p.isPrefixOf p = true := by rw [List.isPrefixOf_iff_prefix]; exact List.prefix_refl _
      have hnl : ([] : Bs).isPrefixOf p = true := rfl
      rw [hself] at hpp
      rw [hnl] at hpn
      have f1 := @pre_antisymm p q
      have f2 := @pre_trans p q r
      have f3 := @pre_total p q r
      have f3' : q.isPrefixOf p = true → r.isPrefixOf p = true → r.isPrefixOf q = false → q.isPrefixOf r = true := fun h1 h2 h3 => by
        rcases f3 h1 h2 with h | h
        · rw [h] at h3; cases h3
        · exact h
      clear f3 hself hnl hnil
      generalize q.isPrefixOf p = bpq at *
      generalize p.isPrefixOf q = bqp at *
      generalize r.isPrefixOf q = bqr at *
      generalize r.isPrefixOf p = bpr at *
      generalize q.isPrefixOf r = brq at *
      have Hpp := Lib.hid hpp
      have Hpn := Lib.hid hpn
      have Hpq := Lib.hid hpq
      have Hqp := Lib.hid hqp
      have Hqr := Lib.hid hqr
      have Hpr := Lib.hid hpr
      have Hrq := Lib.hid hrq
      have F1 := Lib.hid f1
      have F2 := Lib.hid f2
      have F3 := Lib.hid f3'
      clear hpp hpn hpq hqp hqr hpr hrq f1 f2 f3'
      go_wp2_with (first
          | (go_at_call 13; ((with_reducible refine (HM1.out _ ?_).mono ?_); exact HB.out); rintro e w1 ⟨rfl, hb⟩; have hk := Blk.below HK.out hb HK.out.lt; have d0 := hk.cell 0; simp at d0; replace HK := Lib.hid hk; replace HB := Lib.hid (Below.next HB.out (Nat.le_refl _) hb); clear hb)
          | (go_at_call 13; ((with_reducible refine (HM2.out _ ?_).mono ?_); exact HB.out); rintro e w1 ⟨rfl, hb⟩; have hk := Blk.below HK.out hb HK.out.lt; have d0 := hk.cell 0; simp at d0; replace HK := Lib.hid hk; replace HB := Lib.hid (Below.next HB.out (Nat.le_refl _) hb); clear hb)
          | (go_at_call 24; ((with_reducible refine (Hpp.out _).mono ?_); rintro e w1 ⟨rfl, rfl⟩))
          | (go_at_call 24; ((with_reducible refine (Hpn.out _).mono ?_); rintro e w1 ⟨rfl, rfl⟩))
          | (go_at_call 24; ((with_reducible refine (Hpq.out _).mono ?_); rintro e w1 ⟨rfl, rfl⟩))
          | (go_at_call 24; ((with_reducible refine (Hqp.out _).mono ?_); rintro e w1 ⟨rfl, rfl⟩))
          | (go_at_call 24; ((with_reducible refine (Hqr.out _).mono ?_); rintro e w1 ⟨rfl, rfl⟩))
          | (go_at_call 24; ((with_reducible refine (Hpr.out _).mono ?_); rintro e w1 ⟨rfl, rfl⟩))
          | (go_at_call 24; ((with_reducible refine (Hrq.out _).mono ?_); rintro e w1 ⟨rfl, rfl⟩)))
      all_goals first
        | (go_ret; exact ⟨rfl, HB.out⟩)
        | (exfalso; go_light; have g1 := F1.out; have g2 := F2.out; have g3 := F3.out; clear F1 F2 F3 Hpp Hpn Hpq Hqp Hqr Hpr Hrq HB HK; (try simp only [Bool.not_eq_true] at *); simp_all; done)
    · have e1 : ((n : Int).tmod 2 == 0) = false := by rw [Int.tmod_eq_emod_of_nonneg (by omega)]; simp; omega
      have e1' : ((n : Int) % 2 == 0) = false := by simp; omega
      clear he hc0 hm0 Hm0 Hb0
      generalize madeS l1 = q at *
      generalize madeS l2 = r at *
      generalize madeS l0 = p at *
      have hpp := fun wx => under_w (Str p) (Str p) wx
      have hpn := fun wx => under_w (Str p) ⟨#[]⟩ wx
      have hpq := fun wx => under_w (Str p) (Str q) wx
      have hqp := fun wx => under_w (Str q) (Str p) wx
      have hqr := fun wx => under_w (Str q) (Str r) wx
      have hpr := fun wx => under_w (Str p) (Str r) wx
      have hrq := fun wx => under_w (Str r) (Str q) wx
      simp only [toList_Str] at hpp hpq hqp hqr hpr hrq
      have hnil : (⟨#[]⟩ : ByteArray).toList = [] := toList_Str []
      simp only [hnil, toList_Str] at hpn
      have hself : p.isPrefixOf p = true := by rw [List.isPrefixOf_iff_prefix]; exact List.prefix_refl _
      have hnl : ([] : Bs).isPrefixOf p = true := rfl
      rw [hself] at hpp
      rw [hnl] at hpn
      have f1 := @pre_antisymm p q
      have f2 := @pre_trans p q r
      have f3 := @pre_total p q r
      have f3' : q.isPrefixOf p = true → r.isPrefixOf p = true → r.isPrefixOf q = false → q.isPrefixOf r = true := fun h1 h2 h3 => by
        rcases f3 h1 h2 with h | h
        · rw [h] at h3; cases h3
        · exact h
      clear f3 hself hnl hnil
      generalize q.isPrefixOf p = bpq at *
      generalize p.isPrefixOf q = bqp at *
      generalize r.isPrefixOf q = bqr at *
      generalize r.isPrefixOf p = bpr at *
      generalize q.isPrefixOf r = brq at *
      have Hpp := Lib.hid hpp
      have Hpn := Lib.hid hpn
      have Hpq := Lib.hid hpq
      have Hqp := Lib.hid hqp
      have Hqr := Lib.hid hqr
      have Hpr := Lib.hid hpr
      have Hrq := Lib.hid hrq
      have F1 := Lib.hid f1
      have F2 := Lib.hid f2
      have F3 := Lib.hid f3'
      clear hpp hpn hpq hqp hqr hpr hrq f1 f2 f3'
      go_wp2_with (first
          | (go_at_call 24; ((with_reducible refine (Hpp.out _).mono ?_); rintro e w1 ⟨rfl, rfl⟩))
          | (go_at_call 24; ((with_reducible refine (Hpn.out _).mono ?_); rintro e w1 ⟨rfl, rfl⟩))
          | (go_at_call 24; ((with_reducible refine (Hpq.out _).mono ?_); rintro e w1 ⟨rfl, rfl⟩))
          | (go_at_call 24; ((with_reducible refine (Hqp.out _).mono ?_); rintro e w1 ⟨rfl, rfl⟩))
          | (go_at_call 24; ((with_reducible refine (Hqr.out _).mono ?_); rintro e w1 ⟨rfl, rfl⟩))
          | (go_at_call 24; ((with_reducible refine (Hpr.out _).mono ?_); rintro e w1 ⟨rfl, rfl⟩))
          | (go_at_call 24; ((with_reducible refine (Hrq.out _).mono ?_); rintro e w1 ⟨rfl, rfl⟩)))
      all_goals first
        | (go_ret; exact ⟨rfl, HB.out⟩)
        | (exfalso; go_light; have g1 := F1.out; have g2 := F2.out; have g3 := F3.out; clear F1 F2 F3 Hpp Hpn Hpq Hqp Hqr Hpr Hrq HB HK; (try simp only [Bool.not_eq_true] at *); simp_all; done)

end Go.Proofs.Ytgfbinlakfojdaa
