/-
  Walks: which fields are in their ranges.
-/
import Derived.Test.YtaafckefeejjpaaGreatMA
namespace Go.Proofs.YtaafckefeejjpaaGreat
open Go.RowKit Go.Sort
set_option linter.unusedVariables false

theorem keyB_yes {k : Bs} (h1 : 1 ≤ k.length) (h2 : k.length ≤ 65535) : keyB k = true := by unfold keyB; simp; omega
theorem keyB_no {k : Bs} (h : k.length < 1 ∨ 65535 < k.length) : keyB k = false := by unfold keyB; simp; omega
set_option maxHeartbeats 400000 in
theorem isKey_w (k : Bs) (w : World) : Calls Tryz.prog 166 #[.string (Str k)] w fun e w' => e = .returned (.bool (keyB k)) ∧ w = w' := by
  have H : Hid (keyB k = (decide (1 ≤ (k.length : Int)) && decide ((k.length : Int) ≤ 65535))) := Lib.hid (by unfold keyB; rw [Bool.eq_iff_iff]; simp; omega)
  by_cases h1 : 1 ≤ (k.length : Int)
  · go_enter Tryz.func166, Tryz.ntmps166
    go_wp2
    go_ret
    exact ⟨ret_bool (by rw [H.out]; simp [h1]), rfl⟩
  · have h2 : decide (1 ≤ (k.length : Int)) = false := by simpa using h1
    go_enter Tryz.func166, Tryz.ntmps166
    go_wp2
    go_ret
    exact ⟨ret_bool (by rw [H.out]; simp [h2]), rfl⟩
set_option maxHeartbeats 400000 in
theorem isStamp_w (n : Int) (w : World) : Calls Tryz.prog 167 #[.int .i64 n] w fun e w' => e = .returned (.bool (stampB n)) ∧ w = w' := by
  have H : Hid (stampB n = (decide (0 ≤ n) && decide (n ≤ 1000000000))) := Lib.hid (by unfold stampB; rw [Bool.eq_iff_iff]; simp)
  by_cases h1 : 0 ≤ n
  · go_enter Tryz.func167, Tryz.ntmps167
    go_wp2
    go_ret
    exact ⟨ret_bool (by rw [H.out]; simp [h1]), rfl⟩
  · have h2 : decide (0 ≤ n) = false := by simpa using h1
    go_enter Tryz.func167, Tryz.ntmps167
    go_wp2
    go_ret
    exact ⟨ret_bool (by rw [H.out]; simp [h2]), rfl⟩
set_option maxHeartbeats 400000 in
theorem isFront_w (k : Bs) (w : World) : Calls Tryz.prog 200 #[.string (Str k)] w fun e w' => e = .returned (.bool (frontB k)) ∧ w = w' := by
  have H : Hid (frontB k = (decide (1 ≤ (k.length : Int)) && decide ((k.length : Int) ≤ 200))) := Lib.hid (by unfold frontB; rw [Bool.eq_iff_iff]; simp; omega)
  by_cases h1 : 1 ≤ (k.length : Int)
  · go_enter Tryz.func200, Tryz.ntmps200
    go_wp2
    go_ret
    exact ⟨ret_bool (by rw [H.out]; simp [h1]), rfl⟩
  · have h2 : decide (1 ≤ (k.length : Int)) = false := by simpa using h1
    go_enter Tryz.func200, Tryz.ntmps200
    go_wp2
    go_ret
    exact ⟨ret_bool (by rw [H.out]; simp [h2]), rfl⟩
theorem hasPre_w (a p : Bs) (w : World) : Calls Tryz.prog 201 #[.string (Str a), .string (Str p)] w fun e w' => e = .returned (.bool (p.isPrefixOf a)) ∧ w = w' := by
  refine (Tryz.strings_HasPrefix (Str a) (Str p) w).mono fun e w' ⟨he, hw⟩ => ⟨?_, hw.symm⟩
  rw [he]; rfl
set_option maxRecDepth 100000 in
set_option maxHeartbeats 1000000 in
theorem isSpan_w (lo hi : Bs) (w : World) : Calls Tryz.prog 188 #[.agg #[.string (Str lo), .string (Str hi)]] w fun e w' => e = .returned (.bool (spanB lo hi)) ∧ Grown w w' := by
  have H : Hid (spanB lo hi = (!emptyB (lo, hi) && (decide ((lo.length : Int) ≤ 65535) && decide ((hi.length : Int) ≤ 65535)))) := Lib.hid (by
    unfold spanB; congr 2
    · rw [Bool.eq_iff_iff]; simp; omega
    · rw [Bool.eq_iff_iff]; simp; omega)
  have he := fun wx => empty_w lo hi wx
  have HB : Hid (Blk (w.alloc (.cells #[.string (Str lo), .string (Str hi)] 45)) w.heap.size 45 #[.string (Str lo), .string (Str hi)]) := Lib.hid (Blk.new _ _ _)
  have mixed := mixedA
  cases hem : emptyB (lo, hi) with
  | true =>
    rw [hem] at he H
    have He := Lib.hid he
    clear he hem
    go_enter Tryz.func188, Tryz.ntmps188
    go_wp2_with fail
    refine (He.out _).mono ?_
    rintro e w1 ⟨rfl, hg⟩
    have Hg : Hid (Grown w w1) := Lib.hid (((Grown.refl w).alloc _).trans hg)
    clear hg
    go_wp2
    go_ret
    exact ⟨ret_bool (by rw [H.out]; rfl), Hg.out⟩
  | false =>
    rw [hem] at he H
    have He := Lib.hid he
    clear he hem
    by_cases h1 : (lo.length : Int) ≤ 65535
    · have hd1 : decide ((lo.length : Int) ≤ 65535) = true := by simpa using h1
      go_enter Tryz.func188, Tryz.ntmps188
      go_wp2_with fail
      refine (He.out _).mono ?_
      rintro e w1 ⟨rfl, hg⟩
      have hB := HB.out.below (hg.below (Nat.le_refl _)) HB.out.lt
      have c0 := hB.c0 0 _ rfl
      have c1 := hB.c0 1 _ rfl
      have Hg : Hid (Grown w w1) := Lib.hid (((Grown.refl w).alloc _).trans hg)
      clear hg hB
      go_wp2
      go_ret
      exact ⟨ret_bool (by rw [H.out, hd1]; rfl), Hg.out⟩
    · have hd1 : decide ((lo.length : Int) ≤ 65535) = false := by simpa using h1
      clear h1
      go_enter Tryz.func188, Tryz.ntmps188
      go_wp2_with fail
      refine (He.out _).mono ?_
      rintro e w1 ⟨rfl, hg⟩
      have hB := HB.out.below (hg.below (Nat.le_refl _)) HB.out.lt
      have c0 := hB.c0 0 _ rfl
      have c1 := hB.c0 1 _ rfl
      have Hg : Hid (Grown w w1) := Lib.hid (((Grown.refl w).alloc _).trans hg)
      clear hg hB
      go_wp2
      go_ret
      exact ⟨ret_bool (by rw [H.out, hd1]; rfl), Hg.out⟩

end Go.Proofs.YtaafckefeejjpaaGreat
