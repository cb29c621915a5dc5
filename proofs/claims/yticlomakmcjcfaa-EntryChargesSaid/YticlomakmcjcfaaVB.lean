/-
  Walks: the reference's Body.
-/
import Derived.Test.YticlomakmcjcfaaW8
import Derived.Laws.BitsAllLaws
import Derived.Deep.RegionHeld3
namespace Go.Proofs.Yticlomakmcjcfaa
open Go.RowKit
set_option linter.unusedVariables false

theorem hexL8 (n : Nat) : hexL 8 n = [hexD (n / 268435456 % 16), hexD (n / 16777216 % 16), hexD (n / 1048576 % 16), hexD (n / 65536 % 16), hexD (n / 4096 % 16), hexD (n / 256 % 16), hexD (n / 16 % 16), hexD (n % 16)] := by
  simp only [hexL, Nat.div_div_eq_div_mul, List.nil_append, List.cons_append]

theorem ext16 (m : Nat) : (⟨#[48, 49, 50, 51, 52, 53, 54, 55, 56, 57, 97, 98, 99, 100, 101, 102]⟩ : ByteArray).extract (m % 16) (m % 16 + 1) = Str [hexD (m % 16)] := by
  have h : m % 16 < 16 := Nat.mod_lt _ (by omega)
  generalize m % 16 = j at *
  have hc : j = 0 ∨ j = 1 ∨ j = 2 ∨ j = 3 ∨ j = 4 ∨ j = 5 ∨ j = 6 ∨ j = 7 ∨ j = 8 ∨ j = 9 ∨ j = 10 ∨ j = 11 ∨ j = 12 ∨ j = 13 ∨ j = 14 ∨ j = 15 := by omega
  rcases hc with e | e | e | e | e | e | e | e | e | e | e | e | e | e | e | e <;> subst e <;> rfl

set_option maxRecDepth 100000 in
set_option maxHeartbeats 2000000 in
theorem refBody_w (n : Int) (w : World) :
    Calls Try.prog 70 #[.int .i64 n] w fun e w' => e = .returned (.string (Str (bodyS n))) ∧ Below w.heap.size w w' := by
  by_cases h1 : n < 0
  · have H : Hid (bodyS n = []) := Lib.hid (by unfold bodyS; rw [if_pos (.inl h1)])
    go_enter Try.func70, Try.ntmps70
    go_wp2
    go_ret
    rw [H.out]
    exact ⟨rfl, Below.refl _ _⟩
  · by_cases h2 : 2147483647 < n
    · have H : Hid (bodyS n = []) := Lib.hid (by unfold bodyS; rw [if_pos (.inr h2)])
      go_enter Try.func70, Try.ntmps70
      go_wp2
      go_ret
      rw [H.out]
      exact ⟨rfl, Below.refl _ _⟩
    · have H : Hid (bodyS n = bodyN n.toNat) := Lib.hid (by unfold bodyS; rw [if_neg (by omega)])
      obtain ⟨n, rfl⟩ := Int.eq_ofNat_of_zero_le (by omega : 0 ≤ n)
      rw [Int.toNat_natCast] at H
      have hn : n ≤ 2147483647 := by omega
      have hl := hexL8 n
      have Hl := Lib.hid hl
      have hx := ext16
      clear h1 h2 hl
      go_enter Try.func70, Try.ntmps70
      go_wp2
      go_loopw [0, 3, 4] (fun q p i wr => ∃ k : Nat, k ≤ 8 ∧ i = .int .i64 k ∧ q = .int .i64 ((n / 16 ^ k : Nat) : Int) ∧ p = .string (Str ((hexL 8 n).drop (8 - k))) ∧ Below w.heap.size w wr) (fun _ _ i _ => 8 - (intOf i).toNat)
      case atStart => exact ⟨0, by omega, rfl, by simp, by rw [Hl.out]; rfl, Below.refl _ _⟩
      case round =>
        obtain ⟨k, hk, rfl, rfl, rfl, hb⟩ := hrel
        have Hb := Lib.hid hb
        clear hb
        have hcase : k = 0 ∨ k = 1 ∨ k = 2 ∨ k = 3 ∨ k = 4 ∨ k = 5 ∨ k = 6 ∨ k = 7 ∨ k = 8 := by omega
        rcases hcase with rfl | rfl | rfl | rfl | rfl | rfl | rfl | rfl | rfl
        · have H1 : Hid ((hexL 8 n).drop (8 - 1) = hexD (n % 16) :: (hexL 8 n).drop (8 - 0)) := Lib.hid (by rw [Hl.out]; rfl)
          have e : n / 16 ^ 0 = n := by simp
          rw [e]
          clear e
          go_wp2
          go_roundw
          case rel => exact ⟨1, by omega, rfl, (by congr 1; try (show _ = (((n / 16 : Nat)) : Int); omega)), (by rw [H1.out]; try rfl), Hb.out⟩
          case measure => simp [intOf]
        · have H1 : Hid ((hexL 8 n).drop (8 - 2) = hexD (n / 16 % 16) :: (hexL 8 n).drop (8 - 1)) := Lib.hid (by rw [Hl.out]; rfl)
          have e : n / 16 ^ 1 = n / 16 := by rfl
          rw [e]
          clear e
          go_wp2
          go_roundw
          case rel => exact ⟨2, by omega, rfl, (by congr 1; try (show _ = (((n / 256 : Nat)) : Int); omega)), (by rw [H1.out]; try rfl), Hb.out⟩
          case measure => simp [intOf]
        · have H1 : Hid ((hexL 8 n).drop (8 - 3) = hexD (n / 256 % 16) :: (hexL 8 n).drop (8 - 2)) := Lib.hid (by rw [Hl.out]; rfl)
          have e : n / 16 ^ 2 = n / 256 := by rfl
          rw [e]
          clear e
          go_wp2
          go_roundw
          case rel => exact ⟨3, by omega, rfl, (by congr 1; try (show _ = (((n / 4096 : Nat)) : Int); omega)), (by rw [H1.out]; try rfl), Hb.out⟩
          case measure => simp [intOf]
        · have H1 : Hid ((hexL 8 n).drop (8 - 4) = hexD (n / 4096 % 16) :: (hexL 8 n).drop (8 - 3)) := Lib.hid (by rw [Hl.out]; rfl)
          have e : n / 16 ^ 3 = n / 4096 := by rfl
          rw [e]
          clear e
          go_wp2
          go_roundw
          case rel => exact ⟨4, by omega, rfl, (by congr 1; try (show _ = (((n / 65536 : Nat)) : Int); omega)), (by rw [H1.out]; try rfl), Hb.out⟩
          case measure => simp [intOf]
        · have H1 : Hid ((hexL 8 n).drop (8 - 5) = hexD (n / 65536 % 16) :: (hexL 8 n).drop (8 - 4)) := Lib.hid (by rw [Hl.out]; rfl)
          have e : n / 16 ^ 4 = n / 65536 := by rfl
          rw [e]
          clear e
          go_wp2
          go_roundw
          case rel => exact ⟨5, by omega, rfl, (by congr 1; try (show _ = (((n / 1048576 : Nat)) : Int); omega)), (by rw [H1.out]; try rfl), Hb.out⟩
          case measure => simp [intOf]
        · have H1 : Hid ((hexL 8 n).drop (8 - 6) = hexD (n / 1048576 % 16) :: (hexL 8 n).drop (8 - 5)) := Lib.hid (by rw [Hl.out]; rfl)
          have e : n / 16 ^ 5 = n / 1048576 := by rfl
          rw [e]
          clear e
          go_wp2
          go_roundw
          case rel => exact ⟨6, by omega, rfl, (by congr 1; try (show _ = (((n / 16777216 : Nat)) : Int); omega)), (by rw [H1.out]; try rfl), Hb.out⟩
          case measure => simp [intOf]
        · have H1 : Hid ((hexL 8 n).drop (8 - 7) = hexD (n / 16777216 % 16) :: (hexL 8 n).drop (8 - 6)) := Lib.hid (by rw [Hl.out]; rfl)
          have e : n / 16 ^ 6 = n / 16777216 := by rfl
          rw [e]
          clear e
          go_wp2
          go_roundw
          case rel => exact ⟨7, by omega, rfl, (by congr 1; try (show _ = (((n / 268435456 : Nat)) : Int); omega)), (by rw [H1.out]; try rfl), Hb.out⟩
          case measure => simp [intOf]
        · have H1 : Hid ((hexL 8 n).drop (8 - 8) = hexD (n / 268435456 % 16) :: (hexL 8 n).drop (8 - 7)) := Lib.hid (by rw [Hl.out]; rfl)
          have e : n / 16 ^ 7 = n / 268435456 := by rfl
          rw [e]
          clear e
          go_wp2
          go_roundw
          case rel => exact ⟨8, by omega, rfl, (by congr 1; try (show _ = (((n / 4294967296 : Nat)) : Int); omega)), (by rw [H1.out]; try rfl), Hb.out⟩
          case measure => simp [intOf]
        · go_wp2
          go_ret
          rw [H.out]
          refine ⟨ret_str ?_, Hb.out⟩
          simp [bodyN]

end Go.Proofs.Yticlomakmcjcfaa
