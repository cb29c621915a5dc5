/-
  Walks: what the reference makes of numbers: names, paths.
-/
import Derived.Test.YticlomakmcjcfaaWA
import Derived.Test.YticlomakmcjcfaaF
import Derived.Deep.RegionHeld3
namespace Go.Proofs.Yticlomakmcjcfaa
open Go.RowKit
set_option linter.unusedVariables false

set_option maxRecDepth 100000 in
set_option maxHeartbeats 2000000 in
theorem call_w (n : Int) (w : World) (h0 : 0 ≤ n) :
    Calls Try.prog 33 #[.int .u8 n] w fun e w' => e = .returned (.string (Str (callS n.toNat))) ∧ Below w.heap.size w w' := by
  have hm : n % 8 = 0 ∨ n % 8 = 1 ∨ n % 8 = 2 ∨ n % 8 = 3 ∨ n % 8 = 4 ∨ n % 8 = 5 ∨ n % 8 = 6 ∨ n % 8 = 7 := by omega
  rcases hm with h | h | h | h | h | h | h | h
  all_goals
    have H : Hid (callS n.toNat = callS (n % 8).toNat) := Lib.hid (by unfold callS; congr 1; omega)
    go_enter Try.func33, Try.ntmps33
    go_wp2
    go_ret
    refine ⟨ret_str ?_, (Below.refl _ w).alloc (Nat.le_refl _) _⟩
    rw [H.out, h]; rfl

set_option maxRecDepth 100000 in
set_option maxHeartbeats 2000000 in
theorem made_w (v : Value) (l : Bs) (w : World) (hv : IsBytes w v l) :
    Calls Try.prog 15 #[v] w fun e w' => e = .returned (.string (Str (madeS l))) ∧ Below w.heap.size w w' := by
  obtain ⟨a, cap, rfl, hcap, hmax, hcell⟩ := hv
  have Hc := Lib.hid hcell
  have hll : l.length ≤ 9223372036854775807 := by unfold maxLen at hmax; omega
  clear hcell hcap hmax
  go_enter Try.func15, Try.ntmps15
  go_wp2
  go_loopw [3, 4] (fun p i wr => ∃ k : Nat, k ≤ l.length ∧ k ≤ 4 ∧ i = .int .i64 k ∧ p = .string (Str (madeL (l.take k))) ∧ Below w.heap.size w wr) (fun _ i _ => 4 - (intOf i).toNat)
  case atStart => exact ⟨0, Nat.zero_le _, by omega, rfl, rfl, Below.refl _ _⟩
  case round =>
    obtain ⟨k, hk, hk4, rfl, rfl, hb⟩ := hrel
    have HB := Lib.hid hb
    clear hb
    have hlen := madeL_le (l.take k)
    have hlen2 : (l.take k).length ≤ k := List.length_take_le _ _
    have hl4 : (madeL (l.take k)).length ≤ 52 := by omega
    clear hlen hlen2
    by_cases h1 : k < l.length
    · by_cases h2 : k < 4
      · obtain ⟨b, off, rfl, hlt, hc⟩ := Hc.out (by intro e; rw [e] at h1; simp at h1)
        have hck : wr.cell? ⟨b, off + k, none⟩ = some (.int .u8 (l[k].toNat)) := by rw [HB.out.cell (by exact hlt)]; exact hc k h1
        have Hs : Hid (madeL (l.take (k + 1)) = madeL (l.take k) ++ (callS l[k].toNat ++ [47])) := Lib.hid (by
          rw [← madeL_snoc, List.take_add_one, List.getElem?_eq_getElem h1]; rfl)
        have hcl := callS_le l[k].toNat
        clear hc hlt
        go_wp2_with (go_at_call 33; refine (call_w _ _ (by omega)).mono ?_; rw [Int.toNat_natCast]; rintro e w1 ⟨rfl, hb⟩; replace HB := Lib.hid (Below.next HB.out (Nat.le_refl _) hb); clear hb)
        go_roundw
        case rel => exact ⟨k + 1, by omega, by omega, by go_num, by rw [Hs.out], HB.out⟩
        case measure => simp [intOf]; omega
      · obtain rfl : k = 4 := by omega
        go_wp2
        go_ret
        exact ⟨rfl, HB.out⟩
    · have Hk : Hid (madeS l = madeL (l.take k)) := Lib.hid (by unfold madeS; rw [List.take_of_length_le (by omega), List.take_of_length_le (by omega)])
      go_wp2
      go_ret
      exact ⟨ret_str (by rw [Hk.out]), HB.out⟩

theorem ext16 (m : Nat) : (⟨#[48, 49, 50, 51, 52, 53, 54, 55, 56, 57, 97, 98, 99, 100, 101, 102]⟩ : ByteArray).extract (m % 16) (m % 16 + 1) = Str [hexD (m % 16)] := by
  have h : m % 16 < 16 := Nat.mod_lt _ (by omega)
  generalize m % 16 = j at *
  have hc : j = 0 ∨ j = 1 ∨ j = 2 ∨ j = 3 ∨ j = 4 ∨ j = 5 ∨ j = 6 ∨ j = 7 ∨ j = 8 ∨ j = 9 ∨ j = 10 ∨ j = 11 ∨ j = 12 ∨ j = 13 ∨ j = 14 ∨ j = 15 := by omega
  rcases hc with e | e | e | e | e | e | e | e | e | e | e | e | e | e | e | e <;> subst e <;> rfl

set_option maxRecDepth 100000 in
set_option maxHeartbeats 2000000 in
theorem refBody_w (n : Int) (w : World) :
    Calls Try.prog 70 #[.int .i64 n] w fun e w' => e = .returned (.string (Str (bodyS n))) ∧ Below w.heap.size w w' := by
  by_cases h1 : n < 0
  · have H : Hid (bodyS n = []) := Lib.hid (by unfold bodyS; rw [if_pos (.inl h1)])
    go_enter Try.func70, Try.ntmps70
    go_wp2
    go_ret
    rw [H.out]
    exact ⟨rfl, Below.refl _ _⟩
  · by_cases h2 : 2147483647 < n
    · have H : Hid (bodyS n = []) := Lib.hid (by unfold bodyS; rw [if_pos (.inr h2)])
      go_enter Try.func70, Try.ntmps70
      go_wp2
      go_ret
      rw [H.out]
      exact ⟨rfl, Below.refl _ _⟩
    · have H : Hid (bodyS n = bodyN n.toNat) := Lib.hid (by unfold bodyS; rw [if_neg (by omega)])
      obtain ⟨n, rfl⟩ := Int.eq_ofNat_of_zero_le (by omega : 0 ≤ n)
      rw [Int.toNat_natCast] at H
      have hn : n ≤ 2147483647 := by omega
      have hl := hexL8 n
      have Hl := Lib.hid hl
      have hx := ext16
      clear h1 h2 hl
      go_enter Try.func70, Try.ntmps70
      go_wp2
      go_loopw [0, 3, 4] (fun q p i wr => ∃ k : Nat, k ≤ 8 ∧ i = .int .i64 k ∧ q = .int .i64 ((n / 16 ^ k : Nat) : Int) ∧ p = .string (Str ((hexL 8 n).drop (8 - k))) ∧ Below w.heap.size w wr) (fun _ _ i _ => 8 - (intOf i).toNat)
      case atStart => exact ⟨0, by omega, rfl, by simp, by rw [Hl.out]; rfl, Below.refl _ _⟩
      case round =>
        obtain ⟨k, hk, rfl, rfl, rfl, hb⟩ := hrel
        have Hb := Lib.hid hb
        clear hb
        have hcase : k = 0 ∨ k = 1 ∨ k = 2 ∨ k = 3 ∨ k = 4 ∨ k = 5 ∨ k = 6 ∨ k = 7 ∨ k = 8 := by omega
        rcases hcase with rfl | rfl | rfl | rfl | rfl | rfl | rfl | rfl | rfl
        · have H1 : Hid ((hexL 8 n).drop (8 - 1) = hexD (n % 16) :: (hexL 8 n).drop (8 - 0)) := Lib.hid (by rw [Hl.out]; rfl)
          have e : n / 16 ^ 0 = n := by simp
          rw [e]
          clear e
          go_wp2
          go_roundw
          case rel => exact ⟨1, by omega, rfl, (by congr 1; try (show _ = (((n / 16 : Nat)) : Int); omega)), (by rw [H1.out]; try rfl), Hb.out⟩
          case measure => simp [intOf]
        · have H1 : Hid ((hexL 8 n).drop (8 - 2) = hexD (n / 16 % 16) :: (hexL 8 n).drop (8 - 1)) := Lib.hid (by rw [Hl.out]; rfl)
          have e : n / 16 ^ 1 = n / 16 := by rfl
          rw [e]
          clear e
          go_wp2
          go_roundw
          case rel => exact ⟨2, by omega, rfl, (by congr 1; try (show _ = (((n / 256 : Nat)) : Int); omega)), (by rw [H1.out]; try rfl), Hb.out⟩
          case measure => simp [intOf]
        · have H1 : Hid ((hexL 8 n).drop (8 - 3) = hexD (n / 256 % 16) :: (hexL 8 n).drop (8 - 2)) := Lib.hid (by rw [Hl.out]; rfl)
          have e : n / 16 ^ 2 = n / 256 := by rfl
          rw [e]
          clear e
          go_wp2
          go_roundw
          case rel => exact ⟨3, by omega, rfl, (by congr 1; try (show _ = (((n / 4096 : Nat)) : Int); omega)), (by rw [H1.out]; try rfl), Hb.out⟩
          case measure => simp [intOf]
        · have H1 : Hid ((hexL 8 n).drop (8 - 4) = hexD (n / 4096 % 16) :: (hexL 8 n).drop (8 - 3)) := Lib.hid (by rw [Hl.out]; rfl)
          have e : n / 16 ^ 3 = n / 4096 := by rfl
          rw [e]
          clear e
          go_wp2
          go_roundw
          case rel => exact ⟨4, by omega, rfl, (by congr 1; try (show _ = (((n / 65536 : Nat)) : Int); omega)), (by rw [H1.out]; try rfl), Hb.out⟩
          case measure => simp [intOf]
        · have H1 : Hid ((hexL 8 n).drop (8 - 5) = hexD (n / 65536 % 16) :: (hexL 8 n).drop (8 - 4)) := Lib.hid (by rw [Hl.out]; rfl)
          have e : n / 16 ^ 4 = n / 65536 := by rfl
          rw [e]
          clear e
          go_wp2
          go_roundw
          case rel => exact ⟨5, by omega, rfl, (by congr 1; try (show _ = (((n / 1048576 : Nat)) : Int); omega)), (by rw [H1.out]; try rfl), Hb.out⟩
          case measure => simp [intOf]
        · have H1 : Hid ((hexL 8 n).drop (8 - 6) = hexD (n / 1048576 % 16) :: (hexL 8 n).drop (8 - 5)) := Lib.hid (by rw [Hl.out]; rfl)
          have e : n / 16 ^ 5 = n / 1048576 := by rfl
          rw [e]
          clear e
          go_wp2
          go_roundw
          case rel => exact ⟨6, by omega, rfl, (by congr 1; try (show _ = (((n / 16777216 : Nat)) : Int); omega)), (by rw [H1.out]; try rfl), Hb.out⟩
          case measure => simp [intOf]
        · have H1 : Hid ((hexL 8 n).drop (8 - 7) = hexD (n / 16777216 % 16) :: (hexL 8 n).drop (8 - 6)) := Lib.hid (by rw [Hl.out]; rfl)
          have e : n / 16 ^ 6 = n / 16777216 := by rfl
          rw [e]
          clear e
          go_wp2
          go_roundw
          case rel => exact ⟨7, by omega, rfl, (by congr 1; try (show _ = (((n / 268435456 : Nat)) : Int); omega)), (by rw [H1.out]; try rfl), Hb.out⟩
          case measure => simp [intOf]
        · have H1 : Hid ((hexL 8 n).drop (8 - 8) = hexD (n / 268435456 % 16) :: (hexL 8 n).drop (8 - 7)) := Lib.hid (by rw [Hl.out]; rfl)
          have e : n / 16 ^ 7 = n / 268435456 := by rfl
          rw [e]
          clear e
          go_wp2
          go_roundw
          case rel => exact ⟨8, by omega, rfl, (by congr 1; try (show _ = (((n / 4294967296 : Nat)) : Int); omega)), (by rw [H1.out]; try rfl), Hb.out⟩
          case measure => simp [intOf]
        · go_wp2
          go_ret
          rw [H.out]
          refine ⟨ret_str ?_, Hb.out⟩
          simp [bodyN]

end Go.Proofs.Yticlomakmcjcfaa
