/-
  Walks: the reference's Key, guess, Place.
-/
import Derived.Test.YticlomakmcjcfaaVG
namespace Go.Proofs.Yticlomakmcjcfaa
open Go.RowKit Go.Sort
set_option linter.unusedVariables false
set_option maxRecDepth 100000

set_option maxHeartbeats 8000000 in
theorem rkey_w (t n : Int) (p m : Bs) (w : World) (hp : p.length ≤ 90000) (hm : m.length ≤ 90000) :
    Calls Try.prog 32 #[.agg #[.string (Str p), .int .i64 t, .int .i64 n, .string (Str m)]] w fun e w' => e = .returned (.tuple #[.string (Str (keyF p t n m).1), .int .i64 (keyF p t n m).2]) ∧ Below w.heap.size w w' := by
  have HX := Lib.hid (XAt.new p t n m w)
  have Hr := Lib.hid (fun wx => rright_w t n p m wx hp hm)
  cases hR : (ownsS t p && fitsS t n m) with
  | false =>
    have H : Hid (keyF p t n m = ([], 12)) := Lib.hid (by
      unfold keyF
      rw [if_neg (by intro h; rw [h.1, h.2] at hR; cases hR)])
    have HR := Lib.hid hR
    clear hR
    go_enter Try.func32, Try.ntmps32
    go_wp2_with (go_at_call 107; refine (Hr.out _).mono ?_; rw [HR.out]; rintro e w1 ⟨rfl, hb⟩; have P1 := HX.out.below hb; clear hb)
    go_ret2
    rw [H.out]
    exact ⟨rfl, P1.2⟩
  | true =>
    have hR2 := hR
    rw [Bool.and_eq_true] at hR2
    obtain ⟨ho, hf⟩ := hR2
    have H : Hid (keyF p t n m = (keyK t p n m, 0)) := Lib.hid (by unfold keyF; rw [if_pos ⟨ho, hf⟩])
    obtain ⟨ht1, ht2⟩ := ownsS_range ho
    obtain ⟨hn1, hn2⟩ := fitsS_range hf
    have HR := Lib.hid hR
    clear hR ho hf
    have ht : t = 1 ∨ t = 2 ∨ t = 3 ∨ t = 4 := by omega
    clear ht1 ht2
    rcases ht with rfl | rfl | rfl | rfl
    · have HK : Hid (keyK 1 p n m = p ++ [1]) := Lib.hid rfl
      go_enter Try.func32, Try.ntmps32
      go_wp2_with (go_at_call 107; refine (Hr.out _).mono ?_; rw [HR.out]; rintro e w1 ⟨rfl, hb⟩; have P1 := HX.out.below hb; obtain ⟨c0, c1, c2, c3⟩ := P1.facts; have HP1 := Lib.hid P1; clear hb P1)
      go_ret2
      rw [H.out, HK.out]
      exact ⟨ret2 (by first | rfl | simp) rfl, HP1.out.2⟩
    · have HK : Hid (keyK 2 p n m = p ++ [2, (n / 256).toNat.toUInt8, (n % 256).toNat.toUInt8]) := Lib.hid rfl
      have hq0 : 0 ≤ n / 256 := by omega
      have hq1 : n / 256 ≤ 255 := by omega
      have e1 : n.tdiv 256 = n / 256 := by rw [Int.tdiv_eq_ediv_of_nonneg hn1]
      have e2 : n.tmod 256 = n % 256 := by rw [Int.tmod_eq_emod_of_nonneg hn1]
      go_enter Try.func32, Try.ntmps32
      go_wp2_with (go_at_call 107; refine (Hr.out _).mono ?_; rw [HR.out]; rintro e w1 ⟨rfl, hb⟩; have P1 := HX.out.below hb; obtain ⟨c0, c1, c2, c3⟩ := P1.facts; have HP1 := Lib.hid P1; clear hb P1)
      go_ret2
      rw [H.out, HK.out]
      exact ⟨ret2 (by first | rfl | simp) rfl, HP1.out.2.alloc HP1.out.2.size _⟩
    · have HK : Hid (keyK 3 p n m = p ++ [3] ++ m) := Lib.hid rfl
      go_enter Try.func32, Try.ntmps32
      go_wp2_with (go_at_call 107; refine (Hr.out _).mono ?_; rw [HR.out]; rintro e w1 ⟨rfl, hb⟩; have P1 := HX.out.below hb; obtain ⟨c0, c1, c2, c3⟩ := P1.facts; have HP1 := Lib.hid P1; clear hb P1)
      go_ret2
      rw [H.out, HK.out]
      exact ⟨ret2 (by first | rfl | simp) rfl, HP1.out.2⟩
    · have HK : Hid (keyK 4 p n m = [6] ++ p ++ [1]) := Lib.hid rfl
      go_enter Try.func32, Try.ntmps32
      go_wp2_with (go_at_call 107; refine (Hr.out _).mono ?_; rw [HR.out]; rintro e w1 ⟨rfl, hb⟩; have P1 := HX.out.below hb; obtain ⟨c0, c1, c2, c3⟩ := P1.facts; have HP1 := Lib.hid P1; clear hb P1)
      go_ret2
      rw [H.out, HK.out]
      exact ⟨ret2 (by first | rfl | simp) rfl, HP1.out.2⟩

end Go.Proofs.Yticlomakmcjcfaa
