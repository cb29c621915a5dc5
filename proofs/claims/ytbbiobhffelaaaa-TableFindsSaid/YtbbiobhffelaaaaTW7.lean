/-
  Walks: whether a list is a table, by the program and by the reference.
-/
import Derived.Test.YtbbiobhffelaaaaTW6
import Derived.IntWalk
namespace Go.Proofs.Ytbbiobhffelaaaa
open Go.RowKit Go.Sort
set_option linter.unusedVariables false

set_option maxRecDepth 100000 in
set_option maxHeartbeats 2000000 in
theorem valid_w (v : Value) (l : List Pr) (w : World) (h : IsPairs w v l) (hl : l.length ≤ 100000) :
    Calls Try.prog 30 #[v] w fun e w' => e = .returned (.bool (validB l)) ∧ ∃ n, w' = w.drewN n := by
  obtain ⟨b, off, cap, p, rfl, hlc, hcm, hpp, hcc⟩ := h.form
  unfold maxLen at hcm
  have HC := Lib.hid hcc
  clear h hpp hcc
  have mixed := mixedA
  go_enter Try.func30, Try.ntmps30
  go_wp2
  go_loopw [3] (fun i wr => ∃ k n : Nat, 1 ≤ k ∧ (k ≤ l.length ∨ k = 1) ∧ i = .int .i64 k ∧ Hid (Srt (l.take k)) ∧ wr = w.drewN n) (fun i _ => l.length - (intOf i).toNat)
  case atStart => exact ⟨1, 0, Nat.le_refl _, .inr rfl, rfl, Lib.hid (by rcases l with _ | ⟨x, r⟩ <;> simp [Srt]), rfl⟩
  case round =>
    obtain ⟨k, n, hk1, hk, rfl, HS, rfl⟩ := hrel
    by_cases hlt : k < l.length
    · obtain ⟨j, rfl⟩ : ∃ j, k = j + 1 := ⟨k - 1, by omega⟩
      obtain ⟨rfl, c0, -⟩ := HC.out j (by omega)
      obtain ⟨-, d0, -⟩ := HC.out (j + 1) hlt
      have hj : j < l.length := by omega
      have Hbad := Lib.hid (fun hb => validB_bad j hlt hb)
      have Hgood := Lib.hid (fun hb => validB_take j hlt HS.out hb)
      generalize (l[j]'hj) = x at *
      generalize l[j + 1] = y at *
      obtain ⟨xk, xv, xt⟩ := x
      obtain ⟨yk, yv, yt⟩ := y
      simp only at c0 d0
      have c0' := fun n => (show (w.drewN n).cell? ⟨b, off + j * 3, none⟩ = some (.string (Str xk)) from c0)
      have d0' := fun n => (show (w.drewN n).cell? ⟨b, off + (j + 1) * 3, none⟩ = some (.string (Str yk)) from d0)
      clear c0 d0
      have hw1 : IntKind.i64.wrap (((j + 1 : Nat) : Int) - 1) = (j : Int) := by rw [show ((j + 1 : Nat) : Int) - 1 = (j : Int) by omega]; exact IntWalk.i64_in _ (by omega)
      have hw2 : ((j + 1 : Nat) : Int) - 1 = (j : Int) := by omega
      have hz1 : (j : Int) < (l.length : Int) := by omega
      have hz2 : ((j + 1 : Nat) : Int) < (l.length : Int) := by omega
      have hz3 : (j : Int) + 1 < (l.length : Int) := by omega
      have hw3 : IntKind.i64.wrap ((j : Int) + 1 - 1) = (j : Int) := by rw [show (j : Int) + 1 - 1 = (j : Int) by omega]; exact IntWalk.i64_in _ (by omega)
      have d0'' := fun n => (show (w.drewN n).cell? ⟨b, off + ((j : Int) + 1).toNat * 3, none⟩ = some (.string (Str yk)) from by rw [show ((j : Int) + 1).toNat = j + 1 by omega]; exact d0' n)
      cases hB : Op.bytesLess xk yk with
      | true =>
        have HG := Lib.hid (Hgood.out hB)
        clear Hgood Hbad
        go_wp2_with fail
        go_quiet (fail)
        go_wp2
        go_roundw
        case rel => exact ⟨j + 2, n + nq, by omega, .inl (by omega), by go_num, HG, rfl⟩
        case measure => simp [intOf]; omega
      | false =>
        have HG := Lib.hid (Hbad.out hB)
        clear Hgood Hbad
        go_wp2_with fail
        go_quiet (fail)
        go_wp2
        go_ret
        exact ⟨ret_bool HG.out.symm, n + nq, by rw [World.drewN_drewN]⟩
    · have HG : Hid (validB l = true) := Lib.hid (by
        have := HS.out
        rw [List.take_of_length_le (by omega)] at this
        exact (validB_iff l).2 this)
      have hlt' : (l.length : Int) ≤ (k : Int) := by omega
      go_wp2
      go_ret
      exact ⟨ret_bool HG.out.symm, n, rfl⟩


set_option maxRecDepth 100000 in
set_option maxHeartbeats 2000000 in
theorem rvalid_w (v : Value) (l : List Pr) (w : World) (h : IsPairs w v l) (hl : l.length ≤ 100000) :
    Calls Try.prog 31 #[v] w fun e w' => e = .returned (.bool (validB l)) ∧ ∃ n, w' = w.drewN n := by
  obtain ⟨b, off, cap, p, rfl, hlc, hcm, hpp, hcc⟩ := h.form
  unfold maxLen at hcm
  have HC := Lib.hid hcc
  clear h hpp hcc
  have mixed := mixedA
  go_enter Try.func31, Try.ntmps31
  go_wp2
  go_loopw [3] (fun i wr => ∃ k n : Nat, 1 ≤ k ∧ (k ≤ l.length ∨ k = 1) ∧ i = .int .i64 k ∧ Hid (Srt (l.take k)) ∧ wr = w.drewN n) (fun i _ => l.length - (intOf i).toNat)
  case atStart => exact ⟨1, 0, Nat.le_refl _, .inr rfl, rfl, Lib.hid (by rcases l with _ | ⟨x, r⟩ <;> simp [Srt]), rfl⟩
  case round =>
    obtain ⟨k, n, hk1, hk, rfl, HS, rfl⟩ := hrel
    by_cases hlt : k < l.length
    · obtain ⟨j, rfl⟩ : ∃ j, k = j + 1 := ⟨k - 1, by omega⟩
      obtain ⟨rfl, c0, -⟩ := HC.out j (by omega)
      obtain ⟨-, d0, -⟩ := HC.out (j + 1) hlt
      have hj : j < l.length := by omega
      have Hbad := Lib.hid (fun hb => validB_bad j hlt hb)
      have Hgood := Lib.hid (fun hb => validB_take j hlt HS.out hb)
      generalize (l[j]'hj) = x at *
      generalize l[j + 1] = y at *
      obtain ⟨xk, xv, xt⟩ := x
      obtain ⟨yk, yv, yt⟩ := y
      simp only at c0 d0
      have c0' := fun n => (show (w.drewN n).cell? ⟨b, off + j * 3, none⟩ = some (.string (Str xk)) from c0)
      have d0' := fun n => (show (w.drewN n).cell? ⟨b, off + (j + 1) * 3, none⟩ = some (.string (Str yk)) from d0)
      clear c0 d0
      have hw1 : IntKind.i64.wrap (((j + 1 : Nat) : Int) - 1) = (j : Int) := by rw [show ((j + 1 : Nat) : Int) - 1 = (j : Int) by omega]; exact IntWalk.i64_in _ (by omega)
      have hw2 : ((j + 1 : Nat) : Int) - 1 = (j : Int) := by omega
      have hz1 : (j : Int) < (l.length : Int) := by omega
      have hz2 : ((j + 1 : Nat) : Int) < (l.length : Int) := by omega
      have hz3 : (j : Int) + 1 < (l.length : Int) := by omega
      have hw3 : IntKind.i64.wrap ((j : Int) + 1 - 1) = (j : Int) := by rw [show (j : Int) + 1 - 1 = (j : Int) by omega]; exact IntWalk.i64_in _ (by omega)
      have d0'' := fun n => (show (w.drewN n).cell? ⟨b, off + ((j : Int) + 1).toNat * 3, none⟩ = some (.string (Str yk)) from by rw [show ((j : Int) + 1).toNat = j + 1 by omega]; exact d0' n)
      cases hB : Op.bytesLess xk yk with
      | true =>
        have HG := Lib.hid (Hgood.out hB)
        clear Hgood Hbad
        go_wp2_with fail
        go_quiet (fail)
        go_wp2
        go_roundw
        case rel => exact ⟨j + 2, n + nq, by omega, .inl (by omega), by go_num, HG, rfl⟩
        case measure => simp [intOf]; omega
      | false =>
        have HG := Lib.hid (Hbad.out hB)
        clear Hgood Hbad
        go_wp2_with fail
        go_quiet (fail)
        go_wp2
        go_ret
        exact ⟨ret_bool HG.out.symm, n + nq, by rw [World.drewN_drewN]⟩
    · have HG : Hid (validB l = true) := Lib.hid (by
        have := HS.out
        rw [List.take_of_length_le (by omega)] at this
        exact (validB_iff l).2 this)
      have hlt' : (l.length : Int) ≤ (k : Int) := by omega
      go_wp2
      go_ret
      exact ⟨ret_bool HG.out.symm, n, rfl⟩


end Go.Proofs.Ytbbiobhffelaaaa
