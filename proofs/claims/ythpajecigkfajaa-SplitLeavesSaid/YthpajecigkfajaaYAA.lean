/-
  Walks of the references 02, 04 and 05: which lists are the same; spans that are drawn.
-/
import Derived.Test.YthpajecigkfajaaGC
import Derived.Test.YthpajecigkfajaaRBA
import Derived.Test.YthpajecigkfajaaMT
namespace Go.Proofs.Ythpajecigkfajaa
namespace T4
open Go.RowKit Go.Sort
set_option linter.unusedVariables false

def spanS (a b : Nat) : Sp :=
  (if 200 ≤ a then prefS a else keyS a, if 240 ≤ b then [] else if 200 ≤ b then (if 200 ≤ a then prefS a else keyS a) ++ [0] else keyS b)
theorem prefS_len (n : Nat) : (prefS n).length ≤ 20 := getD_len (L := preL) (b := 20) (by decide) _
/-- The second of two stores at one place. -/
theorem setCell_twice (W : World) (p : Addr) (u v : Value) : (W.setCell p u).setCell p v = W.setCell p v := by
  unfold World.setCell
  simp only
  congr 1
  apply Array.ext
  · simp
  · intro i h1 h2
    simp only [Array.getElem_modify]
    split
    · cases W.heap[i]'(by simpa using h2) <;> simp
      by_cases h : p.spot.isSome = true <;> simp [h]
    · rfl
end T4
open Go.RowKit Go.Sort
set_option linter.unusedVariables false

set_option maxRecDepth 100000 in
set_option maxHeartbeats 2000000 in
theorem samemsgs_w (v0 v1 : Value) (a b : List Ms) (w : World) (h0 : IsMsgs w v0 a) (h1 : IsMsgs w v1 b) :
    Calls Try.prog 14 #[v0, v1] w fun e w' => e = .returned (.bool (decide (a = b))) ∧ ∃ n, w' = w.drewN n := by
  have mixed := mixedA
  obtain ⟨g0, o0, cap0, p0, rfl, hl0, hm0, hp0, hc0⟩ := h0.form
  obtain ⟨g1, o1, cap1, p1, rfl, hl1, hm1, hp1, hc1⟩ := h1.form
  unfold maxLen at hm0 hm1
  have HC0 := Lib.hid hc0
  have HC1 := Lib.hid hc1
  clear h0 h1 hp0 hp1 hc0 hc1
  by_cases hlen : a.length = b.length
  · have hlb : ((a.length : Int) != (b.length : Int)) = false := by rw [hlen]; simp
    have Hlen := Lib.hid hlen
    clear hlen
    go_enter Try.func14, Try.ntmps14
    go_wp2
    go_loopw [5] (fun i wr => ∃ k n : Nat, k ≤ a.length ∧ i = .int .i64 k ∧ Hid (a.take k = b.take k) ∧ wr = w.drewN n) (fun i _ => a.length - (intOf i).toNat)
    case atStart => exact ⟨0, 0, Nat.zero_le _, rfl, Lib.hid rfl, rfl⟩
    case round =>
      obtain ⟨k, n, hk, rfl, htake, rfl⟩ := hrel
      by_cases hlt : k < a.length
      · have hltb : k < b.length := by have := Hlen.out; omega
        have hlz : (k : Int) < (b.length : Int) := by omega
        have hlza : (k : Int) < (a.length : Int) := by omega
        obtain ⟨rfl, c0, c1, c2, c3, c4, c5, c6, c7⟩ := HC0.out k hlt
        obtain ⟨rfl, d0, d1, d2, d3, d4, d5, d6, d7⟩ := HC1.out k hltb
        have Ha := Lib.hid (show a.take (k + 1) = a.take k ++ [a[k]] from by rw [List.take_add_one, List.getElem?_eq_getElem hlt]; rfl)
        have Hb := Lib.hid (show b.take (k + 1) = b.take k ++ [b[k]] from by rw [List.take_add_one, List.getElem?_eq_getElem hltb]; rfl)
        have Hne : Hid (a[k] ≠ b[k] → a ≠ b) := Lib.hid (fun h e => h (by subst e; rfl))
        generalize a[k] = x at *
        generalize b[k] = y at *
        have HQ := Lib.hid (fun wx => neq_msg x y wx)
        have HG := Lib.hid (fun o p wx => guard_msg .neq o p (encM x) (encM y) wx)
        have Hxy : Hid (decide (x = y) = true ↔ x = y) := Lib.hid (by simp)
        obtain ⟨x0, x1, x2, x3, x4, x5, x6, x7⟩ := x
        obtain ⟨y0, y1, y2, y3, y4, y5, y6, y7⟩ := y
        have c0 := fun n => (show (w.drewN n).cell? ⟨g0, o0 + k * 8, none⟩ = some (.int .i64 x0) from c0)
        have c1 := fun n => (show (w.drewN n).cell? ⟨g0, o0 + k * 8 + 1, none⟩ = some (.string (Str x1)) from c1)
        have c2 := fun n => (show (w.drewN n).cell? ⟨g0, o0 + k * 8 + 2, none⟩ = some (.string (Str x2)) from c2)
        have c3 := fun n => (show (w.drewN n).cell? ⟨g0, o0 + k * 8 + 3, none⟩ = some (.string (Str x3)) from c3)
        have c4 := fun n => (show (w.drewN n).cell? ⟨g0, o0 + k * 8 + 4, none⟩ = some (.string (Str x4)) from c4)
        have c5 := fun n => (show (w.drewN n).cell? ⟨g0, o0 + k * 8 + 5, none⟩ = some (.string (Str x5)) from c5)
        have c6 := fun n => (show (w.drewN n).cell? ⟨g0, o0 + k * 8 + 6, none⟩ = some (.string (Str x6)) from c6)
        have c7 := fun n => (show (w.drewN n).cell? ⟨g0, o0 + k * 8 + 7, none⟩ = some (.int .i64 x7) from c7)
        have d0 := fun n => (show (w.drewN n).cell? ⟨g1, o1 + k * 8, none⟩ = some (.int .i64 y0) from d0)
        have d1 := fun n => (show (w.drewN n).cell? ⟨g1, o1 + k * 8 + 1, none⟩ = some (.string (Str y1)) from d1)
        have d2 := fun n => (show (w.drewN n).cell? ⟨g1, o1 + k * 8 + 2, none⟩ = some (.string (Str y2)) from d2)
        have d3 := fun n => (show (w.drewN n).cell? ⟨g1, o1 + k * 8 + 3, none⟩ = some (.string (Str y3)) from d3)
        have d4 := fun n => (show (w.drewN n).cell? ⟨g1, o1 + k * 8 + 4, none⟩ = some (.string (Str y4)) from d4)
        have d5 := fun n => (show (w.drewN n).cell? ⟨g1, o1 + k * 8 + 5, none⟩ = some (.string (Str y5)) from d5)
        have d6 := fun n => (show (w.drewN n).cell? ⟨g1, o1 + k * 8 + 6, none⟩ = some (.string (Str y6)) from d6)
        have d7 := fun n => (show (w.drewN n).cell? ⟨g1, o1 + k * 8 + 7, none⟩ = some (.int .i64 y7) from d7)
        have heq := HQ.out
        have hgu := HG.out
        clear HQ HG
        dsimp only [msgV, encM] at heq hgu
        generalize decide ((⟨x0, x1, x2, x3, x4, x5, x6, x7⟩ : Ms) = ⟨y0, y1, y2, y3, y4, y5, y6, y7⟩) = q at *
        cases q with
        | true =>
          have He := Lib.hid (Hxy.out.1 rfl)
          clear Hxy Hne
          go_wp2_with fail
          go_quiet (fail)
          go_wp2
          go_roundw
          case rel => exact ⟨k + 1, n + nq, by omega, by go_num, Lib.hid (by rw [Ha.out, Hb.out, htake.out, He.out]), rfl⟩
          case measure => simp [intOf]; omega
        | false =>
          have He := Lib.hid (Hne.out (fun e => by have := Hxy.out.2 e; cases this))
          clear Hxy Hne
          go_wp2_with fail
          go_quiet (fail)
          go_wp2
          go_ret
          exact ⟨ret_bool (by have := He.out; simp [this]), n + nq, World.drewN_drewN _ _ _⟩
      · obtain rfl : k = a.length := by omega
        have He : Hid (a = b) := Lib.hid (by
          have := htake.out
          rw [List.take_length, Hlen.out, List.take_length] at this
          exact this)
        clear htake
        go_wp2
        go_ret
        exact ⟨ret_bool (by simp [He.out]), n, rfl⟩
  · have hlb : ((a.length : Int) != (b.length : Int)) = true := by simp; omega
    have He : Hid (a ≠ b) := Lib.hid (fun e => hlen (by rw [e]))
    clear hlen
    go_enter Try.func14, Try.ntmps14
    go_wp2
    go_ret
    exact ⟨ret_bool (by have := He.out; simp [this]), 0, rfl⟩



end Go.Proofs.Ythpajecigkfajaa
