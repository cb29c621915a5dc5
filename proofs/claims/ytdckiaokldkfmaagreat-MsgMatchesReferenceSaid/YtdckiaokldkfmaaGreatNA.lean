/-
  Walks: what the reference takes out of a table, what it leaves, and whether keys grow.
-/
import Derived.Test.YtdckiaokldkfmaaGreatMI
import Derived.Test.YtdckiaokldkfmaaGreatNS
import Derived.IntWalk
namespace Go.Proofs.YtdckiaokldkfmaaGreat
open Go.RowKit Go.Sort
set_option linter.unusedVariables false

theorem without_take (l : List Sp) (t : List Pr) (j : Nat) (h : j < t.length) : withoutS l (t.take (j + 1)) = withoutS l (t.take j) ++ if inB l t[j].1 then [] else [t[j]] := by
  unfold withoutS
  rw [List.take_add_one, List.getElem?_eq_getElem h, List.filter_append]
  congr 1
  simp only [Option.toList_some, List.filter_cons, List.filter_nil]
  cases inB l t[j].1 <;> rfl
theorem within_take (l : List Sp) (t : List Pr) (j : Nat) (h : j < t.length) : withinS l (t.take (j + 1)) = withinS l (t.take j) ++ if inB l t[j].1 then [t[j]] else [] := by
  unfold withinS
  rw [List.take_add_one, List.getElem?_eq_getElem h, List.filter_append]
  congr 1
  simp only [Option.toList_some, List.filter_cons, List.filter_nil]
theorem without_len (l : List Sp) (t : List Pr) : (withoutS l t).length ≤ t.length := List.length_filter_le _ _
theorem within_len (l : List Sp) (t : List Pr) : (withinS l t).length ≤ t.length := List.length_filter_le _ _

set_option maxRecDepth 100000 in
set_option maxHeartbeats 2000000 in
theorem without_w (v u : Value) (t : List Pr) (l : List Sp) (w : World) (h : IsPairs w v t) (hu : IsSpans w u l) (ht : t.length ≤ 50000) :
    Calls Tryz.prog 35 #[v, u] w (OwnOut w.heap.size w (withoutS l t)) := by
  obtain ⟨b, off, cap, p, rfl, hlc, hcm, hpp, hcc⟩ := h.form
  unfold maxLen at hcm
  have HP := Lib.hid hpp
  have HC := Lib.hid hcc
  have Hls := Lib.hid h.small
  have Hu := Lib.hid hu
  clear h hpp hcc hu
  have Hown0 := Lib.hid (own_empty w w.heap.size (Nat.le_refl _))
  go_enter Tryz.func35, Tryz.ntmps35
  go_wp2
  go_loopw [5, 6] (fun o i wr => ∃ j : Nat, j ≤ t.length ∧ i = .int .i64 j ∧ wr.ownsRow w.heap.size 69 3 o (withoutS l (t.take j)).length ((withoutS l (t.take j)).flatMap encP) ∧ Below w.heap.size w wr) (fun _ i _ => t.length - (intOf i).toNat)
  case atStart => exact ⟨0, Nat.zero_le _, rfl, Hown0.out, below_box _⟩
  case round =>
    clear Hown0
    obtain ⟨j, hj, rfl, hown, hbel⟩ := hrel
    have hsz := hbel.size
    have Hown := Lib.hid hown
    have Hbel := Lib.hid hbel
    clear hown
    by_cases hlt : j < t.length
    · obtain ⟨rfl, hc⟩ := HC.out j hlt
      have hgl := (HP.out (by rintro rfl; simp at hlt)).2
      have hltz : (j : Int) < (t.length : Int) := by omega
      have hcc := fun (wx : World) (hb : Below w.heap.size w wx) => cells_in hb hgl hc
      obtain ⟨c0, c1, c2⟩ := hcc wr hbel
      have Hcc := Lib.hid hcc
      have hxs := Lib.hid (Hls.out t[j] (List.getElem_mem hlt))
      have hgw : b < wr.heap.size := by omega
      have Htk := Lib.hid (without_take l t j hlt)
      have hlen : (withoutS l (t.take j)).length ≤ j := Nat.le_trans (without_len _ _) (List.length_take_le _ _)
      clear hbel hc hcc
      generalize t[j] = x at *
      obtain ⟨xk, xv, xt⟩ := x
      simp only at c0 c1 c2 Htk
      generalize withoutS l (t.take j) = left at *
      cases hf : inB l xk with
      | true =>
        have Hn : Hid (withoutS l (t.take (j + 1)) = left) := Lib.hid (by rw [Htk.out, hf]; simp)
        have Hi := Lib.hid (in_w u l xk wr (Hu.out.below Hbel.out))
        rw [hf] at Hi
        clear Htk hf
        go_wp2_with fail
        refine Hi.out.mono ?_
        rintro e w17 ⟨rfl, hg17⟩
        have hb17 := hg17.below (B := wr.heap.size) (Nat.le_refl _)
        have Hown17 := Lib.hid (owns_below Hown.out hb17)
        have Hb17 : Hid (Below w.heap.size w w17) := Lib.hid (Hbel.out.trans (hb17.mono hsz))
        have hs17 := Hb17.out.size
        have hgw17 : b < w17.heap.size := Nat.lt_of_lt_of_le hgl hs17
        obtain ⟨c0, c1, c2⟩ := Hcc.out w17 Hb17.out
        clear hb17 hg17
        go_wp2
        go_roundw
        case rel => exact ⟨j + 1, by omega, by go_num, by rw [Hn.out]; exact Hown17.out, Hb17.out⟩
        case measure => simp [intOf]; omega
      | false =>
        have Hn : Hid (withoutS l (t.take (j + 1)) = left ++ [(xk, xv, xt)]) := Lib.hid (by rw [Htk.out, hf]; rfl)
        have Hi := Lib.hid (in_w u l xk wr (Hu.out.below Hbel.out))
        rw [hf] at Hi
        clear Htk hf
        go_wp2_with fail
        refine Hi.out.mono ?_
        rintro e w17 ⟨rfl, hg17⟩
        have hb17 := hg17.below (B := wr.heap.size) (Nat.le_refl _)
        have Hown17 := Lib.hid (owns_below Hown.out hb17)
        have Hb17 : Hid (Below w.heap.size w w17) := Lib.hid (Hbel.out.trans (hb17.mono hsz))
        have hs17 := Hb17.out.size
        have hgw17 : b < w17.heap.size := Nat.lt_of_lt_of_le hgl hs17
        obtain ⟨c0, c1, c2⟩ := Hcc.out w17 Hb17.out
        clear hb17 hg17
        go_wp2_with (at_builtin; refine append_pairs rfl _ _ rfl w.heap.size _ left rfl (Hown17.out.alloc _) _ [(xk, xv, xt)] rfl (one_pairs (xk, xv, xt) hxs.out) (by simp only [List.length_cons, List.length_nil]; omega) (by simp; omega) ?_; intro v2 w2 hown2 hbel2)
        have Hown2 := Lib.hid hown2
        have Hbel2 : Hid (Below w.heap.size w w2) := Lib.hid ((Hb17.out.alloc hs17 _).trans hbel2)
        clear hown2 hbel2
        go_wp2
        go_roundw
        case rel => exact ⟨j + 1, by omega, by go_num, by rw [Hn.out]; exact Hown2.out, Hbel2.out⟩
        case measure => simp [intOf]; omega
    · obtain rfl : j = t.length := by omega
      rw [List.take_length] at Hown
      have hpr := Lib.hid (IsPairs.owned Hown.out (fun x hx => Hls.out x (List.mem_filter.1 hx).1))
      clear hbel
      go_wp2
      go_ret
      exact ⟨_, rfl, Hown.out, hpr.out, Hbel.out⟩

set_option maxRecDepth 100000 in
set_option maxHeartbeats 2000000 in
theorem within_w (v u : Value) (t : List Pr) (l : List Sp) (w : World) (h : IsPairs w v t) (hu : IsSpans w u l) (ht : t.length ≤ 50000) :
    Calls Tryz.prog 38 #[v, u] w (OwnOut w.heap.size w (withinS l t)) := by
  obtain ⟨b, off, cap, p, rfl, hlc, hcm, hpp, hcc⟩ := h.form
  unfold maxLen at hcm
  have HP := Lib.hid hpp
  have HC := Lib.hid hcc
  have Hls := Lib.hid h.small
  have Hu := Lib.hid hu
  clear h hpp hcc hu
  have Hown0 := Lib.hid (own_empty w w.heap.size (Nat.le_refl _))
  go_enter Tryz.func38, Tryz.ntmps38
  go_wp2
  go_loopw [5, 6] (fun o i wr => ∃ j : Nat, j ≤ t.length ∧ i = .int .i64 j ∧ wr.ownsRow w.heap.size 69 3 o (withinS l (t.take j)).length ((withinS l (t.take j)).flatMap encP) ∧ Below w.heap.size w wr) (fun _ i _ => t.length - (intOf i).toNat)
  case atStart => exact ⟨0, Nat.zero_le _, rfl, Hown0.out, below_box _⟩
  case round =>
    clear Hown0
    obtain ⟨j, hj, rfl, hown, hbel⟩ := hrel
    have hsz := hbel.size
    have Hown := Lib.hid hown
    have Hbel := Lib.hid hbel
    clear hown
    by_cases hlt : j < t.length
    · obtain ⟨rfl, hc⟩ := HC.out j hlt
      have hgl := (HP.out (by rintro rfl; simp at hlt)).2
      have hltz : (j : Int) < (t.length : Int) := by omega
      have hcc := fun (wx : World) (hb : Below w.heap.size w wx) => cells_in hb hgl hc
      obtain ⟨c0, c1, c2⟩ := hcc wr hbel
      have Hcc := Lib.hid hcc
      have hxs := Lib.hid (Hls.out t[j] (List.getElem_mem hlt))
      have hgw : b < wr.heap.size := by omega
      have Htk := Lib.hid (within_take l t j hlt)
      have hlen : (withinS l (t.take j)).length ≤ j := Nat.le_trans (within_len _ _) (List.length_take_le _ _)
      clear hbel hc hcc
      generalize t[j] = x at *
      obtain ⟨xk, xv, xt⟩ := x
      simp only at c0 c1 c2 Htk
      generalize withinS l (t.take j) = left at *
      cases hf : inB l xk with
      | true =>
        have Hn : Hid (withinS l (t.take (j + 1)) = left ++ [(xk, xv, xt)]) := Lib.hid (by rw [Htk.out, hf]; rfl)
        have Hi := Lib.hid (in_w u l xk wr (Hu.out.below Hbel.out))
        rw [hf] at Hi
        clear Htk hf
        go_wp2_with fail
        refine Hi.out.mono ?_
        rintro e w17 ⟨rfl, hg17⟩
        have hb17 := hg17.below (B := wr.heap.size) (Nat.le_refl _)
        have Hown17 := Lib.hid (owns_below Hown.out hb17)
        have Hb17 : Hid (Below w.heap.size w w17) := Lib.hid (Hbel.out.trans (hb17.mono hsz))
        have hs17 := Hb17.out.size
        have hgw17 : b < w17.heap.size := Nat.lt_of_lt_of_le hgl hs17
        obtain ⟨c0, c1, c2⟩ := Hcc.out w17 Hb17.out
        clear hb17 hg17
        go_wp2_with (at_builtin; refine append_pairs rfl _ _ rfl w.heap.size _ left rfl (Hown17.out.alloc _) _ [(xk, xv, xt)] rfl (one_pairs (xk, xv, xt) hxs.out) (by simp only [List.length_cons, List.length_nil]; omega) (by simp; omega) ?_; intro v2 w2 hown2 hbel2)
        have Hown2 := Lib.hid hown2
        have Hbel2 : Hid (Below w.heap.size w w2) := Lib.hid ((Hb17.out.alloc hs17 _).trans hbel2)
        clear hown2 hbel2
        go_wp2
        go_roundw
        case rel => exact ⟨j + 1, by omega, by go_num, by rw [Hn.out]; exact Hown2.out, Hbel2.out⟩
        case measure => simp [intOf]; omega
      | false =>
        have Hn : Hid (withinS l (t.take (j + 1)) = left) := Lib.hid (by rw [Htk.out, hf]; simp)
        have Hi := Lib.hid (in_w u l xk wr (Hu.out.below Hbel.out))
        rw [hf] at Hi
        clear Htk hf
        go_wp2_with fail
        refine Hi.out.mono ?_
        rintro e w17 ⟨rfl, hg17⟩
        have hb17 := hg17.below (B := wr.heap.size) (Nat.le_refl _)
        have Hown17 := Lib.hid (owns_below Hown.out hb17)
        have Hb17 : Hid (Below w.heap.size w w17) := Lib.hid (Hbel.out.trans (hb17.mono hsz))
        have hs17 := Hb17.out.size
        have hgw17 : b < w17.heap.size := Nat.lt_of_lt_of_le hgl hs17
        obtain ⟨c0, c1, c2⟩ := Hcc.out w17 Hb17.out
        clear hb17 hg17
        go_wp2
        go_roundw
        case rel => exact ⟨j + 1, by omega, by go_num, by rw [Hn.out]; exact Hown17.out, Hb17.out⟩
        case measure => simp [intOf]; omega
    · obtain rfl : j = t.length := by omega
      rw [List.take_length] at Hown
      have hpr := Lib.hid (IsPairs.owned Hown.out (fun x hx => Hls.out x (List.mem_filter.1 hx).1))
      clear hbel
      go_wp2
      go_ret
      exact ⟨_, rfl, Hown.out, hpr.out, Hbel.out⟩

set_option maxRecDepth 100000 in
set_option maxHeartbeats 2000000 in
theorem sorted_w (v : Value) (l : List Pr) (w : World) (h : IsPairs w v l) (hs : Srt l) (hl : l.length ≤ 100000) :
    Calls Tryz.prog 36 #[v] w fun e w' => e = .returned (.bool true) ∧ ∃ n, w' = w.drewN n := by
  obtain ⟨b, off, cap, p, rfl, hlc, hcm, hpp, hcc⟩ := h.form
  unfold maxLen at hcm
  have HC := Lib.hid hcc
  have HS := Lib.hid hs
  clear h hpp hcc hs
  have mixed := mixedA
  go_enter Tryz.func36, Tryz.ntmps36
  go_wp2
  go_loopw [3] (fun i wr => ∃ k n : Nat, 1 ≤ k ∧ (k ≤ l.length ∨ k = 1) ∧ i = .int .i64 k ∧ wr = w.drewN n) (fun i _ => l.length - (intOf i).toNat)
  case atStart => exact ⟨1, 0, Nat.le_refl _, .inr rfl, rfl, rfl⟩
  case round =>
    obtain ⟨k, n, hk1, hk, rfl, rfl⟩ := hrel
    by_cases hlt : k < l.length
    · obtain ⟨j, rfl⟩ : ∃ j, k = j + 1 := ⟨k - 1, by omega⟩
      obtain ⟨rfl, c0, -⟩ := HC.out j (by omega)
      obtain ⟨-, d0, -⟩ := HC.out (j + 1) hlt
      have hj : j < l.length := by omega
      have hB : Op.bytesLess (l[j]'hj).1 l[j + 1].1 = true := List.pairwise_iff_getElem.1 HS.out j (j + 1) hj hlt (by omega)
      generalize (l[j]'hj) = x at *
      generalize l[j + 1] = y at *
      obtain ⟨xk, xv, xt⟩ := x
      obtain ⟨yk, yv, yt⟩ := y
      simp only at c0 d0 hB
      have c0' := fun n => (show (w.drewN n).cell? ⟨b, off + j * 3, none⟩ = some (.string (Str xk)) from c0)
      have d0' := fun n => (show (w.drewN n).cell? ⟨b, off + (j + 1) * 3, none⟩ = some (.string (Str yk)) from d0)
      clear c0 d0
      have hw1 : IntKind.i64.wrap (((j + 1 : Nat) : Int) - 1) = (j : Int) := by rw [show ((j + 1 : Nat) : Int) - 1 = (j : Int) by omega]; exact IntWalk.i64_in _ (by omega)
      have hw2 : ((j + 1 : Nat) : Int) - 1 = (j : Int) := by omega
      have hz1 : (j : Int) < (l.length : Int) := by omega
      have hz2 : ((j + 1 : Nat) : Int) < (l.length : Int) := by omega
      have hz3 : (j : Int) + 1 < (l.length : Int) := by omega
      have hw3 : IntKind.i64.wrap ((j : Int) + 1 - 1) = (j : Int) := by rw [show (j : Int) + 1 - 1 = (j : Int) by omega]; exact IntWalk.i64_in _ (by omega)
      have d0'' := fun n => (show (w.drewN n).cell? ⟨b, off + ((j : Int) + 1).toNat * 3, none⟩ = some (.string (Str yk)) from by rw [show ((j : Int) + 1).toNat = j + 1 by omega]; exact d0' n)
      go_wp2_with fail
      go_quiet (fail)
      go_wp2
      go_roundw
      case rel => exact ⟨j + 2, n + nq, by omega, .inl (by omega), by go_num, rfl⟩
      case measure => simp [intOf]; omega
    · have hlt' : (l.length : Int) ≤ (k : Int) := by omega
      go_wp2
      go_ret
      exact ⟨rfl, n, rfl⟩

end Go.Proofs.YtdckiaokldkfmaaGreat
