/-
  Walks: the parts of a span.
-/
import Derived.Test.YtenhjpopdmiekaaZW8
namespace Go.Proofs.Ytenhjpopdmiekaa
open Go.RowKit Go.Sort
set_option linter.unusedVariables false

/-- The parts of a span between pivots, from a key on. -/
def partsF (s : Sp) : Bs → List Bs → List Sp
  | lo, [] => [meetS s (lo, [])]
  | lo, p :: r => meetS s (lo, p) :: partsF s p r
theorem partsF_len (s : Sp) : ∀ lo ps, (partsF s lo ps).length = ps.length + 1
  | _, [] => rfl
  | _, p :: r => by rw [partsF, List.length_cons, partsF_len s p r, List.length_cons]

set_option maxRecDepth 100000 in
set_option maxHeartbeats 2000000 in
theorem parts_w (s1 s2 : Bs) (v : Value) (ps : List Bs) (w : World) (h : IsStrs w v ps) (hl : ps.length ≤ 1000) :
    Calls Try.prog 26 #[.agg #[.string (Str s1), .string (Str s2)], v] w fun e w' => ∃ v', e = .returned v' ∧ w'.ownsRow w.heap.size 29 2 v' (partsF (s1, s2) [] ps).length ((partsF (s1, s2) [] ps).flatMap encS) ∧ Below w.heap.size w w' := by
  have mixed := mixedA
  obtain ⟨i0, hi, hz0, hz1, hz2⟩ := info_parts infoS
  obtain ⟨g, o, cap, p, rfl, hlc, hcm, hpp, hcc⟩ := h.form
  unfold maxLen at hcm
  have HP := Lib.hid hpp
  have HC := Lib.hid hcc
  clear h hpp hcc
  have HS : Hid (Blk (w.alloc (.cells #[.string (Str s1), .string (Str s2)] 29)) w.heap.size 29 #[.string (Str s1), .string (Str s2)]) := Lib.hid (Blk.new _ _ _)
  go_enter Try.func26, Try.ntmps26
  go_wp2_with (at_make; refine wpList_make_own _ rfl _ _ 22 rfl (w.heap.size + 1) 29 i0 (.agg #[.string ⟨#[]⟩, .string ⟨#[]⟩]) 2 Try.underlying22 hi hz0 hz1 .i64 .i64 _ (ps.length + 1) rfl rfl (by omega) (by rw [hz2]; omega) (by unfold maxLen; omega) (by simp) ?_; intro w0 hown0 hgrow0)
  have HB0 : Hid (Below (w.heap.size + 1) (w.alloc (.cells #[.string (Str s1), .string (Str s2)] 29)) w0) := Lib.hid (Below.grown (Below.refl _ _) hgrow0 (by simp) (fun k hk => by cases hk))
  simp only [World.size_alloc] at hown0
  have Hown0 := Lib.hid hown0
  clear hown0 hgrow0
  go_wp2
  go_loopw [5, 6, 15] (fun v6 sl i wr => ∃ (k : Nat) (left : List Sp) (lo : Bs), k ≤ ps.length ∧ i = .int .i64 k ∧ sl = .string (Str lo) ∧ wr.ownsRow (w.heap.size + 1) 29 2 v6 left.length (left.flatMap encS) ∧ left.length = k ∧
      Below (w.heap.size + 1) (w.alloc (.cells #[.string (Str s1), .string (Str s2)] 29)) wr ∧ Hid (left ++ partsF (s1, s2) lo (ps.drop k) = partsF (s1, s2) [] ps)) (fun _ _ i _ => ps.length - (intOf i).toNat)
  case atStart => exact ⟨0, [], [], Nat.zero_le _, rfl, rfl, Hown0.out, rfl, HB0.out, Lib.hid (by simp)⟩
  case round =>
    obtain ⟨k, left, lo, hk, rfl, rfl, hown, hll, hbel, hp⟩ := hrel
    have Hblk := Lib.hid (Blk.below HS.out hbel (by omega))
    have s0 := Hblk.out.c0 0 _ rfl
    have s1' := Hblk.out.c0 1 _ rfl
    simp only [List.getElem_toArray, List.getElem_cons_zero, List.getElem_cons_succ] at s0 s1'
    have hsz := hbel.size
    simp only [World.size_alloc] at hsz
    have Hown := Lib.hid hown
    have Hbel := Lib.hid hbel
    clear hown hbel
    by_cases hlt : k < ps.length
    · obtain ⟨rfl, c0⟩ := HC.out k hlt
      have hgl := (HP.out (by rintro rfl; simp at hlt)).2
      have c0' : wr.cell? ⟨g, o + k, none⟩ = some (.string (Str ps[k])) := (Hbel.out.cell (p := ⟨g, o + k, none⟩) (by exact Nat.lt_succ_of_lt hgl)).trans ((World.cell?_alloc_lt _ _ _ (by exact hgl)).trans c0)
      have Hd := Lib.hid (List.drop_eq_getElem_cons hlt)
      clear c0
      generalize hq : ps[k] = q at *
      have hm := fun wx => meet_w (s1, s2) (lo, q) wx
      simp only [strS] at hm
      have Hp2 : Hid ((left ++ [meetS (s1, s2) (lo, q)]) ++ partsF (s1, s2) q (ps.drop (k + 1)) = partsF (s1, s2) [] ps) := Lib.hid (by rw [← hp.out, Hd.out, partsF, List.append_assoc]; rfl)
      generalize meetS (s1, s2) (lo, q) = z at *
      clear hq hp Hd
      obtain ⟨z1, z2⟩ := z
      go_wp2_with (first
        | (go_at_call 21; refine (hm _).mono ?_; rintro e w1 ⟨rfl, hg1⟩; have Hg1 := Lib.hid hg1; have hsz1 : wr.heap.size ≤ w1.heap.size := (hg1.below (B := wr.heap.size) (Nat.le_refl _)).size; clear hg1)
        | (at_builtin; refine wpList_append_own _ rfl _ _ 22 rfl (w.heap.size + 1) 29 i0 (.agg #[.string ⟨#[]⟩, .string ⟨#[]⟩]) 2 32 Try.underlying22 hi hz0 hz1 hz2 rfl (by decide) _ _ _ rfl ((owns_below Hown.out (Hg1.out.below (Nat.le_refl _))).alloc _) ⟨w1.heap.size, 0, none⟩ 1 1 [.string (Str z1), .string (Str z2)] rfl rfl (cells_new' _ _ _ (by simp)) (by intro u hu; simp at hu; rcases hu with rfl | rfl <;> rfl) (by unfold maxLen; omega) (by omega) (by simp; omega) ?_; intro v' w2 hown' hgrow _))
      have Hown' := Lib.hid hown'
      have Hb2 : Hid (Below (w.heap.size + 1) (w.alloc (.cells #[.string (Str s1), .string (Str s2)] 29)) w2) := Lib.hid (Below.grown ((Below.trans Hbel.out (Hg1.out.below (by omega))).alloc (by omega) _) hgrow (by simp; omega) (fun q hq => (Hown.out.lt q hq).1))
      clear hown' hgrow
      go_wp2
      go_roundw
      case rel => exact ⟨k + 1, left ++ [(z1, z2)], q, by omega, by go_num, rfl, by rw [List.length_append, List.flatMap_append]; exact Hown'.out, by simp; omega, Hb2.out, Hp2⟩
      case measure => simp [intOf]; omega
    · obtain rfl : k = ps.length := by omega
      have hm := fun wx => meet_w (s1, s2) (lo, []) wx
      simp only [strS] at hm
      have Hp2 : Hid (left ++ [meetS (s1, s2) (lo, [])] = partsF (s1, s2) [] ps) := Lib.hid (by rw [← hp.out, List.drop_length]; rfl)
      generalize meetS (s1, s2) (lo, []) = z at *
      clear hp
      obtain ⟨z1, z2⟩ := z
      go_wp2_with (first
        | (go_at_call 21; refine (hm _).mono ?_; rintro e w1 ⟨rfl, hg1⟩; have Hg1 := Lib.hid hg1; have hsz1 : wr.heap.size ≤ w1.heap.size := (hg1.below (B := wr.heap.size) (Nat.le_refl _)).size; clear hg1)
        | (at_builtin; refine wpList_append_own _ rfl _ _ 22 rfl (w.heap.size + 1) 29 i0 (.agg #[.string ⟨#[]⟩, .string ⟨#[]⟩]) 2 32 Try.underlying22 hi hz0 hz1 hz2 rfl (by decide) _ _ _ rfl ((owns_below Hown.out (Hg1.out.below (Nat.le_refl _))).alloc _) ⟨w1.heap.size, 0, none⟩ 1 1 [.string (Str z1), .string (Str z2)] rfl rfl (cells_new' _ _ _ (by simp)) (by intro u hu; simp at hu; rcases hu with rfl | rfl <;> rfl) (by unfold maxLen; omega) (by omega) (by simp; omega) ?_; intro v' w2 hown' hgrow _))
      have Hown' := Lib.hid hown'
      have Hb2 : Hid (Below w.heap.size w w2) := Lib.hid (Below.grown ((Below.trans (((Below.refl w.heap.size w).alloc (Nat.le_refl _) _)) ((Below.trans Hbel.out (Hg1.out.below (by omega))).mono (by omega))).alloc (by omega) _) hgrow (by simp; omega) (fun q hq => by have := (Hown.out.lt q hq).1; omega))
      clear hown' hgrow
      go_wp2
      go_ret
      refine ⟨v', rfl, ?_, Hb2.out⟩
      rw [← Hp2.out, List.length_append, List.flatMap_append]
      refine ⟨Hown'.out.1, ?_⟩
      rcases Hown'.out.2 with h | ⟨g, cp, cur, h2, h3, h4⟩
      · exact .inl h
      · exact .inr ⟨g, cp, cur, h2, by omega, h4⟩

end Go.Proofs.Ytenhjpopdmiekaa
