/-
  Walks: the effect of a move, of a stamp; Apply and All.
-/
import Derived.Test.YtaafckefeejjpaaGreatMD
namespace Go.Proofs.YtaafckefeejjpaaGreat
open Go.RowKit Go.Sort
set_option linter.unusedVariables false

set_option maxRecDepth 100000 in
set_option maxHeartbeats 4000000 in
theorem apply_move (b : Nat) (m : Ms) (v : Value) (l : List Pr) (w : World) (hm : MBlk w b m) (h : IsPairs w v l) (hs : Srt l) (hl : l.length ≤ 10000) (h1 : m.src.length ≤ 100000) (h2 : m.dst.length ≤ 100000) (hk : ∀ x ∈ l, x.1.length ≤ 100000) :
    Calls Tryz.prog 189 #[ptrV b, v] w (OwnOut w.heap.size w (moveT m.src m.dst l)) := by
  have hc5 : ∀ wr, SB w wr → wr.cell? ⟨b, 5, none⟩ = some (.string (Str m.src)) := fun wr hr => (hm.below hr.g hm.lt).c0 5 _ rfl
  have HP := Lib.hid (fun wr => prefix_w m.src wr (by omega))
  have HC := Lib.hid (fun wr (hr : SB w wr) => apply_clone b m v l wr (hm.below hr.g hm.lt) (h.below hr.g) hs hl h1 h2 hk)
  obtain ⟨s1, s2, n1, n2⟩ := clone_facts m.src m.dst hs
  have hsc : Srt (cloneT m.src m.dst l) := srt_union s1 _
  have hnc : (cloneT m.src m.dst l).length ≤ 20000 := by have := union_length (dropS (preS m.dst) l) (movedT m.src m.dst l); unfold cloneT; omega
  have HD := Lib.hid (fun va wr (hr : SB w wr) (ha : IsPairs wr va (cloneT m.src m.dst l)) => (drop_w va _ m.src (preT m.src) wr ha hsc (by omega)).mono fun e w' hh => hh.lower hr.g hr.g.size)
  clear hm h hs hk s1 s2 n1 n2
  have HR : Hid (moveT m.src m.dst l = dropS (m.src, preT m.src) (cloneT m.src m.dst l)) := Lib.hid rfl
  generalize m.src = s at *
  generalize m.dst = d at *
  generalize moveT s d l = r at *
  generalize cloneT s d l = A at *
  have HS0 := Lib.hid (SB.refl w)
  go_enter Tryz.func189, Tryz.ntmps189
  go_wp2_with fail
  go_region_held3 (fun wr => SB w wr) (first | with_reducible assumption | exact SB.mk (by with_reducible assumption) | exact SB.below (by with_reducible assumption) (by with_reducible assumption) | exact HS0.out.drew)
    (first
      | (go_at_call 196; (with_reducible refine (HP.out _).mono ?_); rintro e w2 ⟨rfl, hg⟩; have hb2 := hg.below (B := _) (Nat.le_refl _); first | (have hm2 := hm4.below hb2) | skip)
      | (go_at_call 195; (with_reducible refine (HC.out _ (by assumption)).mono ?_); rintro e w4 ⟨v4, rfl, -, hm4, hb4⟩)
      | (go_at_call 181; first
          | (with_reducible refine (HD.out _ _ (by assumption) hm2).mono ?_)
          | (with_reducible refine (HD.out _ _ (by assumption) hm4).mono ?_)
         intro e w5 h5; have H5 := Lib.hid h5; obtain ⟨v5, rfl, -, -, hb5⟩ := h5))
  all_goals
    go_wp2
    go_ret
    rw [HR.out]
    exact H5.out

/-- The first k stamps are set. -/
def stK (s : Sp) (n : Int) (l : List Pr) (k : Nat) : List Pr := (stampT s n l).take k ++ l.drop k
theorem stamp_len (s : Sp) (n : Int) (l : List Pr) : (stampT s n l).length = l.length := by unfold stampT; simp
theorem stK_len (s : Sp) (n : Int) (l : List Pr) (k : Nat) (h : k ≤ l.length) : (stK s n l k).length = l.length := by
  unfold stK; rw [List.length_append, List.length_take, List.length_drop, stamp_len]; omega
theorem stK_zero (s : Sp) (n : Int) (l : List Pr) : stK s n l 0 = l := by unfold stK; simp
theorem stK_all (s : Sp) (n : Int) (l : List Pr) : stK s n l l.length = stampT s n l := by
  unfold stK; rw [List.drop_length, List.take_of_length_le (by rw [stamp_len]; exact Nat.le_refl _)]; simp
theorem stK_at (s : Sp) (n : Int) (l : List Pr) (k : Nat) (h : k < l.length) : (stK s n l k)[k]'(by rw [stK_len s n l k (by omega)]; exact h) = l[k] := by
  unfold stK
  rw [List.getElem_append_right (by rw [List.length_take, stamp_len]; omega)]
  simp [List.getElem_drop, stamp_len]
  congr 1; omega
theorem stK_set (s : Sp) (n : Int) (l : List Pr) (k : Nat) (h : k < l.length) : (stK s n l k).set k (stampP s n l[k]) = stK s n l (k + 1) := by
  unfold stK
  rw [List.set_append_right _ _ (by rw [List.length_take, stamp_len]; omega)]
  have e1 : k - ((stampT s n l).take k).length = 0 := by rw [List.length_take, stamp_len]; omega
  rw [e1, List.drop_eq_getElem_cons h, List.set_cons_zero, List.take_add_one]
  unfold stampT
  rw [List.getElem?_map, List.getElem?_eq_getElem h]
  simp
theorem stK_skip (s : Sp) (n : Int) (l : List Pr) (k : Nat) (h : k < l.length) (hh : hasB s l[k].1 = false) : stK s n l (k + 1) = stK s n l k := by
  rw [← stK_set s n l k h]
  have e : stampP s n l[k] = (stK s n l k)[k]'(by rw [stK_len s n l k (by omega)]; exact h) := by rw [stK_at s n l k h]; unfold stampP; rw [hh]; rfl
  rw [e]; exact List.set_getElem_self _
theorem flatP_stamp (T : List Pr) (i : Nat) (h : i < T.length) (n : Int) : (T.flatMap encP).set (i * 3 + 2) (.int .i64 n) = (T.set i (T[i].1, T[i].2.1, n)).flatMap encP := by
  induction T generalizing i with
  | nil => simp at h
  | cons t r ih =>
    have e : ∀ (t : Pr) r, (t :: r).flatMap encP = .string (Str t.1) :: .string (Str t.2.1) :: .int .i64 t.2.2 :: r.flatMap encP := fun t r => rfl
    cases i with
    | zero => rw [List.set_cons_zero, e, e]; rfl
    | succ i =>
      rw [List.set_cons_succ, e, e]
      have ih' := ih i (by simpa using h)
      have h2 : (i + 1) * 3 + 2 = i * 3 + 2 + 1 + 1 + 1 := by omega
      rw [h2]
      simp only [List.set_cons_succ, List.getElem_cons_succ]
      rw [ih']
theorem stamp_small {s : Sp} {n : Int} {l : List Pr} (h : ∀ x ∈ l, x.1.length ≤ maxLen ∧ x.2.1.length ≤ maxLen) : ∀ x ∈ stampT s n l, x.1.length ≤ maxLen ∧ x.2.1.length ≤ maxLen := by
  intro x hx
  obtain ⟨y, hy, rfl⟩ := List.mem_map.1 hx
  have := h y hy
  unfold stampP; split <;> exact this

/-- What stays while a round of Stamp reads. -/
structure SQ (w : World) (pb : Nat) (x : Pr) (vv : Value) (n : Nat) (xs : List Value) (wx : World) : Prop where
  g : Below w.heap.size w wx
  p : Blk wx pb 91 #[.string (Str x.1), .string (Str x.2.1), .int .i64 x.2.2]
  o : wx.ownsRow w.heap.size 91 3 vv n xs
theorem SQ.below {w wx wy : World} {pb : Nat} {x : Pr} {vv : Value} {n : Nat} {xs : List Value} (h : SQ w pb x vv n xs wx) (hb : Below wx.heap.size wx wy) : SQ w pb x vv n xs wy :=
  ⟨h.g.trans (hb.mono h.g.size), h.p.below hb h.p.lt, owns_below h.o hb⟩
theorem SQ.drew {w wx : World} {pb : Nat} {x : Pr} {vv : Value} {n : Nat} {xs : List Value} (h : SQ w pb x vv n xs wx) : SQ w pb x vv n xs wx.drew := h.below (below_drewN wx 1)

set_option maxRecDepth 100000 in
set_option maxHeartbeats 4000000 in
theorem apply_stamp (b : Nat) (m : Ms) (v : Value) (l : List Pr) (w : World) (hm : MBlk w b m) (h : IsPairs w v l) (hl : l.length ≤ 50000) :
    Calls Tryz.prog 210 #[ptrV b, v] w (OwnOut w.heap.size w (stampT (m.lo, m.hi) m.n l)) := by
  have HM := Lib.hid (fun wr (hb : Below w.heap.size w wr) => MBlk.plain (Blk.below hm hb hm.lt))
  have Hsm := Lib.hid (stamp_small (s := (m.lo, m.hi)) (n := m.n) h.small)
  have HC := Lib.hid (clone_w v l w h (by omega))
  have HH := Lib.hid (fun k wx => has_w m.lo m.hi k wx)
  have hbw : b < w.heap.size := hm.lt
  have Hbw := Lib.hid hbw
  clear hm h hbw
  generalize m.lo = lo at *
  generalize m.hi = hi at *
  generalize m.n = nn at *
  go_enter Tryz.func210, Tryz.ntmps210
  go_wp2_with fail
  refine HC.out.mono ?_
  rintro e w2 ⟨vr, rfl, hown, -, hb2⟩
  have Hown := Lib.hid hown
  have Hb2 := Lib.hid hb2
  obtain ⟨p, cap, rfl, hcap1, hcap2, hpp⟩ := own_formP hown
  unfold maxLen at hcap2
  clear hown hb2
  go_wp2
  go_loopw [12] (fun i wr => ∃ k : Nat, k ≤ l.length ∧ i = .int .i64 k ∧ wr.ownsRow w.heap.size 91 3 (.slice p l.length cap) l.length ((stK (lo, hi) nn l k).flatMap encP) ∧ Below w.heap.size w wr) (fun i _ => l.length - (intOf i).toNat)
  case atStart => exact ⟨0, Nat.zero_le _, rfl, by rw [stK_zero]; exact Hown.out, Hb2.out⟩
  case round =>
    obtain ⟨k, hk, rfl, hown, hbel⟩ := hrel
    clear Hown Hb2
    have hsz := hbel.size
    have Hown := Lib.hid hown
    have Hbel := Lib.hid hbel
    clear hbel
    by_cases hlt : k < l.length
    · obtain ⟨g, rfl⟩ := hpp (by omega)
      have hlen := stK_len (lo, hi) nn l k (by omega)
      have hkl : k < (stK (lo, hi) nn l k).length := by omega
      have hcells := own_cellsP hown k hkl
      have hset := flatP_stamp (stK (lo, hi) nn l k) k hkl nn
      rw [stK_at (lo, hi) nn l k hlt] at hcells hset
      have Hset : Hid (hasB (lo, hi) l[k].1 = true → ((stK (lo, hi) nn l k).flatMap encP).set (k * 3 + 2) (.int .i64 nn) = (stK (lo, hi) nn l (k + 1)).flatMap encP) := Lib.hid (fun hh => by
        rw [hset, ← stK_set (lo, hi) nn l k hlt]; congr 2; unfold stampP; rw [hh]; rfl)
      have Hskip := Lib.hid (stK_skip (lo, hi) nn l k hlt)
      have Hcell : Hid (∀ wx : World, wx.ownsRow w.heap.size 91 3 (.slice (some ⟨g, 0, none⟩) l.length cap) l.length ((stK (lo, hi) nn l k).flatMap encP) → wx.cell? ⟨g, k * 3 + 2, none⟩ = some (.int .i64 l[k].2.2)) := Lib.hid (fun wx ho => by
        have h := (own_cellsP ho k hkl).2.2
        rw [stK_at (lo, hi) nn l k hlt] at h
        exact h)
      have hgl := (hown.lt g rfl)
      clear hset hlen hkl hown
      generalize l[k] = x at *
      obtain ⟨xk, xv, xt⟩ := x
      simp only at hcells Hset Hskip Hcell
      have hgl2 := hgl.2
      have hltz : (k : Int) < (l.length : Int) := by omega
      obtain ⟨c0, c1, c2⟩ := hcells
      obtain ⟨-, -, -, d3, d4, -, -, -⟩ := HM.out _ Hbel.out
      have HS0 : Hid (SQ w wr.heap.size (xk, xv, xt) (.slice (some ⟨g, 0, none⟩) l.length cap) l.length ((stK (lo, hi) nn l k).flatMap encP) (wr.alloc (.cells #[.string (Str xk), .string (Str xv), .int .i64 xt] 91))) := Lib.hid ⟨Hbel.out.alloc hsz _, Blk.new _ _ _, Hown.out.alloc _⟩
      clear hgl d3 d4
      go_wp2_with fail
      have q3 : ∀ wx, SQ w wr.heap.size (xk, xv, xt) (.slice (some ⟨g, 0, none⟩) l.length cap) l.length ((stK (lo, hi) nn l k).flatMap encP) wx → wx.cell? ⟨b, 3, none⟩ = some (.string (Str lo)) := fun wx hx => (HM.out wx hx.g).2.2.2.1
      have q4 : ∀ wx, SQ w wr.heap.size (xk, xv, xt) (.slice (some ⟨g, 0, none⟩) l.length cap) l.length ((stK (lo, hi) nn l k).flatMap encP) wx → wx.cell? ⟨b, 4, none⟩ = some (.string (Str hi)) := fun wx hx => (HM.out wx hx.g).2.2.2.2.1
      have q0 : ∀ wx, SQ w wr.heap.size (xk, xv, xt) (.slice (some ⟨g, 0, none⟩) l.length cap) l.length ((stK (lo, hi) nn l k).flatMap encP) wx → wx.cell? ⟨wr.heap.size, 0, none⟩ = some (.string (Str xk)) := fun wx hx => hx.p.c0 0 _ rfl
      go_region_held3 (fun wx => SQ w wr.heap.size (xk, xv, xt) (.slice (some ⟨g, 0, none⟩) l.length cap) l.length ((stK (lo, hi) nn l k).flatMap encP) wx) (first | with_reducible assumption | exact SQ.below (by with_reducible assumption) (by with_reducible assumption) | exact HS0.out.drew)
        ((go_at_call 216; (with_reducible refine (HH.out _ _).mono ?_); rintro e w3 ⟨rfl, hg⟩; have hb3 := hg.below (B := _) (Nat.le_refl _)))
      all_goals
        have hq : SQ w wr.heap.size (xk, xv, xt) (.slice (some ⟨g, 0, none⟩) l.length cap) l.length ((stK (lo, hi) nn l k).flatMap encP) w3 := by with_reducible assumption
        have Hq := Lib.hid hq
        obtain ⟨-, -, -, -, -, -, -, d7⟩ := HM.out _ hq.g
        have hs3 := hq.g.size
        clear hq q0 q3 q4 HS0
        cases hh : hasB (lo, hi) xk with
        | false =>
          have Hs := Lib.hid (Hskip.out hh)
          clear hh Hskip Hset
          go_wp2
          go_roundw
          case rel => exact ⟨k + 1, by omega, by go_num, by rw [Hs.out]; exact Hq.out.o, Hq.out.g⟩
          case measure => simp [intOf]; omega
        | true =>
          have hst := Hq.out.o.stored (k * 3 + 2) (.int .i64 nn)
          rw [Hset.out hh] at hst
          have Hst := Lib.hid hst
          have f0 := Hq.out.o.frozenAt (k * 3 + 2)
          have hcx := Hcell.out w3 Hq.out.o
          have hgb := (Hq.out.o.lt g rfl).1
          clear hh Hskip Hset hst
          go_wp2
          go_roundw
          case rel => exact ⟨k + 1, by omega, by go_num, Hst.out.1, Below.grown Hq.out.g Hst.out.2 hs3 (fun q hq => by cases hq; exact hgb)⟩
          case measure => simp [intOf]; omega
    · obtain rfl : k = l.length := by omega
      rw [stK_all] at Hown
      have Hll := Lib.hid (stamp_len (lo, hi) nn l).symm
      clear hown
      go_wp2
      go_ret
      have hown := Hown.out
      rw [Hll.out] at hown ⊢
      exact ⟨_, rfl, hown, IsPairs.owned hown Hsm.out, Hbel.out⟩

end Go.Proofs.YtaafckefeejjpaaGreat
