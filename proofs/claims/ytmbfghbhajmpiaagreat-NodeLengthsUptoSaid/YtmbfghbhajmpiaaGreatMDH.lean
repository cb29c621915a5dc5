/-
  Walks: the effects of messages. Walks: the effect of a move, of a stamp; Apply and All. Walks: Apply and All.
-/
import Derived.Test.YtmbfghbhajmpiaaGreatMAC
import Derived.Test.YtmbfghbhajmpiaaGreatMRR
import Derived.Test.YtmbfghbhajmpiaaGreatMFG
namespace Go.Proofs.YtmbfghbhajmpiaaGreat
open Go.RowKit Go.Sort
set_option linter.unusedVariables false

set_option maxRecDepth 100000 in
set_option maxHeartbeats 2000000 in
theorem apply_put (b : Nat) (m : Ms) (v : Value) (l : List Pr) (w : World) (hm : MBlk w b m) (h : IsPairs w v l) (hs : Srt l) (hl : l.length ≤ 500000000) (hk : m.key.length ≤ 140737488355328) (hv : m.val.length ≤ maxLen) :
    Calls Tryz.prog 291 #[ptrV b, v] w (OwnOut w.heap.size w (putS (m.key, m.val, m.n) l)) := by
  have mixed := mixedA
  obtain ⟨-, c1, c2, -, -, -, -, c7⟩ := hm.plain
  have hp := Lib.hid (fun wx (hb : Below w.heap.size w wx) => (put_w v l m.key m.val m.n wx (h.below hb) hs hl hk hv).mono fun e w' hh => hh.lower hb hb.size)
  clear hm h hs
  generalize m.key = k at *
  generalize m.val = x at *
  generalize m.n = t at *
  have H0 := Lib.hid (hp.out w.drew (below_drewN w 1))
  clear hp
  go_enter Tryz.func291, Tryz.ntmps291
  go_wp2
  go_still_tail 14, (by kernel_rfl)
  change wpList _ _ _ _ _ w.drew
  generalize w.drew = w2 at *
  go_wp2_with (go_at_call 297; refine H0.out.mono ?_; intro e w3 h2; have H2 := Lib.hid h2; obtain ⟨v', rfl, -⟩ := h2)
  go_ret
  exact H2.out

/-- Nothing that was there has changed. -/
structure SB (w wx : World) : Prop where
  g : Below w.heap.size w wx
theorem SB.below {w wx wy : World} (h : SB w wx) (hb : Below wx.heap.size wx wy) : SB w wy := ⟨h.g.trans (hb.mono h.g.size)⟩
theorem SB.drew {w wx : World} (h : SB w wx) : SB w wx.drew := h.below (below_drewN wx 1)
theorem SB.refl (w : World) : SB w w := ⟨Below.refl _ _⟩

set_option maxRecDepth 100000 in
set_option maxHeartbeats 2000000 in
theorem apply_del (b : Nat) (m : Ms) (v : Value) (l : List Pr) (w : World) (hm : MBlk w b m) (h : IsPairs w v l) (hs : Srt l) (hl : l.length ≤ 500000000) (hk : m.key.length ≤ 140737488355328) :
    Calls Tryz.prog 306 #[ptrV b, v] w (OwnOut w.heap.size w (delS m.key l)) := by
  obtain ⟨-, c1, -⟩ := hm.plain
  have H0 := Lib.hid (del_w v l m.key w h hs hl hk)
  clear hm h hs
  go_enter Tryz.func306, Tryz.ntmps306
  go_wp2_with (go_at_call 312; refine H0.out.mono ?_; intro e w3 h2; have H2 := Lib.hid h2; obtain ⟨v', rfl, -⟩ := h2)
  go_ret
  exact H2.out
set_option maxRecDepth 100000 in
set_option maxHeartbeats 2000000 in
theorem apply_drop (b : Nat) (m : Ms) (v : Value) (l : List Pr) (w : World) (hm : MBlk w b m) (h : IsPairs w v l) (hs : Srt l) (hl : l.length ≤ 500000000) :
    Calls Tryz.prog 314 #[ptrV b, v] w (OwnOut w.heap.size w (dropS (m.lo, m.hi) l)) := by
  obtain ⟨-, -, -, c3, c4, -⟩ := hm.plain
  have H0 := Lib.hid (drop_w v l m.lo m.hi w h hs hl)
  clear hm h hs
  go_enter Tryz.func314, Tryz.ntmps314
  go_wp2_with (go_at_call 313; refine H0.out.mono ?_; intro e w3 h2; have H2 := Lib.hid h2; obtain ⟨v', rfl, -⟩ := h2)
  go_ret
  exact H2.out

theorem clone_facts (a b : Bs) {l : List Pr} (hs : Srt l) : Srt (dropS (preS b) l) ∧ Srt (movedT a b l) ∧ (dropS (preS b) l).length ≤ l.length ∧ (movedT a b l).length ≤ l.length :=
  ⟨srt_drop _ hs, srt_moved a b hs, List.length_filter_le _ _, by rw [moved_map, List.length_map]; exact List.length_filter_le _ _⟩

set_option maxRecDepth 100000 in
set_option maxHeartbeats 4000000 in
theorem apply_clone (b : Nat) (m : Ms) (v : Value) (l : List Pr) (w : World) (hm : MBlk w b m) (h : IsPairs w v l) (hs : Srt l) (hl : l.length ≤ 100000000) (h1 : m.src.length ≤ 1000000000) (h2 : m.dst.length ≤ 1000000000) (hk : ∀ x ∈ l, x.1.length ≤ 1000000000) :
    Calls Tryz.prog 327 #[ptrV b, v] w (OwnOut w.heap.size w (cloneT m.src m.dst l)) := by
  have hc5 : ∀ wr, SB w wr → wr.cell? ⟨b, 5, none⟩ = some (.string (Str m.src)) := fun wr hr => (hm.below hr.g hm.lt).c0 5 _ rfl
  have hc6 : ∀ wr, SB w wr → wr.cell? ⟨b, 6, none⟩ = some (.string (Str m.dst)) := fun wr hr => (hm.below hr.g hm.lt).c0 6 _ rfl
  have HP := Lib.hid (fun wr => prefix_w m.dst wr (by omega))
  have HD := Lib.hid (fun wr (hr : SB w wr) => drop_w v l m.dst (preT m.dst) wr (h.below hr.g) hs (by omega))
  have HM := Lib.hid (fun wr (hr : SB w wr) => tmoved_w v l m.src m.dst wr (h.below hr.g) hs (by omega) h1 h2 hk)
  obtain ⟨s1, s2, n1, n2⟩ := clone_facts m.src m.dst hs
  have HU := Lib.hid (fun va vb wr (hr : SB w wr) (ha : IsPairs wr va (dropS (preS m.dst) l)) (hb : IsPairs wr vb (movedT m.src m.dst l)) => (union_w va vb _ _ wr ha hb s1 s2 (by omega) (by omega)).mono fun e w' hh => hh.lower hr.g hr.g.size)
  clear hm h hs hk s1 s2 n1 n2
  unfold preS at HU
  have HR : Hid (cloneT m.src m.dst l = unionS (dropS (m.dst, preT m.dst) l) (movedT m.src m.dst l)) := Lib.hid rfl
  generalize m.src = s at *
  generalize m.dst = d at *
  generalize cloneT s d l = r at *
  generalize dropS (d, preT d) l = A at *
  generalize movedT s d l = B at *
  have HS0 := Lib.hid (SB.refl w)
  go_enter Tryz.func327, Tryz.ntmps327
  go_wp2_with fail
  go_region_held3 (fun wr => SB w wr) (first | with_reducible assumption | exact SB.mk (by with_reducible assumption) | exact SB.below (by with_reducible assumption) (by with_reducible assumption) | exact HS0.out.drew)
    (first
      | (go_at_call 328; (with_reducible refine (HP.out _).mono ?_); rintro e w2 ⟨rfl, hg⟩; have hb2 := hg.below (B := _) (Nat.le_refl _); first | (have hm2 := hm4.below hb2) | skip)
      | (go_at_call 313; (with_reducible refine (HD.out _ (by assumption)).mono ?_); rintro e w3 ⟨v3, rfl, -, hd3, hb3⟩; first | (have hm3 := hm2.below hb3) | (have hm3 := hm4.below hb3) | skip)
      | (go_at_call 332; (with_reducible refine (HM.out _ (by assumption)).mono ?_); rintro e w4 ⟨v4, rfl, -, hm4, hb4⟩; first | (have hd4 := hd3.below hb4) | skip)
      | (go_at_call 331; first
          | (with_reducible refine (HU.out _ _ _ (by assumption) hd4 hm4).mono ?_)
          | (with_reducible refine (HU.out _ _ _ (by assumption) hd3 hm3).mono ?_)
         intro e w5 h5; have H5 := Lib.hid h5; obtain ⟨v5, rfl, -, -, hb5⟩ := h5))
  all_goals
    go_wp2
    go_ret
    rw [HR.out]
    exact H5.out

end Go.Proofs.YtmbfghbhajmpiaaGreat
namespace Go.Proofs.YtmbfghbhajmpiaaGreat
open Go.RowKit Go.Sort
set_option linter.unusedVariables false

set_option maxRecDepth 100000 in
set_option maxHeartbeats 4000000 in
theorem apply_move (b : Nat) (m : Ms) (v : Value) (l : List Pr) (w : World) (hm : MBlk w b m) (h : IsPairs w v l) (hs : Srt l) (hl : l.length ≤ 100000000) (h1 : m.src.length ≤ 1000000000) (h2 : m.dst.length ≤ 1000000000) (hk : ∀ x ∈ l, x.1.length ≤ 1000000000) :
    Calls Tryz.prog 321 #[ptrV b, v] w (OwnOut w.heap.size w (moveT m.src m.dst l)) := by
  have hc5 : ∀ wr, SB w wr → wr.cell? ⟨b, 5, none⟩ = some (.string (Str m.src)) := fun wr hr => (hm.below hr.g hm.lt).c0 5 _ rfl
  have HP := Lib.hid (fun wr => prefix_w m.src wr (by omega))
  have HC := Lib.hid (fun wr (hr : SB w wr) => apply_clone b m v l wr (hm.below hr.g hm.lt) (h.below hr.g) hs hl h1 h2 hk)
  obtain ⟨s1, s2, n1, n2⟩ := clone_facts m.src m.dst hs
  have hsc : Srt (cloneT m.src m.dst l) := srt_union s1 _
  have hnc : (cloneT m.src m.dst l).length ≤ 200000000 := by have := union_length (dropS (preS m.dst) l) (movedT m.src m.dst l); unfold cloneT; omega
  have HD := Lib.hid (fun va wr (hr : SB w wr) (ha : IsPairs wr va (cloneT m.src m.dst l)) => (drop_w va _ m.src (preT m.src) wr ha hsc (by omega)).mono fun e w' hh => hh.lower hr.g hr.g.size)
  clear hm h hs hk s1 s2 n1 n2
  have HR : Hid (moveT m.src m.dst l = dropS (m.src, preT m.src) (cloneT m.src m.dst l)) := Lib.hid rfl
  generalize m.src = s at *
  generalize m.dst = d at *
  generalize moveT s d l = r at *
  generalize cloneT s d l = A at *
  have HS0 := Lib.hid (SB.refl w)
  go_enter Tryz.func321, Tryz.ntmps321
  go_wp2_with fail
  go_region_held3 (fun wr => SB w wr) (first | with_reducible assumption | exact SB.mk (by with_reducible assumption) | exact SB.below (by with_reducible assumption) (by with_reducible assumption) | exact HS0.out.drew)
    (first
      | (go_at_call 328; (with_reducible refine (HP.out _).mono ?_); rintro e w2 ⟨rfl, hg⟩; have hb2 := hg.below (B := _) (Nat.le_refl _); first | (have hm2 := hm4.below hb2) | skip)
      | (go_at_call 327; (with_reducible refine (HC.out _ (by assumption)).mono ?_); rintro e w4 ⟨v4, rfl, -, hm4, hb4⟩)
      | (go_at_call 313; first
          | (with_reducible refine (HD.out _ _ (by assumption) hm2).mono ?_)
          | (with_reducible refine (HD.out _ _ (by assumption) hm4).mono ?_)
         intro e w5 h5; have H5 := Lib.hid h5; obtain ⟨v5, rfl, -, -, hb5⟩ := h5))
  all_goals
    go_wp2
    go_ret
    rw [HR.out]
    exact H5.out

/-- The first k stamps are set. -/
def stK (s : Sp) (n : Int) (l : List Pr) (k : Nat) : List Pr := (stampT s n l).take k ++ l.drop k
theorem stamp_len (s : Sp) (n : Int) (l : List Pr) : (stampT s n l).length = l.length := by unfold stampT; simp
theorem stK_len (s : Sp) (n : Int) (l : List Pr) (k : Nat) (h : k ≤ l.length) : (stK s n l k).length = l.length := by
  unfold stK; rw [List.length_append, List.length_take, List.length_drop, stamp_len]; omega
theorem stK_zero (s : Sp) (n : Int) (l : List Pr) : stK s n l 0 = l := by unfold stK; simp
theorem stK_all (s : Sp) (n : Int) (l : List Pr) : stK s n l l.length = stampT s n l := by
  unfold stK; rw [List.drop_length, List.take_of_length_le (by rw [stamp_len]; exact Nat.le_refl _)]; simp
theorem stK_at (s : Sp) (n : Int) (l : List Pr) (k : Nat) (h : k < l.length) : (stK s n l k)[k]'(by rw [stK_len s n l k (by omega)]; exact h) = l[k] := by
  unfold stK
  rw [List.getElem_append_right (by rw [List.length_take, stamp_len]; omega)]
  simp [List.getElem_drop, stamp_len]
  congr 1; omega
theorem stK_set (s : Sp) (n : Int) (l : List Pr) (k : Nat) (h : k < l.length) : (stK s n l k).set k (stampP s n l[k]) = stK s n l (k + 1) := by
  unfold stK
  rw [List.set_append_right _ _ (by rw [List.length_take, stamp_len]; omega)]
  have e1 : k - ((stampT s n l).take k).length = 0 := by rw [List.length_take, stamp_len]; omega
  rw [e1, List.drop_eq_getElem_cons h, List.set_cons_zero, List.take_add_one]
  unfold stampT
  rw [List.getElem?_map, List.getElem?_eq_getElem h]
  simp
theorem stK_skip (s : Sp) (n : Int) (l : List Pr) (k : Nat) (h : k < l.length) (hh : hasB s l[k].1 = false) : stK s n l (k + 1) = stK s n l k := by
  rw [← stK_set s n l k h]
  have e : stampP s n l[k] = (stK s n l k)[k]'(by rw [stK_len s n l k (by omega)]; exact h) := by rw [stK_at s n l k h]; unfold stampP; rw [hh]; rfl
  rw [e]; exact List.set_getElem_self _
theorem flatP_stamp (T : List Pr) (i : Nat) (h : i < T.length) (n : Int) : (T.flatMap encP).set (i * 3 + 2) (.int .i64 n) = (T.set i (T[i].1, T[i].2.1, n)).flatMap encP := by
  induction T generalizing i with
  | nil => simp at h
  | cons t r ih =>
    have e : ∀ (t : Pr) r, (t :: r).flatMap encP = .string (Str t.1) :: .string (Str t.2.1) :: .int .i64 t.2.2 :: r.flatMap encP := fun t r => rfl
    cases i with
    | zero => rw [List.set_cons_zero, e, e]; rfl
    | succ i =>
      rw [List.set_cons_succ, e, e]
      have ih' := ih i (by simpa using h)
      have h2 : (i + 1) * 3 + 2 = i * 3 + 2 + 1 + 1 + 1 := by omega
      rw [h2]
      simp only [List.set_cons_succ, List.getElem_cons_succ]
      rw [ih']
theorem stamp_small {s : Sp} {n : Int} {l : List Pr} (h : ∀ x ∈ l, x.1.length ≤ maxLen ∧ x.2.1.length ≤ maxLen) : ∀ x ∈ stampT s n l, x.1.length ≤ maxLen ∧ x.2.1.length ≤ maxLen := by
  intro x hx
  obtain ⟨y, hy, rfl⟩ := List.mem_map.1 hx
  have := h y hy
  unfold stampP; split <;> exact this

/-- What stays while a round of Stamp reads. -/
structure SQ (w : World) (pb : Nat) (x : Pr) (vv : Value) (n : Nat) (xs : List Value) (wx : World) : Prop where
  g : Below w.heap.size w wx
  p : Blk wx pb 48 #[.string (Str x.1), .string (Str x.2.1), .int .i64 x.2.2]
  o : wx.ownsRow w.heap.size 48 3 vv n xs
theorem SQ.below {w wx wy : World} {pb : Nat} {x : Pr} {vv : Value} {n : Nat} {xs : List Value} (h : SQ w pb x vv n xs wx) (hb : Below wx.heap.size wx wy) : SQ w pb x vv n xs wy :=
  ⟨h.g.trans (hb.mono h.g.size), h.p.below hb h.p.lt, owns_below h.o hb⟩
theorem SQ.drew {w wx : World} {pb : Nat} {x : Pr} {vv : Value} {n : Nat} {xs : List Value} (h : SQ w pb x vv n xs wx) : SQ w pb x vv n xs wx.drew := h.below (below_drewN wx 1)

set_option maxRecDepth 100000 in
set_option maxHeartbeats 4000000 in
theorem apply_stamp (b : Nat) (m : Ms) (v : Value) (l : List Pr) (w : World) (hm : MBlk w b m) (h : IsPairs w v l) (hl : l.length ≤ 500000000) :
    Calls Tryz.prog 341 #[ptrV b, v] w (OwnOut w.heap.size w (stampT (m.lo, m.hi) m.n l)) := by
  have HM := Lib.hid (fun wr (hb : Below w.heap.size w wr) => MBlk.plain (Blk.below hm hb hm.lt))
  have Hsm := Lib.hid (stamp_small (s := (m.lo, m.hi)) (n := m.n) h.small)
  have HC := Lib.hid (clone_w v l w h (by omega))
  have HH := Lib.hid (fun k wx => has_w m.lo m.hi k wx)
  have hbw : b < w.heap.size := hm.lt
  have Hbw := Lib.hid hbw
  clear hm h hbw
  generalize m.lo = lo at *
  generalize m.hi = hi at *
  generalize m.n = nn at *
  go_enter Tryz.func341, Tryz.ntmps341
  go_wp2_with fail
  refine HC.out.mono ?_
  rintro e w2 ⟨vr, rfl, hown, -, hb2⟩
  have Hown := Lib.hid hown
  have Hb2 := Lib.hid hb2
  obtain ⟨p, cap, rfl, hcap1, hcap2, hpp⟩ := own_formP hown
  unfold maxLen at hcap2
  clear hown hb2
  go_wp2
  go_loopw [12] (fun i wr => ∃ k : Nat, k ≤ l.length ∧ i = .int .i64 k ∧ wr.ownsRow w.heap.size 48 3 (.slice p l.length cap) l.length ((stK (lo, hi) nn l k).flatMap encP) ∧ Below w.heap.size w wr) (fun i _ => l.length - (intOf i).toNat)
  case atStart => exact ⟨0, Nat.zero_le _, rfl, by rw [stK_zero]; exact Hown.out, Hb2.out⟩
  case round =>
    obtain ⟨k, hk, rfl, hown, hbel⟩ := hrel
    clear Hown Hb2
    have hsz := hbel.size
    have Hown := Lib.hid hown
    have Hbel := Lib.hid hbel
    clear hbel
    by_cases hlt : k < l.length
    · obtain ⟨g, rfl⟩ := hpp (by omega)
      have hlen := stK_len (lo, hi) nn l k (by omega)
      have hkl : k < (stK (lo, hi) nn l k).length := by omega
      have hcells := own_cellsP hown k hkl
      have hset := flatP_stamp (stK (lo, hi) nn l k) k hkl nn
      rw [stK_at (lo, hi) nn l k hlt] at hcells hset
      have Hset : Hid (hasB (lo, hi) l[k].1 = true → ((stK (lo, hi) nn l k).flatMap encP).set (k * 3 + 2) (.int .i64 nn) = (stK (lo, hi) nn l (k + 1)).flatMap encP) := Lib.hid (fun hh => by
        rw [hset, ← stK_set (lo, hi) nn l k hlt]; congr 2; unfold stampP; rw [hh]; rfl)
      have Hskip := Lib.hid (stK_skip (lo, hi) nn l k hlt)
      have Hcell : Hid (∀ wx : World, wx.ownsRow w.heap.size 48 3 (.slice (some ⟨g, 0, none⟩) l.length cap) l.length ((stK (lo, hi) nn l k).flatMap encP) → wx.cell? ⟨g, k * 3 + 2, none⟩ = some (.int .i64 l[k].2.2)) := Lib.hid (fun wx ho => by
        have h := (own_cellsP ho k hkl).2.2
        rw [stK_at (lo, hi) nn l k hlt] at h
        exact h)
      have hgl := (hown.lt g rfl)
      clear hset hlen hkl hown
      generalize l[k] = x at *
      obtain ⟨xk, xv, xt⟩ := x
      simp only at hcells Hset Hskip Hcell
      have hgl2 := hgl.2
      have hltz : (k : Int) < (l.length : Int) := by omega
      obtain ⟨c0, c1, c2⟩ := hcells
      obtain ⟨-, -, -, d3, d4, -, -, -⟩ := HM.out _ Hbel.out
      have HS0 : Hid (SQ w wr.heap.size (xk, xv, xt) (.slice (some ⟨g, 0, none⟩) l.length cap) l.length ((stK (lo, hi) nn l k).flatMap encP) (wr.alloc (.cells #[.string (Str xk), .string (Str xv), .int .i64 xt] 48))) := Lib.hid ⟨Hbel.out.alloc hsz _, Blk.new _ _ _, Hown.out.alloc _⟩
      clear hgl d3 d4
      go_wp2_with fail
      have q3 : ∀ wx, SQ w wr.heap.size (xk, xv, xt) (.slice (some ⟨g, 0, none⟩) l.length cap) l.length ((stK (lo, hi) nn l k).flatMap encP) wx → wx.cell? ⟨b, 3, none⟩ = some (.string (Str lo)) := fun wx hx => (HM.out wx hx.g).2.2.2.1
      have q4 : ∀ wx, SQ w wr.heap.size (xk, xv, xt) (.slice (some ⟨g, 0, none⟩) l.length cap) l.length ((stK (lo, hi) nn l k).flatMap encP) wx → wx.cell? ⟨b, 4, none⟩ = some (.string (Str hi)) := fun wx hx => (HM.out wx hx.g).2.2.2.2.1
      have q0 : ∀ wx, SQ w wr.heap.size (xk, xv, xt) (.slice (some ⟨g, 0, none⟩) l.length cap) l.length ((stK (lo, hi) nn l k).flatMap encP) wx → wx.cell? ⟨wr.heap.size, 0, none⟩ = some (.string (Str xk)) := fun wx hx => hx.p.c0 0 _ rfl
      go_region_held3 (fun wx => SQ w wr.heap.size (xk, xv, xt) (.slice (some ⟨g, 0, none⟩) l.length cap) l.length ((stK (lo, hi) nn l k).flatMap encP) wx) (first | with_reducible assumption | exact SQ.below (by with_reducible assumption) (by with_reducible assumption) | exact HS0.out.drew)
        ((go_at_call 132; (with_reducible refine (HH.out _ _).mono ?_); rintro e w3 ⟨rfl, hg⟩; have hb3 := hg.below (B := _) (Nat.le_refl _)))
      all_goals
        have hq : SQ w wr.heap.size (xk, xv, xt) (.slice (some ⟨g, 0, none⟩) l.length cap) l.length ((stK (lo, hi) nn l k).flatMap encP) w3 := by with_reducible assumption
        have Hq := Lib.hid hq
        obtain ⟨-, -, -, -, -, -, -, d7⟩ := HM.out _ hq.g
        have hs3 := hq.g.size
        clear hq q0 q3 q4 HS0
        cases hh : hasB (lo, hi) xk with
        | false =>
          have Hs := Lib.hid (Hskip.out hh)
          clear hh Hskip Hset
          go_wp2
          go_roundw
          case rel => exact ⟨k + 1, by omega, by go_num, by rw [Hs.out]; exact Hq.out.o, Hq.out.g⟩
          case measure => simp [intOf]; omega
        | true =>
          have hst := Hq.out.o.stored (k * 3 + 2) (.int .i64 nn)
          rw [Hset.out hh] at hst
          have Hst := Lib.hid hst
          have f0 := Hq.out.o.frozenAt (k * 3 + 2)
          have hcx := Hcell.out w3 Hq.out.o
          have hgb := (Hq.out.o.lt g rfl).1
          clear hh Hskip Hset hst
          go_wp2
          go_roundw
          case rel => exact ⟨k + 1, by omega, by go_num, Hst.out.1, Below.grown Hq.out.g Hst.out.2 hs3 (fun q hq => by cases hq; exact hgb)⟩
          case measure => simp [intOf]; omega
    · obtain rfl : k = l.length := by omega
      rw [stK_all] at Hown
      have Hll := Lib.hid (stamp_len (lo, hi) nn l).symm
      clear hown
      go_wp2
      go_ret
      have hown := Hown.out
      rw [Hll.out] at hown ⊢
      exact ⟨_, rfl, hown, IsPairs.owned hown Hsm.out, Hbel.out⟩

end Go.Proofs.YtmbfghbhajmpiaaGreat
namespace Go.Proofs.YtmbfghbhajmpiaaGreat
open Go.RowKit Go.Sort
set_option linter.unusedVariables false

theorem apply_none (b : Nat) (v : Value) (l : List Pr) (w : World) (h : IsPairs w v l) (hl : l.length ≤ 1000000000) :
    Calls Tryz.prog 347 #[ptrV b, v] w (OwnOut w.heap.size w l) := by
  have H0 := Lib.hid (clone_w v l w h hl)
  clear h
  go_enter Tryz.func347, Tryz.ntmps347
  go_wp2_with (go_at_call 87; refine H0.out.mono ?_; intro e w3 h2; have H2 := Lib.hid h2; obtain ⟨v', rfl, -⟩ := h2)
  go_ret
  exact H2.out
theorem applyF_w (b : Nat) (m : Ms) (v : Value) (l : List Pr) (w : World) (hm : MBlk w b m) (h : IsPairs w v l) (hs : Srt l) (hl : l.length ≤ 100000000) (hz : SizeM m) (hk : ∀ x ∈ l, x.1.length ≤ 1000000000) :
    Calls Tryz.prog (applyF m.kind) #[ptrV b, v] w (OwnOut w.heap.size w (applyS m l)) := by
  obtain ⟨z1, z2, z3, z4, z5, z6⟩ := hz
  unfold applyF pickF applyS
  by_cases h1 : m.kind = 1
  · simp only [h1]; exact apply_put b m v l w hm h hs (by omega) (by omega) (by unfold maxLen; omega)
  by_cases h2 : m.kind = 2
  · simp only [h2]; exact apply_del b m v l w hm h hs (by omega) (by omega)
  by_cases h3 : m.kind = 3
  · simp only [h3]; exact apply_drop b m v l w hm h hs (by omega)
  by_cases h4 : m.kind = 4
  · simp only [h4]; exact apply_move b m v l w hm h hs hl z5 z6 hk
  by_cases h5 : m.kind = 5
  · simp only [h5]; exact apply_clone b m v l w hm h hs hl z5 z6 hk
  by_cases h6 : m.kind = 6
  · simp only [h6]; exact apply_stamp b m v l w hm h (by omega)
  simp only [h1, h2, h3, h4, h5, h6, if_false]
  exact apply_none b v l w h (by omega)
set_option maxRecDepth 100000 in
set_option maxHeartbeats 1000000 in
theorem apply_w (m : Ms) (v : Value) (l : List Pr) (w : World) (h : IsPairs w v l) (hs : Srt l) (hl : l.length ≤ 100000000) (hz : SizeM m) (hk : ∀ x ∈ l, x.1.length ≤ 1000000000) :
    Calls Tryz.prog 88 #[v, msgV m] w (OwnOut w.heap.size w (applyS m l)) := by
  have hB : MBlk (w.alloc (.cells (encM m) 46)) w.heap.size m := Blk.new _ _ _
  have HF := Lib.hid (applyF_w w.heap.size m v l _ hB (h.below (below_box _)) hs hl hz hk)
  have HO := Lib.hid (of_w m.kind w.heap.size _ hB.plain.1)
  have hm := disp_apply.m m.kind w.heap.size
  have hc := disp_apply.c m.kind
  clear hB hz h hs hk
  go_enter Tryz.func88, Tryz.ntmps88
  go_wp2_with fail
  refine HO.out.mono ?_
  rintro e w1 ⟨rfl, rfl⟩
  go_wp2_with fail
  refine HF.out.mono ?_
  intro e w2 h2
  have H2 := Lib.hid (h2.lower (below_box _) (by simp))
  obtain ⟨v', rfl, -⟩ := h2
  go_wp2
  go_ret
  exact H2.out

/-- A slice of messages. -/
def MAt (w : World) (b o : Nat) (m : Ms) : Prop :=
  w.cell? ⟨b, o, none⟩ = some (.int .i64 m.kind) ∧ w.cell? ⟨b, o + 1, none⟩ = some (.string (Str m.key)) ∧ w.cell? ⟨b, o + 2, none⟩ = some (.string (Str m.val)) ∧ w.cell? ⟨b, o + 3, none⟩ = some (.string (Str m.lo)) ∧
  w.cell? ⟨b, o + 4, none⟩ = some (.string (Str m.hi)) ∧ w.cell? ⟨b, o + 5, none⟩ = some (.string (Str m.src)) ∧ w.cell? ⟨b, o + 6, none⟩ = some (.string (Str m.dst)) ∧ w.cell? ⟨b, o + 7, none⟩ = some (.int .i64 m.n)
theorem MAt.below {w w' : World} {b o : Nat} {m : Ms} (h : MAt w b o m) {B : Nat} (hb : Below B w w') (hl : b < B) : MAt w' b o m := by
  have e : ∀ k, w'.cell? ⟨b, k, none⟩ = w.cell? ⟨b, k, none⟩ := fun k => hb.cell (p := ⟨b, k, none⟩) hl
  unfold MAt at *
  simp only [e]; exact h
def IsMsgs (w : World) (v : Value) (l : List Ms) : Prop :=
  ∃ a cap, v = .slice a l.length cap ∧ l.length ≤ cap ∧ cap ≤ maxLen ∧ (l ≠ [] → ∃ b off, a = some ⟨b, off, none⟩ ∧ b < w.heap.size ∧ ∀ i (h : i < l.length), MAt w b (off + i * 8) l[i])
theorem IsMsgs.below {w w' : World} {v : Value} {l : List Ms} (h : IsMsgs w v l) (hb : Below w.heap.size w w') : IsMsgs w' v l := by
  obtain ⟨a, cap, h1, h2, h3, h4⟩ := h
  refine ⟨a, cap, h1, h2, h3, fun hl => ?_⟩
  obtain ⟨b, off, e, hlt, hc⟩ := h4 hl
  exact ⟨b, off, e, Nat.lt_of_lt_of_le hlt hb.size, fun i hi => (hc i hi).below hb hlt⟩
theorem IsMsgs.form {w : World} {v : Value} {l : List Ms} (h : IsMsgs w v l) : ∃ b off cap a, v = .slice a l.length cap ∧ l.length ≤ cap ∧ cap ≤ maxLen ∧ (l ≠ [] → a = some ⟨b, off, none⟩ ∧ b < w.heap.size) ∧
    ∀ i (h : i < l.length), a = some ⟨b, off, none⟩ ∧ MAt w b (off + i * 8) l[i] := by
  obtain ⟨a, cap, h1, h2, h3, h4⟩ := h
  by_cases hl : l = []
  · subst hl; exact ⟨0, 0, cap, a, h1, h2, h3, fun h => absurd rfl h, fun i hi => absurd hi (by simp)⟩
  · obtain ⟨b, off, e, hlt, hc⟩ := h4 hl
    exact ⟨b, off, cap, a, h1, h2, h3, fun _ => ⟨e, hlt⟩, fun i hi => ⟨e, hc i hi⟩⟩

theorem srt_stamp (s : Sp) (n : Int) {l : List Pr} (h : Srt l) : Srt (stampT s n l) := by
  unfold stampT Srt
  rw [List.pairwise_map]
  refine List.Pairwise.imp (fun {x y} hxy => ?_) h
  have e : ∀ z : Pr, (stampP s n z).1 = z.1 := fun z => by unfold stampP; split <;> rfl
  rw [e, e]; exact hxy
theorem srt_apply (m : Ms) {l : List Pr} (h : Srt l) : Srt (applyS m l) := by
  unfold applyS
  split
  · exact srt_put _ h
  split
  · exact srt_del _ h
  split
  · exact srt_drop _ h
  split
  · exact srt_drop _ (srt_union (srt_drop _ h) _)
  split
  · exact srt_union (srt_drop _ h) _
  split
  · exact srt_stamp _ _ h
  exact h
theorem srt_all (ms : List Ms) {l : List Pr} (h : Srt l) : Srt (allS ms l) := by
  induction ms generalizing l with
  | nil => exact h
  | cons m ms ih => exact ih (srt_apply m h)
theorem all_take (ms : List Ms) (l : List Pr) (k : Nat) (h : k < ms.length) : allS (ms.take (k + 1)) l = applyS ms[k] (allS (ms.take k) l) := by
  unfold allS
  rw [List.take_add_one, List.getElem?_eq_getElem h, List.foldl_append]; rfl
/-- On the way no table is too long, and no key. -/
def OkAll (ms : List Ms) (l : List Pr) : Prop := ∀ k, k ≤ ms.length → (allS (ms.take k) l).length ≤ 100000000 ∧ ∀ x ∈ allS (ms.take k) l, x.1.length ≤ 1000000000

set_option maxRecDepth 100000 in
set_option maxHeartbeats 2000000 in
theorem all_w (v u : Value) (l : List Pr) (ms : List Ms) (w : World) (h : IsPairs w v l) (hm : IsMsgs w u ms) (hs : Srt l) (hz : ∀ m ∈ ms, SizeM m) (hok : OkAll ms l) :
    Calls Tryz.prog 31 #[v, u] w (OwnOut w.heap.size w (allS ms l)) := by
  obtain ⟨g, off, cap, p, rfl, hlc, hcm, hpp, hcc⟩ := hm.form
  unfold maxLen at hcm
  have HP := Lib.hid hpp
  have HC := Lib.hid hcc
  have hl0 := (hok 0 (Nat.zero_le _)).1
  have HCl := Lib.hid (clone_w v l w h (by simp only [List.take_zero] at hl0; exact Nat.le_trans hl0 (by omega)))
  have Hok := Lib.hid hok
  have Hz := Lib.hid hz
  have Hs := Lib.hid hs
  clear hm hpp hcc h hok hz hs hl0
  go_enter Tryz.func31, Tryz.ntmps31
  go_wp2_with fail
  refine HCl.out.mono ?_
  rintro e w2 ⟨v2, rfl, hown, hp2, hb2⟩
  have Hown2 := Lib.hid hown
  have Hp2 := Lib.hid hp2
  have Hb2 := Lib.hid hb2
  clear hown hp2 hb2
  go_wp2
  go_loopw [5, 12] (fun x i wr => ∃ k : Nat, k ≤ ms.length ∧ i = .int .i64 k ∧ wr.ownsRow w.heap.size 48 3 x (allS (ms.take k) l).length ((allS (ms.take k) l).flatMap encP) ∧ IsPairs wr x (allS (ms.take k) l) ∧ Below w.heap.size w wr) (fun _ i _ => ms.length - (intOf i).toNat)
  case atStart => exact ⟨0, Nat.zero_le _, rfl, Hown2.out, Hp2.out, Hb2.out⟩
  case round =>
    obtain ⟨k, hk, rfl, hown, hp, hbel⟩ := hrel
    clear Hb2 Hp2 Hown2
    have hsz := hbel.size
    have Hown := Lib.hid hown
    have Hp := Lib.hid hp
    have Hbel := Lib.hid hbel
    clear hown hp hbel
    by_cases hlt : k < ms.length
    · obtain ⟨rfl, hc⟩ := HC.out k hlt
      have hgl := (HP.out (by rintro rfl; simp at hlt)).2
      have hltz : (k : Int) < (ms.length : Int) := by omega
      obtain ⟨c0, c1, c2, c3, c4, c5, c6, c7⟩ := hc.below Hbel.out hgl
      have Htk := Lib.hid (all_take ms l k hlt)
      obtain ⟨n1, n2⟩ := Hok.out k hk
      have HA := Lib.hid (fun wx (hb : Below wr.heap.size wr wx) => apply_w ms[k] u5 _ wx (Hp.out.below hb) (srt_all _ Hs.out) n1 (Hz.out _ (List.getElem_mem hlt)) n2)
      have Hbx := Lib.hid (below_box (w := wr) (.cells (encM ms[k]) 46))
      clear hc n1 n2
      generalize ms[k] = m at *
      go_wp2_with fail
      refine (HA.out _ Hbx.out).mono ?_
      rintro e w3 ⟨v3, rfl, hown3, hp3, hb3⟩
      rw [← Htk.out] at hown3 hp3
      have hbs := Hbx.out.size
      have Hown3 := Lib.hid (owns_lower hown3 (Nat.le_trans hsz hbs))
      have Hp3 := Lib.hid hp3
      have Hb3 : Hid (Below w.heap.size w w3) := Lib.hid ((Hbel.out.trans (Hbx.out.mono hsz)).trans (hb3.mono (Nat.le_trans hsz hbs)))
      clear hown3 hp3 hb3
      go_wp2
      go_roundw
      case rel => exact ⟨k + 1, by omega, by go_num, Hown3.out, Hp3.out, Hb3.out⟩
      case measure => simp [intOf]; omega
    · obtain rfl : k = ms.length := by omega
      rw [List.take_length] at Hown Hp
      go_wp2
      go_ret
      exact ⟨_, rfl, Hown.out, Hp.out, Hbel.out⟩

end Go.Proofs.YtmbfghbhajmpiaaGreat
