/-
  Walks: the reference's effects of a message, one kind after another; its Apply and its All.
-/
import Derived.Test.YtjncehkldhkobaaGreatNO
import Derived.Test.YtjncehkldhkobaaGreatMDH
import Derived.Test.YtjncehkldhkobaaGreatNQJ
namespace Go.Proofs.YtjncehkldhkobaaGreat
open Go.RowKit Go.Sort
set_option linter.unusedVariables false

theorem without_oneK (k : Bs) (l : List Pr) : withoutS [oneS k] l = delS k l := by
  unfold withoutS delS inB
  congr 1
  funext x
  simp only [List.any_cons, List.any_nil, Bool.or_false, has_one]
theorem without_span (s : Sp) (l : List Pr) : withoutS [s] l = dropS s l := by
  unfold withoutS dropS inB
  congr 1
  funext x
  simp only [List.any_cons, List.any_nil, Bool.or_false]

set_option maxRecDepth 100000 in
set_option maxHeartbeats 2000000 in
theorem rapply_put (m : Ms) (v : Value) (l : List Pr) (w : World) (hk : m.kind = 1) (h : IsPairs w v l) (hs : Srt l) (hl : l.length ≤ 500000000) (hz : SizeM m) :
    Calls Tryz.prog 30 #[v, msgV m] w (OwnOut w.heap.size w (putS (m.key, m.val, m.n) l)) := by
  obtain ⟨z1, z2, z3, z4, z5, z6⟩ := hz
  have hB : MBlk (w.alloc (.cells (encM m) 40)) w.heap.size m := Blk.new _ _ _
  obtain ⟨c0, c1, c2, c3, c4, c5, c6, c7⟩ := hB.plain
  rw [hk] at c0
  clear hk
  have HI := Lib.hid (fun wr (hb : Below w.heap.size w wr) => (insert_w v l m.key m.val m.n wr (h.below hb) hs hl ⟨by unfold maxLen; omega, by unfold maxLen; omega⟩).mono fun e w' hh => hh.lower hb hb.size)
  have Hb := Lib.hid (below_box (w := w) (.cells (encM m) 40))
  clear hB h hs z1 z2 z3 z4 z5 z6
  go_enter Tryz.func30, Tryz.ntmps30
  go_wp2_with fail
  refine (HI.out _ Hb.out).mono ?_
  intro e w3 h2
  have H2 := Lib.hid h2
  obtain ⟨v', rfl, -⟩ := h2
  go_wp2
  go_ret
  exact H2.out
set_option maxRecDepth 100000 in
set_option maxHeartbeats 2000000 in
theorem rapply_del (m : Ms) (v : Value) (l : List Pr) (w : World) (hk : m.kind = 2) (h : IsPairs w v l) (hl : l.length ≤ 500000000) (hz : SizeM m) :
    Calls Tryz.prog 30 #[v, msgV m] w (OwnOut w.heap.size w (delS m.key l)) := by
  obtain ⟨z1, z2, z3, z4, z5, z6⟩ := hz
  have hB : MBlk (w.alloc (.cells (encM m) 40)) w.heap.size m := Blk.new _ _ _
  obtain ⟨c0, c1, c2, c3, c4, c5, c6, c7⟩ := hB.plain
  rw [hk] at c0
  clear hk
  have HO := Lib.hid (fun wr => rone_w m.key wr (by omega))
  have HI := Lib.hid (fun u wr (hb : Below w.heap.size w wr) (hu : IsSpans wr u [oneS m.key]) => (without_w v u l _ wr (h.below hb) hu hl).mono fun e w' hh => hh.lower hb hb.size)
  have HR := Lib.hid (without_oneK m.key l)
  have HG := Lib.hid ((Grown.refl w).alloc (.cells (encM m) 40))
  clear hB h z1 z2 z3 z4 z5 z6
  go_enter Tryz.func30, Tryz.ntmps30
  go_wp2_with fail
  refine (HO.out _).mono ?_
  rintro e w1 ⟨rfl, hg⟩
  have HG1 : Hid (Grown w w1) := Lib.hid (HG.out.trans hg)
  clear hg
  go_wp2_with fail
  refine (HI.out _ _ ((HG1.out.alloc _).below (Nat.le_refl _)) (one_spans (oneS m.key) _ rfl)).mono ?_
  intro e w3 h2
  rw [HR.out] at h2
  have H2 := Lib.hid h2
  obtain ⟨v', rfl, -⟩ := h2
  go_wp2
  go_ret
  exact H2.out
set_option maxRecDepth 100000 in
set_option maxHeartbeats 2000000 in
theorem rapply_drop (m : Ms) (v : Value) (l : List Pr) (w : World) (hk : m.kind = 3) (h : IsPairs w v l) (hl : l.length ≤ 500000000) :
    Calls Tryz.prog 30 #[v, msgV m] w (OwnOut w.heap.size w (dropS (m.lo, m.hi) l)) := by
  have hB : MBlk (w.alloc (.cells (encM m) 40)) w.heap.size m := Blk.new _ _ _
  obtain ⟨c0, c1, c2, c3, c4, c5, c6, c7⟩ := hB.plain
  rw [hk] at c0
  clear hk
  have HI := Lib.hid (fun u wr (hb : Below w.heap.size w wr) (hu : IsSpans wr u [(m.lo, m.hi)]) => (without_w v u l _ wr (h.below hb) hu hl).mono fun e w' hh => hh.lower hb hb.size)
  have HR := Lib.hid (without_span (m.lo, m.hi) l)
  have HG := Lib.hid ((Grown.refl w).alloc (.cells (encM m) 40))
  clear hB h
  go_enter Tryz.func30, Tryz.ntmps30
  go_wp2_with fail
  refine (HI.out _ _ ((HG.out.alloc _).below (Nat.le_refl _)) (one_spans (m.lo, m.hi) _ (by simp))).mono ?_
  intro e w3 h2
  rw [HR.out] at h2
  have H2 := Lib.hid h2
  obtain ⟨v', rfl, -⟩ := h2
  go_wp2
  go_ret
  exact H2.out

/-- What stays while a round of the reference's Stamp reads. -/
structure SR (w : World) (vv : Value) (n : Nat) (xs : List Value) (wx : World) : Prop where
  g : Below w.heap.size w wx
  o : wx.ownsRow w.heap.size 82 3 vv n xs
theorem SR.below {w wx wy : World} {vv : Value} {n : Nat} {xs : List Value} (h : SR w vv n xs wx) (hb : Below wx.heap.size wx wy) : SR w vv n xs wy :=
  ⟨h.g.trans (hb.mono h.g.size), owns_below h.o hb⟩
theorem SR.drew {w wx : World} {vv : Value} {n : Nat} {xs : List Value} (h : SR w vv n xs wx) : SR w vv n xs wx.drew := h.below (below_drewN wx 1)

set_option maxRecDepth 100000 in
set_option maxHeartbeats 4000000 in
theorem rapply_stamp (m : Ms) (v : Value) (l : List Pr) (w : World) (hk : m.kind = 6) (h : IsPairs w v l) (hl : l.length ≤ 500000000) :
    Calls Tryz.prog 30 #[v, msgV m] w (OwnOut w.heap.size w (stampT (m.lo, m.hi) m.n l)) := by
  have hB : MBlk (w.alloc (.cells (encM m) 40)) w.heap.size m := Blk.new _ _ _
  have c0 := hB.plain.1
  rw [hk] at c0
  clear hk
  have hbx := below_box (w := w) (.cells (encM m) 40)
  have Hbx := Lib.hid hbx
  have hh0 := h.below hbx
  have hm : MBlk (w.alloc (.cells (encM m) 40)) w.heap.size m := hB
  have Hlow : Hid (w.heap.size ≤ (w.alloc (.cells (encM m) 40)).heap.size) := Lib.hid hbx.size
  have HM := Lib.hid (fun wr (hb : Below (w.alloc (.cells (encM m) 40)).heap.size (w.alloc (.cells (encM m) 40)) wr) => MBlk.plain (Blk.below hm hb hm.lt))
  have Hsm := Lib.hid (stamp_small (s := (m.lo, m.hi)) (n := m.n) h.small)
  have HP := Lib.hid hh0
  have HH := Lib.hid (fun k wx => rhas_w m.lo m.hi k wx)
  clear hm h hB hbx hh0
  have He : Hid ((w.alloc (.cells (encM m) 40)).heap.size = w.heap.size + 1) := Lib.hid (by simp)
  have Hown0 : Hid (((w.alloc (.cells (encM m) 40)).alloc (.cells #[] 82)).ownsRow (w.heap.size + 1) 82 3 (.slice (some ⟨w.heap.size + 1, 0, none⟩) 0 0) 0 []) := Lib.hid (by have h := own_empty (w.alloc (.cells (encM m) 40)) (w.alloc (.cells (encM m) 40)).heap.size (Nat.le_refl _); rw [He.out] at h; exact h)
  go_enter Tryz.func30, Tryz.ntmps30
  go_wp2_with (at_builtin; refine append_pairs rfl _ _ rfl (w.heap.size + 1) _ [] rfl Hown0.out _ l rfl (HP.out.below (below_box _)) (by simp; omega) (by simp) ?_; intro v' w1 hown hbel)
  rw [← He.out] at hown hbel
  clear Hown0 He
  rw [List.nil_append] at hown
  have Hown := Lib.hid hown
  have Hb2 : Hid (Below (w.alloc (.cells (encM m) 40)).heap.size (w.alloc (.cells (encM m) 40)) w1) := Lib.hid ((below_box _).trans hbel)
  obtain ⟨p, cap, rfl, hcap1, hcap2, hpp⟩ := own_formP hown
  unfold maxLen at hcap2
  clear hown hbel HP c0
  have Hbl : Hid (w.heap.size < (w.alloc (.cells (encM m) 40)).heap.size) := Lib.hid (by simp)
  generalize (w.alloc (.cells (encM m) 40)) = w0 at *
  generalize w.heap.size = bm at *
  generalize m.lo = lo at *
  generalize m.hi = hi at *
  generalize m.n = nn at *
  go_wp2
  go_loopw [6] (fun i wr => ∃ k : Nat, k ≤ l.length ∧ i = .int .i64 k ∧ wr.ownsRow w0.heap.size 82 3 (.slice p l.length cap) l.length ((stK (lo, hi) nn l k).flatMap encP) ∧ Below w0.heap.size w0 wr) (fun i _ => l.length - (intOf i).toNat)
  case atStart => exact ⟨0, Nat.zero_le _, rfl, by rw [stK_zero]; exact Hown.out, Hb2.out⟩
  case round =>
    obtain ⟨k, hk, rfl, hown, hbel⟩ := hrel
    clear Hown Hb2
    have hsz := hbel.size
    have Hown := Lib.hid hown
    have Hbel := Lib.hid hbel
    clear hbel
    by_cases hlt : k < l.length
    · obtain ⟨g, rfl⟩ := hpp (by omega)
      have hlen := stK_len (lo, hi) nn l k (by omega)
      have hkl : k < (stK (lo, hi) nn l k).length := by omega
      have hset := flatP_stamp (stK (lo, hi) nn l k) k hkl nn
      rw [stK_at (lo, hi) nn l k hlt] at hset
      have Hset : Hid (hasB (lo, hi) l[k].1 = true → ((stK (lo, hi) nn l k).flatMap encP).set (k * 3 + 2) (.int .i64 nn) = (stK (lo, hi) nn l (k + 1)).flatMap encP) := Lib.hid (fun hh => by
        rw [hset, ← stK_set (lo, hi) nn l k hlt]; congr 2; unfold stampP; rw [hh]; rfl)
      have Hskip := Lib.hid (stK_skip (lo, hi) nn l k hlt)
      have Hcell : Hid (∀ wx : World, wx.ownsRow w0.heap.size 82 3 (.slice (some ⟨g, 0, none⟩) l.length cap) l.length ((stK (lo, hi) nn l k).flatMap encP) → wx.cell? ⟨g, k * 3, none⟩ = some (.string (Str l[k].1)) ∧ wx.cell? ⟨g, k * 3 + 2, none⟩ = some (.int .i64 l[k].2.2)) := Lib.hid (fun wx ho => by
        have h := own_cellsP ho k hkl
        rw [stK_at (lo, hi) nn l k hlt] at h
        exact ⟨h.1, h.2.2⟩)
      have hgl := (hown.lt g rfl)
      clear hset hlen hkl hown
      generalize l[k] = x at *
      obtain ⟨xk, xv, xt⟩ := x
      simp only at Hset Hskip Hcell
      have hgl2 := hgl.2
      have hltz : (k : Int) < (l.length : Int) := by omega
      have HS0 : Hid (SR w0 (.slice (some ⟨g, 0, none⟩) l.length cap) l.length ((stK (lo, hi) nn l k).flatMap encP) wr) := Lib.hid ⟨Hbel.out, Hown.out⟩
      clear hgl
      go_wp2_with fail
      have q3 : ∀ wx, SR w0 (.slice (some ⟨g, 0, none⟩) l.length cap) l.length ((stK (lo, hi) nn l k).flatMap encP) wx → wx.cell? ⟨bm, 3, none⟩ = some (.string (Str lo)) := fun wx hx => (HM.out wx hx.g).2.2.2.1
      have q4 : ∀ wx, SR w0 (.slice (some ⟨g, 0, none⟩) l.length cap) l.length ((stK (lo, hi) nn l k).flatMap encP) wx → wx.cell? ⟨bm, 4, none⟩ = some (.string (Str hi)) := fun wx hx => (HM.out wx hx.g).2.2.2.2.1
      have q0 : ∀ wx, SR w0 (.slice (some ⟨g, 0, none⟩) l.length cap) l.length ((stK (lo, hi) nn l k).flatMap encP) wx → wx.cell? ⟨g, k * 3, none⟩ = some (.string (Str xk)) := fun wx hx => (Hcell.out wx hx.o).1
      go_region_held3 (fun wx => SR w0 (.slice (some ⟨g, 0, none⟩) l.length cap) l.length ((stK (lo, hi) nn l k).flatMap encP) wx) (first | with_reducible assumption | exact SR.below (by with_reducible assumption) (by with_reducible assumption) | exact HS0.out.drew)
        ((go_at_call 27; (with_reducible refine (HH.out _ _).mono ?_); rintro e w3 ⟨rfl, hg⟩; have hb3 := hg.below (B := _) (Nat.le_refl _)))
      all_goals
        have hq : SR w0 (.slice (some ⟨g, 0, none⟩) l.length cap) l.length ((stK (lo, hi) nn l k).flatMap encP) w3 := by with_reducible assumption
        have Hq := Lib.hid hq
        obtain ⟨-, -, -, -, -, -, -, d7⟩ := HM.out _ hq.g
        have hs3 := hq.g.size
        clear hq q0 q3 q4 HS0
        cases hh : hasB (lo, hi) xk with
        | false =>
          have Hs := Lib.hid (Hskip.out hh)
          clear hh Hskip Hset
          go_wp2
          go_roundw
          case rel => exact ⟨k + 1, by omega, by go_num, by rw [Hs.out]; exact Hq.out.o, Hq.out.g⟩
          case measure => simp [intOf]; omega
        | true =>
          have hst := Hq.out.o.stored (k * 3 + 2) (.int .i64 nn)
          rw [Hset.out hh] at hst
          have Hst := Lib.hid hst
          have f0 := Hq.out.o.frozenAt (k * 3 + 2)
          have hcx := (Hcell.out w3 Hq.out.o).2
          have hgb := (Hq.out.o.lt g rfl).1
          clear hh Hskip Hset hst
          go_wp2
          go_roundw
          case rel => exact ⟨k + 1, by omega, by go_num, Hst.out.1, Below.grown Hq.out.g Hst.out.2 hs3 (fun q hq => by cases hq; exact hgb)⟩
          case measure => simp [intOf]; omega
    · obtain rfl : k = l.length := by omega
      rw [stK_all] at Hown
      have Hll := Lib.hid (stamp_len (lo, hi) nn l).symm
      clear hown
      go_wp2
      go_ret
      have hown := Hown.out
      rw [Hll.out] at hown ⊢
      exact ⟨_, rfl, owns_lower hown (Nat.le_of_lt Hbl.out), IsPairs.owned hown Hsm.out, Hbx.out.trans (Hbel.out.mono (Nat.le_of_lt Hbl.out))⟩

end Go.Proofs.YtjncehkldhkobaaGreat

namespace Go.Proofs.YtjncehkldhkobaaGreat
open Go.RowKit Go.Sort
set_option linter.unusedVariables false

/-- Pairs put one after another, their keys moved. -/
def insK (a b : Bs) (s t : List Pr) : List Pr := s.foldl (fun t x => putS (b ++ x.1.drop a.length, x.2) t) t
theorem insK_take (a b : Bs) (s t : List Pr) (k : Nat) (h : k < s.length) : insK a b (s.take (k + 1)) t = putS (b ++ s[k].1.drop a.length, s[k].2) (insK a b (s.take k) t) := by
  unfold insK
  rw [List.take_add_one, List.getElem?_eq_getElem h, List.foldl_append]; rfl
theorem insK_srt (a b : Bs) (s : List Pr) {t : List Pr} (h : Srt t) : Srt (insK a b s t) := by
  induction s generalizing t with
  | nil => exact h
  | cons x s ih => exact ih (srt_put _ h)
theorem insK_len (a b : Bs) (s t : List Pr) : (insK a b s t).length ≤ t.length + s.length := by
  induction s generalizing t with
  | nil => simp [insK]
  | cons x s ih =>
    have h1 := ih (putS (b ++ x.1.drop a.length, x.2) t)
    have h2 := put_length (b ++ x.1.drop a.length, x.2) t
    show (insK a b s (putS (b ++ x.1.drop a.length, x.2) t)).length ≤ _
    simp only [List.length_cons]; omega
theorem within_pre (a : Bs) (l : List Pr) : ∀ x ∈ withinS [preS a] l, x ∈ l ∧ a.isPrefixOf x.1 = true := by
  intro x hx
  unfold withinS at hx
  obtain ⟨h1, h2⟩ := List.mem_filter.1 hx
  refine ⟨h1, ?_⟩
  unfold inB at h2
  simp only [List.any_cons, List.any_nil, Bool.or_false, has_pre] at h2
  exact h2
theorem step_out {w0 wr : World} {l : List Pr} {e : Ending} {w' : World} (hh : OwnOut wr.heap.size wr l e w') (hr : SB w0 wr) :
    ∃ v', e = .returned v' ∧ w'.ownsRow w0.heap.size 82 3 v' l.length (l.flatMap encP) ∧ IsPairs w' v' l ∧ Below wr.heap.size wr w' := by
  obtain ⟨v', h1, h2, h3, h4⟩ := hh
  exact ⟨v', h1, owns_lower h2 hr.g.size, h3, h4⟩
theorem pass_box {w3 w4 w5 : World} {o : Obj} (hg : Grown w3 w4) (hb : Below (w4.alloc o).heap.size (w4.alloc o) w5) : Below w3.heap.size w3 w5 := by
  have h1 : Below w3.heap.size w3 (w4.alloc o) := (hg.alloc o).below (Nat.le_refl _)
  exact h1.trans (hb.mono h1.size)

set_option maxRecDepth 100000 in
set_option maxHeartbeats 8000000 in
theorem rapply_clone (m : Ms) (v : Value) (l : List Pr) (w : World) (hk : m.kind = 5) (h : IsPairs w v l) (hs : Srt l) (hl : l.length ≤ 100000000) (hz : SizeM m) (hks : ∀ x ∈ l, x.1.length ≤ 1000000000) :
    Calls Tryz.prog 30 #[v, msgV m] w (OwnOut w.heap.size w (insK m.src m.dst (withinS [preS m.src] l) (withoutS [preS m.dst] l))) := by
  obtain ⟨z1, z2, z3, z4, z5, z6⟩ := hz
  have hB : MBlk (w.alloc (.cells (encM m) 40)) w.heap.size m := Blk.new _ _ _
  have hbx := below_box (w := w) (.cells (encM m) 40)
  have Hbx := Lib.hid hbx
  have hh0 := h.below hbx
  have Hbl : Hid (w.heap.size ≤ (w.alloc (.cells (encM m) 40)).heap.size) := Lib.hid hbx.size
  have HM := Lib.hid (fun wr (hr : SB (w.alloc (.cells (encM m) 40)) wr) => MBlk.plain (Blk.below hB hr.g hB.lt))
  have hc0 : ∀ wr, SB (w.alloc (.cells (encM m) 40)) wr → wr.cell? ⟨w.heap.size, 0, none⟩ = some (.int .i64 5) := fun wr hr => by rw [(HM.out wr hr).1, hk]
  have hc5 : ∀ wr, SB (w.alloc (.cells (encM m) 40)) wr → wr.cell? ⟨w.heap.size, 5, none⟩ = some (.string (Str m.src)) := fun wr hr => (HM.out wr hr).2.2.2.2.2.1
  have hc6 : ∀ wr, SB (w.alloc (.cells (encM m) 40)) wr → wr.cell? ⟨w.heap.size, 6, none⟩ = some (.string (Str m.dst)) := fun wr hr => (HM.out wr hr).2.2.2.2.2.2.1
  have Hc0 := Lib.hid hc0
  have Hc5 := Lib.hid hc5
  have Hc6 := Lib.hid hc6
  have c0 := hc0 _ (SB.refl _)
  clear hk hB hbx
  have HS0 := Lib.hid (SB.refl (w.alloc (.cells (encM m) 40)))
  have HPd := Lib.hid (fun wr => rprefix_w m.dst wr (by omega))
  have HPs := Lib.hid (fun wr => rprefix_w m.src wr (by omega))
  have HD := Lib.hid (fun u wr (hr : SB (w.alloc (.cells (encM m) 40)) wr) (hu : IsSpans wr u [preS m.dst]) => (without_w v u l _ wr (hh0.below hr.g) hu (by omega)).mono fun e w' hh => step_out hh hr)
  have HW := Lib.hid (fun u wr (hr : SB (w.alloc (.cells (encM m) 40)) wr) (hu : IsSpans wr u [preS m.src]) => (within_w v u l _ wr (hh0.below hr.g) hu (by omega)).mono fun e w' hh => step_out hh hr)
  have Hsrc : Hid (∀ x ∈ withinS [preS m.src] l, x.1.length ≤ 1000000000 ∧ x.2.1.length ≤ maxLen ∧ m.src.isPrefixOf x.1 = true) := Lib.hid (fun x hx => by
    obtain ⟨h1, h2⟩ := within_pre m.src l x hx
    exact ⟨hks x h1, (h.small x h1).2, h2⟩)
  have HsO : Hid (Srt (withoutS [preS m.dst] l)) := Lib.hid (srt_without _ hs)
  have HlO : Hid ((withoutS [preS m.dst] l).length ≤ 100000000) := Lib.hid (Nat.le_trans (without_len _ _) hl)
  have HlS : Hid ((withinS [preS m.src] l).length ≤ 100000000) := Lib.hid (Nat.le_trans (within_len _ _) hl)
  have Hdl : Hid (m.dst.length ≤ 1000000000) := Lib.hid z6
  have Hsl : Hid (m.src.length ≤ 1000000000) := Lib.hid z5
  have Hll : Hid ((withoutS [preS m.dst] l).length ≤ 500000000) := Lib.hid (Nat.le_trans (without_len _ _) (by omega))
  have mixed := mixedA
  clear h hs hks hh0 z1 z2 z3 z4 z5 z6
  go_enter Tryz.func30, Tryz.ntmps30
  go_wp2_with fail
  go_region_held3 (fun wr => SB (w.alloc (.cells (encM m) 40)) wr) (first | with_reducible assumption | exact SB.mk (by with_reducible assumption) | exact SB.below (by with_reducible assumption) (by with_reducible assumption) | exact SB.below (by with_reducible assumption) (below_box _) | exact HS0.out.drew)
    (first
      | (go_at_call_of 63 (Value.string (Str m.dst)); (with_reducible refine (HPd.out _).mono ?_); rintro e w2 ⟨rfl, hg2⟩; have hs2 := SB.below HS0.out.drew (hg2.below (B := _) (Nat.le_refl _)))
      | (go_at_call 39; (refine (HD.out _ _ (SB.below hs2 (below_box _)) (one_spans (preS m.dst) _ rfl)).mono ?_); rintro e w3 ⟨v3, rfl, ho3, hp3, hb3⟩; have hs3 := SB.below (SB.below hs2 (below_box _)) hb3)
      | (go_at_call 63; (with_reducible refine (HPs.out _).mono ?_); rintro e w4 ⟨rfl, hg4⟩; have hs4 := SB.below hs3 (hg4.below (B := _) (Nat.le_refl _)))
      | (go_at_call 36; (refine (HW.out _ _ (SB.below hs4 (below_box _)) (one_spans (preS m.src) _ rfl)).mono ?_); rintro e w5 ⟨v5, rfl, ho5, hp5, hb5⟩; have hs5 := SB.below (SB.below hs4 (below_box _)) hb5))
  all_goals
    have hsb : SB (w.alloc (.cells (encM m) 40)) w5 := hs5
    have hps := pass_box hg4 hb5
    have hO1 := owns_below ho3 hps
    have hP1 := hp3.below hps
    have hC0 := Hc0.out _ hsb
    have hC5 := Hc5.out _ hsb
    have Hsb := Lib.hid hsb
    have Hp5 := Lib.hid hp5
    have HO1 := Lib.hid hO1
    have HP1 := Lib.hid hP1
    clear hsb hps hO1 hP1 hp5 ho5 hp3 ho3 hb3 hb5 hg2 hg4 hs2 hs3 hs4 hs5 hc0 hc5 hc6 c0 HD HW
    have HO2 := HO1
    have HP2 := HP1
    have Hp7 := Hp5
    have Hs7 := Hsb
    clear Hp5 Hsb HO1 HP1 hC5
    obtain ⟨b, off, cap, p, rfl, hlc, hcm, hpp, hcc⟩ := Hp7.out.form
    unfold maxLen at hcm
    have HQ := Lib.hid hpp
    have HC := Lib.hid hcc
    have HlS' := HlS.out
    clear hpp hcc Hp7
    generalize withinS [preS m.src] l = S at *
    generalize (withoutS [preS m.dst] l) = O at *
    go_wp2
    go_loopw [7, 9] (fun x i wr => ∃ k : Nat, k ≤ S.length ∧ i = .int .i64 k ∧ wr.ownsRow (w.alloc (.cells (encM m) 40)).heap.size 82 3 x (insK m.src m.dst (S.take k) O).length ((insK m.src m.dst (S.take k) O).flatMap encP) ∧ IsPairs wr x (insK m.src m.dst (S.take k) O) ∧ Below w5.heap.size w5 wr) (fun _ i _ => S.length - (intOf i).toNat)
    case atStart => exact ⟨0, Nat.zero_le _, rfl, HO2.out, HP2.out, Below.refl _ _⟩
    case round =>
      clear HO2 HP2
      obtain ⟨k, hk, rfl, hown, hp, hbel⟩ := hrel
      have Hown := Lib.hid hown
      have Hp := Lib.hid hp
      have Hbel := Lib.hid hbel
      clear hown hp
      by_cases hlt : k < S.length
      · obtain ⟨rfl, hc⟩ := HC.out k hlt
        have hgl := (HQ.out (by rintro rfl; simp at hlt)).2
        have hltz : (k : Int) < (S.length : Int) := by omega
        have hcc := fun (wx : World) (hb : Below w5.heap.size w5 wx) => cells_in hb hgl hc
        have hbk := fun (wx : World) (hx : SB wr wx) => Hbel.out.trans (hx.g.mono Hbel.out.size)
        have e0 : ∀ wx, SB wr wx → wx.cell? ⟨b, off + k * 3, none⟩ = some (.string (Str S[k].1)) := fun wx hx => (hcc wx (hbk wx hx)).1
        have e1 : ∀ wx, SB wr wx → wx.cell? ⟨b, off + k * 3 + 1, none⟩ = some (.string (Str S[k].2.1)) := fun wx hx => (hcc wx (hbk wx hx)).2.1
        have e2 : ∀ wx, SB wr wx → wx.cell? ⟨b, off + k * 3 + 2, none⟩ = some (.int .i64 S[k].2.2) := fun wx hx => (hcc wx (hbk wx hx)).2.2
        have e5 : ∀ wx, SB wr wx → wx.cell? ⟨w.heap.size, 5, none⟩ = some (.string (Str m.src)) := fun wx hx => Hc5.out wx (Hs7.out.below (hbk wx hx))
        have e6 : ∀ wx, SB wr wx → wx.cell? ⟨w.heap.size, 6, none⟩ = some (.string (Str m.dst)) := fun wx hx => Hc6.out wx (Hs7.out.below (hbk wx hx))
        have hsr := Hsrc.out _ (List.getElem_mem hlt)
        have HMv : Hid (∀ wx, Calls Tryz.prog 66 #[.string (Str S[k].1), .string (Str m.src), .string (Str m.dst)] wx fun e w' => e = .returned (.tuple #[.string (Str (m.dst ++ S[k].1.drop m.src.length)), .bool true]) ∧ Grown wx w') := Lib.hid (fun wx => by
          have h := rmovedk_w S[k].1 m.src m.dst wx (by omega) (by have := Hsl.out; omega) (by have := Hdl.out; omega)
          rw [movedV_yes hsr.2.2] at h
          exact h)
        have HIn : Hid (∀ x wx, SB wr wx → IsPairs wr x (insK m.src m.dst (S.take k) O) → Calls Tryz.prog 61 #[x, .agg #[.string (Str (m.dst ++ S[k].1.drop m.src.length)), .string (Str S[k].2.1), .int .i64 S[k].2.2]] wx (OwnOut wr.heap.size wr (insK m.src m.dst (S.take (k + 1)) O))) := Lib.hid (fun x wx hx hp => by
          rw [insK_take m.src m.dst S O k hlt]
          refine (insert_w x _ (m.dst ++ S[k].1.drop m.src.length) S[k].2.1 S[k].2.2 wx (hp.below hx.g) (insK_srt _ _ _ HsO.out) ?_ ⟨?_, hsr.2.1⟩).mono fun e w' hh => hh.lower hx.g hx.g.size
          · have := insK_len m.src m.dst (S.take k) O
            have := HlO.out
            rw [List.length_take] at *
            omega
          · have := Hdl.out
            have := hsr.1
            unfold maxLen
            rw [List.length_append, List.length_drop]; omega)
        have HSr := Lib.hid (SB.refl wr)
        have hbase : Hid ((w.alloc (.cells (encM m) 40)).heap.size ≤ wr.heap.size) := Lib.hid (Nat.le_trans Hs7.out.g.size Hbel.out.size)
        clear hcc hbk hc hsr hbel
        generalize S[k] = x at *
        obtain ⟨xk, xv, xt⟩ := x
        simp only at e0 e1 e2 HMv HIn
        generalize m.dst ++ xk.drop m.src.length = kk at *
        go_wp2_with fail
        go_region_held3 (fun wx => SB wr wx) (first | with_reducible assumption | exact SB.below (by with_reducible assumption) (by with_reducible assumption) | exact HSr.out.drew)
          ((go_at_call 66; (with_reducible refine (HMv.out _).mono ?_); rintro e w8 ⟨rfl, hg8⟩; have hb8 := hg8.below (B := _) (Nat.le_refl _)))
        all_goals
          have hs8 : SB wr w8 := by with_reducible assumption
          clear hg8 hb8
          go_wp2_with fail
          go_region_held3 (fun wx => SB wr wx) (first | with_reducible assumption | exact hs8.drew)
            ((go_at_call 61; (with_reducible refine (HIn.out _ _ (by with_reducible assumption) Hp.out).mono ?_); rintro e w9 ⟨v9, rfl, ho9, hp9, hb9⟩; have hsb9 := SB.mk hb9))
          all_goals
            have Ho9 := Lib.hid (owns_lower ho9 hbase.out)
            have Hp9 := Lib.hid hp9
            have Hb9 := Lib.hid (Hbel.out.trans (hb9.mono Hbel.out.size))
            clear ho9 hp9 hb9 hsb9 e0 e1 e2 e5 e6
            go_wp2
            go_roundw
            case rel => exact ⟨k + 1, by omega, by go_num, Ho9.out, Hp9.out, Hb9.out⟩
            case measure => simp [intOf]; omega
      · obtain rfl : k = S.length := by omega
        rw [List.take_length] at Hown Hp
        clear hbel
        go_wp2
        go_ret
        exact ⟨_, rfl, owns_lower Hown.out Hbl.out, Hp.out, Hbx.out.trans ((Hs7.out.g.trans (Hbel.out.mono Hs7.out.g.size)).mono Hbl.out)⟩

set_option maxRecDepth 100000 in
set_option maxHeartbeats 8000000 in
theorem rapply_move (m : Ms) (v : Value) (l : List Pr) (w : World) (hk : m.kind = 4) (h : IsPairs w v l) (hs : Srt l) (hl : l.length ≤ 100000000) (hz : SizeM m) (hks : ∀ x ∈ l, x.1.length ≤ 1000000000) :
    Calls Tryz.prog 30 #[v, msgV m] w (OwnOut w.heap.size w (insK m.src m.dst (withinS [preS m.src] l) (withoutS [preS m.src] (withoutS [preS m.dst] l)))) := by
  obtain ⟨z1, z2, z3, z4, z5, z6⟩ := hz
  have hB : MBlk (w.alloc (.cells (encM m) 40)) w.heap.size m := Blk.new _ _ _
  have hbx := below_box (w := w) (.cells (encM m) 40)
  have Hbx := Lib.hid hbx
  have hh0 := h.below hbx
  have Hbl : Hid (w.heap.size ≤ (w.alloc (.cells (encM m) 40)).heap.size) := Lib.hid hbx.size
  have HM := Lib.hid (fun wr (hr : SB (w.alloc (.cells (encM m) 40)) wr) => MBlk.plain (Blk.below hB hr.g hB.lt))
  have hc0 : ∀ wr, SB (w.alloc (.cells (encM m) 40)) wr → wr.cell? ⟨w.heap.size, 0, none⟩ = some (.int .i64 4) := fun wr hr => by rw [(HM.out wr hr).1, hk]
  have hc5 : ∀ wr, SB (w.alloc (.cells (encM m) 40)) wr → wr.cell? ⟨w.heap.size, 5, none⟩ = some (.string (Str m.src)) := fun wr hr => (HM.out wr hr).2.2.2.2.2.1
  have hc6 : ∀ wr, SB (w.alloc (.cells (encM m) 40)) wr → wr.cell? ⟨w.heap.size, 6, none⟩ = some (.string (Str m.dst)) := fun wr hr => (HM.out wr hr).2.2.2.2.2.2.1
  have Hc0 := Lib.hid hc0
  have Hc5 := Lib.hid hc5
  have Hc6 := Lib.hid hc6
  have c0 := hc0 _ (SB.refl _)
  clear hk hB hbx
  have HS0 := Lib.hid (SB.refl (w.alloc (.cells (encM m) 40)))
  have HPd := Lib.hid (fun wr => rprefix_w m.dst wr (by omega))
  have HPs := Lib.hid (fun wr => rprefix_w m.src wr (by omega))
  have HD := Lib.hid (fun u wr (hr : SB (w.alloc (.cells (encM m) 40)) wr) (hu : IsSpans wr u [preS m.dst]) => (without_w v u l _ wr (hh0.below hr.g) hu (by omega)).mono fun e w' hh => step_out hh hr)
  have HW := Lib.hid (fun u wr (hr : SB (w.alloc (.cells (encM m) 40)) wr) (hu : IsSpans wr u [preS m.src]) => (within_w v u l _ wr (hh0.below hr.g) hu (by omega)).mono fun e w' hh => step_out hh hr)
  have Hsrc : Hid (∀ x ∈ withinS [preS m.src] l, x.1.length ≤ 1000000000 ∧ x.2.1.length ≤ maxLen ∧ m.src.isPrefixOf x.1 = true) := Lib.hid (fun x hx => by
    obtain ⟨h1, h2⟩ := within_pre m.src l x hx
    exact ⟨hks x h1, (h.small x h1).2, h2⟩)
  have HsO : Hid (Srt (withoutS [preS m.src] (withoutS [preS m.dst] l))) := Lib.hid (srt_without _ (srt_without _ hs))
  have HlO : Hid ((withoutS [preS m.src] (withoutS [preS m.dst] l)).length ≤ 100000000) := Lib.hid (Nat.le_trans (without_len _ _) (Nat.le_trans (without_len _ _) hl))
  have HlS : Hid ((withinS [preS m.src] l).length ≤ 100000000) := Lib.hid (Nat.le_trans (within_len _ _) hl)
  have Hdl : Hid (m.dst.length ≤ 1000000000) := Lib.hid z6
  have Hsl : Hid (m.src.length ≤ 1000000000) := Lib.hid z5
  have Hll : Hid ((withoutS [preS m.dst] l).length ≤ 500000000) := Lib.hid (Nat.le_trans (without_len _ _) (by omega))
  have mixed := mixedA
  clear h hs hks hh0 z1 z2 z3 z4 z5 z6
  go_enter Tryz.func30, Tryz.ntmps30
  go_wp2_with fail
  go_region_held3 (fun wr => SB (w.alloc (.cells (encM m) 40)) wr) (first | with_reducible assumption | exact SB.mk (by with_reducible assumption) | exact SB.below (by with_reducible assumption) (by with_reducible assumption) | exact SB.below (by with_reducible assumption) (below_box _) | exact HS0.out.drew)
    (first
      | (go_at_call_of 63 (Value.string (Str m.dst)); (with_reducible refine (HPd.out _).mono ?_); rintro e w2 ⟨rfl, hg2⟩; have hs2 := SB.below HS0.out.drew (hg2.below (B := _) (Nat.le_refl _)))
      | (go_at_call 39; (refine (HD.out _ _ (SB.below hs2 (below_box _)) (one_spans (preS m.dst) _ rfl)).mono ?_); rintro e w3 ⟨v3, rfl, ho3, hp3, hb3⟩; have hs3 := SB.below (SB.below hs2 (below_box _)) hb3)
      | (go_at_call 63; (with_reducible refine (HPs.out _).mono ?_); rintro e w4 ⟨rfl, hg4⟩; have hs4 := SB.below hs3 (hg4.below (B := _) (Nat.le_refl _)))
      | (go_at_call 36; (refine (HW.out _ _ (SB.below hs4 (below_box _)) (one_spans (preS m.src) _ rfl)).mono ?_); rintro e w5 ⟨v5, rfl, ho5, hp5, hb5⟩; have hs5 := SB.below (SB.below hs4 (below_box _)) hb5))
  all_goals
    have hsb : SB (w.alloc (.cells (encM m) 40)) w5 := hs5
    have hps := pass_box hg4 hb5
    have hO1 := owns_below ho3 hps
    have hP1 := hp3.below hps
    have hC0 := Hc0.out _ hsb
    have hC5 := Hc5.out _ hsb
    have Hsb := Lib.hid hsb
    have Hp5 := Lib.hid hp5
    have HO1 := Lib.hid hO1
    have HP1 := Lib.hid hP1
    clear hsb hps hO1 hP1 hp5 ho5 hp3 ho3 hb3 hb5 hg2 hg4 hs2 hs3 hs4 hs5 hc0 hc5 hc6 c0 HD HW
    go_wp2_with fail
    refine (HPs.out _).mono ?_
    rintro e w6 ⟨rfl, hg6⟩
    have Hg6 := Lib.hid hg6
    clear hg6
    go_wp2_with fail
    refine (without_w v3 _ _ [preS m.src] _ (HP1.out.below ((Hg6.out.alloc _).below (Nat.le_refl _))) (one_spans (preS m.src) _ rfl) Hll.out).mono ?_
    intro e w7 h7
    obtain ⟨v7, rfl, hO2, hP2, hb7⟩ := step_out h7 (Hsb.out.below ((Hg6.out.alloc _).below (Nat.le_refl _)))
    have hps := pass_box Hg6.out hb7
    have HO2 := Lib.hid hO2
    have HP2 := Lib.hid hP2
    have Hp7 := Lib.hid (Hp5.out.below hps)
    have Hs7 := Lib.hid (Hsb.out.below hps)
    clear h7 hO2 hP2 hb7 hps Hp5 Hsb HO1 HP1 Hg6 hC0 hC5
    obtain ⟨b, off, cap, p, rfl, hlc, hcm, hpp, hcc⟩ := Hp7.out.form
    unfold maxLen at hcm
    have HQ := Lib.hid hpp
    have HC := Lib.hid hcc
    have HlS' := HlS.out
    clear hpp hcc Hp7
    generalize withinS [preS m.src] l = S at *
    generalize (withoutS [preS m.src] (withoutS [preS m.dst] l)) = O at *
    go_wp2
    go_loopw [7, 9] (fun x i wr => ∃ k : Nat, k ≤ S.length ∧ i = .int .i64 k ∧ wr.ownsRow (w.alloc (.cells (encM m) 40)).heap.size 82 3 x (insK m.src m.dst (S.take k) O).length ((insK m.src m.dst (S.take k) O).flatMap encP) ∧ IsPairs wr x (insK m.src m.dst (S.take k) O) ∧ Below w7.heap.size w7 wr) (fun _ i _ => S.length - (intOf i).toNat)
    case atStart => exact ⟨0, Nat.zero_le _, rfl, HO2.out, HP2.out, Below.refl _ _⟩
    case round =>
      clear HO2 HP2
      obtain ⟨k, hk, rfl, hown, hp, hbel⟩ := hrel
      have Hown := Lib.hid hown
      have Hp := Lib.hid hp
      have Hbel := Lib.hid hbel
      clear hown hp
      by_cases hlt : k < S.length
      · obtain ⟨rfl, hc⟩ := HC.out k hlt
        have hgl := (HQ.out (by rintro rfl; simp at hlt)).2
        have hltz : (k : Int) < (S.length : Int) := by omega
        have hcc := fun (wx : World) (hb : Below w7.heap.size w7 wx) => cells_in hb hgl hc
        have hbk := fun (wx : World) (hx : SB wr wx) => Hbel.out.trans (hx.g.mono Hbel.out.size)
        have e0 : ∀ wx, SB wr wx → wx.cell? ⟨b, off + k * 3, none⟩ = some (.string (Str S[k].1)) := fun wx hx => (hcc wx (hbk wx hx)).1
        have e1 : ∀ wx, SB wr wx → wx.cell? ⟨b, off + k * 3 + 1, none⟩ = some (.string (Str S[k].2.1)) := fun wx hx => (hcc wx (hbk wx hx)).2.1
        have e2 : ∀ wx, SB wr wx → wx.cell? ⟨b, off + k * 3 + 2, none⟩ = some (.int .i64 S[k].2.2) := fun wx hx => (hcc wx (hbk wx hx)).2.2
        have e5 : ∀ wx, SB wr wx → wx.cell? ⟨w.heap.size, 5, none⟩ = some (.string (Str m.src)) := fun wx hx => Hc5.out wx (Hs7.out.below (hbk wx hx))
        have e6 : ∀ wx, SB wr wx → wx.cell? ⟨w.heap.size, 6, none⟩ = some (.string (Str m.dst)) := fun wx hx => Hc6.out wx (Hs7.out.below (hbk wx hx))
        have hsr := Hsrc.out _ (List.getElem_mem hlt)
        have HMv : Hid (∀ wx, Calls Tryz.prog 66 #[.string (Str S[k].1), .string (Str m.src), .string (Str m.dst)] wx fun e w' => e = .returned (.tuple #[.string (Str (m.dst ++ S[k].1.drop m.src.length)), .bool true]) ∧ Grown wx w') := Lib.hid (fun wx => by
          have h := rmovedk_w S[k].1 m.src m.dst wx (by omega) (by have := Hsl.out; omega) (by have := Hdl.out; omega)
          rw [movedV_yes hsr.2.2] at h
          exact h)
        have HIn : Hid (∀ x wx, SB wr wx → IsPairs wr x (insK m.src m.dst (S.take k) O) → Calls Tryz.prog 61 #[x, .agg #[.string (Str (m.dst ++ S[k].1.drop m.src.length)), .string (Str S[k].2.1), .int .i64 S[k].2.2]] wx (OwnOut wr.heap.size wr (insK m.src m.dst (S.take (k + 1)) O))) := Lib.hid (fun x wx hx hp => by
          rw [insK_take m.src m.dst S O k hlt]
          refine (insert_w x _ (m.dst ++ S[k].1.drop m.src.length) S[k].2.1 S[k].2.2 wx (hp.below hx.g) (insK_srt _ _ _ HsO.out) ?_ ⟨?_, hsr.2.1⟩).mono fun e w' hh => hh.lower hx.g hx.g.size
          · have := insK_len m.src m.dst (S.take k) O
            have := HlO.out
            rw [List.length_take] at *
            omega
          · have := Hdl.out
            have := hsr.1
            unfold maxLen
            rw [List.length_append, List.length_drop]; omega)
        have HSr := Lib.hid (SB.refl wr)
        have hbase : Hid ((w.alloc (.cells (encM m) 40)).heap.size ≤ wr.heap.size) := Lib.hid (Nat.le_trans Hs7.out.g.size Hbel.out.size)
        clear hcc hbk hc hsr hbel
        generalize S[k] = x at *
        obtain ⟨xk, xv, xt⟩ := x
        simp only at e0 e1 e2 HMv HIn
        generalize m.dst ++ xk.drop m.src.length = kk at *
        go_wp2_with fail
        go_region_held3 (fun wx => SB wr wx) (first | with_reducible assumption | exact SB.below (by with_reducible assumption) (by with_reducible assumption) | exact HSr.out.drew)
          ((go_at_call 66; (with_reducible refine (HMv.out _).mono ?_); rintro e w8 ⟨rfl, hg8⟩; have hb8 := hg8.below (B := _) (Nat.le_refl _)))
        all_goals
          have hs8 : SB wr w8 := by with_reducible assumption
          clear hg8 hb8
          go_wp2_with fail
          go_region_held3 (fun wx => SB wr wx) (first | with_reducible assumption | exact hs8.drew)
            ((go_at_call 61; (with_reducible refine (HIn.out _ _ (by with_reducible assumption) Hp.out).mono ?_); rintro e w9 ⟨v9, rfl, ho9, hp9, hb9⟩; have hsb9 := SB.mk hb9))
          all_goals
            have Ho9 := Lib.hid (owns_lower ho9 hbase.out)
            have Hp9 := Lib.hid hp9
            have Hb9 := Lib.hid (Hbel.out.trans (hb9.mono Hbel.out.size))
            clear ho9 hp9 hb9 hsb9 e0 e1 e2 e5 e6
            go_wp2
            go_roundw
            case rel => exact ⟨k + 1, by omega, by go_num, Ho9.out, Hp9.out, Hb9.out⟩
            case measure => simp [intOf]; omega
      · obtain rfl : k = S.length := by omega
        rw [List.take_length] at Hown Hp
        clear hbel
        go_wp2
        go_ret
        exact ⟨_, rfl, owns_lower Hown.out Hbl.out, Hp.out, Hbx.out.trans ((Hs7.out.g.trans (Hbel.out.mono Hs7.out.g.size)).mono Hbl.out)⟩

end Go.Proofs.YtjncehkldhkobaaGreat

namespace Go.Proofs.YtjncehkldhkobaaGreat
open Go.RowKit Go.Sort
set_option linter.unusedVariables false

theorem insK_union (a b : Bs) (l t : List Pr) : insK a b (withinS [preS a] l) t = unionS t (movedT a b l) := by
  rw [moved_map]
  unfold insK unionS withinS
  rw [List.foldl_map]
  congr 1
  congr 1
  funext x
  unfold inB
  simp only [List.any_cons, List.any_nil, Bool.or_false, has_pre]
theorem drop_put_not (s : Sp) (p : Pr) {t : List Pr} (h : Srt t) (hp : hasB s p.1 = false) : dropS s (putS p t) = putS p (dropS s t) := by
  refine Srt.unique (srt_drop _ (srt_put _ h)) (srt_put _ (srt_drop _ h)) fun x => ?_
  rw [mem_drop, mem_put, mem_put, mem_drop]
  constructor
  · rintro ⟨rfl | ⟨h1, h2⟩, h3⟩
    · exact .inl rfl
    · exact .inr ⟨⟨h1, h3⟩, h2⟩
  · rintro (rfl | ⟨⟨h1, h3⟩, h2⟩)
    · exact ⟨.inl rfl, hp⟩
    · exact ⟨.inr ⟨h1, h2⟩, h3⟩
theorem drop_union_not (s : Sp) (y : List Pr) (hy : ∀ x ∈ y, hasB s x.1 = false) {t : List Pr} (h : Srt t) : dropS s (unionS t y) = unionS (dropS s t) y := by
  induction y generalizing t with
  | nil => rfl
  | cons x y ih =>
    show dropS s (unionS (putS x t) y) = unionS (putS x (dropS s t)) y
    rw [ih (fun z hz => hy z (List.mem_cons_of_mem _ hz)) (srt_put _ h), drop_put_not s x h (hy x List.mem_cons_self)]
theorem not_pre (a b r : Bs) (h1 : a.isPrefixOf b = false) (h2 : b.isPrefixOf a = false) : a.isPrefixOf (b ++ r) = false := by
  cases h : a.isPrefixOf (b ++ r) with
  | false => rfl
  | true =>
    have ha := List.isPrefixOf_iff_prefix.1 h
    have hb : b <+: b ++ r := ⟨r, rfl⟩
    rcases List.prefix_or_prefix_of_prefix ha hb with hh | hh
    · rw [List.isPrefixOf_iff_prefix.2 hh] at h1; cases h1
    · rw [List.isPrefixOf_iff_prefix.2 hh] at h2; cases h2
theorem clone_ref (a b : Bs) (l : List Pr) : insK a b (withinS [preS a] l) (withoutS [preS b] l) = cloneT a b l := by
  rw [insK_union, without_span]; rfl
theorem move_ref (a b : Bs) {l : List Pr} (h : Srt l) (h1 : a.isPrefixOf b = false) (h2 : b.isPrefixOf a = false) : insK a b (withinS [preS a] l) (withoutS [preS a] (withoutS [preS b] l)) = moveT a b l := by
  rw [insK_union, without_span, without_span]
  unfold moveT cloneT
  rw [drop_union_not _ _ ?_ (srt_drop _ h)]
  intro x hx
  obtain ⟨r, -, e⟩ := (mem_moved _ _ _ _).1 hx
  rw [has_pre, e]
  exact not_pre a b r h1 h2
/-- Where a message moves, neither place lies in the other. -/
def ApartM (m : Ms) : Prop := m.kind = 4 → m.src.isPrefixOf m.dst = false ∧ m.dst.isPrefixOf m.src = false
theorem rapply_w (m : Ms) (v : Value) (l : List Pr) (w : World) (h : IsPairs w v l) (hs : Srt l) (hl : l.length ≤ 100000000) (hz : SizeM m) (hks : ∀ x ∈ l, x.1.length ≤ 1000000000) (hk : OneToSix m) (ha : ApartM m) :
    Calls Tryz.prog 30 #[v, msgV m] w (OwnOut w.heap.size w (applyS m l)) := by
  unfold applyS
  rcases hk.cases with e | e | e | e | e | e
  · simp only [e]; exact rapply_put m v l w e h hs (by omega) hz
  · simp only [e]; exact rapply_del m v l w e h (by omega) hz
  · simp only [e]; exact rapply_drop m v l w e h (by omega)
  · simp only [e]
    have hh := rapply_move m v l w e h hs hl hz hks
    rw [move_ref m.src m.dst hs (ha e).1 (ha e).2] at hh
    exact hh
  · simp only [e]
    have hh := rapply_clone m v l w e h hs hl hz hks
    rw [clone_ref m.src m.dst l] at hh
    exact hh
  · simp only [e]; exact rapply_stamp m v l w e h (by omega)

set_option maxRecDepth 100000 in
set_option maxHeartbeats 2000000 in
theorem rall_w (v u : Value) (l : List Pr) (ms : List Ms) (w : World) (h : IsPairs w v l) (hm : IsMsgs w u ms) (hs : Srt l) (hz : ∀ m ∈ ms, SizeM m ∧ OneToSix m ∧ ApartM m) (hok : OkAll ms l) :
    Calls Tryz.prog 40 #[v, u] w fun e w' => ∃ v', e = .returned v' ∧ IsPairs w' v' (allS ms l) ∧ Below w.heap.size w w' := by
  obtain ⟨g, off, cap, p, rfl, hlc, hcm, hpp, hcc⟩ := hm.form
  unfold maxLen at hcm
  have HP := Lib.hid hpp
  have HC := Lib.hid hcc
  have Hok := Lib.hid hok
  have Hz := Lib.hid hz
  have Hs := Lib.hid hs
  have Hp0 := Lib.hid h
  clear hm hpp hcc h hok hz hs
  go_enter Tryz.func40, Tryz.ntmps40
  go_wp2
  go_loopw [0, 5] (fun x i wr => ∃ k : Nat, k ≤ ms.length ∧ i = .int .i64 k ∧ IsPairs wr x (allS (ms.take k) l) ∧ Below w.heap.size w wr) (fun _ i _ => ms.length - (intOf i).toNat)
  case atStart => exact ⟨0, Nat.zero_le _, rfl, Hp0.out, Below.refl _ _⟩
  case round =>
    obtain ⟨k, hk, rfl, hp, hbel⟩ := hrel
    clear Hp0
    have hsz := hbel.size
    have Hp := Lib.hid hp
    have Hbel := Lib.hid hbel
    clear hp hbel
    by_cases hlt : k < ms.length
    · obtain ⟨rfl, hc⟩ := HC.out k hlt
      have hgl := (HP.out (by rintro rfl; simp at hlt)).2
      have hltz : (k : Int) < (ms.length : Int) := by omega
      obtain ⟨c0, c1, c2, c3, c4, c5, c6, c7⟩ := hc.below Hbel.out hgl
      have Htk := Lib.hid (all_take ms l k hlt)
      obtain ⟨n1, n2⟩ := Hok.out k hk
      obtain ⟨z1, z2, z3⟩ := Hz.out _ (List.getElem_mem hlt)
      have HA := Lib.hid (rapply_w ms[k] u0 _ wr Hp.out (srt_all _ Hs.out) n1 z1 n2 z2 z3)
      clear hc n1 n2 z1 z2 z3
      generalize ms[k] = m at *
      go_wp2_with fail
      refine HA.out.mono ?_
      rintro e w3 ⟨v3, rfl, -, hp3, hb3⟩
      rw [← Htk.out] at hp3
      have Hp3 := Lib.hid hp3
      have Hb3 : Hid (Below w.heap.size w w3) := Lib.hid (Hbel.out.trans (hb3.mono hsz))
      clear hp3 hb3
      go_wp2
      go_roundw
      case rel => exact ⟨k + 1, by omega, by go_num, Hp3.out, Hb3.out⟩
      case measure => simp [intOf]; omega
    · obtain rfl : k = ms.length := by omega
      rw [List.take_length] at Hp
      go_wp2
      go_ret
      exact ⟨_, rfl, Hp.out, Hbel.out⟩

end Go.Proofs.YtjncehkldhkobaaGreat
