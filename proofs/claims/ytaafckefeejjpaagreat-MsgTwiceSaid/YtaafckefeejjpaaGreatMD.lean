/-
  Walks: the effects of messages.
-/
import Derived.Test.YtaafckefeejjpaaGreatMC
import Derived.Test.YtaafckefeejjpaaGreatMR
namespace Go.Proofs.YtaafckefeejjpaaGreat
open Go.RowKit Go.Sort
set_option linter.unusedVariables false

set_option maxRecDepth 100000 in
set_option maxHeartbeats 2000000 in
theorem apply_put (b : Nat) (m : Ms) (v : Value) (l : List Pr) (w : World) (hm : MBlk w b m) (h : IsPairs w v l) (hs : Srt l) (hl : l.length ≤ 50000) (hk : m.key.length ≤ 140737488355328) (hv : m.val.length ≤ maxLen) :
    Calls Tryz.prog 159 #[ptrV b, v] w (OwnOut w.heap.size w (putS (m.key, m.val, m.n) l)) := by
  have mixed := mixedA
  obtain ⟨-, c1, c2, -, -, -, -, c7⟩ := hm.plain
  have hp := Lib.hid (fun wx (hb : Below w.heap.size w wx) => (put_w v l m.key m.val m.n wx (h.below hb) hs hl hk hv).mono fun e w' hh => hh.lower hb hb.size)
  clear hm h hs
  generalize m.key = k at *
  generalize m.val = x at *
  generalize m.n = t at *
  have H0 := Lib.hid (hp.out w.drew (below_drewN w 1))
  clear hp
  go_enter Tryz.func159, Tryz.ntmps159
  go_wp2
  go_still_tail 14, (by kernel_rfl)
  change wpList _ _ _ _ _ w.drew
  generalize w.drew = w2 at *
  go_wp2_with (go_at_call 165; refine H0.out.mono ?_; intro e w3 h2; have H2 := Lib.hid h2; obtain ⟨v', rfl, -⟩ := h2)
  go_ret
  exact H2.out

/-- Nothing that was there has changed. -/
structure SB (w wx : World) : Prop where
  g : Below w.heap.size w wx
theorem SB.below {w wx wy : World} (h : SB w wx) (hb : Below wx.heap.size wx wy) : SB w wy := ⟨h.g.trans (hb.mono h.g.size)⟩
theorem SB.drew {w wx : World} (h : SB w wx) : SB w wx.drew := h.below (below_drewN wx 1)
theorem SB.refl (w : World) : SB w w := ⟨Below.refl _ _⟩

set_option maxRecDepth 100000 in
set_option maxHeartbeats 2000000 in
theorem apply_del (b : Nat) (m : Ms) (v : Value) (l : List Pr) (w : World) (hm : MBlk w b m) (h : IsPairs w v l) (hs : Srt l) (hl : l.length ≤ 50000) (hk : m.key.length ≤ 140737488355328) :
    Calls Tryz.prog 174 #[ptrV b, v] w (OwnOut w.heap.size w (delS m.key l)) := by
  obtain ⟨-, c1, -⟩ := hm.plain
  have H0 := Lib.hid (del_w v l m.key w h hs hl hk)
  clear hm h hs
  go_enter Tryz.func174, Tryz.ntmps174
  go_wp2_with (go_at_call 180; refine H0.out.mono ?_; intro e w3 h2; have H2 := Lib.hid h2; obtain ⟨v', rfl, -⟩ := h2)
  go_ret
  exact H2.out
set_option maxRecDepth 100000 in
set_option maxHeartbeats 2000000 in
theorem apply_drop (b : Nat) (m : Ms) (v : Value) (l : List Pr) (w : World) (hm : MBlk w b m) (h : IsPairs w v l) (hs : Srt l) (hl : l.length ≤ 50000) :
    Calls Tryz.prog 182 #[ptrV b, v] w (OwnOut w.heap.size w (dropS (m.lo, m.hi) l)) := by
  obtain ⟨-, -, -, c3, c4, -⟩ := hm.plain
  have H0 := Lib.hid (drop_w v l m.lo m.hi w h hs hl)
  clear hm h hs
  go_enter Tryz.func182, Tryz.ntmps182
  go_wp2_with (go_at_call 181; refine H0.out.mono ?_; intro e w3 h2; have H2 := Lib.hid h2; obtain ⟨v', rfl, -⟩ := h2)
  go_ret
  exact H2.out

theorem clone_facts (a b : Bs) {l : List Pr} (hs : Srt l) : Srt (dropS (preS b) l) ∧ Srt (movedT a b l) ∧ (dropS (preS b) l).length ≤ l.length ∧ (movedT a b l).length ≤ l.length :=
  ⟨srt_drop _ hs, srt_moved a b hs, List.length_filter_le _ _, by rw [moved_map, List.length_map]; exact List.length_filter_le _ _⟩

set_option maxRecDepth 100000 in
set_option maxHeartbeats 4000000 in
theorem apply_clone (b : Nat) (m : Ms) (v : Value) (l : List Pr) (w : World) (hm : MBlk w b m) (h : IsPairs w v l) (hs : Srt l) (hl : l.length ≤ 10000) (h1 : m.src.length ≤ 100000) (h2 : m.dst.length ≤ 100000) (hk : ∀ x ∈ l, x.1.length ≤ 100000) :
    Calls Tryz.prog 195 #[ptrV b, v] w (OwnOut w.heap.size w (cloneT m.src m.dst l)) := by
  have hc5 : ∀ wr, SB w wr → wr.cell? ⟨b, 5, none⟩ = some (.string (Str m.src)) := fun wr hr => (hm.below hr.g hm.lt).c0 5 _ rfl
  have hc6 : ∀ wr, SB w wr → wr.cell? ⟨b, 6, none⟩ = some (.string (Str m.dst)) := fun wr hr => (hm.below hr.g hm.lt).c0 6 _ rfl
  have HP := Lib.hid (fun wr => prefix_w m.dst wr (by omega))
  have HD := Lib.hid (fun wr (hr : SB w wr) => drop_w v l m.dst (preT m.dst) wr (h.below hr.g) hs (by omega))
  have HM := Lib.hid (fun wr (hr : SB w wr) => tmoved_w v l m.src m.dst wr (h.below hr.g) hs (by omega) h1 h2 hk)
  obtain ⟨s1, s2, n1, n2⟩ := clone_facts m.src m.dst hs
  have HU := Lib.hid (fun va vb wr (hr : SB w wr) (ha : IsPairs wr va (dropS (preS m.dst) l)) (hb : IsPairs wr vb (movedT m.src m.dst l)) => (union_w va vb _ _ wr ha hb s1 s2 (by omega) (by omega)).mono fun e w' hh => hh.lower hr.g hr.g.size)
  clear hm h hs hk s1 s2 n1 n2
  unfold preS at HU
  have HR : Hid (cloneT m.src m.dst l = unionS (dropS (m.dst, preT m.dst) l) (movedT m.src m.dst l)) := Lib.hid rfl
  generalize m.src = s at *
  generalize m.dst = d at *
  generalize cloneT s d l = r at *
  generalize dropS (d, preT d) l = A at *
  generalize movedT s d l = B at *
  have HS0 := Lib.hid (SB.refl w)
  go_enter Tryz.func195, Tryz.ntmps195
  go_wp2_with fail
  go_region_held3 (fun wr => SB w wr) (first | with_reducible assumption | exact SB.mk (by with_reducible assumption) | exact SB.below (by with_reducible assumption) (by with_reducible assumption) | exact HS0.out.drew)
    (first
      | (go_at_call 196; (with_reducible refine (HP.out _).mono ?_); rintro e w2 ⟨rfl, hg⟩; have hb2 := hg.below (B := _) (Nat.le_refl _); first | (have hm2 := hm4.below hb2) | skip)
      | (go_at_call 181; (with_reducible refine (HD.out _ (by assumption)).mono ?_); rintro e w3 ⟨v3, rfl, -, hd3, hb3⟩; first | (have hm3 := hm2.below hb3) | (have hm3 := hm4.below hb3) | skip)
      | (go_at_call 199; (with_reducible refine (HM.out _ (by assumption)).mono ?_); rintro e w4 ⟨v4, rfl, -, hm4, hb4⟩; first | (have hd4 := hd3.below hb4) | skip)
      | (go_at_call 31; first
          | (with_reducible refine (HU.out _ _ _ (by assumption) hd4 hm4).mono ?_)
          | (with_reducible refine (HU.out _ _ _ (by assumption) hd3 hm3).mono ?_)
         intro e w5 h5; have H5 := Lib.hid h5; obtain ⟨v5, rfl, -, -, hb5⟩ := h5))
  all_goals
    go_wp2
    go_ret
    rw [HR.out]
    exact H5.out

end Go.Proofs.YtaafckefeejjpaaGreat
