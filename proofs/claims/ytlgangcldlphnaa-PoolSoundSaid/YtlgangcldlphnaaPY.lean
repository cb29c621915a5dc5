/-
  Walks: reference 11: Step, where it adds.
-/
import Derived.Test.YtlgangcldlphnaaPX
namespace Go.Proofs.Ytlgangcldlphnaa
open Go.RowKit Go.Sort
set_option linter.unusedVariables false
set_option maxRecDepth 100000

theorem bdrew {B : Nat} {w wx : World} (h : Below B w wx) : Below B w wx.drew := h.trans (below_drewN wx 1)
theorem SlOut.far2 {w0 w w1 w2 : World} {v v' : Value} {P P' : List Sl} (h : SlOut w0 w1 w2 v v' P') (H : IsSlots w v P) : ∀ r, w.heap.size ≤ r → r < w1.heap.size → P' ≠ [] → blkOf v' ≠ some r := by
  intro r hr hr2 hne e
  rcases h.blk r e with h1 | h1
  · have hl : P'.length = P.length := by
      obtain ⟨L, _, a, cap, e1, _⟩ := h.sl
      obtain ⟨L2, _, a2, cap2, e2, _⟩ := H
      rw [h1, e2] at e1
      injection e1 with _ e1
      exact e1.symm
    have hP : P ≠ [] := by intro e3; rw [e3] at hl; exact hne (List.length_eq_zero_iff.1 hl)
    rw [h1] at e
    have := slots_blk H hP r e
    omega
  · omega
/-- A world whose block b has no cells. -/
theorem hole_ex (w2 : World) (b : Nat) : ∃ wh : World, ButP b w2 wh ∧ ButP b wh w2 ∧ (∀ o, wh.cell? ⟨b, o, none⟩ = none) ∧ wh.heap.size = w2.heap.size := by
  refine ⟨{ w2 with heap := w2.heap.setIfInBounds b (.cells #[] 3) }, ⟨rfl, rfl, rfl, by simp, fun k hk hne => ?_⟩, ⟨rfl, rfl, rfl, by simp, fun k hk hne => ?_⟩, fun o => ?_, by simp⟩
  · simp [Ne.symm hne]
  · simp [Ne.symm hne]
  · unfold World.cell?
    by_cases h : b < w2.heap.size
    · simp [h]
    · simp [h]
theorem ints_far {w : World} {v : Value} {l : List Int} {b : Nat} (h : IsInts w v l) (hc : ∀ o, w.cell? ⟨b, o, none⟩ = none) : l ≠ [] → blkOf v ≠ some b := by
  intro hne e
  obtain ⟨a, cap, rfl, h2, h3, h4⟩ := h
  obtain ⟨b', off, rfl, hlt, hc2⟩ := h4 hne
  have hb : b' = b := Option.some.inj e
  subst hb
  have := hc2 0 (List.length_pos_iff.2 hne)
  rw [hc] at this; cases this
theorem pairs_far {w : World} {v : Value} {l : List Pr} {b : Nat} (h : IsPairs w v l) (hc : ∀ o, w.cell? ⟨b, o, none⟩ = none) : l ≠ [] → blkOf v ≠ some b := by
  intro hne e
  obtain ⟨a, cap, rfl, h2, h3, hs, h4⟩ := h
  obtain ⟨b', off, rfl, hlt, hc2⟩ := h4 hne
  have hb : b' = b := Option.some.inj e
  subst hb
  have := (hc2 0 (List.length_pos_iff.2 hne)).1
  rw [hc] at this; cases this
theorem isSl_hole {w w' : World} {v : Sv} {s : Sl} {r : Nat} (h : IsSl w v s) (hs : Bare s.node) (hc : ∀ o, w.cell? ⟨r, o, none⟩ = none) (hb : ButP r w w') : IsSl w' v s := by
  obtain ⟨h1, h2, h3, h4, h5, h6, h7, h8⟩ := h
  obtain ⟨e1, e2, e3⟩ := hs
  refine ⟨h1, h2, h3, pairs_but h4 hb (pairs_far h4 hc), ?_, ints_but h6 hb (ints_far h6 hc), ?_, ?_⟩
  · rw [e1] at h5 ⊢
    obtain ⟨a, cap, e, x1, x2, -⟩ := h5
    exact ⟨a, cap, e, x1, x2, fun h => absurd rfl h⟩
  · rw [e2] at h7 ⊢
    obtain ⟨a, cap, e, x1, x2, -⟩ := h7
    exact ⟨a, cap, e, x1, x2, fun h => absurd rfl h⟩
  · rw [e3] at h8 ⊢
    obtain ⟨a, cap, e, x1, x2, -⟩ := h8
    exact ⟨a, cap, e, x1, x2, fun h => absurd rfl h⟩
theorem slots_hole {wh wx : World} {v : Value} {P : List Sl} {b : Nat} (h : SlF wh wx v P) (hbare : ∀ i, Bare (atP P i).node) (hc : ∀ o, wh.cell? ⟨b, o, none⟩ = none) (hb : ButP b wh wx) : IsSlots wx v P := by
  obtain ⟨L, h3, h4⟩ := h
  exact ⟨L, ⟨h3.1, fun i => isSl_hole (h3.2 i) (hbare i) hc hb⟩, h4⟩
theorem node_hole {w wh : World} {v : Value} {n : Nd} {b b0 : Nat} (h : IsNode w v n) (hn : Bare n) (hnew : NewNode b0 v) (hlt : b < b0) (hb : ButP b w wh) : IsNode wh v n := by
  obtain ⟨x1, x2, x3, x4, x5, rfl, h1, h2, h3, h4, h5⟩ := h
  obtain ⟨z1, z2, z3, z4, z5, he, k1, k2⟩ := hnew
  have he1 : x1 = z1 ∧ x2 = z2 ∧ x3 = z3 ∧ x4 = z4 ∧ x5 = z5 := by simpa using he
  obtain ⟨rfl, rfl, rfl, rfl, rfl⟩ := he1
  obtain ⟨e1, e2, e3⟩ := hn
  refine ⟨_, _, _, _, _, rfl, pairs_but h1 hb (fun _ e => by have := k2 _ e; omega), ?_, ints_but h3 hb (fun _ e => by have := k1 _ e; omega), ?_, ?_⟩
  · rw [e1] at h2 ⊢
    obtain ⟨a, cap, e, x1, x2, -⟩ := h2
    exact ⟨a, cap, e, x1, x2, fun h => absurd rfl h⟩
  · rw [e2] at h4 ⊢
    obtain ⟨a, cap, e, x1, x2, -⟩ := h4
    exact ⟨a, cap, e, x1, x2, fun h => absurd rfl h⟩
  · rw [e3] at h5 ⊢
    obtain ⟨a, cap, e, x1, x2, -⟩ := h5
    exact ⟨a, cap, e, x1, x2, fun h => absurd rfl h⟩
/-- Where the result of Add lies, at block b. -/
structure AddOk (w W1 : World) (P : List Sl) (n : Nd) (b : Nat) (v' : Value) (wx : World) : Prop where
  blk : Blk wx b 44 #[v', .int .i64 (addP P n).2.1, .int .i64 (addP P n).2.2]
  sl : IsSlots wx v' (addP P n).1
  far : (addP P n).1 ≠ [] → blkOf v' ≠ some (w.heap.size + 2)
  bel : Below W1.heap.size W1 wx
  le : W1.heap.size ≤ b
/-- The three cells of the box are stored. -/
@[reducible] def set3 (wx : World) (b : Nat) (x y z : Value) : World := ((wx.setCell ⟨b, 0, none⟩ x).setCell ⟨b, 1, none⟩ y).setCell ⟨b, 2, none⟩ z
theorem but_set3 (wx : World) (b : Nat) (x y z : Value) : ButP b wx (set3 wx b x y z) := ((ButP.setCell b 0 _ wx).trans (ButP.setCell b 1 _ _)).trans (ButP.setCell b 2 _ _)
theorem AddOk.stored {w W1 w0 wc wx : World} {P : List Sl} {n : Nd} {b : Nat} {v v' : Value} {c0 c1 c2 : Value} (hb : Blk wx b 44 #[c0, c1, c2]) (hout : SlOut w0 wc wx v v' (addP P n).1) (hf : ∀ r, w.heap.size ≤ r → r < wc.heap.size → (addP P n).1 ≠ [] → blkOf v' ≠ some r)
    (hc : Below W1.heap.size W1 wc) (h0c : Below w0.heap.size w0 wc) (hw : w.heap.size + 2 < W1.heap.size) (hle : W1.heap.size ≤ b) (h0b : w0.heap.size ≤ b) (hlt : b < wc.heap.size) :
    AddOk w W1 P n b v' (set3 wx b v' (.int .i64 (addP P n).2.1) (.int .i64 (addP P n).2.2)) :=
  ⟨blk_set3 hb _ _ _, (hout.sl.but (but_set3 _ _ _ _ _) (hf b (by have := hc.size; omega) hlt)).slots (below_set3 (h0c.trans (hout.bel.mono h0c.size)) b h0b _ _ _), hf _ (by omega) (Nat.lt_of_lt_of_le hw hc.size), below_set3 (hc.trans (hout.bel.mono hc.size)) b hle _ _ _, hle⟩
theorem AddOk.holed {w W1 w2 wh wc wx : World} {P : List Sl} {n : Nd} {b : Nat} {v v' : Value} {c0 c1 c2 : Value} (hb : Blk wx b 44 #[c0, c1, c2]) (hout : SlOut wh wc wx v v' (addP P n).1) (hf : ∀ r, w.heap.size ≤ r → r < wc.heap.size → (addP P n).1 ≠ [] → blkOf v' ≠ some r)
    (hbare : ∀ i, Bare (atP (addP P n).1 i).node) (hhc : ∀ o, wh.cell? ⟨b, o, none⟩ = none) (hh : ButP b wh w2) (h2c : Below w2.heap.size w2 wc) (hc : Below W1.heap.size W1 wc) (hw : w.heap.size + 2 < W1.heap.size) (hle : W1.heap.size ≤ b) (hlt : b < wc.heap.size) :
    AddOk w W1 P n b v' (set3 wx b v' (.int .i64 (addP P n).2.1) (.int .i64 (addP P n).2.2)) :=
  ⟨blk_set3 hb _ _ _, slots_hole (hout.sl.but (but_set3 _ _ _ _ _) (hf b (by have := hc.size; omega) hlt)) hbare hhc (((hh.trans (ButP.of h2c)).trans (ButP.of hout.bel)).trans (but_set3 _ _ _ _ _)), hf _ (by omega) (Nat.lt_of_lt_of_le hw hc.size), below_set3 (hc.trans (hout.bel.mono hc.size)) b hle _ _ _, hle⟩
theorem AddOk.fresh {w W1 w0 wc wx : World} {P : List Sl} {n : Nd} {v v' : Value} (hout : SlOut w0 wc wx v v' (addP P n).1) (hf : ∀ r, w.heap.size ≤ r → r < wc.heap.size → (addP P n).1 ≠ [] → blkOf v' ≠ some r)
    (hc : Below W1.heap.size W1 wc) (h0c : Below w0.heap.size w0 wc) (hw : w.heap.size + 2 < W1.heap.size) :
    AddOk w W1 P n wx.heap.size v' (wx.alloc (.cells #[v', .int .i64 (addP P n).2.1, .int .i64 (addP P n).2.2] 44)) :=
  ⟨Blk.new _ _ _, (hout.sl.slots (h0c.trans (hout.bel.mono h0c.size))).below (below_box _), hf _ (by omega) (Nat.lt_of_lt_of_le hw hc.size), (hc.trans (hout.bel.mono hc.size)).alloc (Nat.le_trans hc.size hout.bel.size) _, Nat.le_trans hc.size hout.bel.size⟩
set_option maxHeartbeats 8000000 in
theorem step_add_w (v u : Value) (P : List Sl) (R : List Int) (j : Nat) (x : R4) (w : World) (hx : x.ok) (h : IsSlots w v P) (hu : IsInts w u R) (hg : Good P R j) (hj : j ≤ 4000) (hadd : x.x0 % 8 < 5 ∨ R.length = 0) :
    Calls Try.prog 33 #[heldV v u, r4V x] w fun e w' => ∃ v' u', e = .returned (heldV v' u') ∧ IsSlots w' v' (stepX P R x).1 ∧ IsInts w' u' (stepX P R x).2 ∧ Below w.heap.size w w' := by
  have mixed := mixedA
  have H := Lib.hid h
  have HU := Lib.hid hu
  have HGD := Lib.hid hg
  obtain ⟨a, cap, rfl, hle, hcm, hpm⟩ := h.slice
  obtain ⟨ua, uc, rfl, hul, hum⟩ := hu.slice
  have hpl := hg.plen
  have hrl := hg.rlen
  have HXK := Lib.hid hx
  have HNODE := Lib.hid (fun wx (hb : Below w.heap.size w wx) => node_w x (.slice ua R.length uc) R wx hx (hu.below hb) (by omega))
  have HADD := Lib.hid (fun wx (hb : Below w.heap.size w wx) w1 nv (hb1 : Below w.heap.size w w1) (hn : IsNode w1 nv (nodeX x R)) (hnx : IsNode wx nv (nodeX x R)) => raddF_w (.slice a P.length cap) nv P (nodeX x R) w1 wx ((h.slF.below hb).elder hb1) (h.below hb) hn hnx (by omega) (Nat.le_trans (kidsX_len x R) (by decide)) (fun i _ => by have := hg.refs i; omega))
  clear h hu hg
  obtain ⟨hx0, hx1, hx2, hx3⟩ := hx
  obtain ⟨y0, y1, y2, y3⟩ := x
  simp only at hx0 hx1 hx2 hx3
  obtain ⟨W1, hW1⟩ : ∃ W1, W1 = ((w.alloc (.cells #[.slice a P.length cap, .slice ua R.length uc] 32)).alloc (.cells #[.int .u8 y0, .int .u8 y1, .int .u8 y2, .int .u8 y3] 24)).alloc (.cells #[.slice none 0 0, .slice none 0 0] 32) := ⟨_, rfl⟩
  have HB1 : Hid (Below w.heap.size w W1) := Lib.hid (by rw [hW1]; exact keepP (keepP (keepP (Below.refl _ _) _) _) _)
  have HH : Hid (Blk W1 w.heap.size 32 #[.slice a P.length cap, .slice ua R.length uc]) := Lib.hid (by rw [hW1]; exact ((Blk.new _ _ _).alloc _).alloc _)
  have HX : Hid (Blk W1 (w.heap.size + 1) 24 #[.int .u8 y0, .int .u8 y1, .int .u8 y2, .int .u8 y3]) := Lib.hid (by rw [hW1]; exact (Blk.new' _ _ _ (by simp)).alloc _)
  have HR : Hid (Blk W1 (w.heap.size + 2) 32 #[.slice none 0 0, .slice none 0 0]) := Lib.hid (by rw [hW1]; exact Blk.new' _ _ _ (by simp))
  have HW1 := Lib.hid hW1
  clear hW1
  obtain ⟨m0, hm0⟩ : ∃ m0 : Nat, m0 = y0 % 8 := ⟨_, rfl⟩
  have hmz : (y0 : Int) % 8 = (m0 : Int) := by omega
  have hmt : (y0 : Int).tmod 8 = (m0 : Int) := by rw [Int.tmod_eq_emod_of_nonneg (by omega)]; exact hmz
  have hm8 : m0 < 8 := by omega
  have HM0 := Lib.hid hm0
  have hy0z : (y0 : Int) < 256 := by omega
  have hy1z : (y1 : Int) < 256 := by omega
  clear hm0
  go_enter Try.func33, Try.ntmps33
  go_upto_region 1 with fail
  rw [← HW1.out]
  have x0 : W1.cell? ⟨w.heap.size + 1, 0, none⟩ = some (.int .u8 y0) := HX.out.c0 0 _ rfl
  have u0 : W1.cell? ⟨w.heap.size, 1, none⟩ = some (.slice ua R.length uc) := HH.out.c0 1 _ rfl

  have HST : Hid (stepX P R ⟨y0, y1, y2, y3⟩ = ((addP P (nodeX ⟨y0, y1, y2, y3⟩ R)).1, R ++ [(addP P (nodeX ⟨y0, y1, y2, y3⟩ R)).2.1])) := Lib.hid (by unfold stepX; rw [if_pos]; exact hadd)
  have hadd' : y0 % 8 < 5 ∨ R.length = 0 := hadd
  have hor : m0 < 5 ∨ R.length = 0 := by have := HM0.out; omega
  have hsW : w.heap.size + 2 < W1.heap.size := HR.out.lt
  have HBARE := Lib.hid (by have := (good_step (x := ⟨y0, y1, y2, y3⟩) HGD.out (by omega)).bare; rw [HST.out] at this; exact this)
  by_cases h5 : m0 < 5
  · have h5z : (m0 : Int) < 5 := by omega
    go_upto_region 2 with fail
    go_cut [5] (fun s5 wx => ∃ b a3 c3, s5 = .pointer (some ⟨b, 0, none⟩) ∧ Hid (AddOk w W1 P (nodeX ⟨y0, y1, y2, y3⟩ R) b (.slice a3 (addP P (nodeX ⟨y0, y1, y2, y3⟩ R)).1.length c3) wx))
    case first =>
      have pA := cell_all (HH.out.c0 0 _ rfl)
      have uA := cell_all u0
      have xA := cell_all x0
      have xB := cell_all (HX.out.c0 1 _ rfl)
      have xC := cell_all (HX.out.c0 2 _ rfl)
      have xD := cell_all (HX.out.c0 3 _ rfl)
      clear x0 u0
      go_region_held3 (fun wx => Below W1.heap.size W1 wx)
        (repeat (first | with_reducible assumption | with_reducible exact Below.refl _ _ | with_reducible refine bdrew ?_ | with_reducible refine keepP ?_ _ | with_reducible refine below_set3 ?_ _ (by omega) _ _ _))
        (first
          | (go_at_call 13; have hq : Below W1.heap.size W1 W1 := Below.refl _ _; (first | (refine (HNODE.out _ (by first | exact HB1.out | exact bdrew HB1.out)).mono ?_; rintro e w2 ⟨nv, rfl, hn2, hb2, -⟩; have hS2 : Below W1.heap.size W1 w2 := (show Below W1.heap.size W1 _ by first | exact hq | exact bdrew hq).trans hb2) | (refine (HNODE.out _ (by first | exact bdrew (keepP HB1.out _) | exact keepP HB1.out _)).mono ?_; rintro e w2 ⟨nv, rfl, hn2, hb2, hnew⟩; have hS2 : Below W1.heap.size W1 w2 := (show Below W1.heap.size W1 _ by first | exact bdrew (keepP hq _) | exact keepP hq _).trans (hb2.mono (by simp)); have hz2 : Blk w2 W1.heap.size 44 #[.slice none 0 0, .int .i64 0, .int .i64 0] := (by first | exact blk_made hb2 | exact blk_madeP hb2); obtain ⟨wh, hh1, hh2, hh3, hhs⟩ := hole_ex w2 W1.heap.size; have hnh := node_hole hn2 (bare_nodeX _ _) hnew (by simp) hh1)); have hs2 : W1.heap.size ≤ w2.heap.size := hS2.size; clear hb2)
          | (go_at_call 16; (first | (have hSc : Below W1.heap.size W1 _ := hS2; have hS2c : Below w2.heap.size w2 w2 := Below.refl _ _; refine (HADD.out _ (HB1.out.trans (hSc.mono HB1.out.size)) wh nv ((HB1.out.trans (hS2.mono HB1.out.size)).trans (hh1.below (B := w.heap.size) (by omega) (by omega))) hnh (hn2.below hS2c)).mono ?_; rintro e w3 ⟨v3, rfl, hout⟩; obtain ⟨a3, c3, rfl⟩ : ∃ a3 c3, v3 = .slice a3 (addP P (nodeX ⟨y0, y1, y2, y3⟩ R)).1.length c3 := (by obtain ⟨L, _, a3, cap3, e3, _⟩ := hout.sl; exact ⟨a3, cap3, e3⟩); have hS3 : Below W1.heap.size W1 w3 := hSc.trans (hout.bel.mono hSc.size); have hz3 : Blk w3 W1.heap.size 44 #[.slice none 0 0, .int .i64 0, .int .i64 0] := (hz2.below hS2c hz2.lt).below hout.bel (Nat.lt_of_lt_of_le hz2.lt hS2c.size); have n0 := hz3.c0 0 _ rfl; have n1 := hz3.c0 1 _ rfl; have n2 := hz3.c0 2 _ rfl; have f0 := hz3.free 0; have f1 := hz3.free 1; have f2 := hz3.free 2; have HF := Lib.hid (hout.far2 H.out); have HOUT := Lib.hid hout; have HSC := Lib.hid hSc; have HS2C := Lib.hid hS2c; clear hout hSc hS2c) | (have hSc : Below W1.heap.size W1 _ := bdrew hS2; have hS2c : Below w2.heap.size w2 _ := bdrew (Below.refl w2.heap.size w2); refine (HADD.out _ (HB1.out.trans (hSc.mono HB1.out.size)) wh nv ((HB1.out.trans (hS2.mono HB1.out.size)).trans (hh1.below (B := w.heap.size) (by omega) (by omega))) hnh (hn2.below hS2c)).mono ?_; rintro e w3 ⟨v3, rfl, hout⟩; obtain ⟨a3, c3, rfl⟩ : ∃ a3 c3, v3 = .slice a3 (addP P (nodeX ⟨y0, y1, y2, y3⟩ R)).1.length c3 := (by obtain ⟨L, _, a3, cap3, e3, _⟩ := hout.sl; exact ⟨a3, cap3, e3⟩); have hS3 : Below W1.heap.size W1 w3 := hSc.trans (hout.bel.mono hSc.size); have hz3 : Blk w3 W1.heap.size 44 #[.slice none 0 0, .int .i64 0, .int .i64 0] := (hz2.below hS2c hz2.lt).below hout.bel (Nat.lt_of_lt_of_le hz2.lt hS2c.size); have n0 := hz3.c0 0 _ rfl; have n1 := hz3.c0 1 _ rfl; have n2 := hz3.c0 2 _ rfl; have f0 := hz3.free 0; have f1 := hz3.free 1; have f2 := hz3.free 2; have HF := Lib.hid (hout.far2 H.out); have HOUT := Lib.hid hout; have HSC := Lib.hid hSc; have HS2C := Lib.hid hS2c; clear hout hSc hS2c) | (have hSc : Below W1.heap.size W1 _ := hS2; have hS2c : Below w2.heap.size w2 w2 := Below.refl _ _; refine (HADD.out _ (HB1.out.trans (hSc.mono HB1.out.size)) w2 nv (HB1.out.trans (hS2.mono HB1.out.size)) hn2 (hn2.below hS2c)).mono ?_; rintro e w3 ⟨v3, rfl, hout⟩; obtain ⟨a3, c3, rfl⟩ : ∃ a3 c3, v3 = .slice a3 (addP P (nodeX ⟨y0, y1, y2, y3⟩ R)).1.length c3 := (by obtain ⟨L, _, a3, cap3, e3, _⟩ := hout.sl; exact ⟨a3, cap3, e3⟩); have hS3 : Below W1.heap.size W1 w3 := hSc.trans (hout.bel.mono hSc.size); (first | (have hz3 : Blk w3 w2.heap.size 44 #[.slice none 0 0, .int .i64 0, .int .i64 0] := (by first | exact blk_made hout.bel | exact blk_madeP hout.bel); have n0 := hz3.c0 0 _ rfl; have n1 := hz3.c0 1 _ rfl; have n2 := hz3.c0 2 _ rfl; have f0 := hz3.free 0; have f1 := hz3.free 1; have f2 := hz3.free 2) | skip); have HF := Lib.hid (hout.far2 H.out); have HOUT := Lib.hid hout; have HSC := Lib.hid hSc; have HS2C := Lib.hid hS2c; clear hout hSc hS2c) | (have hSc : Below W1.heap.size W1 _ := bdrew hS2; have hS2c : Below w2.heap.size w2 _ := bdrew (Below.refl w2.heap.size w2); refine (HADD.out _ (HB1.out.trans (hSc.mono HB1.out.size)) w2 nv (HB1.out.trans (hS2.mono HB1.out.size)) hn2 (hn2.below hS2c)).mono ?_; rintro e w3 ⟨v3, rfl, hout⟩; obtain ⟨a3, c3, rfl⟩ : ∃ a3 c3, v3 = .slice a3 (addP P (nodeX ⟨y0, y1, y2, y3⟩ R)).1.length c3 := (by obtain ⟨L, _, a3, cap3, e3, _⟩ := hout.sl; exact ⟨a3, cap3, e3⟩); have hS3 : Below W1.heap.size W1 w3 := hSc.trans (hout.bel.mono hSc.size); (first | (have hz3 : Blk w3 w2.heap.size 44 #[.slice none 0 0, .int .i64 0, .int .i64 0] := (by first | exact blk_made hout.bel | exact blk_madeP hout.bel); have n0 := hz3.c0 0 _ rfl; have n1 := hz3.c0 1 _ rfl; have n2 := hz3.c0 2 _ rfl; have f0 := hz3.free 0; have f1 := hz3.free 1; have f2 := hz3.free 2) | skip); have HF := Lib.hid (hout.far2 H.out); have HOUT := Lib.hid hout; have HSC := Lib.hid hSc; have HS2C := Lib.hid hS2c; clear hout hSc hS2c) | (have hSc : Below W1.heap.size W1 _ := keepP hS2 (.cells #[.slice none 0 0, .int .i64 0, .int .i64 0] 44); have hS2c : Below w2.heap.size w2 _ := keepP (Below.refl w2.heap.size w2) (.cells #[.slice none 0 0, .int .i64 0, .int .i64 0] 44); refine (HADD.out _ (HB1.out.trans (hSc.mono HB1.out.size)) w2 nv (HB1.out.trans (hS2.mono HB1.out.size)) hn2 (hn2.below hS2c)).mono ?_; rintro e w3 ⟨v3, rfl, hout⟩; obtain ⟨a3, c3, rfl⟩ : ∃ a3 c3, v3 = .slice a3 (addP P (nodeX ⟨y0, y1, y2, y3⟩ R)).1.length c3 := (by obtain ⟨L, _, a3, cap3, e3, _⟩ := hout.sl; exact ⟨a3, cap3, e3⟩); have hS3 : Below W1.heap.size W1 w3 := hSc.trans (hout.bel.mono hSc.size); (first | (have hz3 : Blk w3 w2.heap.size 44 #[.slice none 0 0, .int .i64 0, .int .i64 0] := (by first | exact blk_made hout.bel | exact blk_madeP hout.bel); have n0 := hz3.c0 0 _ rfl; have n1 := hz3.c0 1 _ rfl; have n2 := hz3.c0 2 _ rfl; have f0 := hz3.free 0; have f1 := hz3.free 1; have f2 := hz3.free 2) | skip); have HF := Lib.hid (hout.far2 H.out); have HOUT := Lib.hid hout; have HSC := Lib.hid hSc; have HS2C := Lib.hid hS2c; clear hout hSc hS2c) | (have hSc : Below W1.heap.size W1 _ := bdrew (keepP hS2 (.cells #[.slice none 0 0, .int .i64 0, .int .i64 0] 44)); have hS2c : Below w2.heap.size w2 _ := bdrew (keepP (Below.refl w2.heap.size w2) (.cells #[.slice none 0 0, .int .i64 0, .int .i64 0] 44)); refine (HADD.out _ (HB1.out.trans (hSc.mono HB1.out.size)) w2 nv (HB1.out.trans (hS2.mono HB1.out.size)) hn2 (hn2.below hS2c)).mono ?_; rintro e w3 ⟨v3, rfl, hout⟩; obtain ⟨a3, c3, rfl⟩ : ∃ a3 c3, v3 = .slice a3 (addP P (nodeX ⟨y0, y1, y2, y3⟩ R)).1.length c3 := (by obtain ⟨L, _, a3, cap3, e3, _⟩ := hout.sl; exact ⟨a3, cap3, e3⟩); have hS3 : Below W1.heap.size W1 w3 := hSc.trans (hout.bel.mono hSc.size); (first | (have hz3 : Blk w3 w2.heap.size 44 #[.slice none 0 0, .int .i64 0, .int .i64 0] := (by first | exact blk_made hout.bel | exact blk_madeP hout.bel); have n0 := hz3.c0 0 _ rfl; have n1 := hz3.c0 1 _ rfl; have n2 := hz3.c0 2 _ rfl; have f0 := hz3.free 0; have f1 := hz3.free 1; have f2 := hz3.free 2) | skip); have HF := Lib.hid (hout.far2 H.out); have HOUT := Lib.hid hout; have HSC := Lib.hid hSc; have HS2C := Lib.hid hS2c; clear hout hSc hS2c)))
          | fail "no arm")
      all_goals
        go_wp2
        go_meet
        first
          | exact ⟨_, a3, c3, rfl, Lib.hid (AddOk.holed hz3 HOUT.out HF.out HBARE.out hh3 hh2 HS2C.out HSC.out hsW (Nat.le_refl _) (Nat.lt_of_lt_of_le hz2.lt HS2C.out.size))⟩
          | exact ⟨_, a3, c3, rfl, Lib.hid (AddOk.fresh HOUT.out HF.out HSC.out HS2C.out hsW)⟩
          | exact ⟨_, a3, c3, rfl, Lib.hid (AddOk.stored hz3 HOUT.out HF.out HSC.out HS2C.out hsW hs2 (Nat.le_refl _) (by simp))⟩
    case rest =>
      obtain ⟨b, a2, c2, rfl, HAD⟩ := hcut
      clear x0 u0
      have hlb := HAD.out.le
      have hs4 : b < wc.heap.size := HAD.out.blk.lt
      have hs3 : w.heap.size + 2 < wc.heap.size := Nat.lt_of_lt_of_le hsW HAD.out.bel.size
      have HR3 : Hid (Blk wc (w.heap.size + 2) 32 #[.slice none 0 0, .slice none 0 0]) := Lib.hid (HR.out.below HAD.out.bel HR.out.lt)
      have HAB := Lib.hid HAD.out.blk
      have HASL := Lib.hid HAD.out.sl
      have HAF := Lib.hid HAD.out.far
      have HBw := Lib.hid HAD.out.bel
      clear HAD
      generalize (addP P (nodeX ⟨y0, y1, y2, y3⟩ R)).1 = P2 at *
      generalize (addP P (nodeX ⟨y0, y1, y2, y3⟩ R)).2.1 = id at *
      generalize (addP P (nodeX ⟨y0, y1, y2, y3⟩ R)).2.2 = er at *
      have HS0 : Hid (RgS (w.heap.size + 2) wc b 44 #[.slice a2 P2.length c2, .int .i64 id, .int .i64 er] wc) := Lib.hid (RgS.refl HAB.out)
      have HIR : Hid (∀ wx, RgS (w.heap.size + 2) wc b 44 #[.slice a2 P2.length c2, .int .i64 id, .int .i64 er] wx → IsInts wx (.slice ua R.length uc) R) := Lib.hid (fun wx hx => HU.out.below ((HB1.out.trans (HBw.out.mono HB1.out.size)).trans (hx.but.below (B := w.heap.size) (by omega) (by omega))))
      have pA : ∀ wx, RgS (w.heap.size + 2) wc b 44 #[.slice a2 P2.length c2, .int .i64 id, .int .i64 er] wx → wx.cell? ⟨b, 0, none⟩ = some (.slice a2 P2.length c2) := fun wx hx => hx.blk.c0 0 _ rfl
      have iA : ∀ wx, RgS (w.heap.size + 2) wc b 44 #[.slice a2 P2.length c2, .int .i64 id, .int .i64 er] wx → wx.cell? ⟨b, 1, none⟩ = some (.int .i64 id) := fun wx hx => hx.blk.c0 1 _ rfl
      have uA : ∀ wx, RgS (w.heap.size + 2) wc b 44 #[.slice a2 P2.length c2, .int .i64 id, .int .i64 er] wx → wx.cell? ⟨w.heap.size, 1, none⟩ = some (.slice ua R.length uc) := fun wx hx => (hx.but.blk (HH.out.below HBw.out HH.out.lt) (by omega)).c0 1 _ rfl
      have HRL : Hid (R.length ≤ 4000) := Lib.hid (by omega)
      go_upto_region 3 with fail
      go_region_held3 (fun wx => RgS (w.heap.size + 2) wc b 44 #[.slice a2 P2.length c2, .int .i64 id, .int .i64 er] wx)
        (repeat (first | with_reducible assumption | with_reducible exact HS0.out | with_reducible refine RgS.drew ?_ | with_reducible refine RgS.alloc ?_ _ | with_reducible refine RgS.set ?_ _ _ (by omega)))
        (first
          | (refine step_ints1 rfl _ _ rfl wc.heap.size (.slice (some ⟨wc.heap.size, 0, none⟩) 0 0) [] rfl (by first | exact own_emptyI wc _ (Nat.le_refl _) | exact (own_emptyI wc _ (Nat.le_refl _)).alloc _) (.slice ua R.length uc) R rfl (HIR.out _ (by repeat (first | with_reducible assumption | with_reducible exact HS0.out | with_reducible refine RgS.drew ?_ | with_reducible refine RgS.alloc ?_ _))) (by simp only [List.length_nil]; have := HRL.out; omega) (by first | (simp; done) | (simp; omega)) ?_; intro v3 y3 ho3 hg3; have hS3 : RgS (w.heap.size + 2) wc b 44 #[.slice a2 P2.length c2, .int .i64 id, .int .i64 er] y3 := RgS.grown (by repeat (first | with_reducible assumption | with_reducible exact HS0.out | with_reducible refine RgS.drew ?_ | with_reducible refine RgS.alloc ?_ _)) hg3 (fun c hc => by have hc : wc.heap.size = c := Option.some.inj hc; omega) (by omega); have hr3 : Blk y3 (w.heap.size + 2) 32 #[.slice none 0 0, .slice none 0 0] := (grown_blk hg3 (by first | exact (HR3.out.alloc _) | exact ((HR3.out.alloc _).alloc _)) (fun e' => by have e' : wc.heap.size = (w.heap.size + 2) := Option.some.inj e'; omega)); (first | (have hL : IsInts y3 (.slice (some ⟨wc.heap.size + 1, 0, none⟩) 1 1) [id] := ints_grown (lit_A wc id) hg3 (neA wc _ _)) | (have hL : IsInts y3 (.slice (some ⟨wc.heap.size + 1, 0, none⟩) 1 1) [id] := ints_grown (lit_Ad wc id) hg3 (neA wc _ _)) | skip))
          | (refine step_ints1 rfl _ _ rfl wc.heap.size (.slice (some ⟨wc.heap.size + 1, 0, none⟩) 0 0) [] rfl (by first | exact lit_own (w := wc.alloc _) (by simp) (Nat.le_succ _)) (.slice ua R.length uc) R rfl (HIR.out _ (by repeat (first | with_reducible assumption | with_reducible exact HS0.out | with_reducible refine RgS.drew ?_ | with_reducible refine RgS.alloc ?_ _))) (by simp only [List.length_nil]; have := HRL.out; omega) (by first | (simp; done) | (simp; omega)) ?_; intro v3 y3 ho3 hg3; have hS3 : RgS (w.heap.size + 2) wc b 44 #[.slice a2 P2.length c2, .int .i64 id, .int .i64 er] y3 := RgS.grown (by repeat (first | with_reducible assumption | with_reducible exact HS0.out | with_reducible refine RgS.drew ?_ | with_reducible refine RgS.alloc ?_ _)) hg3 (fun c hc => by have hc : wc.heap.size + 1 = c := Option.some.inj hc; omega) (by omega); have hr3 : Blk y3 (w.heap.size + 2) 32 #[.slice none 0 0, .slice none 0 0] := (grown_blk hg3 (by first | exact (HR3.out.alloc _) | exact ((HR3.out.alloc _).alloc _)) (fun e' => by have e' : wc.heap.size + 1 = (w.heap.size + 2) := Option.some.inj e'; omega)); (first | (have hL : IsInts y3 (.slice (some ⟨wc.heap.size, 0, none⟩) 1 1) [id] := ints_grown (lit_B wc id) hg3 (neB wc _ _)) | (have hL : IsInts y3 (.slice (some ⟨wc.heap.size, 0, none⟩) 1 1) [id] := ints_grown (lit_Bd wc id) hg3 (neB wc _ _)) | skip))
          | (refine step_ints1 rfl _ _ rfl wc.heap.size v3 ([] ++ R) rfl (by first | with_reducible exact ho3 | with_reducible exact World.ownsRow.alloc ho3 _) (.slice (some ⟨y3.heap.size, 0, none⟩) 1 1) [id] rfl (by first | exact isInts_lit [id] rfl (by simp) (by simp) | exact (isInts_lit [id] rfl (by simp) (by simp)).below (below_drewN _ 1)) (by simp only [List.nil_append, List.length_cons, List.length_nil]; have := HRL.out; omega) (by have := hS3.sz; first | exact this | (simp; omega)) ?_; intro v5 y5 ho5 hg5; obtain ⟨a5, c5, rfl⟩ := own_sl ho5; have hv3 := own_blkOf2 ho3; have hS5 : RgS (w.heap.size + 2) wc b 44 #[.slice a2 P2.length c2, .int .i64 id, .int .i64 er] y5 := RgS.grown (by repeat (first | with_reducible assumption | with_reducible exact HS0.out | with_reducible refine RgS.drew ?_ | with_reducible refine RgS.alloc ?_ _)) hg5 hv3 (by omega); have hr5 : Blk y5 (w.heap.size + 2) 32 #[.slice none 0 0, .slice none 0 0] := (grown_blk hg5 (by first | exact hr3 | exact (hr3.alloc _)) (fun e => by have := hv3 _ e; omega)); have n0 := hr5.c0 0 _ rfl; have n1 := hr5.c0 1 _ rfl; have f0 := hr5.free 0; have f1 := hr5.free 1)
          | (refine step_ints1 rfl _ _ rfl wc.heap.size v3 ([] ++ R) rfl (by first | with_reducible exact ho3) (.slice (some ⟨wc.heap.size + 1, 0, none⟩) 1 1) [id] rfl (by first | exact hL) (by simp only [List.nil_append, List.length_cons, List.length_nil]; have := HRL.out; omega) (by have := hS3.sz; first | exact this | (simp; omega)) ?_; intro v5 y5 ho5 hg5; obtain ⟨a5, c5, rfl⟩ := own_sl ho5; have hv3 := own_blkOf2 ho3; have hS5 : RgS (w.heap.size + 2) wc b 44 #[.slice a2 P2.length c2, .int .i64 id, .int .i64 er] y5 := RgS.grown (by repeat (first | with_reducible assumption | with_reducible exact HS0.out | with_reducible refine RgS.drew ?_ | with_reducible refine RgS.alloc ?_ _)) hg5 hv3 (by omega); have hr5 : Blk y5 (w.heap.size + 2) 32 #[.slice none 0 0, .slice none 0 0] := (grown_blk hg5 (by first | exact hr3 | exact (hr3.alloc _)) (fun e => by have := hv3 _ e; omega)); have n0 := hr5.c0 0 _ rfl; have n1 := hr5.c0 1 _ rfl; have f0 := hr5.free 0; have f1 := hr5.free 1)
          | (refine step_ints1 rfl _ _ rfl wc.heap.size v3 ([] ++ R) rfl (by first | with_reducible exact ho3) (.slice (some ⟨wc.heap.size, 0, none⟩) 1 1) [id] rfl (by first | exact hL) (by simp only [List.nil_append, List.length_cons, List.length_nil]; have := HRL.out; omega) (by have := hS3.sz; first | exact this | (simp; omega)) ?_; intro v5 y5 ho5 hg5; obtain ⟨a5, c5, rfl⟩ := own_sl ho5; have hv3 := own_blkOf2 ho3; have hS5 : RgS (w.heap.size + 2) wc b 44 #[.slice a2 P2.length c2, .int .i64 id, .int .i64 er] y5 := RgS.grown (by repeat (first | with_reducible assumption | with_reducible exact HS0.out | with_reducible refine RgS.drew ?_ | with_reducible refine RgS.alloc ?_ _)) hg5 hv3 (by omega); have hr5 : Blk y5 (w.heap.size + 2) 32 #[.slice none 0 0, .slice none 0 0] := (grown_blk hg5 (by first | exact hr3 | exact (hr3.alloc _)) (fun e => by have := hv3 _ e; omega)); have n0 := hr5.c0 0 _ rfl; have n1 := hr5.c0 1 _ rfl; have f0 := hr5.free 0; have f1 := hr5.free 1)
          | fail "no arm")
      all_goals
        rw [List.nil_append] at ho5
        have HO5 := Lib.hid ho5
        have HS5 := Lib.hid hS5
        have HR5 := Lib.hid hr5
        clear ho3 hg3 hS3 hr3 ho5 hg5 hS5 hr5
        go_wp2
        obtain ⟨z0, z1⟩ : _ ∧ _ := ⟨((HR5.out.setCell 0 (.slice a2 P2.length c2)).setCell 1 (.slice a5 (R.length + 1) c5)).c0 0 _ rfl, ((HR5.out.setCell 0 (.slice a2 P2.length c2)).setCell 1 (.slice a5 (R.length + 1) c5)).c0 1 _ rfl⟩
        refine bodyPost_ret (v := heldV (.slice a2 P2.length c2) (.slice a5 (R.length + 1) c5)) (by simp [results, Try.results33, go_sem, z0, z1]) rfl ?_
        rw [HST.out]
        have hbut2 := (HS5.out.but.trans (ButP.setCell (w.heap.size + 2) 0 (.slice a2 P2.length c2) y5)).trans (ButP.setCell (w.heap.size + 2) 1 (.slice a5 (R.length + 1) c5) _)
        have hB : Below w.heap.size w ((y5.setCell ⟨w.heap.size + 2, 0, none⟩ (.slice a2 P2.length c2)).setCell ⟨w.heap.size + 2, 1, none⟩ (.slice a5 (R.length + 1) c5)) := (HB1.out.trans (HBw.out.mono HB1.out.size)).trans (hbut2.below (B := w.heap.size) (by omega) (by omega))
        have hi := IsInts.owned HO5.out
        have hv5 := own_blkOf HO5.out
        have hn5 : blkOf (.slice a5 (R ++ [id]).length c5) ≠ some (w.heap.size + 2) := fun e => by have := hv5 _ e; omega
        rw [List.length_append] at hi hn5
        exact ⟨_, _, rfl, slots_but HASL.out HBARE.out HR3.out hbut2 HAF.out, (hi.set _ 0 _ hn5).set _ 1 _ hn5, hB⟩

  · have h5z : ¬ (m0 : Int) < 5 := by omega
    have hl0z : ((R.length : Int) == 0) = true := by
      have : R.length = 0 := by omega
      rw [this]; rfl
    go_upto_region 2 with fail
    go_cut [5] (fun s5 wx => ∃ b a3 c3, s5 = .pointer (some ⟨b, 0, none⟩) ∧ Hid (AddOk w W1 P (nodeX ⟨y0, y1, y2, y3⟩ R) b (.slice a3 (addP P (nodeX ⟨y0, y1, y2, y3⟩ R)).1.length c3) wx))
    case first =>
      have pA := cell_all (HH.out.c0 0 _ rfl)
      have uA := cell_all u0
      have xA := cell_all x0
      have xB := cell_all (HX.out.c0 1 _ rfl)
      have xC := cell_all (HX.out.c0 2 _ rfl)
      have xD := cell_all (HX.out.c0 3 _ rfl)
      clear x0 u0
      go_region_held3 (fun wx => Below W1.heap.size W1 wx)
        (repeat (first | with_reducible assumption | with_reducible exact Below.refl _ _ | with_reducible refine bdrew ?_ | with_reducible refine keepP ?_ _ | with_reducible refine below_set3 ?_ _ (by omega) _ _ _))
        (first
          | (go_at_call 13; have hq : Below W1.heap.size W1 W1 := Below.refl _ _; (first | (refine (HNODE.out _ (by first | exact HB1.out | exact bdrew HB1.out)).mono ?_; rintro e w2 ⟨nv, rfl, hn2, hb2, -⟩; have hS2 : Below W1.heap.size W1 w2 := (show Below W1.heap.size W1 _ by first | exact hq | exact bdrew hq).trans hb2) | (refine (HNODE.out _ (by first | exact bdrew (keepP HB1.out _) | exact keepP HB1.out _)).mono ?_; rintro e w2 ⟨nv, rfl, hn2, hb2, hnew⟩; have hS2 : Below W1.heap.size W1 w2 := (show Below W1.heap.size W1 _ by first | exact bdrew (keepP hq _) | exact keepP hq _).trans (hb2.mono (by simp)); have hz2 : Blk w2 W1.heap.size 44 #[.slice none 0 0, .int .i64 0, .int .i64 0] := (by first | exact blk_made hb2 | exact blk_madeP hb2); obtain ⟨wh, hh1, hh2, hh3, hhs⟩ := hole_ex w2 W1.heap.size; have hnh := node_hole hn2 (bare_nodeX _ _) hnew (by simp) hh1)); have hs2 : W1.heap.size ≤ w2.heap.size := hS2.size; clear hb2)
          | (go_at_call 16; (first | (have hSc : Below W1.heap.size W1 _ := hS2; have hS2c : Below w2.heap.size w2 w2 := Below.refl _ _; refine (HADD.out _ (HB1.out.trans (hSc.mono HB1.out.size)) wh nv ((HB1.out.trans (hS2.mono HB1.out.size)).trans (hh1.below (B := w.heap.size) (by omega) (by omega))) hnh (hn2.below hS2c)).mono ?_; rintro e w3 ⟨v3, rfl, hout⟩; obtain ⟨a3, c3, rfl⟩ : ∃ a3 c3, v3 = .slice a3 (addP P (nodeX ⟨y0, y1, y2, y3⟩ R)).1.length c3 := (by obtain ⟨L, _, a3, cap3, e3, _⟩ := hout.sl; exact ⟨a3, cap3, e3⟩); have hS3 : Below W1.heap.size W1 w3 := hSc.trans (hout.bel.mono hSc.size); have hz3 : Blk w3 W1.heap.size 44 #[.slice none 0 0, .int .i64 0, .int .i64 0] := (hz2.below hS2c hz2.lt).below hout.bel (Nat.lt_of_lt_of_le hz2.lt hS2c.size); have n0 := hz3.c0 0 _ rfl; have n1 := hz3.c0 1 _ rfl; have n2 := hz3.c0 2 _ rfl; have f0 := hz3.free 0; have f1 := hz3.free 1; have f2 := hz3.free 2; have HF := Lib.hid (hout.far2 H.out); have HOUT := Lib.hid hout; have HSC := Lib.hid hSc; have HS2C := Lib.hid hS2c; clear hout hSc hS2c) | (have hSc : Below W1.heap.size W1 _ := bdrew hS2; have hS2c : Below w2.heap.size w2 _ := bdrew (Below.refl w2.heap.size w2); refine (HADD.out _ (HB1.out.trans (hSc.mono HB1.out.size)) wh nv ((HB1.out.trans (hS2.mono HB1.out.size)).trans (hh1.below (B := w.heap.size) (by omega) (by omega))) hnh (hn2.below hS2c)).mono ?_; rintro e w3 ⟨v3, rfl, hout⟩; obtain ⟨a3, c3, rfl⟩ : ∃ a3 c3, v3 = .slice a3 (addP P (nodeX ⟨y0, y1, y2, y3⟩ R)).1.length c3 := (by obtain ⟨L, _, a3, cap3, e3, _⟩ := hout.sl; exact ⟨a3, cap3, e3⟩); have hS3 : Below W1.heap.size W1 w3 := hSc.trans (hout.bel.mono hSc.size); have hz3 : Blk w3 W1.heap.size 44 #[.slice none 0 0, .int .i64 0, .int .i64 0] := (hz2.below hS2c hz2.lt).below hout.bel (Nat.lt_of_lt_of_le hz2.lt hS2c.size); have n0 := hz3.c0 0 _ rfl; have n1 := hz3.c0 1 _ rfl; have n2 := hz3.c0 2 _ rfl; have f0 := hz3.free 0; have f1 := hz3.free 1; have f2 := hz3.free 2; have HF := Lib.hid (hout.far2 H.out); have HOUT := Lib.hid hout; have HSC := Lib.hid hSc; have HS2C := Lib.hid hS2c; clear hout hSc hS2c) | (have hSc : Below W1.heap.size W1 _ := hS2; have hS2c : Below w2.heap.size w2 w2 := Below.refl _ _; refine (HADD.out _ (HB1.out.trans (hSc.mono HB1.out.size)) w2 nv (HB1.out.trans (hS2.mono HB1.out.size)) hn2 (hn2.below hS2c)).mono ?_; rintro e w3 ⟨v3, rfl, hout⟩; obtain ⟨a3, c3, rfl⟩ : ∃ a3 c3, v3 = .slice a3 (addP P (nodeX ⟨y0, y1, y2, y3⟩ R)).1.length c3 := (by obtain ⟨L, _, a3, cap3, e3, _⟩ := hout.sl; exact ⟨a3, cap3, e3⟩); have hS3 : Below W1.heap.size W1 w3 := hSc.trans (hout.bel.mono hSc.size); (first | (have hz3 : Blk w3 w2.heap.size 44 #[.slice none 0 0, .int .i64 0, .int .i64 0] := (by first | exact blk_made hout.bel | exact blk_madeP hout.bel); have n0 := hz3.c0 0 _ rfl; have n1 := hz3.c0 1 _ rfl; have n2 := hz3.c0 2 _ rfl; have f0 := hz3.free 0; have f1 := hz3.free 1; have f2 := hz3.free 2) | skip); have HF := Lib.hid (hout.far2 H.out); have HOUT := Lib.hid hout; have HSC := Lib.hid hSc; have HS2C := Lib.hid hS2c; clear hout hSc hS2c) | (have hSc : Below W1.heap.size W1 _ := bdrew hS2; have hS2c : Below w2.heap.size w2 _ := bdrew (Below.refl w2.heap.size w2); refine (HADD.out _ (HB1.out.trans (hSc.mono HB1.out.size)) w2 nv (HB1.out.trans (hS2.mono HB1.out.size)) hn2 (hn2.below hS2c)).mono ?_; rintro e w3 ⟨v3, rfl, hout⟩; obtain ⟨a3, c3, rfl⟩ : ∃ a3 c3, v3 = .slice a3 (addP P (nodeX ⟨y0, y1, y2, y3⟩ R)).1.length c3 := (by obtain ⟨L, _, a3, cap3, e3, _⟩ := hout.sl; exact ⟨a3, cap3, e3⟩); have hS3 : Below W1.heap.size W1 w3 := hSc.trans (hout.bel.mono hSc.size); (first | (have hz3 : Blk w3 w2.heap.size 44 #[.slice none 0 0, .int .i64 0, .int .i64 0] := (by first | exact blk_made hout.bel | exact blk_madeP hout.bel); have n0 := hz3.c0 0 _ rfl; have n1 := hz3.c0 1 _ rfl; have n2 := hz3.c0 2 _ rfl; have f0 := hz3.free 0; have f1 := hz3.free 1; have f2 := hz3.free 2) | skip); have HF := Lib.hid (hout.far2 H.out); have HOUT := Lib.hid hout; have HSC := Lib.hid hSc; have HS2C := Lib.hid hS2c; clear hout hSc hS2c) | (have hSc : Below W1.heap.size W1 _ := keepP hS2 (.cells #[.slice none 0 0, .int .i64 0, .int .i64 0] 44); have hS2c : Below w2.heap.size w2 _ := keepP (Below.refl w2.heap.size w2) (.cells #[.slice none 0 0, .int .i64 0, .int .i64 0] 44); refine (HADD.out _ (HB1.out.trans (hSc.mono HB1.out.size)) w2 nv (HB1.out.trans (hS2.mono HB1.out.size)) hn2 (hn2.below hS2c)).mono ?_; rintro e w3 ⟨v3, rfl, hout⟩; obtain ⟨a3, c3, rfl⟩ : ∃ a3 c3, v3 = .slice a3 (addP P (nodeX ⟨y0, y1, y2, y3⟩ R)).1.length c3 := (by obtain ⟨L, _, a3, cap3, e3, _⟩ := hout.sl; exact ⟨a3, cap3, e3⟩); have hS3 : Below W1.heap.size W1 w3 := hSc.trans (hout.bel.mono hSc.size); (first | (have hz3 : Blk w3 w2.heap.size 44 #[.slice none 0 0, .int .i64 0, .int .i64 0] := (by first | exact blk_made hout.bel | exact blk_madeP hout.bel); have n0 := hz3.c0 0 _ rfl; have n1 := hz3.c0 1 _ rfl; have n2 := hz3.c0 2 _ rfl; have f0 := hz3.free 0; have f1 := hz3.free 1; have f2 := hz3.free 2) | skip); have HF := Lib.hid (hout.far2 H.out); have HOUT := Lib.hid hout; have HSC := Lib.hid hSc; have HS2C := Lib.hid hS2c; clear hout hSc hS2c) | (have hSc : Below W1.heap.size W1 _ := bdrew (keepP hS2 (.cells #[.slice none 0 0, .int .i64 0, .int .i64 0] 44)); have hS2c : Below w2.heap.size w2 _ := bdrew (keepP (Below.refl w2.heap.size w2) (.cells #[.slice none 0 0, .int .i64 0, .int .i64 0] 44)); refine (HADD.out _ (HB1.out.trans (hSc.mono HB1.out.size)) w2 nv (HB1.out.trans (hS2.mono HB1.out.size)) hn2 (hn2.below hS2c)).mono ?_; rintro e w3 ⟨v3, rfl, hout⟩; obtain ⟨a3, c3, rfl⟩ : ∃ a3 c3, v3 = .slice a3 (addP P (nodeX ⟨y0, y1, y2, y3⟩ R)).1.length c3 := (by obtain ⟨L, _, a3, cap3, e3, _⟩ := hout.sl; exact ⟨a3, cap3, e3⟩); have hS3 : Below W1.heap.size W1 w3 := hSc.trans (hout.bel.mono hSc.size); (first | (have hz3 : Blk w3 w2.heap.size 44 #[.slice none 0 0, .int .i64 0, .int .i64 0] := (by first | exact blk_made hout.bel | exact blk_madeP hout.bel); have n0 := hz3.c0 0 _ rfl; have n1 := hz3.c0 1 _ rfl; have n2 := hz3.c0 2 _ rfl; have f0 := hz3.free 0; have f1 := hz3.free 1; have f2 := hz3.free 2) | skip); have HF := Lib.hid (hout.far2 H.out); have HOUT := Lib.hid hout; have HSC := Lib.hid hSc; have HS2C := Lib.hid hS2c; clear hout hSc hS2c)))
          | fail "no arm")
      all_goals
        go_wp2
        go_meet
        first
          | exact ⟨_, a3, c3, rfl, Lib.hid (AddOk.holed hz3 HOUT.out HF.out HBARE.out hh3 hh2 HS2C.out HSC.out hsW (Nat.le_refl _) (Nat.lt_of_lt_of_le hz2.lt HS2C.out.size))⟩
          | exact ⟨_, a3, c3, rfl, Lib.hid (AddOk.fresh HOUT.out HF.out HSC.out HS2C.out hsW)⟩
          | exact ⟨_, a3, c3, rfl, Lib.hid (AddOk.stored hz3 HOUT.out HF.out HSC.out HS2C.out hsW hs2 (Nat.le_refl _) (by simp))⟩
    case rest =>
      obtain ⟨b, a2, c2, rfl, HAD⟩ := hcut
      clear x0 u0
      have hlb := HAD.out.le
      have hs4 : b < wc.heap.size := HAD.out.blk.lt
      have hs3 : w.heap.size + 2 < wc.heap.size := Nat.lt_of_lt_of_le hsW HAD.out.bel.size
      have HR3 : Hid (Blk wc (w.heap.size + 2) 32 #[.slice none 0 0, .slice none 0 0]) := Lib.hid (HR.out.below HAD.out.bel HR.out.lt)
      have HAB := Lib.hid HAD.out.blk
      have HASL := Lib.hid HAD.out.sl
      have HAF := Lib.hid HAD.out.far
      have HBw := Lib.hid HAD.out.bel
      clear HAD
      generalize (addP P (nodeX ⟨y0, y1, y2, y3⟩ R)).1 = P2 at *
      generalize (addP P (nodeX ⟨y0, y1, y2, y3⟩ R)).2.1 = id at *
      generalize (addP P (nodeX ⟨y0, y1, y2, y3⟩ R)).2.2 = er at *
      have HS0 : Hid (RgS (w.heap.size + 2) wc b 44 #[.slice a2 P2.length c2, .int .i64 id, .int .i64 er] wc) := Lib.hid (RgS.refl HAB.out)
      have HIR : Hid (∀ wx, RgS (w.heap.size + 2) wc b 44 #[.slice a2 P2.length c2, .int .i64 id, .int .i64 er] wx → IsInts wx (.slice ua R.length uc) R) := Lib.hid (fun wx hx => HU.out.below ((HB1.out.trans (HBw.out.mono HB1.out.size)).trans (hx.but.below (B := w.heap.size) (by omega) (by omega))))
      have pA : ∀ wx, RgS (w.heap.size + 2) wc b 44 #[.slice a2 P2.length c2, .int .i64 id, .int .i64 er] wx → wx.cell? ⟨b, 0, none⟩ = some (.slice a2 P2.length c2) := fun wx hx => hx.blk.c0 0 _ rfl
      have iA : ∀ wx, RgS (w.heap.size + 2) wc b 44 #[.slice a2 P2.length c2, .int .i64 id, .int .i64 er] wx → wx.cell? ⟨b, 1, none⟩ = some (.int .i64 id) := fun wx hx => hx.blk.c0 1 _ rfl
      have uA : ∀ wx, RgS (w.heap.size + 2) wc b 44 #[.slice a2 P2.length c2, .int .i64 id, .int .i64 er] wx → wx.cell? ⟨w.heap.size, 1, none⟩ = some (.slice ua R.length uc) := fun wx hx => (hx.but.blk (HH.out.below HBw.out HH.out.lt) (by omega)).c0 1 _ rfl
      have HRL : Hid (R.length ≤ 4000) := Lib.hid (by omega)
      go_upto_region 3 with fail
      go_region_held3 (fun wx => RgS (w.heap.size + 2) wc b 44 #[.slice a2 P2.length c2, .int .i64 id, .int .i64 er] wx)
        (repeat (first | with_reducible assumption | with_reducible exact HS0.out | with_reducible refine RgS.drew ?_ | with_reducible refine RgS.alloc ?_ _ | with_reducible refine RgS.set ?_ _ _ (by omega)))
        (first
          | (refine step_ints1 rfl _ _ rfl wc.heap.size (.slice (some ⟨wc.heap.size, 0, none⟩) 0 0) [] rfl (by first | exact own_emptyI wc _ (Nat.le_refl _) | exact (own_emptyI wc _ (Nat.le_refl _)).alloc _) (.slice ua R.length uc) R rfl (HIR.out _ (by repeat (first | with_reducible assumption | with_reducible exact HS0.out | with_reducible refine RgS.drew ?_ | with_reducible refine RgS.alloc ?_ _))) (by simp only [List.length_nil]; have := HRL.out; omega) (by first | (simp; done) | (simp; omega)) ?_; intro v3 y3 ho3 hg3; have hS3 : RgS (w.heap.size + 2) wc b 44 #[.slice a2 P2.length c2, .int .i64 id, .int .i64 er] y3 := RgS.grown (by repeat (first | with_reducible assumption | with_reducible exact HS0.out | with_reducible refine RgS.drew ?_ | with_reducible refine RgS.alloc ?_ _)) hg3 (fun c hc => by have hc : wc.heap.size = c := Option.some.inj hc; omega) (by omega); have hr3 : Blk y3 (w.heap.size + 2) 32 #[.slice none 0 0, .slice none 0 0] := (grown_blk hg3 (by first | exact (HR3.out.alloc _) | exact ((HR3.out.alloc _).alloc _)) (fun e' => by have e' : wc.heap.size = (w.heap.size + 2) := Option.some.inj e'; omega)); (first | (have hL : IsInts y3 (.slice (some ⟨wc.heap.size + 1, 0, none⟩) 1 1) [id] := ints_grown (lit_A wc id) hg3 (neA wc _ _)) | (have hL : IsInts y3 (.slice (some ⟨wc.heap.size + 1, 0, none⟩) 1 1) [id] := ints_grown (lit_Ad wc id) hg3 (neA wc _ _)) | skip))
          | (refine step_ints1 rfl _ _ rfl wc.heap.size (.slice (some ⟨wc.heap.size + 1, 0, none⟩) 0 0) [] rfl (by first | exact lit_own (w := wc.alloc _) (by simp) (Nat.le_succ _)) (.slice ua R.length uc) R rfl (HIR.out _ (by repeat (first | with_reducible assumption | with_reducible exact HS0.out | with_reducible refine RgS.drew ?_ | with_reducible refine RgS.alloc ?_ _))) (by simp only [List.length_nil]; have := HRL.out; omega) (by first | (simp; done) | (simp; omega)) ?_; intro v3 y3 ho3 hg3; have hS3 : RgS (w.heap.size + 2) wc b 44 #[.slice a2 P2.length c2, .int .i64 id, .int .i64 er] y3 := RgS.grown (by repeat (first | with_reducible assumption | with_reducible exact HS0.out | with_reducible refine RgS.drew ?_ | with_reducible refine RgS.alloc ?_ _)) hg3 (fun c hc => by have hc : wc.heap.size + 1 = c := Option.some.inj hc; omega) (by omega); have hr3 : Blk y3 (w.heap.size + 2) 32 #[.slice none 0 0, .slice none 0 0] := (grown_blk hg3 (by first | exact (HR3.out.alloc _) | exact ((HR3.out.alloc _).alloc _)) (fun e' => by have e' : wc.heap.size + 1 = (w.heap.size + 2) := Option.some.inj e'; omega)); (first | (have hL : IsInts y3 (.slice (some ⟨wc.heap.size, 0, none⟩) 1 1) [id] := ints_grown (lit_B wc id) hg3 (neB wc _ _)) | (have hL : IsInts y3 (.slice (some ⟨wc.heap.size, 0, none⟩) 1 1) [id] := ints_grown (lit_Bd wc id) hg3 (neB wc _ _)) | skip))
          | (refine step_ints1 rfl _ _ rfl wc.heap.size v3 ([] ++ R) rfl (by first | with_reducible exact ho3 | with_reducible exact World.ownsRow.alloc ho3 _) (.slice (some ⟨y3.heap.size, 0, none⟩) 1 1) [id] rfl (by first | exact isInts_lit [id] rfl (by simp) (by simp) | exact (isInts_lit [id] rfl (by simp) (by simp)).below (below_drewN _ 1)) (by simp only [List.nil_append, List.length_cons, List.length_nil]; have := HRL.out; omega) (by have := hS3.sz; first | exact this | (simp; omega)) ?_; intro v5 y5 ho5 hg5; obtain ⟨a5, c5, rfl⟩ := own_sl ho5; have hv3 := own_blkOf2 ho3; have hS5 : RgS (w.heap.size + 2) wc b 44 #[.slice a2 P2.length c2, .int .i64 id, .int .i64 er] y5 := RgS.grown (by repeat (first | with_reducible assumption | with_reducible exact HS0.out | with_reducible refine RgS.drew ?_ | with_reducible refine RgS.alloc ?_ _)) hg5 hv3 (by omega); have hr5 : Blk y5 (w.heap.size + 2) 32 #[.slice none 0 0, .slice none 0 0] := (grown_blk hg5 (by first | exact hr3 | exact (hr3.alloc _)) (fun e => by have := hv3 _ e; omega)); have n0 := hr5.c0 0 _ rfl; have n1 := hr5.c0 1 _ rfl; have f0 := hr5.free 0; have f1 := hr5.free 1)
          | (refine step_ints1 rfl _ _ rfl wc.heap.size v3 ([] ++ R) rfl (by first | with_reducible exact ho3) (.slice (some ⟨wc.heap.size + 1, 0, none⟩) 1 1) [id] rfl (by first | exact hL) (by simp only [List.nil_append, List.length_cons, List.length_nil]; have := HRL.out; omega) (by have := hS3.sz; first | exact this | (simp; omega)) ?_; intro v5 y5 ho5 hg5; obtain ⟨a5, c5, rfl⟩ := own_sl ho5; have hv3 := own_blkOf2 ho3; have hS5 : RgS (w.heap.size + 2) wc b 44 #[.slice a2 P2.length c2, .int .i64 id, .int .i64 er] y5 := RgS.grown (by repeat (first | with_reducible assumption | with_reducible exact HS0.out | with_reducible refine RgS.drew ?_ | with_reducible refine RgS.alloc ?_ _)) hg5 hv3 (by omega); have hr5 : Blk y5 (w.heap.size + 2) 32 #[.slice none 0 0, .slice none 0 0] := (grown_blk hg5 (by first | exact hr3 | exact (hr3.alloc _)) (fun e => by have := hv3 _ e; omega)); have n0 := hr5.c0 0 _ rfl; have n1 := hr5.c0 1 _ rfl; have f0 := hr5.free 0; have f1 := hr5.free 1)
          | (refine step_ints1 rfl _ _ rfl wc.heap.size v3 ([] ++ R) rfl (by first | with_reducible exact ho3) (.slice (some ⟨wc.heap.size, 0, none⟩) 1 1) [id] rfl (by first | exact hL) (by simp only [List.nil_append, List.length_cons, List.length_nil]; have := HRL.out; omega) (by have := hS3.sz; first | exact this | (simp; omega)) ?_; intro v5 y5 ho5 hg5; obtain ⟨a5, c5, rfl⟩ := own_sl ho5; have hv3 := own_blkOf2 ho3; have hS5 : RgS (w.heap.size + 2) wc b 44 #[.slice a2 P2.length c2, .int .i64 id, .int .i64 er] y5 := RgS.grown (by repeat (first | with_reducible assumption | with_reducible exact HS0.out | with_reducible refine RgS.drew ?_ | with_reducible refine RgS.alloc ?_ _)) hg5 hv3 (by omega); have hr5 : Blk y5 (w.heap.size + 2) 32 #[.slice none 0 0, .slice none 0 0] := (grown_blk hg5 (by first | exact hr3 | exact (hr3.alloc _)) (fun e => by have := hv3 _ e; omega)); have n0 := hr5.c0 0 _ rfl; have n1 := hr5.c0 1 _ rfl; have f0 := hr5.free 0; have f1 := hr5.free 1)
          | fail "no arm")
      all_goals
        rw [List.nil_append] at ho5
        have HO5 := Lib.hid ho5
        have HS5 := Lib.hid hS5
        have HR5 := Lib.hid hr5
        clear ho3 hg3 hS3 hr3 ho5 hg5 hS5 hr5
        go_wp2
        obtain ⟨z0, z1⟩ : _ ∧ _ := ⟨((HR5.out.setCell 0 (.slice a2 P2.length c2)).setCell 1 (.slice a5 (R.length + 1) c5)).c0 0 _ rfl, ((HR5.out.setCell 0 (.slice a2 P2.length c2)).setCell 1 (.slice a5 (R.length + 1) c5)).c0 1 _ rfl⟩
        refine bodyPost_ret (v := heldV (.slice a2 P2.length c2) (.slice a5 (R.length + 1) c5)) (by simp [results, Try.results33, go_sem, z0, z1]) rfl ?_
        rw [HST.out]
        have hbut2 := (HS5.out.but.trans (ButP.setCell (w.heap.size + 2) 0 (.slice a2 P2.length c2) y5)).trans (ButP.setCell (w.heap.size + 2) 1 (.slice a5 (R.length + 1) c5) _)
        have hB : Below w.heap.size w ((y5.setCell ⟨w.heap.size + 2, 0, none⟩ (.slice a2 P2.length c2)).setCell ⟨w.heap.size + 2, 1, none⟩ (.slice a5 (R.length + 1) c5)) := (HB1.out.trans (HBw.out.mono HB1.out.size)).trans (hbut2.below (B := w.heap.size) (by omega) (by omega))
        have hi := IsInts.owned HO5.out
        have hv5 := own_blkOf HO5.out
        have hn5 : blkOf (.slice a5 (R ++ [id]).length c5) ≠ some (w.heap.size + 2) := fun e => by have := hv5 _ e; omega
        rw [List.length_append] at hi hn5
        exact ⟨_, _, rfl, slots_but HASL.out HBARE.out HR3.out hbut2 HAF.out, (hi.set _ 0 _ hn5).set _ 1 _ hn5, hB⟩


end Go.Proofs.Ytlgangcldlphnaa
