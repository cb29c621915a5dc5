/-
  Walks: the law PoolSound.
-/
import Derived.Test.YtlgangcldlphnaaQW
import Derived.Deep.CutBlock
namespace Go.Proofs.Ytlgangcldlphnaa
open Go.RowKit Go.Sort
set_option linter.unusedVariables false
set_option maxRecDepth 100000

/-- A small pool, sound or not. -/
structure Tame (Q : List Sl) : Prop where
  len : Q.length ≤ 16
  kids : ∀ i, (atP Q i).node.kids.length ≤ 4
  pairs : ∀ i, (atP Q i).node.pairs.length ≤ 1
  bare : ∀ i, Bare (atP Q i).node
  refs : ∀ i, -1000 ≤ (atP Q i).refs ∧ (atP Q i).refs ≤ 1000
theorem Good.tame {P : List Sl} {R : List Int} (h : Good P R 16) : Tame P :=
  ⟨h.plen, fun i => by have := h.kids i; omega, h.pairs, h.bare, fun i => by have := h.refs i; omega⟩
theorem Tame.set {Q : List Sl} (h : Tame Q) {k : Nat} (hk : k < Q.length) {s : Sl} (h1 : s.node.kids.length ≤ 4) (h2 : s.node.pairs.length ≤ 1) (h3 : Bare s.node) (h4 : -1000 ≤ s.refs ∧ s.refs ≤ 1000) : Tame (Q.set k s) :=
  ⟨by rw [List.length_set]; exact h.len, fun i => by rw [atP_set i hk]; split; exact h1; exact h.kids i, fun i => by rw [atP_set i hk]; split; exact h2; exact h.pairs i,
   fun i => by rw [atP_set i hk]; split; exact h3; exact h.bare i, fun i => by rw [atP_set i hk]; split; exact h4; exact h.refs i⟩
theorem flat_le {f : Sl → List Int} : ∀ {l : List Sl}, (∀ s ∈ l, (f s).length ≤ 4) → (l.flatMap f).length ≤ 4 * l.length
  | [], _ => by simp
  | x :: l, h => by
    have h1 := h x List.mem_cons_self
    have h2 := flat_le (f := f) fun s hs => h s (List.mem_cons_of_mem _ hs)
    rw [List.flatMap_cons, List.length_append, List.length_cons]
    omega
theorem Tame.kidsA {Q : List Sl} (h : Tame Q) : (kidsA Q).length ≤ 64 := by
  have := flat_le (f := ownK) (l := Q) fun s hs => by
    obtain ⟨i, _, rfl⟩ := atP_mem hs
    unfold ownK
    split
    · exact h.kids i
    · simp
  have := h.len
  unfold Go.Proofs.Ytlgangcldlphnaa.kidsA
  omega
theorem Tame.held {Q : List Sl} (h : Tame Q) {W : List Int} (hw : W.length ≤ 20) : (heldA Q W).length ≤ 84 := by
  have := flat_le (f := fun s => s.node.kids) (l := Q) fun s hs => by
    obtain ⟨i, _, rfl⟩ := atP_mem hs
    exact h.kids i
  have := h.len
  unfold heldA
  rw [List.length_append]
  omega
theorem Tame.small {Q : List Sl} (h : Tame Q) (i : Nat) : SmallSl (atP Q i) := by
  have h1 := h.pairs i
  have h2 := h.kids i
  have h3 := h.bare i
  exact ⟨by omega, by rw [h3.pivots]; simp, by omega, by rw [h3.sums]; simp, by rw [h3.buf]; simp⟩
theorem t_sound {v u : Value} {Q : List Sl} {W : List Int} {w : World} (ht : Tame Q) (hw : W.length ≤ 20) (h : IsSlots w v Q) (hu : IsInts w u W) :
    Calls Try.prog 30 #[poolV v, u] w fun e w' => e = .returned (.bool (soundP Q W)) ∧ Below w.heap.size w w' :=
  sound_w v u Q W w h hu (by have := ht.len; omega) (by have := ht.held hw; omega) (by have := ht.kidsA; unfold muP; omega) (fun i => by have := ht.refs i; omega) ht.small
theorem t_rsound {v u : Value} {Q : List Sl} {W : List Int} {w : World} (ht : Tame Q) (hw : W.length ≤ 20) (h : IsSlots w v Q) (hu : IsInts w u W) :
    Calls Try.prog 31 #[poolV v, u] w fun e w' => e = .returned (.bool (soundP Q W)) ∧ Below w.heap.size w w' := by
  rw [sound_eq]
  exact rsound_w v u Q W w h hu (by have := ht.len; omega) (by have := ht.kidsA; rw [List.length_append]; omega) ht.small
theorem t_rreach {v u : Value} {Q : List Sl} {W : List Int} {n : Nat} {w : World} (ht : Tame Q) (hw : W.length ≤ 20) (hn : n = (reachP Q W).length) (h : IsSlots w v Q) (hu : IsInts w u W) :
    Calls Try.prog 27 #[poolV v, u] w fun e w' => ∃ a c, e = .returned (.slice a n c) ∧ IsInts w' (.slice a n c) (reachP Q W) ∧ Below w.heap.size w w' :=
  (rreach_w v u Q W w h hu (by have := ht.len; omega) (by unfold fuelR; have h1 := ht.kidsA; have h2 := ht.len; have h9 : Q.length * (kidsA Q).length ≤ 16 * 64 := Nat.mul_le_mul h2 h1; omega)).mono fun e w' ⟨v', h1, h2, h3⟩ => by
    obtain ⟨a, c, rfl⟩ := own_sl h2
    subst hn
    exact ⟨a, c, h1, IsInts.owned h2, h3⟩
theorem bpalloc {b : Nat} {w wx : World} (h : ButP b w wx) (o : Obj) : ButP b w (wx.alloc o) := h.trans (ButP.of (below_box o))
theorem OwnF.usedF {w0 w : World} {base g n cap : Nat} {P : List Sl} (h : OwnF w0 w base (.slice (some ⟨g, 0, none⟩) n cap) P) (i : Nat) (hi : i < P.length) (r : Bool) :
    OwnF w0 (w.setCell ⟨g, i * 8, none⟩ (.bool r)) base (.slice (some ⟨g, 0, none⟩) n cap) (P.set i { atP P i with used := r }) := by
  have hn := h.len (g := g)
  obtain ⟨L, h1, h4⟩ := h
  subst hn
  refine ⟨L.set i { atV L i with used := r }, h1.set hi ?_, ?_⟩
  · have := h1.2 i
    exact ⟨rfl, this.lost, this.refs, this.pairs, this.pivots, this.kids, this.sums, this.buf⟩
  · have := (h4.stored (i * 8 + 0) (.bool r)).1
    rw [flatV_set L i (by rw [h1.1]; exact hi) 0 (by omega) _ { atV L i with used := r } rfl] at this
    rw [List.length_set]
    exact this
theorem OwnF.lostF {w0 w : World} {base g n cap : Nat} {P : List Sl} (h : OwnF w0 w base (.slice (some ⟨g, 0, none⟩) n cap) P) (i : Nat) (hi : i < P.length) (r : Bool) :
    OwnF w0 (w.setCell ⟨g, i * 8 + 1, none⟩ (.bool r)) base (.slice (some ⟨g, 0, none⟩) n cap) (P.set i { atP P i with lost := r }) := by
  have hn := h.len (g := g)
  obtain ⟨L, h1, h4⟩ := h
  subst hn
  refine ⟨L.set i { atV L i with lost := r }, h1.set hi ?_, ?_⟩
  · have := h1.2 i
    exact ⟨this.used, rfl, this.refs, this.pairs, this.pivots, this.kids, this.sums, this.buf⟩
  · have := (h4.stored (i * 8 + 1) (.bool r)).1
    rw [flatV_set L i (by rw [h1.1]; exact hi) 1 (by omega) _ { atV L i with lost := r } rfl] at this
    rw [List.length_set]
    exact this
theorem OwnF.kidsF {w0 w : World} {base g n cap : Nat} {P : List Sl} (h : OwnF w0 w base (.slice (some ⟨g, 0, none⟩) n cap) P) (i : Nat) (hi : i < P.length) (c : Slc) (l : List Int) (hl : IsInts w0 (slv c) l) :
    OwnF w0 (w.setCell ⟨g, i * 8 + 5, none⟩ (slv c)) base (.slice (some ⟨g, 0, none⟩) n cap) (P.set i { atP P i with node := { (atP P i).node with kids := l } }) := by
  have hn := h.len (g := g)
  obtain ⟨L, h1, h4⟩ := h
  subst hn
  refine ⟨L.set i { atV L i with c := c }, h1.set hi ?_, ?_⟩
  · have := h1.2 i
    exact ⟨this.used, this.lost, this.refs, this.pairs, this.pivots, hl, this.sums, this.buf⟩
  · have := (h4.stored (i * 8 + 5) (slv c)).1
    rw [flatV_set L i (by rw [h1.1]; exact hi) 5 (by omega) _ { atV L i with c := c } rfl] at this
    rw [List.length_set]
    exact this
theorem OwnF.kidsS {w0 w : World} {base g n cap : Nat} {P : List Sl} (h : OwnF w0 w base (.slice (some ⟨g, 0, none⟩) n cap) P) (i : Nat) (hi : i < P.length) (c : Slc) (l : List Int) (hb : Below w0.heap.size w0 (w.setCell ⟨g, i * 8 + 5, none⟩ (slv c))) (hl : IsInts (w.setCell ⟨g, i * 8 + 5, none⟩ (slv c)) (slv c) l) :
    OwnF (w.setCell ⟨g, i * 8 + 5, none⟩ (slv c)) (w.setCell ⟨g, i * 8 + 5, none⟩ (slv c)) base (.slice (some ⟨g, 0, none⟩) n cap) (P.set i { atP P i with node := { (atP P i).node with kids := l } }) := by
  have hn := h.len (g := g)
  obtain ⟨L, h1, h4⟩ := h
  subst hn
  refine ⟨L.set i { atV L i with c := c }, (h1.below hb).set hi ?_, ?_⟩
  · have := (h1.2 i).below hb
    exact ⟨this.used, this.lost, this.refs, this.pairs, this.pivots, hl, this.sums, this.buf⟩
  · have := (h4.stored (i * 8 + 5) (slv c)).1
    rw [flatV_set L i (by rw [h1.1]; exact hi) 5 (by omega) _ { atV L i with c := c } rfl] at this
    rw [List.length_set]
    exact this
/-- Where the pool lies in which something was changed. -/
def MutR (W4 : World) (g n c9 b9 : Nat) (wx : World) : Prop := ∃ Q, IsSlots wx (.slice (some ⟨g, 0, none⟩) n c9) Q ∧ Tame Q ∧ Q.length = n ∧ Below W4.heap.size W4 wx ∧ Blk wx b9 29 #[.slice (some ⟨g, 0, none⟩) n c9]
theorem MutR.of {W4 w0 wx : World} {g n c9 b9 base : Nat} {Q : List Sl} (ho : OwnF w0 wx base (.slice (some ⟨g, 0, none⟩) n c9) Q) (ht : Tame Q) (h0 : Below w0.heap.size w0 wx) (hb : Below W4.heap.size W4 wx) (hx : Blk wx b9 29 #[.slice (some ⟨g, 0, none⟩) n c9]) : MutR W4 g n c9 b9 wx :=
  ⟨Q, ho.slF.slots h0, ht, (ho.len (g := g)).symm, hb, hx⟩
theorem MutR.kids {W4 w5 wd y5 : World} {g n c9 b9 m c5 : Nat} {P : List Sl} {K : List Int} {q : Int} {a5 : Option Addr} (hK : K = (atP P m).node.kids) (ho : OwnF w5 wd w5.heap.size (.slice (some ⟨g, 0, none⟩) n c9) P) (hm : m < P.length) (ht : Tame P) (hk : K.length ≤ 3) (hp : (atP P m).node.pairs.length ≤ 1) (hba : Bare (atP P m).node)
    (hg5 : w5.heap.size ≤ g) (hg4 : W4.heap.size ≤ g) (hgd : g < wd.heap.size) (hb5 : Below w5.heap.size w5 wd) (hbd : Below W4.heap.size W4 wd) (hx : Blk wd b9 29 #[.slice (some ⟨g, 0, none⟩) n c9]) (hne : b9 ≠ g) (hs : Below wd.heap.size wd y5) (hrow : y5.ownsRow wd.heap.size 3 1 (.slice a5 (K ++ [q]).length c5) (K ++ [q]).length ((K ++ [q]).flatMap encI)) :
    MutR W4 g n c9 b9 (y5.setCell ⟨g, m * 8 + 5, none⟩ (.slice a5 (K.length + 1) c5)) := by
  have hl : (K ++ [q]).length = K.length + 1 := by simp
  have hv := own_blkOf hrow
  have hi := (IsInts.owned hrow).set g (m * 8 + 5) (.slice a5 (K.length + 1) c5) (fun e => by have := hv g e; omega)
  rw [hl] at hi
  have h0 : Below w5.heap.size w5 (y5.setCell ⟨g, m * 8 + 5, none⟩ (.slice a5 (K.length + 1) c5)) := (hb5.trans (hs.mono hb5.size)).setCell (p := ⟨g, m * 8 + 5, none⟩) hg5 _
  have hf := (ho.below hs).kidsS m hm (a5, K.length + 1, c5) (K ++ [q]) h0 hi
  refine MutR.of hf (ht.set hm ?_ hp ⟨hba.pivots, hba.sums, hba.buf⟩ (ht.refs m)) (Below.refl _ _) ((hbd.trans (hs.mono hbd.size)).setCell (p := ⟨g, m * 8 + 5, none⟩) hg4 _) ((hx.below hs hx.lt).setCell_other hne _ _)
  show (K ++ [q]).length ≤ 4
  omega
set_option warningAsError false in
set_option maxHeartbeats 16000000 in
theorem poolSound_walk (w : World) (v0 : Value) (l : List R4) (r0 : IsRaws w v0 l) (v1 : Value) (y : List Int) (r1 : IsInts w v1 y) (v2 : Value) (x : Nat × Nat × Nat) (r2 : v2 = .agg #[.int .u8 x.1, .int .u8 x.2.1, .int .u8 x.2.2] ∧ x.1 < 256 ∧ x.2.1 < 256 ∧ x.2.2 < 256) :
    Calls Try.prog 4 #[v0, v1, v2] w fun e w' => e = .returned (.bool true) ∧ Below w.heap.size w w' := by
  have mixed := mixedA
  obtain ⟨x1, x2, x3⟩ := x
  obtain ⟨rfl, hx1, hx2, hx3⟩ := r2
  simp only at hx1 hx2 hx3
  have HR0 := Lib.hid r0
  have HY := Lib.hid r1
  obtain ⟨-, ra, rc, rfl, -⟩ := r0
  obtain ⟨ya, yc, rfl, hyl, hym⟩ := r1.slice
  clear r1
  have HOX := Lib.hid (below_box (w := w) (.cells #[.int .u8 x1, .int .u8 x2, .int .u8 x3] 56))
  have HXX0 : Hid (Blk (w.alloc (.cells #[.int .u8 x1, .int .u8 x2, .int .u8 x3] 56)) w.heap.size 56 #[.int .u8 x1, .int .u8 x2, .int .u8 x3]) := Lib.hid (Blk.new _ _ _)
  go_enter Try.func4, Try.ntmps4
  go_wp2_with fail
  refine (lsan_w _).mono ?_
  rintro e w1 ⟨rfl, hb⟩
  have HG := Lib.hid (HOX.out.trans (hb.mono (by simp)))
  have HXX := Lib.hid (HXX0.out.below hb HXX0.out.lt)
  clear hb HXX0 HOX
  by_cases h20 : 20 < y.length
  · have h20z : (20 : Int) < (y.length : Int) := by omega
    go_wp2
    go_ret
    exact ⟨rfl, HG.out⟩
  · have h20z : (y.length : Int) ≤ 20 := by omega
    have hy20 : y.length ≤ 20 := by omega
    clear h20
    go_wp2_with fail
    refine (play_w (.slice ra l.length rc) l 16 w1 (HR0.out.below HG.out) (by decide)).mono ?_
    rintro e w2 ⟨v', u', rfl, hs, hu, hb⟩
    obtain ⟨a0, c0, rfl, hpl, hpc, hpm⟩ := hs.slice
    obtain ⟨a1, c1, rfl, hrl, -⟩ := hu.slice
    have HGD : Hid (Good (playX (l.take 16)).1 (playX (l.take 16)).2 16) := Lib.hid ((good_play (l.take 16) (by rw [List.length_take]; omega)).mono (by rw [List.length_take]; omega))
    replace HXX := Lib.hid (HXX.out.below hb HXX.out.lt)
    replace HG := Lib.hid (HG.out.trans (hb.mono HG.out.size))
    have HSP := Lib.hid hs
    have HIR := Lib.hid hu
    clear hs hu hb HR0
    generalize (playX (l.take 16)).1 = P at *
    generalize (playX (l.take 16)).2 = R at *
    have hpn : P.length ≤ 16 := HGD.out.plen
    have hrn : R.length ≤ 16 := HGD.out.rlen
    have HTM := Lib.hid HGD.out.tame
    obtain ⟨W4, hW4⟩ : ∃ W4, W4 = w2.alloc (.cells #[.slice a0 P.length c0, .slice a1 R.length c1] 32) := ⟨_, rfl⟩
    have HB4 : Hid (Below w2.heap.size w2 W4) := Lib.hid (by rw [hW4]; exact below_box _)
    have HXH : Hid (Blk W4 w2.heap.size 32 #[.slice a0 P.length c0, .slice a1 R.length c1]) := Lib.hid (by rw [hW4]; exact Blk.new _ _ _)
    have HW4 := Lib.hid hW4
    replace HSP := Lib.hid (HSP.out.below HB4.out)
    replace HIR := Lib.hid (HIR.out.below HB4.out)
    replace HXX := Lib.hid (HXX.out.below HB4.out HXX.out.lt)
    replace HG := Lib.hid (HG.out.trans (HB4.out.mono HG.out.size))
    replace HY := Lib.hid (HY.out.below HG.out)
    clear HB4 hW4
    have hgood : soundP P R = true := by rw [sound_eq]; exact good_soundR HGD.out
    obtain ⟨b, hb⟩ : ∃ b, b = soundP P y := ⟨_, rfl⟩
    have HPS := Lib.hid (fun wx (hx : Below W4.heap.size W4 wx) => (t_sound (W := R) HTM.out (by omega) (HSP.out.below hx) (HIR.out.below hx)).mono fun e w' (h : _ ∧ _) => (⟨by rw [h.1, hgood], hx.trans (h.2.mono hx.size)⟩ : e = .returned (.bool true) ∧ Below W4.heap.size W4 w'))
    have HRS := Lib.hid (fun wx (hx : Below W4.heap.size W4 wx) => (t_rsound (W := R) HTM.out (by omega) (HSP.out.below hx) (HIR.out.below hx)).mono fun e w' (h : _ ∧ _) => (⟨by rw [h.1, hgood], hx.trans (h.2.mono hx.size)⟩ : e = .returned (.bool true) ∧ Below W4.heap.size W4 w'))
    have HPY := Lib.hid (fun wx (hx : Below W4.heap.size W4 wx) => (t_sound (W := y) HTM.out hy20 (HSP.out.below hx) (HY.out.below hx)).mono fun e w' (h : _ ∧ _) => (⟨by rw [h.1, ← hb], hx.trans (h.2.mono hx.size)⟩ : e = .returned (.bool b) ∧ Below W4.heap.size W4 w'))
    have HRY := Lib.hid (fun wx (hx : Below W4.heap.size W4 wx) => (t_rsound (W := y) HTM.out hy20 (HSP.out.below hx) (HY.out.below hx)).mono fun e w' (h : _ ∧ _) => (⟨by rw [h.1, ← hb], hx.trans (h.2.mono hx.size)⟩ : e = .returned (.bool b) ∧ Below W4.heap.size W4 w'))
    have hbb : (b != b) = false := by cases b <;> rfl
    clear hb hgood
    have hh0 := cell_all (HXH.out.c0 0 _ rfl)
    have hh1 := cell_all (HXH.out.c0 1 _ rfl)
    have HLW : Hid (Below W4.heap.size W4 W4) := Lib.hid (Below.refl _ _)
    go_upto_region 5 with fail
    rw [← HW4.out]
    go_region_held3 (fun wx => Below W4.heap.size W4 wx)
      (repeat (first | with_reducible assumption | with_reducible exact HLW.out | with_reducible refine Below.drew ?_))
      (first
        | (go_at_call_of 30 (Value.slice a1 R.length c1); (with_reducible refine (HPS.out _ (by repeat (first | with_reducible assumption | with_reducible exact HLW.out | with_reducible refine Below.drew ?_ | with_reducible refine keepP ?_ _))).mono ?_); rintro e1 k1 ⟨rfl, hS1⟩)
        | (go_at_call_of 31 (Value.slice a1 R.length c1); (with_reducible refine (HRS.out _ (by repeat (first | with_reducible assumption | with_reducible exact HLW.out | with_reducible refine Below.drew ?_ | with_reducible refine keepP ?_ _))).mono ?_); rintro e2 k2 ⟨rfl, hS2⟩)
        | (go_at_call 30; (with_reducible refine (HPY.out _ (by repeat (first | with_reducible assumption | with_reducible exact HLW.out | with_reducible refine Below.drew ?_ | with_reducible refine keepP ?_ _))).mono ?_); rintro e3 k3 ⟨rfl, hS3⟩)
        | (go_at_call 31; (with_reducible refine (HRY.out _ (by repeat (first | with_reducible assumption | with_reducible exact HLW.out | with_reducible refine Below.drew ?_ | with_reducible refine keepP ?_ _))).mono ?_); rintro e4 k4 ⟨rfl, hS4⟩)
        | fail "no arm")
    obtain ⟨w5, hw5⟩ : ∃ w5, w5 = k4 := ⟨_, rfl⟩
    subst hw5
    have HB5 := Lib.hid hS4
    clear hS1 hS2 hS3 hS4 HPS HRS HPY HRY
    have h05 := hh0 _ HB5.out
    go_wp2_with fail
    refine (copied_w (.slice a0 P.length c0) P w5 w5 (HSP.out.below HB5.out).slF (Below.refl _ _) (by omega)).mono ?_
    rintro e w6 ⟨v6, rfl, hown, hb6⟩
    obtain ⟨a9, c9, rfl, hl9, hm9, hg9⟩ := hown.form
    obtain ⟨w9, hw9⟩ : ∃ w9, w9 = w6.alloc (.cells #[.slice a9 P.length c9] 29) := ⟨_, rfl⟩
    have HW9 := Lib.hid hw9
    have HX9 : Hid (Blk w9 w6.heap.size 29 #[.slice a9 P.length c9]) := Lib.hid (by rw [hw9]; exact Blk.new _ _ _)
    have HB59 : Hid (Below w5.heap.size w5 w9) := Lib.hid (by rw [hw9]; exact keepP hb6 _)
    have HO9 : Hid (OwnF w5 w9 w5.heap.size (.slice a9 P.length c9) P) := Lib.hid (hown.below (by rw [hw9]; exact below_box _))
    have HB9 : Hid (Below W4.heap.size W4 w9) := Lib.hid (HB5.out.trans (HB59.out.mono HB5.out.size))
    have hgz : 0 < P.length → ∃ g, a9 = some ⟨g, 0, none⟩ := hg9
    have HNG0 : Hid (∀ g, a9 = some ⟨g, 0, none⟩ → g ≠ w6.heap.size) := Lib.hid (by rintro g rfl; have := hown.blk.2; omega)
    have HGZ := Lib.hid hgz
    clear hown hb6 hw9 h05 hg9 hgz
    by_cases hp0 : P.length = 0
    · have hpz : ((P.length : Int) == 0) = true := by rw [hp0]; rfl
      clear hp0
      go_wp2
      go_ret
      rw [← HW9.out]
      exact ⟨rfl, HG.out.trans (HB9.out.mono HG.out.size)⟩
    · have hpp : 0 < P.length := by omega
      have hpz : ((P.length : Int) == 0) = false := beq_false_of_ne (by omega)
      obtain ⟨g, rfl⟩ := HGZ.out hpp
      have HNG := Lib.hid (HNG0.out g rfl)
      clear hp0 HGZ HNG0
      obtain ⟨m, hm⟩ : ∃ m : Nat, m = x1 % P.length := ⟨_, rfl⟩
      have hml : m < P.length := by rw [hm]; exact Nat.mod_lt _ hpp
      have hrz : (x1 : Int) % (P.length : Int) = (m : Int) := by rw [hm]; exact (Int.natCast_emod x1 P.length).symm
      have hrt : (x1 : Int).tmod (P.length : Int) = (m : Int) := by rw [Int.tmod_eq_emod_of_nonneg (by omega)]; exact hrz
      have hyw : IntKind.i64.wrap (x1 : Int) = (x1 : Int) := IntWalk.i64_in _ (by omega)
      have hmw : IntKind.i64.wrap (m : Int) = (m : Int) := IntWalk.i64_in _ (by omega)
      have hn0 : ¬ ((P.length : Int) = 0) := by omega
      have hrn : ¬ (P = []) := List.length_pos_iff.1 hpp
      have hn1 : ¬ ((P.length : Int) = -1) := by omega
      have hmlz : (m : Int) < (P.length : Int) := by omega
      have hp9 := HX9.out.c0 0 _ rfl
      have hx9 := (HXX.out.below HB9.out HXX.out.lt).c0 0 _ rfl
      clear hm
      go_upto_region 10 with fail
      rw [← HW9.out]
      go_quiet (fail)
      obtain ⟨wd, hwd⟩ : ∃ wd, wd = w9.drewN nq := ⟨_, rfl⟩
      have HBD : Hid (Below w9.heap.size w9 wd) := Lib.hid (by rw [hwd]; exact below_drewN _ _)
      rw [← hwd]
      have HOD := Lib.hid (HO9.out.below HBD.out)
      have HBd : Hid (Below W4.heap.size W4 wd) := Lib.hid (HB9.out.trans (HBD.out.mono HB9.out.size))
      have HB5d : Hid (Below w5.heap.size w5 wd) := Lib.hid (HB59.out.trans (HBD.out.mono HB59.out.size))
      have HXd := Lib.hid (HX9.out.below HBD.out HX9.out.lt)
      have HGL : Hid (g ≠ w6.heap.size) := Lib.hid HNG.out
      have hgw : W4.heap.size ≤ g := Nat.le_trans HB5.out.size HOD.out.blk.1
      have hg5 : w5.heap.size ≤ g := HOD.out.blk.1
      clear hwd hp9 hx9 hrz hrt hyw hmw hn0 hrn hn1 hpz hh0 hh1
      have hw1 := (HXX.out.below HBd.out HXX.out.lt).c0 1 _ rfl
      obtain ⟨sv, hs, hv⟩ := HOD.out.at m hml
      obtain ⟨k0, k1, k2, k3, k4, k5, k6, k7⟩ := hv
      have f0 := HOD.out.free (m * 8)
      have f1 := HOD.out.free (m * 8 + 1)
      have f2 := HOD.out.free (m * 8 + 2)
      have f5 := HOD.out.free (m * 8 + 5)
      have hru : sv.used = (atP P m).used := hs.used
      have hrf : sv.refs = (atP P m).refs := hs.refs
      have hrb := HTM.out.refs m
      obtain ⟨ka, kc, hke, -⟩ := hs.kids.slice
      have HKI : Hid (IsInts w5 (.slice ka (atP P m).node.kids.length kc) (atP P m).node.kids) := Lib.hid (by rw [← hke]; exact hs.kids)
      rw [hke] at k5
      obtain ⟨m5, hm5⟩ : ∃ m5 : Nat, m5 = x2 % 5 := ⟨_, rfl⟩
      have hmt : (x2 : Int).tmod 5 = (m5 : Int) := by rw [Int.tmod_eq_emod_of_nonneg (by omega)]; omega
      have hme : (x2 : Int) % 5 = (m5 : Int) := by omega
      have hm5l : m5 < 5 := by omega
      have hKL : (atP P m).node.kids.length ≤ 3 := HGD.out.kids m
      have HPR := Lib.hid (HGD.out.pairs m)
      have HBA := Lib.hid (HGD.out.bare m)
      have hrfb : -1000 ≤ sv.refs ∧ sv.refs ≤ 999 := by rw [hrf]; have := HGD.out.refs m; omega
      clear hs hke hm5 k3 k4 k6 k7 hru hrf hrb
      go_upto_block 0 with fail
      go_cut [68] (fun s68 wx => Hid (MutR W4 g P.length c9 w6.heap.size wx))
      case first =>
        rcases Nat.lt_or_ge m5 1 with h0 | h0
        · obtain rfl : m5 = 0 := by omega
          have hw : IntKind.i64.wrap (sv.refs + 1) = sv.refs + 1 := IntWalk.i64_in _ (by omega)
          go_wp2_with fail
          go_meet
          exact Lib.hid (MutR.of (HOD.out.refs m hml (sv.refs + 1)) (HTM.out.set (s := { atP P m with refs := sv.refs + 1 }) hml (by show (atP P m).node.kids.length ≤ 4; omega) HPR.out HBA.out (by show -1000 ≤ sv.refs + 1 ∧ sv.refs + 1 ≤ 1000; omega)) (HB5d.out.setCell (p := ⟨g, m * 8 + 2, none⟩) hg5 _) (HBd.out.setCell (p := ⟨g, m * 8 + 2, none⟩) hgw _) (HXd.out.setCell_other HGL.out.symm _ _))
        · rcases Nat.lt_or_ge m5 2 with h1 | h1
          · obtain rfl : m5 = 1 := by omega
            go_wp2_with fail
            go_meet
            exact Lib.hid (MutR.of (HOD.out.usedF m hml (!sv.used)) (HTM.out.set (s := { atP P m with used := !sv.used }) hml (by show (atP P m).node.kids.length ≤ 4; omega) HPR.out HBA.out (HTM.out.refs m)) (HB5d.out.setCell (p := ⟨g, m * 8, none⟩) hg5 _) (HBd.out.setCell (p := ⟨g, m * 8, none⟩) hgw _) (HXd.out.setCell_other HGL.out.symm _ _))
          · rcases Nat.lt_or_ge m5 3 with h2 | h2
            · obtain rfl : m5 = 2 := by omega
              obtain ⟨q, hq⟩ : ∃ q : Nat, q = x3 % 20 := ⟨_, rfl⟩
              have hqt : (x3 : Int).tmod 20 = (q : Int) := by rw [Int.tmod_eq_emod_of_nonneg (by omega)]; omega
              have hqm : (x3 : Int) % 20 = (q : Int) := by omega
              have hq20 : q < 20 := by omega
              have hxw : IntKind.i64.wrap (x3 : Int) = (x3 : Int) := IntWalk.i64_in _ (by omega)
              have hqw : IntKind.i64.wrap (q : Int) = (q : Int) := IntWalk.i64_in _ (by omega)
              have hw2 := (HXX.out.below HBd.out HXX.out.lt).c0 2 _ rfl
              have HW2 := Lib.hid (cell_all hw2)
              have HZ5 := Lib.hid (cell_all k5)
              have hgd : g < wd.heap.size := HOD.out.blk.2
              have HF5 : Hid (∀ wx, Below wd.heap.size wd wx → wx.frozen? ⟨g, m * 8 + 5, none⟩ = false) := Lib.hid (fun wx hx => (HOD.out.below hx).free (m * 8 + 5))
              have HKD := Lib.hid (HKI.out.below HB5d.out)
              have HLW : Hid (Below wd.heap.size wd wd) := Lib.hid (Below.refl _ _)
              obtain ⟨K, hK⟩ : ∃ K, K = (atP P m).node.kids := ⟨_, rfl⟩
              have HK := Lib.hid hK
              rw [← hK] at HKD k5 HZ5
              have HKL : Hid (K.length ≤ 3) := Lib.hid (by rw [hK]; exact hKL)
              have HLA : Hid (IsInts ((wd.alloc (.cells #[] 3)).alloc (.cells #[.int .i64 (q : Int)] 3)) (.slice (some ⟨wd.heap.size + 1, 0, none⟩) 1 1) [(q : Int)]) := Lib.hid (isInts_lit (w := wd.alloc (.cells #[] 3)) [(q : Int)] (by simp) (by simp) (by simp))
              have HLB : Hid (IsInts ((wd.alloc (.cells #[] 3)).alloc (.cells #[.int .i64 (q : Int)] 3)).drew (.slice (some ⟨wd.heap.size + 1, 0, none⟩) 1 1) [(q : Int)]) := Lib.hid (HLA.out.below (below_drewN _ 1))
              have HLC : Hid (IsInts ((wd.alloc (.cells #[.int .i64 (q : Int)] 3)).alloc (.cells #[] 3)) (.slice (some ⟨wd.heap.size, 0, none⟩) 1 1) [(q : Int)]) := Lib.hid ((isInts_lit (w := wd) [(q : Int)] rfl (by simp) (by simp)).below (below_box _))
              have HLD : Hid (IsInts ((wd.alloc (.cells #[.int .i64 (q : Int)] 3)).alloc (.cells #[] 3)).drew (.slice (some ⟨wd.heap.size, 0, none⟩) 1 1) [(q : Int)]) := Lib.hid (HLC.out.below (below_drewN _ 1))
              clear hK hq hKL
              go_upto_region 18 with fail
              have HBP : Hid (ButP g wd wd) := Lib.hid (ButP.refl _ _)
              have hxg : w.heap.size ≠ g := by have := HXX.out.lt; omega
              have hxl : w.heap.size < wd.heap.size := Nat.lt_of_lt_of_le HXX.out.lt HBd.out.size
              have zw : ∀ wx, ButP g wd wx → wx.cell? ⟨w.heap.size, 2, none⟩ = some (.int .u8 x3) := fun wx hx => (but_cell hx hxl hxg 2).trans hw2
              clear hw2 hw1 k0 k1 k2 f0 f1 f2
              go_region_held3 (fun wx => ButP g wd wx)
                (repeat (first | with_reducible assumption | with_reducible exact HBP.out | with_reducible refine bpdrew ?_ | with_reducible refine bpalloc ?_ _ | with_reducible refine bpset ?_ _ _))
                (first
                  | (refine step_litI rfl _ _ rfl (wd.heap.size) rfl (by repeat (first | with_reducible exact lit_blk (by simp) | with_reducible refine Blk.alloc ?_ _ | with_reducible refine blk_drew ?_)) (.slice ka K.length kc) K rfl (HKD.out.below (by repeat (first | with_reducible assumption | with_reducible exact HLW.out | with_reducible refine Below.drew ?_ | with_reducible refine keepP ?_ _))) (by have := HKL.out; omega) ?_; intro g3 c3 y3 ho3 ht3 hn3; have hS3 : Below wd.heap.size wd y3 := Below.trans (by repeat (first | with_reducible assumption | with_reducible exact HLW.out | with_reducible refine Below.drew ?_ | with_reducible refine keepP ?_ _)) (ht3.mono (by simp; try omega)); have hP3 : ButP g wd y3 := ButP.of hS3; have ho4 := owns_lower ho3 (B := wd.heap.size) (by simp); (first | (with_reducible have hl2 := HLA.out.below ht3) | (with_reducible have hl2 := HLB.out.below ht3) | (with_reducible have hl2 := HLC.out.below ht3) | (with_reducible have hl2 := HLD.out.below ht3) | (have hlf : IsInts (y3.alloc (.cells #[.int .i64 (q : Int)] 3)) (.slice (some ⟨y3.heap.size, 0, none⟩) 1 1) [(q : Int)] := isInts_lit [(q : Int)] rfl (by simp) (by simp); have hlg := hlf.below (below_drewN _ 1))))
                  | (refine step_litI rfl _ _ rfl (wd.heap.size + 1) rfl (by repeat (first | with_reducible exact lit_blk (by simp) | with_reducible refine Blk.alloc ?_ _ | with_reducible refine blk_drew ?_)) (.slice ka K.length kc) K rfl (HKD.out.below (by repeat (first | with_reducible assumption | with_reducible exact HLW.out | with_reducible refine Below.drew ?_ | with_reducible refine keepP ?_ _))) (by have := HKL.out; omega) ?_; intro g3 c3 y3 ho3 ht3 hn3; have hS3 : Below wd.heap.size wd y3 := Below.trans (by repeat (first | with_reducible assumption | with_reducible exact HLW.out | with_reducible refine Below.drew ?_ | with_reducible refine keepP ?_ _)) (ht3.mono (by simp; try omega)); have hP3 : ButP g wd y3 := ButP.of hS3; have ho4 := owns_lower ho3 (B := wd.heap.size) (by simp); (first | (with_reducible have hl2 := HLA.out.below ht3) | (with_reducible have hl2 := HLB.out.below ht3) | (with_reducible have hl2 := HLC.out.below ht3) | (with_reducible have hl2 := HLD.out.below ht3) | (have hlf : IsInts (y3.alloc (.cells #[.int .i64 (q : Int)] 3)) (.slice (some ⟨y3.heap.size, 0, none⟩) 1 1) [(q : Int)] := isInts_lit [(q : Int)] rfl (by simp) (by simp); have hlg := hlf.below (below_drewN _ 1))))
                  | (refine step_ints rfl _ _ rfl wd.heap.size (.slice (some ⟨g3, 0, none⟩) K.length c3) K rfl (by repeat (first | with_reducible exact ho4 | with_reducible refine World.ownsRow.drew ?_ | with_reducible refine World.ownsRow.alloc ?_ _)) (.slice (some ⟨y3.heap.size, 0, none⟩) 1 1) [(q : Int)] rfl (by first | with_reducible exact hlf | with_reducible exact hlg) (by have := HKL.out; simp only [List.length_cons, List.length_nil]; omega) (Below.size (by repeat (first | with_reducible assumption | with_reducible exact HLW.out | with_reducible refine Below.drew ?_ | with_reducible refine keepP ?_ _))) ?_; intro v5 y5 ho5 ht5; have hS5 : Below wd.heap.size wd y5 := Below.trans (by repeat (first | with_reducible assumption | with_reducible exact HLW.out | with_reducible refine Below.drew ?_ | with_reducible refine keepP ?_ _)) ht5; have hP5 : ButP g wd y5 := ButP.of hS5; obtain ⟨a5, c5, rfl⟩ := own_sl ho5; have z6 := HZ5.out y5 hS5; have f6 := HF5.out y5 hS5)
                  | (refine step_ints rfl _ _ rfl wd.heap.size (.slice (some ⟨g3, 0, none⟩) K.length c3) K rfl (by repeat (first | with_reducible exact ho4 | with_reducible refine World.ownsRow.drew ?_ | with_reducible refine World.ownsRow.alloc ?_ _)) (.slice (some ⟨wd.heap.size, 0, none⟩) 1 1) [(q : Int)] rfl (by first | with_reducible exact hl2 | with_reducible exact hl2.below (below_drewN _ 1)) (by have := HKL.out; simp only [List.length_cons, List.length_nil]; omega) (Below.size (by repeat (first | with_reducible assumption | with_reducible exact HLW.out | with_reducible refine Below.drew ?_ | with_reducible refine keepP ?_ _))) ?_; intro v5 y5 ho5 ht5; have hS5 : Below wd.heap.size wd y5 := Below.trans (by repeat (first | with_reducible assumption | with_reducible exact HLW.out | with_reducible refine Below.drew ?_ | with_reducible refine keepP ?_ _)) ht5; have hP5 : ButP g wd y5 := ButP.of hS5; obtain ⟨a5, c5, rfl⟩ := own_sl ho5; have z6 := HZ5.out y5 hS5; have f6 := HF5.out y5 hS5)
                  | (refine step_ints rfl _ _ rfl wd.heap.size (.slice (some ⟨g3, 0, none⟩) K.length c3) K rfl (by repeat (first | with_reducible exact ho4 | with_reducible refine World.ownsRow.drew ?_ | with_reducible refine World.ownsRow.alloc ?_ _)) (.slice (some ⟨wd.heap.size + 1, 0, none⟩) 1 1) [(q : Int)] rfl (by first | with_reducible exact hl2 | with_reducible exact hl2.below (below_drewN _ 1)) (by have := HKL.out; simp only [List.length_cons, List.length_nil]; omega) (Below.size (by repeat (first | with_reducible assumption | with_reducible exact HLW.out | with_reducible refine Below.drew ?_ | with_reducible refine keepP ?_ _))) ?_; intro v5 y5 ho5 ht5; have hS5 : Below wd.heap.size wd y5 := Below.trans (by repeat (first | with_reducible assumption | with_reducible exact HLW.out | with_reducible refine Below.drew ?_ | with_reducible refine keepP ?_ _)) ht5; have hP5 : ButP g wd y5 := ButP.of hS5; obtain ⟨a5, c5, rfl⟩ := own_sl ho5; have z6 := HZ5.out y5 hS5; have f6 := HF5.out y5 hS5)
                  | fail "no arm")
              all_goals (go_wp2_with fail; go_meet)
              all_goals exact Lib.hid (MutR.kids HK.out HOD.out hml HTM.out HKL.out HPR.out HBA.out hg5 hgw hgd HB5d.out HBd.out HXd.out HGL.out.symm hS5 ho5)
            · rcases Nat.lt_or_ge m5 4 with h3 | h3
              · obtain rfl : m5 = 3 := by omega
                go_wp2_with fail
                go_meet
                exact Lib.hid (MutR.of (HOD.out.lostF m hml true) (HTM.out.set (s := { atP P m with lost := true }) hml (by show (atP P m).node.kids.length ≤ 4; omega) HPR.out HBA.out (HTM.out.refs m)) (HB5d.out.setCell (p := ⟨g, m * 8 + 1, none⟩) hg5 _) (HBd.out.setCell (p := ⟨g, m * 8 + 1, none⟩) hgw _) (HXd.out.setCell_other HGL.out.symm _ _))
              · obtain rfl : m5 = 4 := by omega
                go_wp2_with fail
                go_meet
                exact Lib.hid (MutR.of (HOD.out.kidsF m hml (none, 0, 0) [] (IsInts.nil w5)) (HTM.out.set (s := { atP P m with node := { (atP P m).node with kids := [] } }) hml (by show (0 : Nat) ≤ 4; omega) HPR.out ⟨HBA.out.pivots, HBA.out.sums, HBA.out.buf⟩ (HTM.out.refs m)) (HB5d.out.setCell (p := ⟨g, m * 8 + 5, none⟩) hg5 _) (HBd.out.setCell (p := ⟨g, m * 8 + 5, none⟩) hgw _) (HXd.out.setCell_other HGL.out.symm _ _))
      case rest =>
        obtain ⟨Q, hsq, htq, hlq, hbq, hxq⟩ := hcut.out
        have HSQ := Lib.hid hsq
        have HTQ := Lib.hid htq
        have HBQ := Lib.hid hbq
        have HXQ := Lib.hid hxq
        clear hcut hsq htq hbq hxq hw1 k0 k1 k2 k5 f0 f1 f2 f5 hmt hme HKI HOD HXd HBD HO9 HX9
        obtain ⟨wo, hwo⟩ : ∃ wo, wo = wc := ⟨_, rfl⟩
        subst hwo
        obtain ⟨bb, hb⟩ : ∃ bb, bb = soundP Q R := ⟨_, rfl⟩
        obtain ⟨nr, hnr⟩ : ∃ nr, nr = (reachP Q R).length := ⟨_, rfl⟩
        have HIQ := Lib.hid (HIR.out.below HBQ.out)
        have HPS := Lib.hid (fun wx (hx : Below wo.heap.size wo wx) => (t_sound (v := .slice (some ⟨g, 0, none⟩) P.length c9) (W := R) HTQ.out (by omega) (HSQ.out.below hx) (HIQ.out.below hx)).mono fun e w' (h : _ ∧ _) => (⟨by rw [h.1, ← hb], hx.trans (h.2.mono hx.size)⟩ : e = .returned (.bool bb) ∧ Below wo.heap.size wo w'))
        have HRS := Lib.hid (fun wx (hx : Below wo.heap.size wo wx) => (t_rsound (v := .slice (some ⟨g, 0, none⟩) P.length c9) (W := R) HTQ.out (by omega) (HSQ.out.below hx) (HIQ.out.below hx)).mono fun e w' (h : _ ∧ _) => (⟨by rw [h.1, ← hb], hx.trans (h.2.mono hx.size)⟩ : e = .returned (.bool bb) ∧ Below wo.heap.size wo w'))
        have HR1 : Hid (∀ wx, Below wo.heap.size wo wx → Calls Try.prog 26 #[poolV (.slice (some ⟨g, 0, none⟩) P.length c9), .slice a1 R.length c1] wx fun e w' => ∃ a c, e = .returned (.slice a nr c) ∧ IsInts w' (.slice a nr c) (reachP Q R) ∧ Below wo.heap.size wo w') := Lib.hid (fun wx hx => (g_reach (by have := HTQ.out.len; omega) hnr (HSQ.out.below hx) (HIQ.out.below hx)).mono fun e w' h => by
          obtain ⟨a, c, h1, h2, h3⟩ := h
          exact ⟨a, c, h1, h2, hx.trans (h3.mono hx.size)⟩)
        have HR2 : Hid (∀ wx, Below wo.heap.size wo wx → ∀ v, IsInts wx v (reachP Q R) → Calls Try.prog 27 #[poolV (.slice (some ⟨g, 0, none⟩) P.length c9), .slice a1 R.length c1] wx fun e w' => ∃ a c, e = .returned (.slice a nr c) ∧ IsInts w' (.slice a nr c) (reachP Q R) ∧ Below wo.heap.size wo w' ∧ IsInts w' v (reachP Q R)) := Lib.hid (fun wx hx v hv => (t_rreach HTQ.out (by omega) hnr (HSQ.out.below hx) (HIQ.out.below hx)).mono fun e w' h => by
          obtain ⟨a, c, h1, h2, h3⟩ := h
          exact ⟨a, c, h1, h2, hx.trans (h3.mono hx.size), hv.below h3⟩)
        have HIN : Hid (∀ wx, Below wo.heap.size wo wx → ∀ u v, IsInts wx u (reachP Q R) → IsInts wx v (reachP Q R) → Calls Try.prog 25 #[u, v] wx fun e w' => e = .returned (.bool true) ∧ Below wo.heap.size wo w') := Lib.hid (fun wx hx u v h1 h2 => (ints_w u v _ wx h1 h2).mono fun e w' h => ⟨h.1, hx.trans (h.2.mono hx.size)⟩)
        have hbq : (bb == bb) = true := by simp
        clear hb hnr
        have HLW : Hid (Below wo.heap.size wo wo) := Lib.hid (Below.refl _ _)
        have q9 := cell_all (HXQ.out.c0 0 _ rfl)
        have q1 := cell_all ((HXH.out.below HBQ.out HXH.out.lt).c0 1 _ rfl)
        go_upto_region 21 with fail
        go_region_held3 (fun wx => Below wo.heap.size wo wx)
          (repeat (first | with_reducible assumption | with_reducible exact HLW.out | with_reducible refine Below.drew ?_))
          (first
            | (go_at_call 30; (with_reducible refine (HPS.out _ (by repeat (first | with_reducible assumption | with_reducible exact HLW.out | with_reducible refine Below.drew ?_ | with_reducible refine keepP ?_ _))).mono ?_); rintro e1 k1 ⟨rfl, hS1⟩)
            | (go_at_call 31; (with_reducible refine (HRS.out _ (by repeat (first | with_reducible assumption | with_reducible exact HLW.out | with_reducible refine Below.drew ?_ | with_reducible refine keepP ?_ _))).mono ?_); rintro e2 k2 ⟨rfl, hS2⟩)
            | (go_at_call 26; (with_reducible refine (HR1.out _ (by repeat (first | with_reducible assumption | with_reducible exact HLW.out | with_reducible refine Below.drew ?_ | with_reducible refine keepP ?_ _))).mono ?_); rintro e3 k3 ⟨a3, c3, rfl, hi3, hS3⟩)
            | (go_at_call 27; (with_reducible refine (HR2.out _ (by repeat (first | with_reducible assumption | with_reducible exact HLW.out | with_reducible refine Below.drew ?_ | with_reducible refine keepP ?_ _)) _ (by first | with_reducible exact hi3 | with_reducible exact hi3.below (below_drewN _ 1))).mono ?_); rintro e4 k4 ⟨a5, c5, rfl, hi5, hS5, hi6⟩)
            | (go_at_call 25; (with_reducible refine (HIN.out _ (by repeat (first | with_reducible assumption | with_reducible exact HLW.out | with_reducible refine Below.drew ?_ | with_reducible refine keepP ?_ _)) _ _ (by first | with_reducible exact hi6 | with_reducible exact hi6.below (below_drewN _ 1)) (by first | with_reducible exact hi5 | with_reducible exact hi5.below (below_drewN _ 1))).mono ?_); rintro e5 k5 ⟨rfl, hS6⟩)
            | fail "no arm")
        have HF := Lib.hid (HG.out.trans ((HBQ.out.trans (hS6.mono HBQ.out.size)).mono HG.out.size))
        clear hS1 hS2 hS3 hi3 hS5 hi5 hi6 hS6 q9 q1
        go_wp2
        go_ret
        exact ⟨rfl, HF.out⟩

end Go.Proofs.Ytlgangcldlphnaa
