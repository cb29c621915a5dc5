/-
  Walks of reference 09: List.
-/
import Derived.Test.YtfpcaoacbjhkgaaGreatUZ1
namespace Go.Proofs.YtfpcaoacbjhkgaaGreat
open Go.RowKit Go.Sort
set_option linter.unusedVariables false
set_option linter.unusedSimpArgs false

theorem blk_apartU {W : World} {base n size b : Nat} {e f : TypeId} (hef : e ≠ f) {v : Value} {cs : Array Value} {ys : List Value} (h : Blk W b e cs) (g : W.ownsRow base f size v n ys) : v.ownBlock ≠ some b := by
  intro hk
  rcases g.2 with ⟨rfl, _⟩ | ⟨b2, cap2, cur2, rfl, _, hb2, _⟩
  · cases hk
  have e2 : b2 = b := Option.some.inj hk
  subst e2
  unfold Blk at h
  rw [hb2] at h
  simp at h
  exact hef h.2.symm
theorem newOwnM {B : Nat} (W : World) (m : Ms) (hB : B ≤ W.heap.size) : OwnM (W.alloc (.cells (encM m) 40)) B (.slice (some ⟨W.heap.size, 0, none⟩) 1 1) [m] :=
  ⟨by simp [encML], .inr ⟨_, 1, _, rfl, hB, Blk.new _ _ _, Nat.le_refl _, by unfold maxLen; omega, rfl, rfl⟩⟩
theorem ownM_low {w : World} {B B' : Nat} {v : Value} {l : List Ms} (hB : B' ≤ B) (h : OwnM w B v l) : OwnM w B' v l :=
  ⟨h.1, h.2.elim .inl (fun ⟨b, cap, cur, e, hb, r⟩ => .inr ⟨b, cap, cur, e, Nat.le_trans hB hb, r⟩)⟩
theorem pairs_cellsU {w : World} {v : Value} {l : List Pr} (h : IsPairs w v l) (i : Nat) (hi : i < l.length) : ∃ b off cap, v = .slice (some ⟨b, off, none⟩) l.length cap ∧ b < w.heap.size ∧ w.cell? ⟨b, off + i * 3, none⟩ = some (.string (Str l[i].1)) ∧ w.cell? ⟨b, off + i * 3 + 1, none⟩ = some (.string (Str l[i].2.1)) ∧ w.cell? ⟨b, off + i * 3 + 2, none⟩ = some (.int .i64 l[i].2.2) := by
  obtain ⟨b, off, cap, a, rfl, -, -, h4, h5⟩ := h.form
  obtain ⟨rfl, h6⟩ := h5 i hi
  exact ⟨b, off, cap, rfl, (h4 (by rintro rfl; simp at hi)).2, h6⟩
/-- One pair of the source in its box, and what lay before. -/
structure Lz (W1 : World) (n : Nat) (cs : Array Value) (wx : World) : Prop where
  g : Below W1.heap.size W1 wx
  b : Blk wx n 71 cs
theorem Lz.drew {W1 wx : World} {n : Nat} {cs : Array Value} (h : Lz W1 n cs wx) : Lz W1 n cs wx.drew := ⟨h.g.drew, h.b⟩
theorem Lz.alloc {W1 wx : World} {n : Nat} {cs : Array Value} (h : Lz W1 n cs wx) (o : Obj) : Lz W1 n cs (wx.alloc o) := ⟨keepAU h.g o, h.b.alloc o⟩
theorem Lz.turn {W1 wx wy : World} {n : Nat} {cs : Array Value} (h : Lz W1 n cs wx) {v v' : Value} {l : List Ms} (ho : OwnM wx W1.heap.size v l) (ht : Turn v v' wx wy) : Lz W1 n cs wy :=
  ⟨h.g.trans (turn_below ho ht h.g.size), by
    have := ht.1.block n h.b.lt (fun e => blk_apartU (by decide) h.b ho e.symm)
    unfold Blk at *
    rw [this]; exact h.b⟩

set_option maxRecDepth 100000 in
set_option maxHeartbeats 8000000 in
theorem r9list_w (m : Ms) (sv : Value) (src : List Pr) (w : World) (hl : src.length ≤ 100000000) (hz : SizeM m) (hk : ∀ x ∈ src, m.src.isPrefixOf x.1 = true ∧ x.1.length ≤ 1000000000) (hI : IsPairs w sv src) :
    Calls Tryz.prog 31 #[msgV m, sv] w fun e w' => ∃ v', e = .returned v' ∧ OwnM w' w.heap.size v' (settledS m src) ∧ Below w.heap.size w w' := by
  have mixed := mixedA
  have hmv := fun wx => r9moves_w m wx
  obtain ⟨W1, hW1⟩ : ∃ W1, W1 = w.alloc (.cells (encM m) 40) := ⟨_, rfl⟩
  have hB1 : Blk W1 w.heap.size 40 (encM m) := by rw [hW1]; exact Blk.new _ _ _
  have hg1 : Below w.heap.size w W1 := by rw [hW1]; exact below_box _
  have hz5 : m.src.length ≤ 140737488355328 := by have := hz.2.2.2.2.1; omega
  have hz6 : m.dst.length ≤ 140737488355328 := by have := hz.2.2.2.2.2; omega
  have HPF := Lib.hid (fun wx => rprefix_w m.src wx hz5)
  have HPT := Lib.hid (fun wx => rprefix_w m.dst wx hz6)
  have hsz1 : W1.heap.size = w.heap.size + 1 := by rw [hW1]; simp
  have HB1 := Lib.hid hB1
  have HG1 := Lib.hid hg1
  have HW1 := Lib.hid hW1
  have HS1 := Lib.hid hsz1
  have HI := Lib.hid (hI.below hg1)
  have hbl := hB1.lt
  obtain ⟨a, c, rfl, -⟩ := id hI
  have HZ := Lib.hid hz
  have HK := Lib.hid hk
  obtain ⟨c0, c1, c2, c3, c4, c5, c6, c7⟩ : (W1.cell? ⟨w.heap.size, 0, none⟩ = some (.int .i64 m.kind)) ∧ (W1.cell? ⟨w.heap.size, 1, none⟩ = some (.string (Str m.key))) ∧ (W1.cell? ⟨w.heap.size, 2, none⟩ = some (.string (Str m.val))) ∧ (W1.cell? ⟨w.heap.size, 3, none⟩ = some (.string (Str m.lo))) ∧ (W1.cell? ⟨w.heap.size, 4, none⟩ = some (.string (Str m.hi))) ∧ (W1.cell? ⟨w.heap.size, 5, none⟩ = some (.string (Str m.src))) ∧ (W1.cell? ⟨w.heap.size, 6, none⟩ = some (.string (Str m.dst))) ∧ (W1.cell? ⟨w.heap.size, 7, none⟩ = some (.int .i64 m.n)) := hB1.eightCU
  clear hW1 hB1 hg1 hsz1 hI hz hk hz5 hz6
  cases hmb : movesB m with
  | false =>
    rw [hmb] at hmv
    have HMV := Lib.hid hmv
    have HE := Lib.hid (settled_other hmb src)
    clear hmv hmb HPF HPT HI HK
    go_enter Tryz.func31, Tryz.ntmps31
    go_wp2_with fail
    rw [← HW1.out]
    go_wp2_with (go_at_call 72; refine (HMV.out _).mono ?_; rintro e w2 ⟨rfl, hg2⟩; have HB2 := Lib.hid (hg2.blk HB1.out); have HG2 := Lib.hid (HG1.out.trans (hg2.below HG1.out.size)); obtain ⟨d0, d1, d2, d3, d4, d5, d6, d7⟩ := HB2.out.eightCU; clear hg2)
    go_ret
    rw [HE.out]
    have hs2 := HG2.out.size
    refine ⟨_, rfl, ?_, HG2.out.alloc hs2 _⟩
    exact ⟨by simp [encML], .inr ⟨_, 1, _, rfl, hs2, Blk.new _ _ _, Nat.le_refl _, by unfold maxLen; omega, rfl, rfl⟩⟩
  | true =>
    rw [hmb] at hmv
    have HMV := Lib.hid hmv
    have HE := Lib.hid (settled_moves hmb src)
    have HKD := Lib.hid ((moves_iff m).1 hmb)
    have HPX : Hid (∀ wx, Below W1.heap.size W1 wx → IsPairs wx (.slice a src.length c) src) := Lib.hid (fun wx hx => HI.out.below hx)
    have HBX : Hid (∀ wx, Below W1.heap.size W1 wx → Blk wx w.heap.size 40 (encM m)) := Lib.hid (fun wx hx => HB1.out.below hx hbl)
    clear hmv hmb HI
    go_enter Tryz.func31, Tryz.ntmps31
    go_wp2_with fail
    rw [← HW1.out]
    go_wp2_with (first
      | (go_at_call 72; refine (HMV.out _).mono ?_; rintro e w2 ⟨rfl, hg2⟩; have HB2 := Lib.hid (hg2.blk HB1.out); have HG2 := Lib.hid (hg2.below (Nat.le_refl W1.heap.size)); obtain ⟨d0, d1, d2, d3, d4, d5, d6, d7⟩ := HB2.out.eightCU; clear hg2)
      | (go_at_call 37; refine (HPT.out _).mono ?_; rintro e w3 ⟨rfl, hg3⟩; have HG3 := Lib.hid (HG2.out.trans (hg3.below HG2.out.size)); clear hg3))
    go_loopw [5, 6] (fun o i wr => ∃ k : Nat, k ≤ src.length ∧ i = .int .i64 k ∧ OwnM wr W1.heap.size o (preU m src k) ∧ Below W1.heap.size W1 wr) (fun _ i _ => src.length - (intOf i).toNat)
    case atStart =>
      refine ⟨0, Nat.zero_le _, rfl, ?_, HG3.out.alloc HG3.out.size _⟩
      rw [preU_zero, List.nil_append]
      exact newOwnM w3 (dropM m.dst) HG3.out.size
    case round =>
      obtain ⟨k, hk, rfl, hown, hbel⟩ := hrel
      have Hown := Lib.hid hown
      have Hbel := Lib.hid hbel
      have hbs := hbel.size
      by_cases hlt : k < src.length
      · have hltz : (k : Int) < (src.length : Int) := by omega
        obtain ⟨b, off, cap, hv, hbl2, q0, q1, q2⟩ := pairs_cellsU (HPX.out _ hbel) k hlt
        injection hv with hv1 hv2 hv3
        subst hv1 hv3
        clear hv2
        have HNX := Lib.hid (preU_succ m src k hlt)
        have hpl := preU_len m src k hk
        obtain ⟨hpf, hxl⟩ := HK.out src[k] (List.getElem_mem hlt)
        obtain ⟨r, hr⟩ := pre_split hpf
        have hsl : m.src.length ≤ src[k].1.length := by rw [hr, List.length_append]; omega
        have hz6 := HZ.out.2.2.2.2.2
        clear hpf hr
        unfold putM keyT at HNX
        generalize src[k] = x at *
        obtain ⟨x1, x2, x3⟩ := x
        dsimp only at q0 q1 q2 hxl hsl HNX
        have hbr : w.heap.size < wr.heap.size := Nat.lt_of_lt_of_le hbl hbs
        clear hown hbel
        generalize preU m src k = left at *
        go_upto_block 1 with fail
        go_cut [5] (fun s5 wx => Hid (OwnM wx W1.heap.size s5 (left ++ [⟨1, m.dst ++ List.drop m.src.length x1, x2, [], [], [], [], x3⟩])) ∧ Hid (Below W1.heap.size W1 wx))
        case first =>
          go_upto_region 8 with fail
          obtain ⟨W8, hW8⟩ : ∃ W8, W8 = wr.alloc (.cells #[.string (Str x1), .string (Str x2), .int .i64 x3] 71) := ⟨_, rfl⟩
          have HL8 : Hid (Lz W1 wr.heap.size #[.string (Str x1), .string (Str x2), .int .i64 x3] W8) := Lib.hid (by rw [hW8]; exact ⟨keepAU Hbel.out _, Blk.new _ _ _⟩)
          have HB8 : Hid (Below wr.heap.size wr W8) := Lib.hid (by rw [hW8]; exact below_box _)
          have HO8 := Lib.hid (Hown.out.below HB8.out)
          rw [← hW8]
          clear hW8
          generalize wr.heap.size = bw at *
          have y4 : ∀ wx, Lz W1 bw #[.string (Str x1), .string (Str x2), .int .i64 x3] wx → wx.cell? ⟨w.heap.size, 5, none⟩ = some (.string (Str m.src)) := fun wx hx => (HBX.out wx hx.g).c0 5 _ rfl
          have y5 : ∀ wx, Lz W1 bw #[.string (Str x1), .string (Str x2), .int .i64 x3] wx → wx.cell? ⟨w.heap.size, 6, none⟩ = some (.string (Str m.dst)) := fun wx hx => (HBX.out wx hx.g).c0 6 _ rfl
          have z0 : ∀ wx, Lz W1 bw #[.string (Str x1), .string (Str x2), .int .i64 x3] wx → wx.cell? ⟨bw, 0, none⟩ = some (.string (Str x1)) := fun wx hx => hx.b.c0 0 _ rfl
          have z1 : ∀ wx, Lz W1 bw #[.string (Str x1), .string (Str x2), .int .i64 x3] wx → wx.cell? ⟨bw, 1, none⟩ = some (.string (Str x2)) := fun wx hx => hx.b.c0 1 _ rfl
          have z2 : ∀ wx, Lz W1 bw #[.string (Str x1), .string (Str x2), .int .i64 x3] wx → wx.cell? ⟨bw, 2, none⟩ = some (.int .i64 x3) := fun wx hx => hx.b.c0 2 _ rfl
          have hlz : ((m.src.length : Nat) : Int) ≤ ((x1.length : Nat) : Int) := by omega
          have hbig2 : ¬ (9223372036854775807 < m.dst.length + (x1.length - m.src.length)) := by omega
          have hsa := Str_add m.dst (List.drop m.src.length x1)
          refine wp_region_noPanic ?_
          refine wp_region_held_drew (S := fun wx => Lz W1 bw #[.string (Str x1), .string (Str x2), .int .i64 x3] wx) (by kernel_rfl) (Lz.drew HL8.out) (fun hHeld => ?_)
          refine wpAnyH_take (i := 0) (oi := _) (v := ?_) rfl (by kernel_rfl) (by kernel_rfl) (by kernel_rfl) (fun _ _ _ h => h) (Or.inl ⟨by kernel_rfl, ?_⟩) (by with_reducible assumption) ?_
          rotate_left
          · intro wt hSw
            go_simp
            all_goals with_reducible rfl
          try simp only [Act.put, List.setIfInBounds_toArray, List.set_cons_zero, List.set_cons_succ]
          refine wpAnyH_take (i := 1) (oi := _) (v := ?_) rfl (by kernel_rfl) (by kernel_rfl) (by kernel_rfl) (fun _ _ _ h => h) (Or.inl ⟨by kernel_rfl, ?_⟩) (by with_reducible assumption) ?_
          rotate_left
          · intro wt hSw
            go_simp
            all_goals with_reducible rfl
          try simp only [Act.put, List.setIfInBounds_toArray, List.set_cons_zero, List.set_cons_succ]
          refine wpAnyH_take (i := 2) (oi := _) (v := ?_) rfl (by kernel_rfl) (by kernel_rfl) (by kernel_rfl) (fun _ _ _ h => h) (Or.inl ⟨by kernel_rfl, ?_⟩) (by with_reducible assumption) ?_
          rotate_left
          · intro wt hSw
            go_simp
            all_goals with_reducible rfl
          try simp only [Act.put, List.setIfInBounds_toArray, List.set_cons_zero, List.set_cons_succ]
          refine wpAnyH_take (i := 3) (oi := _) (v := ?_) rfl (by kernel_rfl) (by kernel_rfl) (by kernel_rfl) (fun _ _ _ h => h) (Or.inl ⟨by kernel_rfl, ?_⟩) (by with_reducible assumption) ?_
          rotate_left
          · intro wt hSw
            go_simp
            all_goals with_reducible rfl
          try simp only [Act.put, List.setIfInBounds_toArray, List.set_cons_zero, List.set_cons_succ]
          refine wpAnyH_take (i := 4) (oi := _) (v := ?_) rfl (by kernel_rfl) (by kernel_rfl) (by kernel_rfl) (fun _ _ _ h => h) (Or.inl ⟨by kernel_rfl, ?_⟩) (by with_reducible assumption) ?_
          rotate_left
          · intro wt hSw
            go_simp
            all_goals with_reducible rfl
          try simp only [Act.put, List.setIfInBounds_toArray, List.set_cons_zero, List.set_cons_succ]
          refine wpAnyH_take (i := 5) (oi := _) (v := ?_) rfl (by kernel_rfl) (by kernel_rfl) (by kernel_rfl) (fun _ _ _ h => h) (Or.inl ⟨by kernel_rfl, ?_⟩) (by with_reducible assumption) ?_
          rotate_left
          · intro wt hSw
            go_simp
            all_goals with_reducible rfl
          try simp only [Act.put, List.setIfInBounds_toArray, List.set_cons_zero, List.set_cons_succ]
          refine wpAnyH_take (i := 6) (oi := _) (v := ?_) rfl (by kernel_rfl) (by kernel_rfl) (by kernel_rfl) (fun _ _ _ h => h) (Or.inl ⟨by kernel_rfl, ?_⟩) (by with_reducible assumption) ?_
          rotate_left
          · intro wt hSw
            go_simp
            all_goals with_reducible rfl
          try simp only [Act.put, List.setIfInBounds_toArray, List.set_cons_zero, List.set_cons_succ]
          refine wpAnyH_take (i := 7) (oi := _) (v := ?_) rfl (by kernel_rfl) (by kernel_rfl) (by kernel_rfl) (fun _ _ _ h => h) (Or.inl ⟨by kernel_rfl, ?_⟩) (by with_reducible assumption) ?_
          rotate_left
          · intro wt hSw
            go_simp
            all_goals with_reducible rfl
          try simp only [Act.put, List.setIfInBounds_toArray, List.set_cons_zero, List.set_cons_succ]
          refine wpAnyH_take (i := 8) (oi := _) (v := ?_) rfl (by kernel_rfl) (by kernel_rfl) (by kernel_rfl) (fun _ _ _ h => h) (Or.inl ⟨by kernel_rfl, ?_⟩) (by with_reducible assumption) ?_
          rotate_left
          · intro wt hSw
            go_simp
            all_goals with_reducible rfl
          try simp only [Act.put, List.setIfInBounds_toArray, List.set_cons_zero, List.set_cons_succ]
          refine wpAnyH_take (i := 9) (oi := _) (v := ?_) rfl (by kernel_rfl) (by kernel_rfl) (by kernel_rfl) (fun _ _ _ h => h) (Or.inl ⟨by kernel_rfl, ?_⟩) (by with_reducible assumption) ?_
          rotate_left
          · intro wt hSw
            go_simp
            all_goals with_reducible rfl
          try simp only [Act.put, List.setIfInBounds_toArray, List.set_cons_zero, List.set_cons_succ]
          refine wpAnyH_take (i := 10) (oi := _) (v := ?_) rfl (by kernel_rfl) (by kernel_rfl) (by kernel_rfl) (fun _ _ _ h => h) (Or.inl ⟨by kernel_rfl, ?_⟩) (by with_reducible assumption) ?_
          rotate_left
          · intro wt hSw
            go_simp
            all_goals with_reducible rfl
          try simp only [Act.put, List.setIfInBounds_toArray, List.set_cons_zero, List.set_cons_succ]
          refine wpAnyH_take (i := 11) (oi := _) (v := ?_) rfl (by kernel_rfl) (by kernel_rfl) (by kernel_rfl) (fun _ _ _ h => h) (Or.inl ⟨by kernel_rfl, ?_⟩) (by with_reducible assumption) ?_
          rotate_left
          · intro wt hSw
            go_simp
            all_goals with_reducible rfl
          try simp only [Act.put, List.setIfInBounds_toArray, List.set_cons_zero, List.set_cons_succ]
          refine wpAnyH_take (i := 12) (oi := _) (v := ?_) rfl (by kernel_rfl) (by kernel_rfl) (by kernel_rfl) (fun _ _ _ h => h) (Or.inl ⟨by kernel_rfl, ?_⟩) (by with_reducible assumption) ?_
          rotate_left
          · intro wt hSw
            go_simp
            all_goals with_reducible rfl
          try simp only [Act.put, List.setIfInBounds_toArray, List.set_cons_zero, List.set_cons_succ]
          refine wpAnyH_take (i := 13) (oi := _) (v := ?_) rfl (by kernel_rfl) (by kernel_rfl) (by kernel_rfl) (fun _ _ _ h => h) (Or.inl ⟨by kernel_rfl, ?_⟩) (by with_reducible assumption) ?_
          rotate_left
          · intro wt hSw
            go_simp
            all_goals with_reducible rfl
          try simp only [Act.put, List.setIfInBounds_toArray, List.set_cons_zero, List.set_cons_succ]
          refine wpAnyH_take (i := 14) (oi := _) (v := ?_) rfl (by kernel_rfl) (by kernel_rfl) (by kernel_rfl) (fun _ _ _ h => h) (Or.inl ⟨by kernel_rfl, ?_⟩) (by with_reducible assumption) ?_
          rotate_left
          · intro wt hSw
            go_simp
            all_goals with_reducible rfl
          try simp only [Act.put, List.setIfInBounds_toArray, List.set_cons_zero, List.set_cons_succ]
          refine wpAnyH_ready (rs := [15]) (by kernel_rfl) (by simp) ?_
          refine AllReadyH.cons (o := _) rfl (fun K hK => ?_) AllReadyH.nil
          go_simp
          refine hK.out _ _ (by (repeat (first | with_reducible assumption | with_reducible exact HL8.out | with_reducible refine Lz.drew ?_ | with_reducible refine Lz.alloc ?_ _))) (fun hHeld => ?_)
          clear hK K
          try simp only [List.setIfInBounds_toArray, List.set_cons_zero, List.set_cons_succ]
          refine wpAnyH_ready (rs := [16]) (by kernel_rfl) (by simp) ?_
          refine AllReadyH.cons (o := _) rfl (fun K hK => ?_) AllReadyH.nil
          (refine step_msgs rfl _ _ rfl W1.heap.size u5 left rfl (HO8.out.below (below_box _).drew) (some ⟨W8.heap.size, 0, none⟩) 1 1 [⟨1, m.dst ++ List.drop m.src.length x1, x2, [], [], [], [], x3⟩] rfl ((newMU W8 [⟨1, m.dst ++ List.drop m.src.length x1, x2, [], [], [], [], x3⟩] rfl (by simp)).below (Below.refl _ _).drew) (by simp only [List.length_cons, List.length_nil]; omega) (HL8.out.alloc _).drew.g.size ?_; intro v3 y3 ho3 ht3; have hS3 : Lz W1 bw #[.string (Str x1), .string (Str x2), .int .i64 x3] y3 := Lz.turn (HL8.out.alloc _).drew (HO8.out.below (below_box _).drew) ht3)
          refine hK.out _ _ (by (repeat (first | with_reducible assumption | with_reducible exact HL8.out | with_reducible refine Lz.drew ?_ | with_reducible refine Lz.alloc ?_ _))) (fun hHeld => ?_)
          clear hK K
          try simp only [List.setIfInBounds_toArray, List.set_cons_zero, List.set_cons_succ]
          refine wpAnyH_ready (rs := [17]) (by kernel_rfl) (by simp) ?_
          refine AllReadyH.cons (o := _) rfl (fun K hK => ?_) AllReadyH.nil
          go_simp
          refine hK.out _ _ (by (repeat (first | with_reducible assumption | with_reducible exact HL8.out | with_reducible refine Lz.drew ?_ | with_reducible refine Lz.alloc ?_ _))) (fun hHeld => ?_)
          clear hK K
          try simp only [List.setIfInBounds_toArray, List.set_cons_zero, List.set_cons_succ]
          refine wpAnyH_done (by kernel_rfl) ?_ _
          refine NoPanic.normal ?_
          go_wp2_with fail
          go_meet
          exact ⟨Lib.hid ho3, Lib.hid hS3.g⟩
        case rest =>
          obtain ⟨HO9, HB9⟩ := hcut
          rw [← HNX.out] at HO9
          go_wp2
          go_roundw
          case rel => exact ⟨k + 1, by omega, by go_num, HO9.out, HB9.out⟩
          case measure => simp [intOf]; omega
      · obtain rfl : k = src.length := by omega
        have HSP : Hid (settledS m src = preU m src src.length ++ endM m) := Lib.hid (by rw [HE.out]; unfold preU; rw [List.take_length]; rfl)
        have hpl := preU_len m src src.length (Nat.le_refl _)
        obtain ⟨d0, d1, d2, d3, d4, d5, d6, d7⟩ := (HBX.out wr hbel).eightCU
        have HBR := Lib.hid (HG1.out.trans (hbel.mono HG1.out.size))
        have hbw : w.heap.size < wr.heap.size := Nat.lt_of_lt_of_le hbl hbs
        clear hown hbel hlt HPX
        generalize preU m src src.length = left at *
        rcases HKD.out with hk4 | hk5
        · have hen : endM m = [dropM m.src] := by unfold endM; rw [if_pos hk4]
          rw [hen] at HSP
          rw [hk4] at d0
          go_upto_region 10 with fail
          go_wp2_with (first
            | (go_at_call 37; (refine (HPF.out _).mono ?_); rintro e2 y2 ⟨rfl, hg2⟩; have hb2 : Below wr.heap.size wr y2 := (by first | exact hg2.below (Nat.le_refl _) | exact (Below.refl _ wr).drew.trans (hg2.below (Nat.le_refl _))); have hS2 : Below W1.heap.size W1 y2 := Hbel.out.trans (hb2.mono hbs))
            | (at_builtin; refine append_msgsT rfl _ _ rfl W1.heap.size u5 left rfl (Hown.out.below (by first | exact hb2 | exact keepAU hb2 _ | exact (keepAU hb2 _).drew | exact keepAU hb2.drew _)) (some ⟨y2.heap.size, 0, none⟩) 1 1 [dropM m.src] rfl (by first | exact newMU y2 [dropM m.src] rfl (by simp) | exact (newMU y2 [dropM m.src] rfl (by simp)).below (Below.refl _ _).drew | exact newMU y2.drew [dropM m.src] rfl (by simp)) (by simp only [List.length_cons, List.length_nil]; omega) (Below.size (by first | exact keepAU hS2 _ | exact (keepAU hS2 _).drew | exact keepAU hS2.drew _)) ?_; intro v3 y3 ho3 ht3; have hS3 : Below W1.heap.size W1 y3 := Below.trans (by first | exact keepAU hS2 _ | exact (keepAU hS2 _).drew | exact keepAU hS2.drew _) (turn_below (Hown.out.below (by first | exact hb2 | exact keepAU hb2 _ | exact (keepAU hb2 _).drew | exact keepAU hb2.drew _)) ht3 (Below.size (by first | exact keepAU hS2 _ | exact (keepAU hS2 _).drew | exact keepAU hS2.drew _)))))
          go_ret
          refine ⟨_, rfl, ?_, HG1.out.trans (hS3.mono HG1.out.size)⟩
          rw [HSP.out]
          exact ownM_low HG1.out.size ho3
        · have hen : endM m = [] := by unfold endM; rw [if_neg (by omega)]
          rw [hen, List.append_nil] at HSP
          rw [hk5] at d0
          go_wp2
          go_ret
          refine ⟨_, rfl, ?_, HBR.out⟩
          rw [HSP.out]
          exact ownM_low HG1.out.size Hown.out

end Go.Proofs.YtfpcaoacbjhkgaaGreat
