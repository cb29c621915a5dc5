/-
  Walks: Sum of package node. Walks: Sum of nodes with kids.
-/
import Derived.Test.YtmbfghbhajmpiaaGreatY8
namespace Go.Proofs.YtmbfghbhajmpiaaGreat
open Go.RowKit Go.Sort
set_option linter.unusedVariables false

def plusS (a b : Sm) : Sm := (plusR a.1 b.1, plusR a.2 b.2)
def sumS (n : Nd) : Sm := if n.kids = [] then (((P1.totF n.pairs).1, (P1.totF n.pairs).1), ((P1.totF n.pairs).2, (P1.totF n.pairs).2)) else n.buf.foldl changeS (n.sums.foldl plusS ((0, 0), (0, 0)))
theorem plusR_ok (r b : Rg) : okR (plusR r b) := by
  have h1 := bdN_ok (r.1 + b.1)
  have h2 := bdN_ok (r.2 + b.2)
  unfold plusR okR; simp only; omega
theorem fewR_ok' {r : Rg} (h : okR r) : okR (fewR r) := by unfold fewR okR at *; simp only; omega
theorem unkR_ok : okR unkR := by unfold unkR okR; simp
theorem plusS_ok (a b : Sm) : okS (plusS a b) := ⟨plusR_ok _ _, plusR_ok _ _⟩
theorem changeS_ok {s : Sm} (m : Ms) (h : okS s) : okS (changeS s m) := by
  unfold changeS
  split
  · split
    · exact ⟨plusR_ok _ _, h.2⟩
    · exact ⟨h.1, plusR_ok _ _⟩
  split
  · split
    · exact ⟨plusR_ok _ _, h.2⟩
    · exact ⟨h.1, plusR_ok _ _⟩
  split
  · exact ⟨fewR_ok' h.1, fewR_ok' h.2⟩
  split
  · split
    · exact ⟨fewR_ok' h.1, fewR_ok' h.2⟩
    · exact ⟨unkR_ok, unkR_ok⟩
  split
  · split
    · exact ⟨plusR_ok _ _, plusR_ok _ _⟩
    · exact ⟨unkR_ok, unkR_ok⟩
  · exact h
theorem sums_ok (l : List Sm) : okS (l.foldl plusS ((0, 0), (0, 0))) := by
  rcases List.eq_nil_or_concat l with rfl | ⟨r, x, rfl⟩
  · exact ⟨⟨⟨by simp, by simp⟩, by simp, by simp⟩, ⟨by simp, by simp⟩, by simp, by simp⟩
  · rw [List.concat_eq_append, List.foldl_append]; exact plusS_ok _ _
theorem changes_ok (l : List Ms) {s : Sm} (h : okS s) : okS (l.foldl changeS s) := by
  induction l generalizing s with
  | nil => exact h
  | cons m l ih => exact ih (changeS_ok m h)
theorem fold_take {α β : Type} (f : β → α → β) (z : β) (l : List α) (k : Nat) (h : k < l.length) : (l.take (k + 1)).foldl f z = f ((l.take k).foldl f z) l[k] := by
  rw [List.take_add_one, List.getElem?_eq_getElem h, List.foldl_append]; rfl
set_option maxHeartbeats 400000 in
theorem stay_w (b : Nat) (w : World) : Calls Tryz.prog 159 #[ptrV b] w fun e w' => e = .returned (.tuple #[]) ∧ w = w' := by
  go_enter Tryz.func159, Tryz.ntmps159
  go_wp2
  go_end0
  exact ⟨rfl, rfl⟩

end Go.Proofs.YtmbfghbhajmpiaaGreat
namespace Go.Proofs.YtmbfghbhajmpiaaGreat
open Go.RowKit Go.Sort
set_option linter.unusedVariables false

set_option warningAsError false in
set_option maxRecDepth 100000 in
set_option maxHeartbeats 8000000 in
theorem sumInner_w (v : Value) (n : Nd) (w : World) (h : IsNode w v n) (hk : n.kids ≠ []) (hs : ∀ s ∈ n.sums, okS s) (hm : ∀ m ∈ n.buf, MsgCh m) : Calls Tryz.prog 24 #[v] w fun e w' => e = .returned (smV (sumS n)) ∧ Below w.heap.size w w' := by
  have mixed := mixedA
  have HL := Lib.hid (fun wx (hx : Grown w wx) => isLeaf_w v n wx (h.below (hx.below (Nat.le_refl _))))
  rw [decide_eq_false hk] at HL
  have HF : Hid (sumS n = n.buf.foldl changeS (n.sums.foldl plusS ((0, 0), (0, 0)))) := Lib.hid (by unfold sumS; rw [if_neg hk])
  generalize sumS n = R at *
  obtain ⟨a, b, c, d, e, rfl, -, -, -, hS, hM⟩ := h
  have HS := Lib.hid hS
  have HM := Lib.hid hM
  have Hs := Lib.hid hs
  have Hm := Lib.hid hm
  generalize n.sums = ns at *
  generalize n.buf = nb at *
  obtain ⟨pd, cd, rfl, hld, hmd, -⟩ := hS
  obtain ⟨pe, ce, rfl, hle, hme, -⟩ := hM
  unfold maxLen at hmd hme
  obtain ⟨W1, hW1⟩ : ∃ W1, W1 = (w.alloc (.cells #[a, b, c, .slice pd ns.length cd, .slice pe nb.length ce] 34)).alloc (.cells #[.int .i64 0, .int .i64 0, .int .i64 0, .int .i64 0] 52) := ⟨_, rfl⟩
  have HN : Hid (Blk W1 w.heap.size 34 #[a, b, c, .slice pd ns.length cd, .slice pe nb.length ce]) := Lib.hid (by rw [hW1]; exact (Blk.new _ _ _).alloc _)
  have HR : Hid (Blk W1 (w.heap.size + 1) 52 #[.int .i64 0, .int .i64 0, .int .i64 0, .int .i64 0]) := Lib.hid (by rw [hW1]; exact Blk.new' _ _ _ (by simp))
  have HG : Hid (Grown w W1) := Lib.hid (by rw [hW1]; exact ((Grown.refl w).alloc _).alloc _)
  have n0 := HN.out.c0 0 _ rfl
  have n1 := HN.out.c0 1 _ rfl
  have n2 := HN.out.c0 2 _ rfl
  have n3 := HN.out.c0 3 _ rfl
  have n4 := HN.out.c0 4 _ rfl
  have HW1 := Lib.hid hW1
  clear hs hm hk hW1
  go_enter Tryz.func24, Tryz.ntmps24
  go_wp2_with fail
  rw [← HW1.out]
  refine (HL.out _ HG.out).mono ?_
  rintro e' w2 ⟨rfl, hg⟩
  have hN2 := blkG HN.out hg
  have hR2 := blkG HR.out hg
  have hs2 : w.heap.size + 1 < w2.heap.size := hR2.lt
  obtain ⟨W2, hW2⟩ : ∃ W2, W2 = w2.alloc (.cells #[.int .i64 0, .int .i64 0, .int .i64 0, .int .i64 0] 52) := ⟨_, rfl⟩
  have HN2 : Hid (Blk W2 w.heap.size 34 #[a, b, c, .slice pd ns.length cd, .slice pe nb.length ce]) := Lib.hid (by rw [hW2]; exact hN2.alloc _)
  have HR2 : Hid (Blk W2 (w.heap.size + 1) 52 #[.int .i64 0, .int .i64 0, .int .i64 0, .int .i64 0]) := Lib.hid (by rw [hW2]; exact hR2.alloc _)
  have HA2 : Hid (Blk W2 w2.heap.size 52 (encSA ((0, 0), (0, 0)))) := Lib.hid (by rw [hW2]; exact Blk.new _ _ _)
  have HB2 : Hid (Below w.heap.size w W2) := Lib.hid (by rw [hW2]; exact ((HG.out.trans hg).below (Nat.le_refl _)).alloc (by omega) _)
  have hN2' : w2.cell? ⟨w.heap.size, 3, none⟩ = some (.slice pd ns.length cd) := hN2.c0 3 _ rfl
  have hs2' : w.heap.size < w2.heap.size := by omega
  have HW2 := Lib.hid hW2
  clear hg n0 n1 n2 n3 n4 hN2 hR2 hW2 HL HN HR HG HW1
  obtain ⟨A, hA⟩ : ∃ A, A = w2.heap.size := ⟨_, rfl⟩
  have hltA : w.heap.size + 1 < A := by omega
  have n3 := HN2.out.c0 3 _ rfl
  go_wp2
  go_loopw [25] (fun i wr => ∃ k : Nat, k ≤ ns.length ∧ i = .int .i64 k ∧ Blk wr w2.heap.size 52 (encSA ((ns.take k).foldl plusS ((0, 0), (0, 0)))) ∧ Below w.heap.size w wr ∧ But w2.heap.size W2 wr) (fun i _ => ns.length - (intOf i).toNat)
  case atStart => exact ⟨0, Nat.zero_le _, rfl, by rw [← HW2.out]; exact HA2.out, by rw [← HW2.out]; exact HB2.out, by rw [← HW2.out]; exact But.refl _ _⟩
  case round =>
    clear HA2 HB2 n3 hN2'
    obtain ⟨k, hk', rfl, hac, hbel, hbu⟩ := hrel
    have Hac := Lib.hid hac
    have Hbel := Lib.hid hbel
    have Hbu := Lib.hid hbu
    have hsz := hbel.size
    clear hac hbel hbu
    by_cases hlt : k < ns.length
    · obtain ⟨bb, off, cap', he, hbl, hlz, x0, x1, x2, x3⟩ := at_sum (HS.out.below Hbel.out) k hlt
      injection he with he1 he2 he3
      subst he1 he3
      clear he2
      have hltz : (k : Int) < (ns.length : Int) := by omega
      have Htk := Lib.hid (fold_take plusS ((0, 0), (0, 0)) ns k hlt)
      have Hxo := Lib.hid (Hs.out _ (List.getElem_mem hlt))
      have Hao := Lib.hid (sums_ok (ns.take k))
      generalize ns[k] = x at *
      generalize (ns.take k).foldl plusS ((0, 0), (0, 0)) = s at *
      obtain ⟨⟨sa, sb⟩, sc, sd⟩ := s
      obtain ⟨⟨xa, xb⟩, xc, xd⟩ := x
      dsimp only at x0 x1 x2 x3
      have hP : ∀ wx, Calls Tryz.prog 78 #[.agg #[.int .i64 sa, .int .i64 sb], .agg #[.int .i64 xa, .int .i64 xb]] wx fun e w' => e = .returned (.agg #[.int .i64 (plusR (sa, sb) (xa, xb)).1, .int .i64 (plusR (sa, sb) (xa, xb)).2]) ∧ Grown wx w' := fun wx => plus_w sa sb xa xb wx Hao.out.1 Hxo.out.1
      have hQ : ∀ wx, Calls Tryz.prog 78 #[.agg #[.int .i64 sc, .int .i64 sd], .agg #[.int .i64 xc, .int .i64 xd]] wx fun e w' => e = .returned (.agg #[.int .i64 (plusR (sc, sd) (xc, xd)).1, .int .i64 (plusR (sc, sd) (xc, xd)).2]) ∧ Grown wx w' := fun wx => plus_w sc sd xc xd wx Hao.out.2 Hxo.out.2
      have Ht2 : Hid ((ns.take (k + 1)).foldl plusS ((0, 0), (0, 0)) = (plusR (sa, sb) (xa, xb), plusR (sc, sd) (xc, xd))) := Lib.hid Htk.out
      generalize plusR (sa, sb) (xa, xb) = q at *
      generalize plusR (sc, sd) (xc, xd) = r at *
      have HP := Lib.hid hP
      have HQ := Lib.hid hQ
      clear hP hQ Htk
      obtain ⟨W5, hW5⟩ : ∃ W5, W5 = wr.alloc (.cells #[.int .i64 xa, .int .i64 xb, .int .i64 xc, .int .i64 xd] 52) := ⟨_, rfl⟩
      have hE : Blk W5 wr.heap.size 52 #[.int .i64 xa, .int .i64 xb, .int .i64 xc, .int .i64 xd] := by rw [hW5]; exact Blk.new _ _ _
      have hA5 : Blk W5 w2.heap.size 52 #[.int .i64 sa, .int .i64 sb, .int .i64 sc, .int .i64 sd] := by rw [hW5]; exact Hac.out.alloc _
      have HB5 : Hid (Below w.heap.size w W5) := Lib.hid (by rw [hW5]; exact Hbel.out.alloc hsz _)
      have HU5 : Hid (But w2.heap.size W2 W5) := Lib.hid (by rw [hW5]; exact Hbu.out.alloc _)
      have HA5 : Hid (∀ wx, Grown W5 wx → Blk wx w2.heap.size 52 #[.int .i64 sa, .int .i64 sb, .int .i64 sc, .int .i64 sd]) := Lib.hid (fun wx hg => blkG hA5 hg)
      have HE5 : Hid (∀ wx, Grown W5 wx → Blk wx wr.heap.size 52 #[.int .i64 xa, .int .i64 xb, .int .i64 xc, .int .i64 xd]) := Lib.hid (fun wx hg => blkG hE hg)
      obtain ⟨a0, a1, a2, a3, f0, f1, f2, f3⟩ := sum4 hA5
      have y0 : ∀ wx, Blk wx wr.heap.size 52 #[.int .i64 xa, .int .i64 xb, .int .i64 xc, .int .i64 xd] → wx.cell? ⟨wr.heap.size, 0, none⟩ = some (.int .i64 xa) := fun wx h => h.c0 0 _ rfl
      have y1 : ∀ wx, Blk wx wr.heap.size 52 #[.int .i64 xa, .int .i64 xb, .int .i64 xc, .int .i64 xd] → wx.cell? ⟨wr.heap.size, 1, none⟩ = some (.int .i64 xb) := fun wx h => h.c0 1 _ rfl
      have y2 : ∀ wx, Blk wx wr.heap.size 52 #[.int .i64 xa, .int .i64 xb, .int .i64 xc, .int .i64 xd] → wx.cell? ⟨wr.heap.size, 2, none⟩ = some (.int .i64 xc) := fun wx h => h.c0 2 _ rfl
      have y3 : ∀ wx, Blk wx wr.heap.size 52 #[.int .i64 xa, .int .i64 xb, .int .i64 xc, .int .i64 xd] → wx.cell? ⟨wr.heap.size, 3, none⟩ = some (.int .i64 xd) := fun wx h => h.c0 3 _ rfl
      have hg0 : Grown W5 W5.drew := (Grown.refl W5).draw
      have hS0 : Blk W5.drew wr.heap.size 52 #[.int .i64 xa, .int .i64 xb, .int .i64 xc, .int .i64 xd] := hE
      have hltw : w2.heap.size < wr.heap.size := Hac.out.lt
      have HNE : Hid (wr.heap.size ≠ w2.heap.size) := Lib.hid (by omega)
      have HW5 := Lib.hid hW5
      clear hE hA5 hW5 Hac Hbel Hbu HW2
      go_wp2_with fail
      rw [← HW5.out]
      go_region_held3 (fun wx => Blk wx wr.heap.size 52 #[.int .i64 xa, .int .i64 xb, .int .i64 xc, .int .i64 xd]) (repeat (first | with_reducible assumption | with_reducible refine Blk.setCell_other ?_ HNE.out _ _)) (first
        | (with_reducible refine (HP.out _).mono ?_; rintro e w5 ⟨rfl, hg⟩; have hgk := Grown.trans (by with_reducible assumption) hg; clear hg; have hk := HE5.out w5 hgk; obtain ⟨z0, z1, z2, z3, g0, g1, g2, g3⟩ := sum4 (HA5.out w5 hgk))
        | (with_reducible refine (HQ.out _).mono ?_; rintro e w5 ⟨rfl, hg⟩; have hgk := Grown.trans (by with_reducible assumption) hg; clear hg; have hk := HE5.out w5 hgk; obtain ⟨z0, z1, z2, z3, g0, g1, g2, g3⟩ := sum4 (HA5.out w5 hgk)))
      all_goals
        have hb6 := (HB5.out.trans (hgk.below HB5.out.size))
        have hu6 := (HU5.out.trans (But.of (hgk.below (Nat.le_refl _))))
        have hc6 := ((((HA5.out _ hgk).setCell 0 (.int .i64 q.1)).setCell 1 (.int .i64 q.2)).setCell 2 (.int .i64 r.1)).setCell 3 (.int .i64 r.2)
        have HB6 := Lib.hid hb6
        have HU6 := Lib.hid hu6
        have HC6 := Lib.hid hc6
        clear hb6 hu6 hc6
        go_wp2
        go_roundw
        case rel => exact ⟨k + 1, by omega, by go_num, by rw [Ht2.out]; exact HC6.out, (((HB6.out.setCell (p := ⟨w2.heap.size, 0, none⟩) (Nat.le_of_lt hs2') _).setCell (p := ⟨w2.heap.size, 1, none⟩) (Nat.le_of_lt hs2') _).setCell (p := ⟨w2.heap.size, 2, none⟩) (Nat.le_of_lt hs2') _).setCell (p := ⟨w2.heap.size, 3, none⟩) (Nat.le_of_lt hs2') _, (((HU6.out.trans (But.setCell _ _ _ _)).trans (But.setCell _ _ _ _)).trans (But.setCell _ _ _ _)).trans (But.setCell _ _ _ _)⟩
        case measure => simp [intOf]; omega
    · obtain rfl : k = ns.length := by omega
      rw [List.take_length] at Hac
      have n4 := (Hbu.out.blk HN2.out (by omega)).c0 4 _ rfl
      have Hso := Lib.hid (sums_ok ns)
      generalize ns.foldl plusS ((0, 0), (0, 0)) = S0 at *
      clear hlt HW2
      go_wp2
      go_loopw [45] (fun i wr => ∃ k : Nat, k ≤ nb.length ∧ i = .int .i64 k ∧ Blk wr w2.heap.size 52 (encSA ((nb.take k).foldl changeS S0)) ∧ Below w.heap.size w wr ∧ But w2.heap.size W2 wr) (fun i _ => nb.length - (intOf i).toNat)
      case atStart => exact ⟨0, Nat.zero_le _, rfl, Hac.out, Hbel.out, Hbu.out⟩
      case round =>
        clear Hac Hbel Hbu n4
        obtain ⟨k, hk', rfl, hac, hbel, hbu⟩ := hrel
        have Hac := Lib.hid hac
        have Hbel := Lib.hid hbel
        have Hbu := Lib.hid hbu
        have hsz := hbel.size
        clear hac hbel hbu
        by_cases hlt : k < nb.length
        · obtain ⟨bb, off, cap', he, hbl, hlz, x0, x1, x2, x3, x4, x5, x6, x7⟩ := at_msg (HM.out.below Hbel.out) k hlt
          injection he with he1 he2 he3
          subst he1 he3
          clear he2
          have hltz : (k : Int) < (nb.length : Int) := by omega
          have Htk := Lib.hid (fold_take changeS S0 nb k hlt)
          have Hxm := Lib.hid (Hm.out _ (List.getElem_mem hlt))
          have Hao := Lib.hid (changes_ok (nb.take k) Hso.out)
          generalize nb[k] = x at *
          generalize (nb.take k).foldl changeS S0 = s at *
          have HA5 := Lib.hid (Hac.out.alloc (.cells (encM x) 46))
          have HB5 := Lib.hid (Hbel.out.alloc hsz (.cells (encM x) 46))
          have HU5 := Lib.hid (Hbu.out.alloc (.cells (encM x) 46))
          obtain ⟨kd, ky, va, lo, hi, sr, ds, nn⟩ := x
          clear Hac Hbel Hbu
          obtain ⟨t, ht⟩ : ∃ t, t = changeS s ⟨kd, ky, va, lo, hi, sr, ds, nn⟩ := ⟨_, rfl⟩
          have HC := Lib.hid (Hxm.out _ _ _ HA5.out Hao.out)
          rw [← ht] at Htk HC
          have Ht := Lib.hid ht
          clear ht Hxm
          go_wp2_with fail
          refine HC.out.mono ?_
          rintro e' w6 ⟨hb6, hc6⟩
          have HB6 := Lib.hid (HB5.out.trans (hb6.mono (by simp; omega)))
          have HU6 := Lib.hid (HU5.out.trans (But.of hb6))
          have HA6 := Lib.hid (HA5.out.below hb6 HA5.out.lt)
          clear hb6 x0 x1 x2 x3 x4 x5 x6 x7 HC
          rcases hc6 with ⟨g, c', rfl, hcall, hc⟩ | ⟨rfl, hts⟩
          · have HC := Lib.hid hc
            clear hc
            go_wp2_with fail
            refine HC.out.mono ?_
            rintro e' w7 ⟨rfl, hbk, hbu7⟩
            have HA7 := Lib.hid hbk
            have HB7 : Hid (Below w.heap.size w w7) := Lib.hid (HB6.out.trans (hbu7.below (by omega) HA6.out.lt))
            have HU7 := Lib.hid (HU6.out.trans hbu7)
            clear hbk hbu7 hcall HC
            go_wp2
            go_roundw
            case rel => exact ⟨k + 1, by omega, by go_num, by rw [Htk.out]; exact HA7.out, HB7.out, HU7.out⟩
            case measure => simp [intOf]; omega
          · have Hts := Lib.hid hts
            clear hts
            go_wp2_with fail
            refine (stay_w _ _).mono ?_
            rintro e' w7 ⟨rfl, rfl⟩
            go_wp2
            go_roundw
            case rel => exact ⟨k + 1, by omega, by go_num, by rw [Htk.out, Hts.out]; exact HA6.out, HB6.out, HU6.out⟩
            case measure => simp [intOf]; omega
        · obtain rfl : k = nb.length := by omega
          rw [List.take_length] at Hac
          rw [← HF.out] at Hac
          obtain ⟨z0, z1, z2, z3, -, -, -, -⟩ := sum4 Hac.out
          obtain ⟨r0, r1, r2, r3, g0, g1, g2, g3⟩ := sum4 (Hbu.out.blk HR2.out (by omega))
          obtain ⟨⟨ra, rb⟩, rc, rd⟩ := R
          go_wp2
          refine bodyPost_ret (v := smV ((ra, rb), (rc, rd))) (by simp [results, Tryz.results24, go_sem, r0, r1, r2, r3]) rfl ⟨rfl, ?_⟩
          exact (((Hbel.out.setCell (p := ⟨w.heap.size + 1, 0, none⟩) (Nat.le_succ _) _).setCell (p := ⟨w.heap.size + 1, 1, none⟩) (Nat.le_succ _) _).setCell (p := ⟨w.heap.size + 1, 2, none⟩) (Nat.le_succ _) _).setCell (p := ⟨w.heap.size + 1, 3, none⟩) (Nat.le_succ _) _

end Go.Proofs.YtmbfghbhajmpiaaGreat
