/-
  Walks: the law PoolReaches.
-/
import Derived.Test.YtlgangcldlphnaaQO
namespace Go.Proofs.Ytlgangcldlphnaa
open Go.RowKit Go.Sort
set_option linter.unusedVariables false
set_option maxRecDepth 100000

def KnR (W4 : World) (n : Nat) (s7 s8 : Value) (wx : World) : Prop := ∃ g g7, s8 = .slice (some ⟨g, 0, none⟩) n n ∧ s7 = .slice (some ⟨g7, 0, none⟩) 0 0 ∧ W4.heap.size ≤ g ∧ g7 ≠ g ∧ Blk wx g 4 (marksA (List.replicate n false)) ∧
  wx.ownsRow W4.heap.size 3 1 (.slice (some ⟨g7, 0, none⟩) 0 0) ([] : List Int).length (([] : List Int).flatMap encI) ∧ Below W4.heap.size W4 wx
theorem blk_newB {w : World} {n : Nat} {X : Array Value} (hn : n = w.heap.size) : Blk (w.alloc (.cells X 4)) n 4 X := by subst hn; exact Blk.new _ _ _
def tk (y : List Int) (k : Nat) : List Int := y.take k
theorem tk_zero (y : List Int) : tk y 0 = [] := rfl
theorem tk_all (y : List Int) : tk y y.length = y := List.take_length
theorem tk_snoc {y : List Int} {k : Nat} (h : k < y.length) : tk y (k + 1) = tk y k ++ [y[k]] := List.take_succ_eq_append_getElem h
theorem tk_len (y : List Int) (k : Nat) : (tk y k).length ≤ y.length := by unfold tk; rw [List.length_take]; omega
set_option maxHeartbeats 16000000 in
theorem poolReaches_walk (w : World) (v0 : Value) (l : List R4) (r0 : IsRaws w v0 l) (v1 : Value) (y : List Int) (r1 : IsI8s w v1 y) :
    Calls Try.prog 9 #[v0, v1] w fun e w' => e = .returned (.bool true) ∧ Below w.heap.size w w' := by
  have mixed := mixedA
  have HR0 := Lib.hid r0
  have HY := Lib.hid r1
  obtain ⟨-, ra, rc, rfl, -⟩ := r0
  obtain ⟨ya, yc, rfl, hym⟩ := r1.slice
  have HYP := Lib.hid r1.1
  clear r1
  go_enter Try.func9, Try.ntmps9
  go_wp2_with fail
  refine (lsan_w _).mono ?_
  rintro e w1 ⟨rfl, hb⟩
  have HG := Lib.hid hb
  clear hb
  by_cases h8 : 8 < y.length
  · have h8z : (8 : Int) < (y.length : Int) := by omega
    go_wp2
    go_ret
    exact ⟨rfl, HG.out⟩
  · have h8z : (y.length : Int) ≤ 8 := by omega
    have hy8 : y.length ≤ 8 := by omega
    go_wp2_with fail
    refine (play_w (.slice ra l.length rc) l 16 w1 (HR0.out.below HG.out) (by decide)).mono ?_
    rintro e w2 ⟨v', u', rfl, hs, hu, hb⟩
    obtain ⟨a0, c0, rfl, hpl, hpc, hpm⟩ := hs.slice
    obtain ⟨a1, c1, rfl, hrl, -⟩ := hu.slice
    have HGD : Hid (Good (playX (l.take 16)).1 (playX (l.take 16)).2 16) := Lib.hid ((good_play (l.take 16) (by rw [List.length_take]; omega)).mono (by rw [List.length_take]; omega))
    replace HG := Lib.hid (HG.out.trans (hb.mono HG.out.size))
    replace HY := Lib.hid (HY.out.below HG.out)
    have HSP := Lib.hid hs
    clear hs hu hb HR0
    generalize (playX (l.take 16)).1 = P at *
    generalize (playX (l.take 16)).2 = R at *
    have hpn : P.length ≤ 16 := HGD.out.plen
    obtain ⟨W4, hW4⟩ : ∃ W4, W4 = w2.alloc (.cells #[.slice a0 P.length c0, .slice a1 R.length c1] 32) := ⟨_, rfl⟩
    have HB4 : Hid (Below w2.heap.size w2 W4) := Lib.hid (by rw [hW4]; exact below_box _)
    have HXH : Hid (Blk W4 w2.heap.size 32 #[.slice a0 P.length c0, .slice a1 R.length c1]) := Lib.hid (by rw [hW4]; exact Blk.new _ _ _)
    have HW4 := Lib.hid hW4
    clear hW4
    replace HY := Lib.hid (HY.out.below HB4.out)
    replace HSP := Lib.hid (HSP.out.below HB4.out)
    replace HG := Lib.hid (HG.out.trans (HB4.out.mono HG.out.size))
    have HL0 : Hid (Below W4.heap.size W4 W4) := Lib.hid (Below.refl _ _)
    have hh0 := cell_all (show W4.cell? ⟨w2.heap.size, 0, none⟩ = some (.slice a0 P.length c0) from HXH.out.c0 0 _ rfl)
    have HH0 := Lib.hid hh0
    clear HB4
    go_upto_region 5 with fail
    rw [← HW4.out]
    go_cut [7, 8] (fun s7 s8 wx => Hid (KnR W4 P.length s7 s8 wx))
    case first =>
      obtain ⟨X, hX, hmk⟩ : ∃ X, X = marksA (List.replicate P.length false) ∧ ∀ wx : World, (Instr.makeSlice 69 (.int .i64 (P.length : Int)) (.int .i64 (P.length : Int))).run Try.prog wx = .ok (.slice (some ⟨wx.heap.size, 0, none⟩) P.length P.length) (wx.alloc (.cells X 4)) := ⟨_, rfl, fun wx => run_makeB wx P.length (by omega)⟩
      have HX := Lib.hid hX
      clear hX
      go_region_held3 (fun wx => Below W4.heap.size W4 wx)
        (repeat (first | with_reducible assumption | with_reducible exact HL0.out | with_reducible refine Below.drew ?_ | with_reducible refine keepP ?_ _))
        (fail "no arm")
      all_goals (go_wp2_with fail; go_meet)
      · refine Lib.hid ⟨_, _, rfl, rfl, Nat.le_succ _, by omega, ?_, (((lit_own (w := W4) rfl (Nat.le_refl _)).alloc _).drew), ?_⟩
        · rw [← HX.out]; exact blk_drew (blk_newB (by simp))
        · exact ((keepP (keepP (Below.refl _ _) _) _)).drew
      · refine Lib.hid ⟨_, _, rfl, rfl, Nat.le_refl _, by omega, ?_, ((lit_own (by simp) (Nat.le_succ _)).drew), ?_⟩
        · rw [← HX.out]; exact blk_drew ((blk_newB rfl).alloc _)
        · exact ((keepP (keepP (Below.refl _ _) _) _)).drew
    case rest =>
      obtain ⟨g, g7, rfl, rfl, hge, hne, hM, hrow, hbel⟩ := hcut.out
      clear hcut HL0 hh0 HXH HW4
      have HM := Lib.hid hM
      have HNE := Lib.hid hne
      have HB := Lib.hid hbel
      have HR : Hid (wc.ownsRow W4.heap.size 3 1 (.slice (some ⟨g7, 0, none⟩) (tk y 0).length 0) (tk y 0).length ((tk y 0).flatMap encI)) := Lib.hid hrow
      have HTL : Hid (0 = (tk y 0).length) := Lib.hid rfl
      have HKN : Hid (Kn P (tk y 0) (List.replicate P.length false)) := Lib.hid (Kn.nil P)
      clear hM hne hrow hbel
      have HREA := Lib.hid (fun (A : List Int) wx (hx : Below W4.heap.size W4 wx) u (hu : IsInts wx u A) => (reach_w (.slice a0 P.length c0) u P A wx (HSP.out.below hx) hu (by omega)))
      go_wp2_with fail
      go_loopw [7, 9] (fun s7 i wr => ∃ (k g7 c7 : Nat) (m : List Bool), k ≤ y.length ∧ i = .int .i64 k ∧ s7 = .slice (some ⟨g7, 0, none⟩) (tk y k).length c7 ∧ Hid (wr.ownsRow W4.heap.size 3 1 (.slice (some ⟨g7, 0, none⟩) (tk y k).length c7) (tk y k).length ((tk y k).flatMap encI)) ∧ Hid (g7 ≠ g) ∧ Hid (Blk wr g 4 (marksA m)) ∧ Hid (Kn P (tk y k) m) ∧ Hid (Below W4.heap.size W4 wr)) (fun _ i _ => y.length - (intOf i).toNat)
      case atStart => exact ⟨0, g7, 0, _, Nat.zero_le _, rfl, rfl, HR, HNE, HM, HKN, HB⟩
      case round =>
        clear HR HNE HM HKN HB HTL
        obtain ⟨k, g8, c8, m, hk, rfl, rfl, HR, HNE, HM, HKN, HB⟩ := hrel
        by_cases hlt : k < y.length
        · have hltz : (k : Int) < (y.length : Int) := by omega
          obtain ⟨b5, off5, cap5, he, hbl5, y0⟩ := at_i8 (HY.out.below HB.out) k hlt
          injection he with he1 he2 he3
          subst he1 he3
          clear he2
          have HTK := Lib.hid (tk_snoc hlt)
          obtain ⟨x, hx⟩ : ∃ x, x = y[k] := ⟨_, rfl⟩
          have hxb : -128 ≤ x ∧ x < 128 := by rw [hx]; exact HYP.out _ (List.getElem_mem hlt)
          rw [← hx] at y0 HTK
          have HXE := Lib.hid hx
          clear hx
          obtain ⟨hxl, hxu⟩ := hxb
          have hxw : IntKind.i64.wrap x = x := IntWalk.i64_in _ (by omega)
          have HTL := Lib.hid (tk_len y k)
          have y1 := y0
          go_upto_region 10 with (at_builtin; refine append_intsN rfl _ _ rfl W4.heap.size g8 _ c8 (tk y k) rfl (HR.out.alloc _) _ [x] rfl (isInts_lit [x] rfl (by simp) (by simp)) (by have := HTL.out; simp only [List.length_cons, List.length_nil]; omega) (by have := HB.out.size; simp; omega) ?_; intro g9 c9 w9 hown hgr hnew; have HO9 := Lib.hid hown; have HG9 := Lib.hid hgr; have HN9 := Lib.hid hnew; clear hown hgr hnew)
          have HM9 := Lib.hid (grown_blk HG9.out (HM.out.alloc (.cells #[.int .i64 x] 3)) (fun e => HNE.out (Option.some.inj e)))
          have HB9 : Hid (Below W4.heap.size W4 w9) := Lib.hid (Below.grown (keepP HB.out _) HG9.out (by have := HB.out.size; simp; omega) (fun q hq => by injection hq with hq; subst hq; exact (HR.out.lt g8 rfl).1))
          have HNE9 : Hid (g9 ≠ g) := Lib.hid (fun e => by
            rcases HN9.out with h | h
            · exact HNE.out (h.symm.trans e)
            · have := HM.out.lt; simp at h; omega)
          obtain ⟨b6, off6, cap6, he, hbl6, z0⟩ := at_i8 (HY.out.below HB9.out) k hlt
          injection he with he1 he2 he3
          injection he1 with he1
          injection he1 with he4 he5
          subst he4 he5 he3
          clear he2 y0 y1 HM HG9 HN9 HR HNE hbl6
          rw [← HXE.out] at z0
          have HLP : Hid (IsInts (w9.alloc (.cells #[.int .i64 x] 3)) (.slice (some ⟨w9.heap.size, 0, none⟩) 1 1) [x]) := Lib.hid (isInts_lit [x] rfl (by simp) (by simp))
          have HLD : Hid (IsInts (w9.alloc (.cells #[.int .i64 x] 3)).drew (.slice (some ⟨w9.heap.size, 0, none⟩) 1 1) [x]) := Lib.hid (HLP.out.below (below_drewN _ 1))
          have z0 := cell_all z0
          have p0 := fun wx (hx : Below w9.heap.size w9 wx) => HH0.out wx (HB9.out.trans (hx.mono HB9.out.size))
          have HL9 : Hid (Below w9.heap.size w9 w9) := Lib.hid (Below.refl _ _)
          obtain ⟨n1, hn1⟩ : ∃ n1, n1 = (reachP P [x]).length := ⟨_, rfl⟩
          have Hn1 := Lib.hid hn1
          have HRE : Hid (∀ wx, Below w9.heap.size w9 wx → ∀ u, IsInts wx u [x] → Calls Try.prog 26 #[poolV (.slice a0 P.length c0), u] wx fun e w' => ∃ a c, e = .returned (.slice a n1 c) ∧ w'.ownsRow w9.heap.size 3 1 (.slice a n1 c) (reachP P [x]).length ((reachP P [x]).flatMap encI) ∧ Below w9.heap.size w9 w') := Lib.hid (fun wx hx u hu => (HREA.out [x] wx (HB9.out.trans (hx.mono HB9.out.size)) u hu).mono fun e w' h => by
            obtain ⟨v', h1, h2, h3⟩ := h
            obtain ⟨a, c, rfl⟩ := own_sl h2
            rw [← hn1] at h1
            refine ⟨a, c, h1, ?_, hx.trans (h3.mono hx.size)⟩
            rw [hn1]
            exact owns_lower h2 hx.size)
          clear hn1
          go_region_held3 (fun wx => Below w9.heap.size w9 wx)
            (repeat (first | with_reducible assumption | with_reducible exact HL9.out | with_reducible refine Below.drew ?_ | with_reducible refine keepP ?_ _))
            (first
              | (go_at_call 26; (with_reducible refine (HRE.out _ (by repeat (first | with_reducible assumption | with_reducible exact HL9.out | with_reducible refine Below.drew ?_ | with_reducible refine keepP ?_ _)) _ (by first | with_reducible exact HLP.out | with_reducible exact HLD.out)).mono ?_); rintro e2 y2 ⟨ar, cr, rfl, hor, hS2⟩)
              | fail "no arm")
          have HS2 := Lib.hid hS2
          have HOR := Lib.hid hor
          have HM2 := Lib.hid (HM9.out.below hS2 HM9.out.lt)
          have HO2 := Lib.hid (owns_below HO9.out hS2)
          have HB2 := Lib.hid (HB9.out.trans (hS2.mono HB9.out.size))
          have HRO : Hid ((tk y k).length + 1 = (tk y (k + 1)).length) := Lib.hid (by rw [HTK.out]; simp)
          have HGL9 := Lib.hid HM9.out.lt
          clear hS2 hor z0 p0 HO9 HM9 HB9 HRE HLP HLD HL9
          have HKN0 : Hid (Kn2 P (tk y k) x 0 m) := Lib.hid (HKN.out.two x)
          have hn1l : n1 ≤ P.length := by rw [Hn1.out]; exact reach_le _ _
          have hn1z : (n1 : Int) ≤ 16 := by omega
          go_wp2_with fail
          go_loopw [11] (fun i2 wz => ∃ (j : Nat) (m2 : List Bool), j ≤ n1 ∧ i2 = .int .i64 j ∧ Hid (Kn2 P (tk y k) x j m2) ∧ Hid (Blk wz g 4 (marksA m2)) ∧ Hid (wz.ownsRow w9.heap.size 3 1 (.slice ar n1 cr) (reachP P [x]).length ((reachP P [x]).flatMap encI)) ∧ Hid (wz.ownsRow W4.heap.size 3 1 (.slice (some ⟨g9, 0, none⟩) (tk y k ++ [x]).length c9) (tk y k ++ [x]).length ((tk y k ++ [x]).flatMap encI)) ∧ Hid (Below W4.heap.size W4 wz) ∧ Hid (g < w9.heap.size)) (fun i2 _ => n1 - (intOf i2).toNat)
          case atStart => exact ⟨0, m, Nat.zero_le _, rfl, HKN0, HM2, HOR, HO2, HB2, HGL9⟩
          case round =>
            clear HM2 HOR HO2 HB2 HKN0 HS2
            obtain ⟨j, m2, hj, rfl, HK2, HM2, HOR, HO2, HB2, HGL⟩ := hrel
            by_cases hjl : j < n1
            · have hjz : (j : Int) < (n1 : Int) := by omega
              have hjr : j < (reachP P [x]).length := by rw [← Hn1.out]; exact hjl
              obtain ⟨b7, off7, cap7, he, hbl7, hlz7, q0⟩ := at_int (IsInts.owned (by have := HOR.out; rw [Hn1.out] at this; exact this)) j hjr
              rw [← Hn1.out] at he
              injection he with he1 he2 he3
              subst he1 he3
              clear he2
              have hmem := mem_reach.1 (List.getElem_mem hjr)
              obtain ⟨jj, hjj⟩ : ∃ jj : Nat, (reachP P [x])[j] = (jj : Int) := ⟨_, (Int.toNat_of_nonneg hmem.1).symm⟩
              rw [hjj] at hmem q0
              have hju : usedB P (jj : Int) = true := by rw [usedB_nat]; have := hmem.2.used; rwa [show ((jj : Int)).toNat = jj by omega] at this
              have hjp : jj < P.length := by have := (usedB_lt hju).2; omega
              have hjpz : (jj : Int) < (P.length : Int) := by omega
              have HNX : Hid (Kn2 P (tk y k) x (j + 1) (m2.set jj true)) := Lib.hid (HK2.out.next hjr hjj hjp)
              have HU := Lib.hid (fun wx (hx : Below wr.heap.size wr wx) => (rused_w (.slice a0 P.length c0) P (jj : Int) wx (HSP.out.below (HB2.out.trans (hx.mono HB2.out.size)))).mono fun e w' (h : _ ∧ _) => (⟨by rw [h.1, hju], hx.trans (h.2.mono hx.size)⟩ : e = .returned (.bool true) ∧ Below wr.heap.size wr w'))
              have q0 := cell_all q0
              have m0 := cell_all (HM2.out.c0 jj _ (marks_get (by rw [HK2.out.1]; exact hjp)))
              have p0 := fun wx (hx : Below wr.heap.size wr wx) => HH0.out wx (HB2.out.trans (hx.mono HB2.out.size))
              have HLZ : Hid (Below wr.heap.size wr wr) := Lib.hid (Below.refl _ _)
              clear hmem hjj hju
              go_wp2_with fail
              go_region_held3 (fun wx => Below wr.heap.size wr wx)
                (repeat (first | with_reducible assumption | with_reducible exact HLZ.out | with_reducible refine Below.drew ?_))
                (first
                  | (go_at_call 34; (with_reducible refine (HU.out _ (by repeat (first | with_reducible assumption | with_reducible exact HLZ.out | with_reducible refine Below.drew ?_))).mono ?_); rintro e3 y3 ⟨rfl, hS3⟩)
                  | fail "no arm")
              have HS3 := Lib.hid hS3
              have HM3 := Lib.hid (HM2.out.below hS3 HM2.out.lt)
              have q1 := q0 _ hS3
              have m1 := m0 _ hS3
              have f1 := HM3.out.free jj
              clear q0 m0 p0 hS3
              go_wp2
              go_roundw
              case rel =>
                refine ⟨j + 1, m2.set jj true, by omega, by go_num, HNX, Lib.hid ?_, Lib.hid (own_other (owns_below HOR.out HS3.out) g jj (.bool true) (fun e => ?_)), Lib.hid (own_other (owns_below HO2.out HS3.out) g jj (.bool true) (fun e => HNE9.out (Option.some.inj e))), Lib.hid ((HB2.out.trans (HS3.out.mono HB2.out.size)).setCell (by exact hge) _), HGL⟩
                · have := HM3.out.setCell jj (.bool true)
                  rw [marks_set] at this
                  exact this
                · have h1 : w9.heap.size ≤ b7 := (HOR.out.lt b7 rfl).1
                  have h2 := HGL.out
                  have h3 : b7 = g := Option.some.inj e
                  omega
              case measure => simp [intOf]; omega
            · obtain rfl : j = n1 := by omega
              have HK1 : Hid (Kn P (tk y (k + 1)) m2) := Lib.hid (by have := HK2.out; rw [Hn1.out] at this; rw [HTK.out]; exact this.one)
              go_wp2
              go_roundw
              case rel =>
                refine ⟨k + 1, g9, c9, m2, by omega, by go_num, ?_, ?_, HNE9, HM2, HK1, HB2⟩
                · rw [← HRO.out]
                · rw [HTK.out]; exact HO2
              case measure => simp [intOf]; omega
        · obtain rfl : k = y.length := by omega
          rw [tk_all] at HR HKN
          rw [tk_all]
          have HRI := Lib.hid (IsInts.owned HR.out)
          have p0 := HH0.out wr HB.out
          obtain ⟨n3, hn3⟩ : ∃ n3, n3 = (reachP P y).length := ⟨_, rfl⟩
          have hn3l : (n3 : Int) ≤ (P.length : Int) := by have := reach_le P y; omega
          have Hn3 := Lib.hid hn3
          have HRE : Hid (Calls Try.prog 26 #[poolV (.slice a0 P.length c0), .slice (some ⟨g8, 0, none⟩) y.length c8] wr fun e w' => ∃ a c, e = .returned (.slice a n3 c) ∧ IsInts w' (.slice a n3 c) (reachP P y) ∧ Below wr.heap.size wr w') := Lib.hid ((HREA.out y wr HB.out _ HRI.out).mono fun e w' h => by
            obtain ⟨v', h1, h2, h3⟩ := h
            obtain ⟨a, c, rfl⟩ := own_sl h2
            rw [← hn3] at h1
            refine ⟨a, c, h1, ?_, h3⟩
            rw [hn3]
            exact IsInts.owned h2)
          clear hn3
          go_wp2_with fail
          refine HRE.out.mono ?_
          rintro e w12 ⟨a12, c12, rfl, hi12, hb12⟩
          have HI12 := Lib.hid hi12
          have HB12 : Hid (Below W4.heap.size W4 w12) := Lib.hid (HB.out.trans (hb12.mono HB.out.size))
          have HM12 := Lib.hid (HM.out.below hb12 HM.out.lt)
          clear hi12 hb12 p0 HRE HRI HR HM HB
          have HNIL : Hid (∀ wx, Below W4.heap.size W4 wx → Calls Try.prog 26 #[poolV (.slice a0 P.length c0), .slice none 0 0] wx fun e w' => ∃ a c, e = .returned (.slice a 0 c) ∧ Below wx.heap.size wx w') := Lib.hid (fun wx hx => (HREA.out [] wx hx _ (IsInts.nil wx)).mono fun e w' h => by
            obtain ⟨v', h1, h2, h3⟩ := h
            obtain ⟨a, c, rfl⟩ := own_sl h2
            rw [reach_nil] at h1
            exact ⟨a, c, h1, h3⟩)
          go_wp2_with fail
          go_loopw [13] (fun i wr => ∃ k : Nat, k ≤ P.length ∧ i = .int .i64 k ∧ Hid (Below w12.heap.size w12 wr)) (fun i _ => P.length - (intOf i).toNat)
          case atStart => exact ⟨0, Nat.zero_le _, rfl, Lib.hid (Below.refl _ _)⟩
          case round =>
            obtain ⟨k, hk, rfl, HBL⟩ := hrel
            have HBr : Hid (Below W4.heap.size W4 wr) := Lib.hid (HB12.out.trans (HBL.out.mono HB12.out.size))
            by_cases hlt : k < P.length
            · have hltz : (k : Int) < (P.length : Int) := by omega
              have HMr := Lib.hid (HM12.out.below HBL.out HM12.out.lt)
              have hkn := HKN.out.2 k
              obtain ⟨q, hq⟩ : ∃ q, mkd m k = q := ⟨_, rfl⟩
              have m0 := cell_all (HMr.out.c0 k _ (marks_get (by rw [HKN.out.1]; exact hlt)))
              rw [hq] at m0 hkn
              have HKQ := Lib.hid hkn
              have hdec : decide ((k : Int) ∈ reachP P y) = q := by
                rw [Bool.eq_iff_iff, decide_eq_true_iff, mem_reachN]; exact hkn.symm
              have HH := Lib.hid (fun wx (hx : Below wr.heap.size wr wx) => (has_w (.slice a12 n3 c12) (reachP P y) (k : Int) wx (HI12.out.below (HBL.out.trans (hx.mono HBL.out.size)))).mono fun e w' (h : _ ∧ _) => (⟨by rw [h.1, hdec], h.2 ▸ hx⟩ : e = .returned (.bool q) ∧ Below wr.heap.size wr w'))
              have HLZ : Hid (Below wr.heap.size wr wr) := Lib.hid (Below.refl _ _)
              clear hkn hdec hq
              have hqq : (q != q) = false := by cases q <;> rfl
              go_wp2_with fail
              go_region_held3 (fun wx => Below wr.heap.size wr wx)
                (repeat (first | with_reducible assumption | with_reducible exact HLZ.out | with_reducible refine Below.drew ?_))
                (first
                  | (go_at_call 35; (with_reducible refine (HH.out _ (by repeat (first | with_reducible assumption | with_reducible exact HLZ.out | with_reducible refine Below.drew ?_))).mono ?_); rintro e3 y3 ⟨rfl, hS3⟩)
                  | fail "no arm")
              have HB3 : Hid (Below w12.heap.size w12 y3) := Lib.hid (HBL.out.trans (hS3.mono HBL.out.size))
              have HBW : Hid (Below W4.heap.size W4 y3) := Lib.hid (HBr.out.trans (hS3.mono HBr.out.size))
              have hh1 := HH0.out _ HBW.out
              obtain ⟨bb, off, cap', s, he, hbl, hlz, hs, x0, x1, x2, x3, x4, x5, x6, x7⟩ := slot_at (HSP.out.below HBW.out) k hlt
              injection he with he1 he2 he3
              subst he1 he3
              clear he2 x0 x1 x2 x3 x4 x6 x7 hbl
              obtain ⟨ka, kc, hke, -⟩ := hs.kids.slice
              have HKI := Lib.hid hs.kids
              rw [hke] at HKI x5
              have m1 := m0 _ hS3
              have HM3 := Lib.hid (HMr.out.below hS3 HMr.out.lt)
              clear hs hke m0 hS3
              obtain ⟨K, hK⟩ : ∃ K, K = (atP P k).node.kids := ⟨_, rfl⟩
              have HK := Lib.hid hK
              rw [← hK] at HKI x5
              clear hK
              go_wp2_with fail
              go_loop [14] (fun i2 => ∃ j : Nat, j ≤ K.length ∧ i2 = .int .i64 j) (fun i2 => K.length - (intOf i2).toNat)
              case atStart => exact ⟨0, Nat.zero_le _, rfl⟩
              case round =>
                obtain ⟨j, hj, rfl⟩ := hrel
                by_cases hjl : j < K.length
                · have hjz : (j : Int) < (K.length : Int) := by omega
                  obtain ⟨b8, off8, cap8, he, hbl8, hlz8, z0⟩ := at_int HKI.out j hjl
                  injection he with he1 he2 he3
                  subst he1 he3
                  clear he2
                  have hku : (atP P k).used = true := by
                    by_cases hu : (atP P k).used = true
                    · exact hu
                    · have e := HGD.out.tidy.clean k (by simpa using hu)
                      have e2 := HK.out
                      rw [e] at e2
                      rw [e2] at hjl
                      exact absurd hjl (Nat.not_lt_zero _)
                  have hkm : K[j] ∈ (atP P k).node.kids := by rw [← HK.out]; exact List.getElem_mem hjl
                  have hkd := HGD.out.fair.all _ (List.mem_append_right _ (mem_kidsA.2 ⟨k, hku, hkm⟩))
                  obtain ⟨hk0, hk1⟩ := usedB_lt hkd
                  obtain ⟨kk, hkk⟩ : ∃ kk : Nat, K[j] = (kk : Int) := ⟨_, (Int.toNat_of_nonneg hk0).symm⟩
                  have HRK : Hid (Rch P y k → mkd m kk = true) := Lib.hid (fun h => (HKN.out.2 kk).2 (by have := Rch.kid h hkm hkd; rwa [hkk, show ((kk : Int)).toNat = kk by omega] at this))
                  rw [hkk] at z0 hk1
                  have hkl : kk < P.length := by omega
                  have hklz : (kk : Int) < (P.length : Int) := by omega
                  clear hku hkm hkd hk0 hkk hk1
                  cases q
                  · go_wp2
                    go_round
                    case rel => exact ⟨j + 1, by omega, by go_num⟩
                    case measure => simp [intOf]; omega
                  · have m2 : y3.cell? ⟨g, kk, none⟩ = some (.bool true) := by
                      have := HM3.out.c0 kk _ (marks_get (by rw [HKN.out.1]; exact hkl))
                      rwa [HRK.out (HKQ.out.1 (by simp))] at this
                    go_wp2
                    go_round
                    case rel => exact ⟨j + 1, by omega, by go_num⟩
                    case measure => simp [intOf]; omega
                · obtain rfl : j = K.length := by omega
                  go_wp2
                  go_roundw
                  case rel => exact ⟨k + 1, by omega, by go_num, HB3⟩
                  case measure => simp [intOf]; omega
            · obtain rfl : k = P.length := by omega
              have p0 := HH0.out wr HBr.out
              go_wp2_with fail
              refine (HNIL.out _ HBr.out).mono ?_
              rintro e w14 ⟨a14, c14, rfl, hb14⟩
              have HB14 := Lib.hid (HBr.out.trans (hb14.mono HBr.out.size))
              clear hb14
              go_wp2
              go_ret
              exact ⟨rfl, HG.out.trans (HB14.out.mono HG.out.size)⟩

end Go.Proofs.Ytlgangcldlphnaa
