/-
  Walks: the law PoolShares (gen_qw.py).
-/
import Derived.Test.YtlgangcldlphnaaQV
namespace Go.Proofs.Ytlgangcldlphnaa
open Go.RowKit Go.Sort
set_option linter.unusedVariables false
set_option maxRecDepth 100000

def RootR (W4 : World) (root : Int) (P : List Sl) (a0 : Option Addr) (c0 : Nat) (s8 s9 : Value) (wx : World) : Prop := ∃ b9, s8 = .int .i64 root ∧ s9 = .pointer (some ⟨b9, 0, none⟩) ∧ W4.heap.size ≤ b9 ∧ Blk wx b9 29 #[.slice a0 P.length c0] ∧ Below W4.heap.size W4 wx
def DropR (wr : World) (P : List Sl) (X : List Int) (s12 s11 : Value) (wx : World) : Prop := ∃ b a c Q, s12 = .int .i64 0 ∧ s11 = .pointer (some ⟨b, 0, none⟩) ∧ wr.heap.size ≤ b ∧ Blk wx b 29 #[.slice a P.length c] ∧ IsSlots wx (.slice a P.length c) Q ∧ Good Q X 16 ∧ Less P Q ∧ Below wr.heap.size wr wx
theorem DropR.fresh {wr wx : World} {P Q : List Sl} {X : List Int} {a : Option Addr} {c : Nat} (hs : IsSlots wx (.slice a P.length c) Q) (hg : Good Q X 16) (hl : Less P Q) (hb : Below wr.heap.size wr wx) :
    DropR wr P X (.int .i64 0) (.pointer (some ⟨wx.heap.size, 0, none⟩)) (wx.alloc (.cells #[.slice a P.length c] 29)) :=
  ⟨_, _, _, Q, rfl, rfl, hb.size, Blk.new _ _ _, hs.below (below_box _), hg, hl, keepP hb _⟩
theorem DropR.stored {wr wx : World} {P Q : List Sl} {X : List Int} {a z : Option Addr} {c b m k : Nat} (hz : Blk wx b 29 #[.slice z m k]) (hs : IsSlots wx (.slice a P.length c) Q) (hg : Good Q X 16) (hl : Less P Q) (hb : Below wr.heap.size wr wx) (hle : wr.heap.size ≤ b) :
    DropR wr P X (.int .i64 0) (.pointer (some ⟨b, 0, none⟩)) (wx.setCell ⟨b, 0, none⟩ (.slice a P.length c)) :=
  ⟨_, _, _, Q, rfl, rfl, hle, hz.setCell 0 _, slots_butS hs hg.bare (onlyS1 hz) (ButP.setCell _ _ _ _), hg, hl, hb.setCell (p := ⟨b, 0, none⟩) hle _⟩
def ReachR (wr : World) (L : List Int) (n : Nat) (s13 s14 : Value) (wx : World) : Prop := ∃ a c a' c', s13 = .slice a n c ∧ s14 = .slice a' n c' ∧ IsInts wx (.slice a n c) L ∧ IsInts wx (.slice a' n c') L ∧ Below wr.heap.size wr wx
theorem g_reach {v u : Value} {P : List Sl} {W : List Int} {n : Nat} {w : World} (hl : P.length ≤ 1000) (hn : n = (reachP P W).length) (h : IsSlots w v P) (hu : IsInts w u W) :
    Calls Try.prog 26 #[poolV v, u] w fun e w' => ∃ a c, e = .returned (.slice a n c) ∧ IsInts w' (.slice a n c) (reachP P W) ∧ Below w.heap.size w w' :=
  (reach_w v u P W w h hu (by omega)).mono fun e w' ⟨v', h1, h2, h3⟩ => by
    obtain ⟨a, c, rfl⟩ := own_sl h2
    subst hn
    exact ⟨a, c, h1, IsInts.owned h2, h3⟩
set_option maxHeartbeats 16000000 in
theorem poolShares_walk (w : World) (v0 : Value) (l : List R4) (r0 : IsRaws w v0 l) (v1 : Value) (yb : Nat) (r1 : v1 = .int .u8 yb ∧ yb < 256) :
    Calls Try.prog 6 #[v0, v1] w fun e w' => e = .returned (.bool true) ∧ Below w.heap.size w w' := by
  have mixed := mixedA
  obtain ⟨rfl, hyb⟩ := r1
  have HR0 := Lib.hid r0
  obtain ⟨-, ra, rc, rfl, -⟩ := r0
  go_enter Try.func6, Try.ntmps6
  go_wp2_with fail
  refine (lsan_w _).mono ?_
  rintro e w1 ⟨rfl, hb⟩
  have HG := Lib.hid hb
  clear hb
  go_wp2_with fail
  refine (play_w (.slice ra l.length rc) l 16 w1 (HR0.out.below HG.out) (by decide)).mono ?_
  rintro e w2 ⟨v', u', rfl, hs, hu, hb⟩
  obtain ⟨a0, c0, rfl, hpl, hpc, hpm⟩ := hs.slice
  obtain ⟨a1, c1, rfl, hrl, -⟩ := hu.slice
  have HGD : Hid (Good (playX (l.take 16)).1 (playX (l.take 16)).2 16) := Lib.hid ((good_play (l.take 16) (by rw [List.length_take]; omega)).mono (by rw [List.length_take]; omega))
  replace HG := Lib.hid (HG.out.trans (hb.mono HG.out.size))
  have HSP := Lib.hid hs
  have HIR := Lib.hid hu
  clear hs hu hb HR0
  generalize (playX (l.take 16)).1 = P at *
  generalize (playX (l.take 16)).2 = R at *
  have hpn : P.length ≤ 16 := HGD.out.plen
  have hrn : R.length ≤ 16 := HGD.out.rlen
  obtain ⟨W4, hW4⟩ : ∃ W4, W4 = w2.alloc (.cells #[.slice a0 P.length c0, .slice a1 R.length c1] 32) := ⟨_, rfl⟩
  have HB4 : Hid (Below w2.heap.size w2 W4) := Lib.hid (by rw [hW4]; exact below_box _)
  have HXH : Hid (Blk W4 w2.heap.size 32 #[.slice a0 P.length c0, .slice a1 R.length c1]) := Lib.hid (by rw [hW4]; exact Blk.new _ _ _)
  have HW4 := Lib.hid hW4
  replace HSP := Lib.hid (HSP.out.below HB4.out)
  replace HIR := Lib.hid (HIR.out.below HB4.out)
  replace HG := Lib.hid (HG.out.trans (HB4.out.mono HG.out.size))
  clear HB4 hW4
  by_cases hr0 : R.length = 0
  · have hlz : ((R.length : Int) == 0) = true := by rw [hr0]; rfl
    have HW4b := HW4
    clear hr0
    go_wp2
    go_ret
    rw [← HW4b.out]
    exact ⟨rfl, HG.out⟩
  · have hlp : 0 < R.length := by omega
    have hlz : ((R.length : Int) == 0) = false := beq_false_of_ne (by omega)
    clear hr0
    obtain ⟨k, hk⟩ : ∃ k : Nat, k = yb % R.length := ⟨_, rfl⟩
    have hkl : k < R.length := by rw [hk]; exact Nat.mod_lt _ hlp
    have hrz : (yb : Int) % (R.length : Int) = (k : Int) := by rw [hk]; exact (Int.natCast_emod yb R.length).symm
    have hrt : (yb : Int).tmod (R.length : Int) = (k : Int) := by rw [Int.tmod_eq_emod_of_nonneg (by omega)]; exact hrz
    have hyw : IntKind.i64.wrap (yb : Int) = (yb : Int) := IntWalk.i64_in _ (by omega)
    have hkw : IntKind.i64.wrap (k : Int) = (k : Int) := IntWalk.i64_in _ (by omega)
    have hn0 : ¬ ((R.length : Int) = 0) := by omega
    have hrn : ¬ (R = []) := List.length_pos_iff.1 hlp
    have hn1 : ¬ ((R.length : Int) = -1) := by omega
    have hklz : (k : Int) < (R.length : Int) := by omega
    obtain ⟨b5, off5, cap6, he, hbl5, hlz5, zk⟩ := at_int HIR.out k hkl
    injection he with he1 he2 he3
    subst he1 he3
    clear he2 hk
    have HD0 : Hid (Good P (R[k] :: othR R k 0) 16) := Lib.hid (HGD.out.perm (oth_zero hkl))
    have HRK : Hid (R[k] :: othR R k 0 = R[k] :: othR R k 0) := Lib.hid rfl
    obtain ⟨root, hroot⟩ : ∃ root, root = R[k] := ⟨_, rfl⟩
    rw [← hroot] at zk HD0
    have HRT := Lib.hid hroot
    clear hroot HRK
    have hh0 := cell_all (HXH.out.c0 0 _ rfl)
    have hh1 := cell_all (HXH.out.c0 1 _ rfl)
    have zk := cell_all zk
    have HLW : Hid (Below W4.heap.size W4 W4) := Lib.hid (Below.refl _ _)
    have h00 := hh0 _ HLW.out
    have h10 := hh1 _ HLW.out
    rw [HW4.out] at h00 h10
    go_upto_region 6 with fail
    rw [← HW4.out]
    clear h00 h10 hrz hrt hyw hn0 hrn hn1 hlz
    go_cut [8, 9] (fun s8 s9 wx => Hid (RootR W4 root P a0 c0 s8 s9 wx))
    case first =>
      go_region_held3 (fun wx => Below W4.heap.size W4 wx)
        (repeat (first | with_reducible assumption | with_reducible exact HLW.out | with_reducible refine Below.drew ?_ | with_reducible refine keepP ?_ _ | with_reducible refine keepQ ?_ _ (Nat.le_refl _) _))
        (fail "no arm")
      all_goals (go_wp2_with fail; go_meet)
      all_goals
        first
        | exact Lib.hid ⟨_, rfl, rfl, Nat.le_refl _, Blk.new _ _ _, keepP (Below.refl _ _) _⟩
        | exact Lib.hid ⟨_, rfl, rfl, Nat.le_refl _, (show Blk (World.drew _) _ _ _ from Blk.new _ _ _), (keepP (Below.refl _ _) _).drew⟩
    case rest =>
      obtain ⟨b9, rfl, rfl, hle9, hX9, hB9⟩ := hcut.out
      have HX9 := Lib.hid hX9
      have HB9 := Lib.hid hB9
      have HS9 := Lib.hid (HSP.out.below hB9)
      have HLS := Lib.hid (Less.refl P)
      clear hcut hX9 hB9 HLW zk
      go_wp2_with fail
      go_loopw [10] (fun i wr => ∃ (j : Nat) (Q : List Sl) (aq : Option Addr) (cq : Nat), j ≤ R.length ∧ i = .int .i64 j ∧ Hid (Good Q (root :: othR R k j) 16) ∧ Hid (Less P Q) ∧ Hid (Blk wr b9 29 #[.slice aq P.length cq]) ∧ Hid (IsSlots wr (.slice aq P.length cq) Q) ∧ Hid (Below W4.heap.size W4 wr)) (fun i _ => R.length - (intOf i).toNat)
      case atStart => exact ⟨0, P, a0, c0, Nat.zero_le _, rfl, HD0, HLS, HX9, HS9, HB9⟩
      case round =>
        clear HD0 HLS HX9 HS9 HB9
        obtain ⟨j, Q, aq, cq, hj, rfl, HGQ, HLS, HXQ, HSQ, HB⟩ := hrel
        have hq0 := hh0 _ HB.out
        have hq1 := hh1 _ HB.out
        have hlq : Q.length = P.length := HLS.out.1.symm
        by_cases hjl : j < R.length
        · have hjz : (j : Int) < (R.length : Int) := by omega
          by_cases hjk : j = k
          · have hje : ((j : Int) == (k : Int)) = true := by rw [hjk]; simp
            have HGN : Hid (Good Q (root :: othR R k (j + 1)) 16) := Lib.hid (by have := HGQ.out; rw [hjk, oth_same hkl] at this; rw [hjk]; exact this)
            clear hjk
            go_wp2
            go_roundw
            case rel => exact ⟨j + 1, Q, aq, cq, by omega, by go_num, HGN, HLS, HXQ, HSQ, HB⟩
            case measure => simp [intOf]; omega
          · have hje : ((j : Int) == (k : Int)) = false := beq_false_of_ne (by omega)
            have HON := Lib.hid (oth_next hjl hjk)
            obtain ⟨b7, off7, cap7, he, hbl7, hlz7, zj⟩ := at_int (HIR.out.below HB.out) j hjl
            injection he with he1 he2 he3
            injection he1 with he1
            injection he1 with he4 he5
            subst he4 he5 he3
            clear he2 hjk
            obtain ⟨x, hx⟩ : ∃ x, x = R[j] := ⟨_, rfl⟩
            rw [← hx] at zj HON
            rw [HON.out] at HGQ
            clear hx
            have HDR := Lib.hid (fun wx (hx : Below wr.heap.size wr wx) => (g_drop (v := .slice aq P.length cq) (X := root :: othR R k (j + 1)) HGQ.out (List.Perm.swap x root _) (by omega) (HSQ.out.below hx).slF (Below.refl _ _)).mono fun e w' (h : ∃ a c Q', _) => (by
              obtain ⟨a, c, Q', h1, h2, h3, h4⟩ := h
              have hl : Q'.length = P.length := h3.less.1.symm.trans hlq
              rw [hl] at h1 h4
              exact ⟨a, c, Q', h1, h2, HLS.out.trans h3.less, h4.sl.slots h4.bel, hx.trans (h4.bel.mono hx.size), h4.bel⟩ : ∃ a c Q', e = .returned (.tuple #[poolV (.slice a P.length c), .int .i64 0]) ∧ Good Q' (root :: othR R k (j + 1)) 16 ∧ Less P Q' ∧ IsSlots w' (.slice a P.length c) Q' ∧ Below wr.heap.size wr w' ∧ Below wx.heap.size wx w'))
            have hp0 := HXQ.out.c0 0 _ rfl
            have hp0 := cell_all hp0
            have zj := cell_all zj
            have hB1 := fun wx (hx : Below wr.heap.size wr wx) => hh1 wx (HB.out.trans (hx.mono HB.out.size))
            go_upto_region 11 with fail
            go_cut [11, 12] (fun s11 s12 wx => Hid (DropR wr P (root :: othR R k (j + 1)) s12 s11 wx))
            case first =>
              have HLW : Hid (Below wr.heap.size wr wr) := Lib.hid (Below.refl _ _)
              go_region_held3 (fun wx => Below wr.heap.size wr wx)
                (repeat (first | with_reducible assumption | with_reducible exact HLW.out | with_reducible refine Below.drew ?_ | with_reducible refine keepP ?_ _ | with_reducible refine keepQ ?_ _ (Nat.le_refl _) _))
                (first
                  | (go_at_call 28; (with_reducible refine (HDR.out _ (by repeat (first | with_reducible assumption | with_reducible exact HLW.out | with_reducible refine Below.drew ?_ | with_reducible refine keepP ?_ _))).mono ?_); rintro e2 y2 ⟨a3, c3, Q3, rfl, hg3, hl3, hs3, hS3, hT3⟩; (first | (have hz := blk_made hT3; have q0 := hz.c0 0 _ rfl; have f0 := hz.free 0) | (have hz := blk_madeP hT3; have q0 := hz.c0 0 _ rfl; have f0 := hz.free 0) | skip))
                  | fail "no arm")
              all_goals (go_wp2_with fail; go_meet)
              all_goals
                first
                | exact Lib.hid (DropR.fresh hs3 hg3 hl3 hS3)
                | exact Lib.hid (DropR.stored hz hs3 hg3 hl3 hS3 (Nat.le_refl _))
            case rest =>
              obtain ⟨b11, a3, c3, Q3, rfl, rfl, hle11, hX11, hS11, hg3, hl3, hB11⟩ := hcut.out
              have HXC := Lib.hid (HXQ.out.below hB11 HXQ.out.lt)
              have f0 := HXC.out.free 0
              have q0 := HXC.out.c0 0 _ rfl
              have p0 := hX11.c0 0 _ rfl
              have HS11 := Lib.hid hS11
              have HG3 := Lib.hid hg3
              have HL3 := Lib.hid hl3
              have HB11 := Lib.hid hB11
              clear hcut hX11 hS11 hg3 hl3 hB11 hp0 zj hB1 hq0 hq1 HDR
              go_wp2
              go_roundw
              case rel =>
                exact ⟨j + 1, Q3, a3, c3, by omega, by go_num, HG3, HL3, Lib.hid (HXC.out.setCell 0 _), Lib.hid (slots_butS HS11.out HG3.out.bare (onlyS1 HXC.out) (ButP.setCell _ _ _ _)), Lib.hid ((HB.out.trans (HB11.out.mono HB.out.size)).setCell (p := ⟨b9, 0, none⟩) hle9 _)⟩
              case measure => simp [intOf]; omega
        · obtain rfl : j = R.length := by omega
          rw [oth_end hkl] at HGQ
          obtain ⟨n, hn⟩ : ∃ n, n = (reachP P [root]).length := ⟨_, rfl⟩
          have hrs : reachP Q [root] = reachP P [root] := reach_same HLS.out HGQ.out.fair
          have hlv : liveP Q = n := by rw [live_reach HGQ.out, hrs, hn]
          have HN := Lib.hid hn
          have hnl : n ≤ 16 := by have := reach_le P [root]; omega
          have HR1 : Hid (∀ wx, Below wr.heap.size wr wx → ∀ u, IsInts wx u [root] → Calls Try.prog 26 #[poolV (.slice a0 P.length c0), u] wx fun e w' => ∃ a c, e = .returned (.slice a n c) ∧ IsInts w' (.slice a n c) (reachP P [root]) ∧ Below wr.heap.size wr w' ∧ Below wx.heap.size wx w') := Lib.hid (fun wx hx u hu => (g_reach (by omega) hn (HSP.out.below (HB.out.trans (hx.mono HB.out.size))) hu).mono fun e w' h => by
            obtain ⟨a, c, h1, h2, h3⟩ := h
            exact ⟨a, c, h1, h2, hx.trans (h3.mono hx.size), h3⟩)
          have HR2 : Hid (∀ wx, Below wr.heap.size wr wx → ∀ u, IsInts wx u [root] → ∀ v, IsInts wx v (reachP P [root]) → Calls Try.prog 26 #[poolV (.slice aq P.length cq), u] wx fun e w' => ∃ a c, e = .returned (.slice a n c) ∧ IsInts w' (.slice a n c) (reachP P [root]) ∧ Below wr.heap.size wr w' ∧ IsInts w' v (reachP P [root])) := Lib.hid (fun wx hx u hu v hv => (g_reach (P := Q) (W := [root]) (n := n) (by omega) (by rw [hrs]; exact hn) (HSQ.out.below hx) hu).mono fun e w' h => by
            obtain ⟨a, c, h1, h2, h3⟩ := h
            rw [hrs] at h2
            exact ⟨a, c, h1, h2, hx.trans (h3.mono hx.size), hv.below h3⟩)
          have HLV := Lib.hid hlv
          clear hrs hlv hn
          have hp0 := cell_all (HXQ.out.c0 0 _ rfl)
          have hB0 := fun wx (hx : Below wr.heap.size wr wx) => hh0 wx (HB.out.trans (hx.mono HB.out.size))
          have A0 : Hid (IsInts (wr.alloc (.cells #[.int .i64 root] 3)) (.slice (some ⟨wr.heap.size, 0, none⟩) 1 1) [root]) := Lib.hid (isInts_lit [root] rfl (by simp) (by simp))
          have A1 : Hid (IsInts (wr.alloc (.cells #[.int .i64 root] 3)).drew (.slice (some ⟨wr.heap.size, 0, none⟩) 1 1) [root]) := Lib.hid (A0.out.below (below_drewN _ 1))
          have B0 : Hid (IsInts ((wr.alloc (.cells #[.int .i64 root] 3)).alloc (.cells #[.int .i64 root] 3)) (.slice (some ⟨wr.heap.size, 0, none⟩) 1 1) [root]) := Lib.hid (A0.out.below (below_box _))
          have B1 : Hid (IsInts ((wr.alloc (.cells #[.int .i64 root] 3)).alloc (.cells #[.int .i64 root] 3)) (.slice (some ⟨wr.heap.size + 1, 0, none⟩) 1 1) [root]) := Lib.hid (isInts_lit (w := wr.alloc (.cells #[.int .i64 root] 3)) [root] (by simp) (by simp) (by simp))
          have B2 : Hid (IsInts ((wr.alloc (.cells #[.int .i64 root] 3)).alloc (.cells #[.int .i64 root] 3)).drew (.slice (some ⟨wr.heap.size, 0, none⟩) 1 1) [root]) := Lib.hid (B0.out.below (below_drewN _ 1))
          have B3 : Hid (IsInts ((wr.alloc (.cells #[.int .i64 root] 3)).alloc (.cells #[.int .i64 root] 3)).drew (.slice (some ⟨wr.heap.size + 1, 0, none⟩) 1 1) [root]) := Lib.hid (B1.out.below (below_drewN _ 1))
          go_upto_region 15 with fail
          go_cut [13, 14] (fun s13 s14 wx => Hid (ReachR wr (reachP P [root]) n s13 s14 wx))
          case first =>
            have HLW : Hid (Below wr.heap.size wr wr) := Lib.hid (Below.refl _ _)
            go_region_held3 (fun wx => Below wr.heap.size wr wx)
              (repeat (first | with_reducible assumption | with_reducible exact HLW.out | with_reducible refine Below.drew ?_ | with_reducible refine keepP ?_ _))
              (first
                | (go_at_call_of 26 (Value.agg #[Value.slice a0 P.length c0]); (with_reducible refine (HR1.out _ (by repeat (first | with_reducible assumption | with_reducible exact HLW.out | with_reducible refine Below.drew ?_ | with_reducible refine keepP ?_ _)) _ (by first | with_reducible exact A0.out | with_reducible exact A1.out | with_reducible exact B0.out | with_reducible exact B1.out | with_reducible exact B2.out | with_reducible exact B3.out)).mono ?_); rintro e2 y2 ⟨a3, c3, rfl, hi3, hS3, hT3⟩; (first | (have hlA := B2.out.below hT3; have hlB := B3.out.below hT3) | (have hlA := B0.out.below hT3; have hlB := B1.out.below hT3) | skip))
                | (go_at_call 26; (first | (with_reducible refine (HR2.out _ (by repeat (first | with_reducible assumption | with_reducible exact HLW.out | with_reducible refine Below.drew ?_ | with_reducible refine keepP ?_ _)) _ (by first | with_reducible exact hlA | with_reducible exact hlB) _ (by first | with_reducible exact hi3)).mono ?_) | (have hl0 : IsInts (y2.alloc (.cells #[.int .i64 root] 3)) (.slice (some ⟨y2.heap.size, 0, none⟩) 1 1) [root] := isInts_lit [root] rfl (by simp) (by simp); first | (with_reducible refine (HR2.out _ (by repeat (first | with_reducible assumption | with_reducible exact HLW.out | with_reducible refine Below.drew ?_ | with_reducible refine keepP ?_ _)) _ hl0 _ (hi3.below (below_box _))).mono ?_) | (have hl1 := hl0.below (below_drewN _ 1); with_reducible refine (HR2.out _ (by repeat (first | with_reducible assumption | with_reducible exact HLW.out | with_reducible refine Below.drew ?_ | with_reducible refine keepP ?_ _)) _ hl1 _ ((hi3.below (below_box _)).below (below_drewN _ 1))).mono ?_))); rintro e4 y4 ⟨a5, c5, rfl, hi5, hS5, hi6⟩)
                | fail "no arm")
            all_goals (go_wp2_with fail; go_meet)
            all_goals exact Lib.hid ⟨_, _, _, _, rfl, rfl, hi6, hi5, hS5⟩
          case rest =>
            obtain ⟨a3, c3, a5, c5, rfl, rfl, hi3, hi5, hB15⟩ := hcut.out
            have HI3 := Lib.hid hi3
            have HI5 := Lib.hid hi5
            have HB15 := Lib.hid hB15
            have HX15 := Lib.hid (HXQ.out.below hB15 HXQ.out.lt)
            have HS15 := Lib.hid (HSQ.out.below hB15)
            clear hcut hi3 hi5 hB15 A0 A1 B0 B1 B2 B3 HR1 HR2 hp0 hB0 hq0 hq1
            have p0 := HX15.out.c0 0 _ rfl
            have HIN := Lib.hid (ints_w _ _ _ _ HI3.out HI5.out)
            go_wp2_with fail
            refine HIN.out.mono ?_
            rintro e w16 ⟨rfl, hb16⟩
            have HX16 := Lib.hid (HX15.out.below hb16 HX15.out.lt)
            have p1 := HX16.out.c0 0 _ rfl
            have HB16 := Lib.hid (HB15.out.trans (hb16.mono HB15.out.size))
            have HS16 := Lib.hid (HS15.out.below hb16)
            have HI16 := Lib.hid (HI5.out.below hb16)
            have HLI := Lib.hid (live_w _ Q w16 HS16.out)
            rw [HLV.out] at HLI
            clear hb16 p0 HIN HX15 HS15 HI3 HI5
            go_wp2_with fail
            refine HLI.out.mono ?_
            rintro e w17 ⟨rfl, hb17⟩
            have HX17 := Lib.hid (HX16.out.below hb17 HX16.out.lt)
            have p2 := HX17.out.c0 0 _ rfl
            have HB17 := Lib.hid (HB16.out.trans (hb17.mono HB16.out.size))
            have HS17 := Lib.hid (HS16.out.below hb17)
            have HI17 := Lib.hid (HI16.out.below hb17)
            have HSN := Lib.hid (g_sound (v := .slice aq P.length cq) HGQ.out (by omega) (HS17.out.below (below_box (.cells #[.int .i64 root] 3))) (isInts_lit [root] rfl (by simp) (by simp)))
            have hnn : ((n : Int) != (n : Int)) = false := by simp
            clear hb17 p1 HLI HX16 HS16 HI16
            go_wp2_with fail
            refine HSN.out.mono ?_
            rintro e w18 ⟨rfl, hb18⟩
            have HB7 : Hid (Below w17.heap.size w17 w18) := Lib.hid ((below_box _).trans (hb18.mono (by simp)))
            have HX18 := Lib.hid (HX17.out.below HB7.out HX17.out.lt)
            have HB18 : Hid (Below W4.heap.size W4 w18) := Lib.hid (HB.out.trans ((HB17.out.trans (HB7.out.mono HB17.out.size)).mono HB.out.size))
            have HS18 := Lib.hid (HS17.out.below HB7.out)
            have HI18 := Lib.hid (HI17.out.below HB7.out)
            clear hb18 p2 HSN HX17 HS17 HI17 hnn
            go_wp2_with fail
            go_loopw [15] (fun i wr => ∃ j : Nat, j ≤ n ∧ i = .int .i64 j ∧ Hid (Below w18.heap.size w18 wr)) (fun i _ => n - (intOf i).toNat)
            case atStart => exact ⟨0, Nat.zero_le _, rfl, Lib.hid (Below.refl _ _)⟩
            case round =>
              obtain ⟨j, hj, rfl, HBL⟩ := hrel
              have HBR : Hid (Below W4.heap.size W4 wr) := Lib.hid (HB18.out.trans (HBL.out.mono HB18.out.size))
              by_cases hjl : j < n
              · have hjz : (j : Int) < (n : Int) := by omega
                have hjr : j < (reachP P [root]).length := by rw [← HN.out]; exact hjl
                obtain ⟨b7, off7, cap7, he, hbl7, hlz7, zj⟩ := at_int (HI18.out.below HBL.out) j hjr
                rw [← HN.out] at he
                injection he with he1 he2 he3
                subst he1 he3
                clear he2
                have hmem := mem_reach.1 (List.getElem_mem hjr)
                obtain ⟨jj, hjj⟩ : ∃ jj : Nat, (reachP P [root])[j] = (jj : Int) := ⟨_, (Int.toNat_of_nonneg hmem.1).symm⟩
                rw [hjj] at hmem zj
                have hrch : Rch P [root] jj := by have := hmem.2; rwa [show ((jj : Int)).toNat = jj by omega] at this
                have hup := hrch.used
                have huq := HLS.out.stays HGQ.out.fair hrch
                have hnq := (HLS.out.2 jj huq).2.2
                obtain ⟨nd, hnd⟩ : ∃ nd, nd = (atP P jj).node := ⟨_, rfl⟩
                have HNB : Hid (Bare nd) := Lib.hid (by rw [hnd]; exact HGD.out.bare jj)
                rw [← hnd] at hnq
                have HG1 : Hid (∀ wx, Below wr.heap.size wr wx → Calls Try.prog 19 #[poolV (.slice a0 P.length c0), .int .i64 (jj : Int)] wx fun e w' => ∃ a a1 a2 b b1 b2 c c1 c2 d d1 d2 g g1 g2, e = .returned (.tuple #[.agg #[.slice a a1 a2, .slice b b1 b2, .slice c c1 c2, .slice d d1 d2, .slice g g1 g2], .int .i64 0]) ∧ IsNode w' (.agg #[.slice a a1 a2, .slice b b1 b2, .slice c c1 c2, .slice d d1 d2, .slice g g1 g2]) nd ∧ Below wx.heap.size wx w') := Lib.hid (fun wx hx => by
                  rw [hnd]; exact g_get HGD.out hup (HSP.out.below (HBR.out.trans (hx.mono HBR.out.size))))
                have HG2 : Hid (∀ wx, Below wr.heap.size wr wx → Calls Try.prog 19 #[poolV (.slice aq P.length cq), .int .i64 (jj : Int)] wx fun e w' => ∃ a a1 a2 b b1 b2 c c1 c2 d d1 d2 g g1 g2, e = .returned (.tuple #[.agg #[.slice a a1 a2, .slice b b1 b2, .slice c c1 c2, .slice d d1 d2, .slice g g1 g2], .int .i64 0]) ∧ IsNode w' (.agg #[.slice a a1 a2, .slice b b1 b2, .slice c c1 c2, .slice d d1 d2, .slice g g1 g2]) nd ∧ Below wx.heap.size wx w') := Lib.hid (fun wx hx => by
                  have := g_get (v := .slice aq P.length cq) HGQ.out huq (HS18.out.below (HBL.out.trans (hx.mono HBL.out.size)))
                  rw [hnq] at this
                  exact this)
                have zA := cell_all zj
                have zH := fun wx (hx : Below wr.heap.size wr wx) => hh0 wx (HBR.out.trans (hx.mono HBR.out.size))
                have zP := cell_all ((HX18.out.below HBL.out HX18.out.lt).c0 0 _ rfl)
                clear hmem hjj hrch hup huq hnq hnd zj hjr
                go_upto_region 21 with fail
                go_cut [16, 17] (fun s16 s17 wx => Hid (GetR wr nd s17 s16 wx))
                case first =>
                  have HLW : Hid (Below wr.heap.size wr wr) := Lib.hid (Below.refl _ _)
                  have HNQ : True := trivial
                  have HGE := Lib.hid (fun wx (hx : Below wr.heap.size wr wx) => (HG1.out wx hx).mono fun e w' (h : ∃ a a1 a2 b b1 b2 c c1 c2 d d1 d2 g g1 g2, _ ∧ _ ∧ _) => (by
                    obtain ⟨a, a1, a2, b, b1, b2, c, c1, c2, d, d1, d2, g, g1, g2, h1, h2, h3⟩ := h
                    exact ⟨a, a1, a2, b, b1, b2, c, c1, c2, d, d1, d2, g, g1, g2, h1, h2, hx.trans (h3.mono hx.size), h3⟩ : ∃ a a1 a2 b b1 b2 c c1 c2 d d1 d2 g g1 g2, e = .returned (.tuple #[.agg #[.slice a a1 a2, .slice b b1 b2, .slice c c1 c2, .slice d d1 d2, .slice g g1 g2], .int .i64 0]) ∧ IsNode w' (.agg #[.slice a a1 a2, .slice b b1 b2, .slice c c1 c2, .slice d d1 d2, .slice g g1 g2]) nd ∧ Below wr.heap.size wr w' ∧ Below wx.heap.size wx w'))
                  go_region_held3 (fun wx => Below wr.heap.size wr wx)
                    (repeat (first | with_reducible assumption | with_reducible exact HLW.out | with_reducible refine Below.drew ?_ | with_reducible refine keepP ?_ _ | with_reducible refine keepQ ?_ _ (Nat.le_refl _) _))
                    (first
                      | (go_at_call 19; (with_reducible refine (HGE.out _ (by repeat (first | with_reducible assumption | with_reducible exact HLW.out | with_reducible refine Below.drew ?_ | with_reducible refine keepP ?_ _))).mono ?_); rintro e2 y2 ⟨d0, d1, d2, d3, d4, d5, d6, d7, d8, d9, d10, d11, d12, d13, d14, rfl, hn2, hS2, hT2⟩; (first | (have hz := blk_made hT2; have q0 := hz.c0 0 _ rfl; have q1 := hz.c0 1 _ rfl; have q2 := hz.c0 2 _ rfl; have q3 := hz.c0 3 _ rfl; have q4 := hz.c0 4 _ rfl; have f0 := hz.free 0; have f1 := hz.free 1; have f2 := hz.free 2; have f3 := hz.free 3; have f4 := hz.free 4) | (have hz := blk_madeP hT2; have q0 := hz.c0 0 _ rfl; have q1 := hz.c0 1 _ rfl; have q2 := hz.c0 2 _ rfl; have q3 := hz.c0 3 _ rfl; have q4 := hz.c0 4 _ rfl; have f0 := hz.free 0; have f1 := hz.free 1; have f2 := hz.free 2; have f3 := hz.free 3; have f4 := hz.free 4) | skip))
                      | fail "no arm")
                  all_goals (go_wp2_with fail; go_meet)
                  all_goals
                    first
                    | with_reducible exact Lib.hid (GetR.fresh hn2 hS2)
                    | with_reducible exact Lib.hid (GetR.stored hz hn2 HNB.out hS2 (Nat.le_refl _))
                case rest =>
                  obtain ⟨b16, g0, g1, g2, g3, g4, g5, g6, g7, g8, g9, g10, g11, g12, g13, g14, rfl, rfl, hle16, hX16, hN16, hB16⟩ := hcut.out
                  have HX16 := Lib.hid hX16
                  have HN16 := Lib.hid hN16
                  have HB16 := Lib.hid hB16
                  clear hcut hX16 hN16 hB16
                  obtain ⟨wp, hwp⟩ : ∃ wp, wp = wc := ⟨_, rfl⟩
                  subst hwp
                  go_upto_region 22 with fail
                  go_cut [18, 19] (fun s16 s17 wx => Hid (GetR wp nd s17 s16 wx))
                  case first =>
                    have HLW : Hid (Below wp.heap.size wp wp) := Lib.hid (Below.refl _ _)
                    have zA := fun wx (hx : Below wp.heap.size wp wx) => zA wx (HB16.out.trans (hx.mono HB16.out.size))
                    have zP := fun wx (hx : Below wp.heap.size wp wx) => zP wx (HB16.out.trans (hx.mono HB16.out.size))
                    have HGE := Lib.hid (fun wx (hx : Below wp.heap.size wp wx) => (HG2.out wx (HB16.out.trans (hx.mono HB16.out.size))).mono fun e w' (h : ∃ a a1 a2 b b1 b2 c c1 c2 d d1 d2 g g1 g2, _ ∧ _ ∧ _) => (by
                      obtain ⟨a, a1, a2, b, b1, b2, c, c1, c2, d, d1, d2, g, g1, g2, h1, h2, h3⟩ := h
                      exact ⟨a, a1, a2, b, b1, b2, c, c1, c2, d, d1, d2, g, g1, g2, h1, h2, hx.trans (h3.mono hx.size), h3⟩ : ∃ a a1 a2 b b1 b2 c c1 c2 d d1 d2 g g1 g2, e = .returned (.tuple #[.agg #[.slice a a1 a2, .slice b b1 b2, .slice c c1 c2, .slice d d1 d2, .slice g g1 g2], .int .i64 0]) ∧ IsNode w' (.agg #[.slice a a1 a2, .slice b b1 b2, .slice c c1 c2, .slice d d1 d2, .slice g g1 g2]) nd ∧ Below wp.heap.size wp w' ∧ Below wx.heap.size wx w'))
                    go_region_held3 (fun wx => Below wp.heap.size wp wx)
                      (repeat (first | with_reducible assumption | with_reducible exact HLW.out | with_reducible refine Below.drew ?_ | with_reducible refine keepP ?_ _ | with_reducible refine keepQ ?_ _ (Nat.le_refl _) _))
                      (first
                        | (go_at_call 19; (with_reducible refine (HGE.out _ (by repeat (first | with_reducible assumption | with_reducible exact HLW.out | with_reducible refine Below.drew ?_ | with_reducible refine keepP ?_ _))).mono ?_); rintro e2 y2 ⟨d0, d1, d2, d3, d4, d5, d6, d7, d8, d9, d10, d11, d12, d13, d14, rfl, hn2, hS2, hT2⟩; (first | (have hz := blk_made hT2; have q0 := hz.c0 0 _ rfl; have q1 := hz.c0 1 _ rfl; have q2 := hz.c0 2 _ rfl; have q3 := hz.c0 3 _ rfl; have q4 := hz.c0 4 _ rfl; have f0 := hz.free 0; have f1 := hz.free 1; have f2 := hz.free 2; have f3 := hz.free 3; have f4 := hz.free 4) | (have hz := blk_madeP hT2; have q0 := hz.c0 0 _ rfl; have q1 := hz.c0 1 _ rfl; have q2 := hz.c0 2 _ rfl; have q3 := hz.c0 3 _ rfl; have q4 := hz.c0 4 _ rfl; have f0 := hz.free 0; have f1 := hz.free 1; have f2 := hz.free 2; have f3 := hz.free 3; have f4 := hz.free 4) | skip))
                        | fail "no arm")
                    all_goals (go_wp2_with fail; go_meet)
                    all_goals
                      first
                      | with_reducible exact Lib.hid (GetR.fresh hn2 hS2)
                      | with_reducible exact Lib.hid (GetR.stored hz hn2 HNB.out hS2 (Nat.le_refl _))
                  case rest =>
                    obtain ⟨b18, k0, k1, k2, k3, k4, k5, k6, k7, k8, k9, k10, k11, k12, k13, k14, rfl, rfl, hle18, hX18, hN18, hB18⟩ := hcut.out
                    have HN18 := Lib.hid hN18
                    have HB19 := Lib.hid hB18
                    have hx16 := HX16.out.below hB18 HX16.out.lt
                    have q0 := hx16.c0 0 _ rfl
                    have q1 := hx16.c0 1 _ rfl
                    have q2 := hx16.c0 2 _ rfl
                    have q3 := hx16.c0 3 _ rfl
                    have q4 := hx16.c0 4 _ rfl
                    have p0 := hX18.c0 0 _ rfl
                    have p1 := hX18.c0 1 _ rfl
                    have p2 := hX18.c0 2 _ rfl
                    have p3 := hX18.c0 3 _ rfl
                    have p4 := hX18.c0 4 _ rfl
                    have HSM := Lib.hid (samenode_w _ _ nd _ (HN16.out.below hB18) hN18 HNB.out)
                    clear hcut hX18 hN18 hB18 hx16 zA zH zP
                    go_wp2_with fail
                    refine HSM.out.mono ?_
                    rintro e w20 ⟨rfl, hb20⟩
                    have HB20 : Hid (Below w18.heap.size w18 w20) := Lib.hid (HBL.out.trans ((HB16.out.trans ((HB19.out.trans (hb20.mono HB19.out.size)).mono HB16.out.size)).mono HBL.out.size))
                    clear hb20 HSM q0 q1 q2 q3 q4 p0 p1 p2 p3 p4
                    go_wp2
                    go_roundw
                    case rel => exact ⟨j + 1, by omega, by go_num, HB20⟩
                    case measure => simp [intOf]; omega
              · obtain rfl : j = n := by omega
                go_wp2
                go_ret
                exact ⟨rfl, HG.out.trans (HBR.out.mono HG.out.size)⟩

end Go.Proofs.Ytlgangcldlphnaa
