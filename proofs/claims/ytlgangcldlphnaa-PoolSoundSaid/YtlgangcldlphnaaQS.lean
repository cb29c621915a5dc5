/-
  Walks: the law PoolFrees.
-/
import Derived.Test.YtlgangcldlphnaaQR
namespace Go.Proofs.Ytlgangcldlphnaa
open Go.RowKit Go.Sort
set_option linter.unusedVariables false
set_option maxRecDepth 100000

/-- The roots in the order in which the law drops them. -/
def ordD (tb : Bool) (R : List Int) : List Int := if tb then R.reverse else R
theorem ordD_len (tb : Bool) (R : List Int) : (ordD tb R).length = R.length := by unfold ordD; split <;> simp
theorem ordD_perm (tb : Bool) (R : List Int) : R.Perm (ordD tb R) := by
  unfold ordD
  split
  · exact (List.reverse_perm R).symm
  · exact List.Perm.refl R
theorem ordD_fore {R : List Int} {k : Nat} (h : k < R.length) : (ordD false R).drop k = R[k] :: (ordD false R).drop (k + 1) := List.drop_eq_getElem_cons h
theorem ordD_back {R : List Int} {k m : Nat} (h : k < R.length) (hm : m = R.length - 1 - k) (hml : m < R.length) : (ordD true R).drop k = R[m] :: (ordD true R).drop (k + 1) := by
  subst hm
  have h2 : k < (ordD true R).length := by rw [ordD_len]; exact h
  rw [List.drop_eq_getElem_cons h2]
  congr 1
  simp [ordD]
theorem out_off {w0 w w' : World} {v v' : Value} {P' : List Sl} {r : Nat} (h : SlOut w0 w w' v v' P') (hv : P' ≠ [] → v' = v → blkOf v ≠ some r) (hr : r < w.heap.size) : P' ≠ [] → blkOf v' ≠ some r := by
  intro hne e
  rcases h.blk r e with h1 | h1
  · exact hv hne h1 (by rw [← h1]; exact e)
  · omega
theorem ne_nil_len {α β : Type} {P : List α} {Q : List β} (h : P.length = Q.length) (hp : P ≠ []) : Q ≠ [] := fun e => hp (List.length_eq_zero_iff.1 (by rw [h, e]; rfl))
set_option maxHeartbeats 16000000 in
theorem poolFrees_walk (w : World) (v0 : Value) (l : List R4) (r0 : IsRaws w v0 l) (v1 : Value) (tb : Bool) (r1 : v1 = .bool tb) :
    Calls Try.prog 7 #[v0, v1] w fun e w' => e = .returned (.bool true) ∧ Below w.heap.size w w' := by
  have mixed := mixedA
  subst r1
  have HR0 := Lib.hid r0
  obtain ⟨-, ra, rc, rfl, -⟩ := r0
  go_enter Try.func7, Try.ntmps7
  go_wp2_with fail
  refine (lsan_w _).mono ?_
  rintro e w1 ⟨rfl, hb⟩
  have HG := Lib.hid hb
  clear hb
  go_wp2_with fail
  refine (play_w (.slice ra l.length rc) l 16 w1 (HR0.out.below HG.out) (by decide)).mono ?_
  rintro e w2 ⟨v', u', rfl, hs, hu, hb⟩
  obtain ⟨a0, c0, rfl, hpl, hpc, hpm⟩ := hs.slice
  obtain ⟨a1, c1, rfl, hrl, -⟩ := hu.slice
  have HGD : Hid (Good (playX (l.take 16)).1 (playX (l.take 16)).2 16) := Lib.hid ((good_play (l.take 16) (by rw [List.length_take]; omega)).mono (by rw [List.length_take]; omega))
  replace HG := Lib.hid (HG.out.trans (hb.mono HG.out.size))
  have HSP := Lib.hid hs
  have HIR := Lib.hid hu
  clear hs hu hb HR0
  generalize (playX (l.take 16)).1 = P at *
  generalize (playX (l.take 16)).2 = R at *
  have hpn : P.length ≤ 16 := HGD.out.plen
  have hrn : R.length ≤ 16 := HGD.out.rlen
  obtain ⟨W4, hW4⟩ : ∃ W4, W4 = w2.alloc (.cells #[.slice a0 P.length c0, .slice a1 R.length c1] 32) := ⟨_, rfl⟩
  obtain ⟨W5, hW5⟩ : ∃ W5, W5 = W4.alloc (.cells #[.slice a0 P.length c0] 29) := ⟨_, rfl⟩
  have HB4 : Hid (Below w2.heap.size w2 W4) := Lib.hid (by rw [hW4]; exact below_box _)
  have HB5 : Hid (Below W4.heap.size W4 W5) := Lib.hid (by rw [hW5]; exact below_box _)
  have HXH : Hid (Blk W4 w2.heap.size 32 #[.slice a0 P.length c0, .slice a1 R.length c1]) := Lib.hid (by rw [hW4]; exact Blk.new _ _ _)
  have HXP : Hid (Blk W5 W4.heap.size 29 #[.slice a0 P.length c0]) := Lib.hid (by rw [hW5]; exact Blk.new _ _ _)
  have HZ4 : Hid (W4.heap.size = w2.heap.size + 1) := Lib.hid (by rw [hW4]; simp)
  have HF0 : Hid (SlF w2 W5 (.slice a0 P.length c0) P) := Lib.hid ((HSP.out.slF.below HB4.out).below HB5.out)
  have HN0 : Hid (P ≠ [] → blkOf (.slice a0 P.length c0) ≠ some W4.heap.size) := Lib.hid (fun hne e => by have := slots_blk HSP.out hne _ e; have := HZ4.out; omega)
  have HD0 : Hid (Good P ((ordD tb R).drop 0) 16) := Lib.hid (by
    have h := HGD.out
    exact ⟨h.fair.perm (ordD_perm tb R), h.tidy, h.acyc, h.plen, by show (ordD tb R).length ≤ 16; rw [ordD_len]; exact hrn, h.bare, h.kids, h.pairs, h.lost⟩)
  replace HIR := Lib.hid (HIR.out.below HB4.out)
  replace HG := Lib.hid (HG.out.trans (HB4.out.mono HG.out.size))
  have hh0 := HXH.out.c0 0 _ rfl
  have HWA : Hid (W5 = (w2.alloc (.cells #[.slice a0 P.length c0, .slice a1 R.length c1] 32)).alloc (.cells #[.slice a0 P.length c0] 29)) := Lib.hid (by rw [hW5, hW4])
  have HWS : Hid (w2.heap.size + 1 = W4.heap.size) := Lib.hid HZ4.out.symm
  clear hW4 hW5 hh0
  go_upto_region 4 with fail
  rw [← HWA.out, HWS.out]
  go_wp2_with fail
  go_loopw [8] (fun i wr => ∃ (k : Nat) (Q : List Sl) (aq : Option Addr) (cq : Nat), k ≤ R.length ∧ i = .int .i64 k ∧ Hid (Good Q ((ordD tb R).drop k) 16) ∧ Hid (Q.length = P.length) ∧ Hid (Blk wr W4.heap.size 29 #[.slice aq P.length cq]) ∧ Hid (SlF w2 wr (.slice aq P.length cq) Q) ∧ Hid (Q ≠ [] → blkOf (.slice aq P.length cq) ≠ some W4.heap.size) ∧ Hid (Below W4.heap.size W4 wr)) (fun i _ => R.length - (intOf i).toNat)
  case atStart => exact ⟨0, P, a0, c0, Nat.zero_le _, rfl, HD0, Lib.hid rfl, HXP, HF0, HN0, HB5⟩
  case round =>
    clear HD0 HXP HF0 HN0 HB5 HSP
    obtain ⟨k, Q, aq, cq, hk, rfl, HGQ, HLQ, HXQ, HFQ, HNQ, HB⟩ := hrel
    have HBw : Hid (Below w2.heap.size w2 wr) := Lib.hid (HB4.out.trans (HB.out.mono HB4.out.size))
    have hh0 := (HXH.out.below HB.out HXH.out.lt).c0 0 _ rfl
    have hh1 := (HXH.out.below HB.out HXH.out.lt).c0 1 _ rfl
    have hp0 := HXQ.out.c0 0 _ rfl
    by_cases hlt : k < R.length
    · have hltz : (k : Int) < (R.length : Int) := by omega
      obtain ⟨m, hm⟩ : ∃ m, m = R.length - 1 - k := ⟨_, rfl⟩
      have hml : m < R.length := by omega
      have hmlz : (m : Int) < (R.length : Int) := by omega
      have hm0 : (R.length : Int) - 1 - (k : Int) = (m : Int) := by omega
      have hmw : IntKind.i64.wrap ((R.length : Int) - 1) = (R.length : Int) - 1 := IntWalk.i64_in _ (by omega)
      have hmw2 : IntKind.i64.wrap (m : Int) = (m : Int) := IntWalk.i64_in _ (by omega)
      obtain ⟨b5, off5, cap5, he, hbl5, hlz5, z1⟩ := at_int (HIR.out.below HB.out) k hlt
      injection he with he1 he2 he3
      subst he1 he3
      clear he2
      obtain ⟨b6, off6, cap6, he, hbl6, hlz6, z2⟩ := at_int (HIR.out.below HB.out) m hml
      injection he with he1 he2 he3
      injection he1 with he1
      injection he1 with he4 he5
      subst he4 he5 he3
      clear he2
      have HF := Lib.hid (ordD_fore hlt)
      have HK := Lib.hid (ordD_back hlt hm hml)
      clear hm
      generalize R[k] = x1 at *
      generalize R[m] = x2 at *
      obtain ⟨x, X, hcase⟩ : ∃ (x : Int) (X : List Int), (ordD tb R).drop k = x :: X ∧ X = (ordD tb R).drop (k + 1) ∧ (tb = false ∧ x = x1 ∨ tb = true ∧ x = x2) := by
        cases tb
        · exact ⟨x1, _, HF.out, rfl, .inl ⟨rfl, rfl⟩⟩
        · exact ⟨x2, _, HK.out, rfl, .inr ⟨rfl, rfl⟩⟩
      obtain ⟨hcx, hcX, hcc⟩ := hcase
      rw [hcx] at HGQ
      have HCX := Lib.hid hcX
      have HDR := Lib.hid (fun wx (hx : Below wr.heap.size wr wx) => g_drop (v := .slice aq P.length cq) HGQ.out (List.Perm.refl _) (by omega) (HFQ.out.below hx) (HBw.out.trans (hx.mono HBw.out.size)))
      clear hcx hcX HF HK
      have HTAIL : Hid (∀ (u9 : Value) (K : Prop), True) := Lib.hid (fun _ _ => trivial)
      rcases hcc with ⟨rfl, rfl⟩ | ⟨rfl, rfl⟩
      all_goals
        go_wp2_with fail
        refine (HDR.out _ (Below.refl _ _)).mono ?_
        rintro e w6 ⟨ad, cd, Q', rfl, hg', hdr, hout⟩
        have hlq : Q'.length = P.length := hdr.less.1.symm.trans HLQ.out
        rw [hlq] at hout
        rw [hlq]
        have HOUT := Lib.hid hout
        have HGN := Lib.hid hg'
        have HLN := Lib.hid hlq
        have HXQ6 := Lib.hid (HXQ.out.below hout.bel HXQ.out.lt)
        have f0 := HXQ6.out.free 0
        have c0' := HXQ6.out.c0 0 _ rfl
        have hlt6 := HXQ6.out.lt
        have HOFF : Hid (Q' ≠ [] → blkOf (.slice ad P.length cd) ≠ some W4.heap.size) := Lib.hid (out_off hout (fun hne _ => HNQ.out (ne_nil_len (hlq.trans HLQ.out.symm) hne)) HXQ.out.lt)
        clear hout hg' hdr hlq hh0 hh1 hp0 z1 z2 HDR
        go_wp2
        go_roundw
        case rel =>
          refine ⟨k + 1, Q', ad, cd, by omega, by go_num, ?_, HLN, ?_, ?_, ?_, ?_⟩
          · rw [← HCX.out]; exact HGN
          · exact Lib.hid ((HXQ6.out.setCell 0 _).alloc _)
          · exact Lib.hid ((HOUT.out.sl.but (ButP.setCell _ _ _ _) HOFF.out).below (below_box _))
          · exact HOFF
          · exact Lib.hid (keepP ((HB.out.trans (HOUT.out.bel.mono HB.out.size)).setCell (p := ⟨W4.heap.size, 0, none⟩) (Nat.le_refl _) _) _)
        case measure => simp [intOf]; omega
    · obtain rfl : k = R.length := by omega
      have hdn : (ordD tb R).drop R.length = [] := by rw [← ordD_len tb R]; exact List.drop_length
      rw [hdn] at HGQ
      clear hdn
      have HSLQ := Lib.hid (HFQ.out.slots HBw.out)
      have hz0 : liveP Q = 0 := live_zero.2 (good_none HGQ.out)
      have HLV := Lib.hid (live_w _ Q wr HSLQ.out)
      rw [hz0] at HLV
      have HEM := Lib.hid HGQ.out.emp
      clear hz0
      go_wp2_with fail
      refine HLV.out.mono ?_
      rintro e w6 ⟨rfl, hb6⟩
      have HX6 := Lib.hid (HXQ.out.below hb6 HXQ.out.lt)
      have hp1 := HX6.out.c0 0 _ rfl
      have HB6 := Lib.hid (HB.out.trans (hb6.mono HB.out.size))
      have HF6 := Lib.hid (HFQ.out.below hb6)
      have HSND := Lib.hid (g_sound HGQ.out (by omega) (HSLQ.out.below hb6) (IsInts.nil w6))
      clear hb6 hp0 hh0 hh1 HLV
      go_wp2_with fail
      refine HSND.out.mono ?_
      rintro e w7 ⟨rfl, hb7⟩
      have HX7 := Lib.hid (HX6.out.below hb7 HX6.out.lt)
      have hp2 := HX7.out.c0 0 _ rfl
      have HB7 : Hid (Below W4.heap.size W4 w7) := Lib.hid (HB6.out.trans (hb7.mono HB6.out.size))
      have HF7 := Lib.hid (HF6.out.below hb7)
      have hh2 := (HXH.out.below HB7.out HXH.out.lt).c0 0 _ rfl
      obtain ⟨nq, hnq⟩ : ∃ nq, nq = P.length := ⟨_, rfl⟩
      have HNN : Hid (Q ≠ [] → blkOf (.slice aq P.length cq) ≠ some W4.heap.size) := HNQ
      clear hb7 hp1 HSND HX6 HB6 HF6 HNQ HXQ HFQ HB HBw HSLQ hnq
      go_wp2_with fail
      clear hp2 hh2
      go_loopw [12] (fun i wr => ∃ (k : Nat) (Q : List Sl) (aq : Option Addr) (nq cq : Nat), k ≤ 3 ∧ i = .int .i64 k ∧ Hid (Emp Q 16 k) ∧ Hid (Blk wr W4.heap.size 29 #[.slice aq nq cq]) ∧ Hid (SlF w2 wr (.slice aq nq cq) Q) ∧ Hid (Q ≠ [] → blkOf (.slice aq nq cq) ≠ some W4.heap.size) ∧ Hid (Below W4.heap.size W4 wr)) (fun i _ => 3 - (intOf i).toNat)
      case atStart => exact ⟨0, Q, aq, P.length, cq, Nat.zero_le _, rfl, HEM, HX7, HF7, HNN, HB7⟩
      case round =>
        clear HEM HX7 HF7 HNN HB7
        obtain ⟨k, Q, aq, nq, cq, hk, rfl, HEM, HXQ, HFQ, HNQ, HB⟩ := hrel
        have HBw : Hid (Below w2.heap.size w2 wr) := Lib.hid (HB4.out.trans (HB.out.mono HB4.out.size))
        by_cases hlt : k < 3
        · have hltz : (k : Int) < 3 := by omega
          have hp0 := HXQ.out.c0 0 _ rfl
          have HAD := Lib.hid (e_add HEM.out (by omega) HFQ.out HBw.out)
          go_wp2_with fail
          refine HAD.out.mono ?_
          rintro e w6 ⟨ad, cd, rfl, hout⟩
          have HOUT := Lib.hid hout
          have HXQ6 := Lib.hid (HXQ.out.below hout.bel HXQ.out.lt)
          have f0 := HXQ6.out.free 0
          have c0' := HXQ6.out.c0 0 _ rfl
          have hlt6 := HXQ6.out.lt
          have HOFF : Hid (placeP Q zNd ≠ [] → blkOf (.slice ad (placeP Q zNd).length cd) ≠ some W4.heap.size) := Lib.hid (out_off hout (fun hne hv => HNQ.out (by
            have hl : nq = (placeP Q zNd).length := by injection hv with _ h2 _; exact h2.symm
            obtain ⟨a9, c9, he9, -⟩ := HFQ.out.slice
            have hl2 : nq = Q.length := by injection he9
            exact ne_nil_len (by omega) hne)) HXQ.out.lt)
          have HNX := Lib.hid HEM.out.next
          clear hout HAD hp0
          generalize placeP Q zNd = Q' at *
          obtain ⟨nn, hnn⟩ : ∃ nn, nn = Q'.length := ⟨_, rfl⟩
          rw [← hnn] at HOUT HOFF
          rw [← hnn]
          clear hnn
          go_wp2
          go_roundw
          case rel =>
            refine ⟨k + 1, Q', ad, nn, cd, by omega, by go_num, HNX, ?_, ?_, HOFF, ?_⟩
            · exact Lib.hid ((HXQ6.out.setCell 0 _).alloc _)
            · exact Lib.hid ((HOUT.out.sl.but (ButP.setCell _ _ _ _) HOFF.out).below (below_box _))
            · exact Lib.hid (keepP ((HB.out.trans (HOUT.out.bel.mono HB.out.size)).setCell (p := ⟨W4.heap.size, 0, none⟩) (Nat.le_refl _) _) _)
          case measure => simp [intOf]; omega
        · obtain rfl : k = 3 := by omega
          go_wp2
          go_ret
          exact ⟨rfl, HG.out.trans (HB.out.mono HG.out.size)⟩

end Go.Proofs.Ytlgangcldlphnaa
