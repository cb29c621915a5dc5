/-
  The walk of the law TableMoves.
-/
import Derived.Test.YtbbiobhffelaaaaTU
namespace Go.Proofs.Ytbbiobhffelaaaa
open Go.RowKit Go.Sort
set_option linter.unusedVariables false

theorem st_tmoved {w wx : World} {L : List (Value × List Pr)} (h : St w L wx) {v : Value} (l : List Pr) (a b : Bs) (hm : (v, l) ∈ L) (hs : Srt l) (hl : l.length ≤ 50000) (ha : a.length ≤ 100000) (hb : b.length ≤ 100000) (hk : ∀ x ∈ l, x.1.length ≤ 100000) :
    Calls Try.prog 27 #[v, .string (Str a), .string (Str b)] wx (StOut w L (movedT a b l)) := (tmoved_w v l a b wx (h.at hm) hs hl ha hb hk).mono fun _ _ hh => OwnOut.st h hh

set_option maxRecDepth 100000 in
set_option maxHeartbeats 8000000 in
theorem tableMoves_walk0 (hsan : SanityW) (w : World) (v0 : Value) (l : List Rw) (h0 : IsRaws w v0 l) (v1 : Value) (n : Nat) (h1 : IsU8 w v1 n) (v2 : Value) (tx : Bs) (h2 : IsStr w v2 tx) :
    Calls Try.prog 9 #[v0, v1, v2] w fun e w' => e = .returned (.bool true) ∧ Below w.heap.size w w' := by
  obtain ⟨rfl, hn⟩ := h1
  obtain ⟨rfl, hto⟩ := h2
  unfold maxLen at hto
  have H0 := Lib.hid h0
  have Hsan := Lib.hid hsan
  clear h0 hsan
  by_cases hbig : 200 < tx.length
  · have hz : (200 : Int) < (tx.length : Int) := by omega
    clear hbig
    go_enter Try.func9, Try.ntmps9
    go_wp2_with fail
    refine (Hsan.out _).mono ?_
    rintro e w1 ⟨rfl, hb1⟩
    have Hb1 := Lib.hid hb1
    clear hb1
    go_wp2
    go_ret
    exact ⟨rfl, Hb1.out⟩
  · have hz : (tx.length : Int) ≤ 200 := by omega
    have hzd : decide ((200 : Int) < (tx.length : Int)) = false := by simp; omega
    have hto2 : tx.length ≤ 200 := by omega
    clear hbig hto
    have Hpre := Lib.hid (fun wx => prefix4_w n wx hn)
    have hpl := prefS_len n
    have sT := Lib.hid (srt_made l)
    have nT := made_len l
    have kT := Lib.hid (fun x hx => (made_small (l := l) x hx).1)
    go_enter Try.func9, Try.ntmps9
    go_wp2_with fail
    refine (Hsan.out _).mono ?_
    rintro e w1 ⟨rfl, hb1⟩
    have HS := Lib.hid (St.start hb1)
    clear hb1 Hsan
    go_wp2_with fail
    refine (st_made HS.out H0.out).mono ?_
    rintro e w2 ⟨pt, ct, rfl, hst⟩
    replace HS := Lib.hid hst
    clear hst
    generalize madeS l = T at *
    go_wp2_with fail
    refine (Hpre.out _).mono ?_
    rintro e w3 ⟨rfl, hb3⟩
    replace HS := Lib.hid (HS.out.below hb3)
    clear hb3 Hpre
    generalize prefS n = fr at *
    have hsrc := moved_back fr tx sT.out
    have hmm := moved_map fr tx T
    have hml : (movedT fr tx T).length ≤ 40 := by rw [hmm, List.length_map]; exact Nat.le_trans (List.length_filter_le _ _) nT
    have hmk : ∀ x ∈ movedT fr tx T, x.1.length ≤ 300 := fun x hx => by
      obtain ⟨r, h1, h2⟩ := (mem_moved _ _ _ _).1 hx
      have h3 := kT.out _ h1
      simp only [List.length_append] at h3
      rw [h2, List.length_append]; omega
    have Hmk := Lib.hid hmk
    have sM := Lib.hid (srt_moved fr tx sT.out)
    have Hvm := Lib.hid ((validB_iff _).2 sM.out)
    have HF := Lib.hid (fun j h => filter_take (fun x => fr.isPrefixOf x.1) T j h)
    have Hpf : Hid (∀ x ∈ T.filter (fun x => fr.isPrefixOf x.1), fr.isPrefixOf x.1 = true) := Lib.hid (fun x hx => (List.mem_filter.1 hx).2)
    have Hmap := Lib.hid hmm
    have Hsrc := Lib.hid hsrc
    have hsl : (T.filter (fun x => fr.isPrefixOf x.1)).length ≤ 40 := Nat.le_trans (List.length_filter_le _ _) nT
    have Hkf := Lib.hid (fun x (hx : x ∈ T.filter (fun x => fr.isPrefixOf x.1)) => kT.out x (List.mem_filter.1 hx).1)
    clear hsrc hmm hmk
    generalize hsr : T.filter (fun x => fr.isPrefixOf x.1) = src at *
    have Hsr := Lib.hid hsr
    clear hsr
    go_wp2_with fail
    refine (st_tmoved HS.out T fr tx (by simp) sT.out (by omega) (by omega) (by omega) (fun x hx => by have := kT.out x hx; omega)).mono ?_
    rintro e w4 ⟨pm, cm, rfl, hst⟩
    replace HS := Lib.hid hst
    clear hst
    generalize movedT fr tx T = M at *
    go_wp2_with fail
    refine (st_tmoved HS.out M tx fr (by simp) sM.out (by omega) (by omega) (by omega) (fun x hx => by have := Hmk.out x hx; omega)).mono ?_
    rw [Hsrc.out]
    rintro e w5 ⟨pb, cb, rfl, hst⟩
    replace HS := Lib.hid hst
    clear hst
    go_wp2
    obtain ⟨b0, off, capt, pt', hvt, hlct, hcmt, hppt, hcct⟩ := (HS.out.at (v := .slice pt T.length ct) (l := T) (by simp)).form
    injection hvt with hv1 hv2 hv3
    subst hv1 hv3
    clear hv2
    unfold maxLen at hcmt
    have HPT := Lib.hid hppt
    have HCT := Lib.hid hcct
    clear hppt hcct
    have Hown0 := Lib.hid (own_empty w5 w5.heap.size (Nat.le_refl _))
    go_loopw [12, 13] (fun o i wr => ∃ j : Nat, j ≤ T.length ∧ i = .int .i64 j ∧ wr.ownsRow w5.heap.size 30 3 o ((T.take j).filter (fun x => fr.isPrefixOf x.1)).length (((T.take j).filter (fun x => fr.isPrefixOf x.1)).flatMap encP) ∧ Below w5.heap.size w5 wr) (fun _ i _ => T.length - (intOf i).toNat)
    case atStart => exact ⟨0, Nat.zero_le _, rfl, Hown0.out, below_box _⟩
    case round =>
      clear Hown0
      obtain ⟨j, hj, rfl, hown, hbel⟩ := hrel
      have hsz := hbel.size
      have Hown := Lib.hid hown
      have Hbel := Lib.hid hbel
      have HSr := Lib.hid (HS.out.below hbel)
      clear hown
      by_cases hlt : j < T.length
      · obtain ⟨rfl, hc⟩ := HCT.out j hlt
        have hgl := (HPT.out (by rintro rfl; simp at hlt)).2
        have hltz : (j : Int) < (T.length : Int) := by omega
        obtain ⟨c0, c1, c2⟩ := cells_in hbel hgl hc
        have hxs := Lib.hid ((HSr.out.at (v := .slice (some ⟨b0, off, none⟩) T.length ct) (l := T) (by simp)).small T[j] (List.getElem_mem hlt))
        have hgw : b0 < wr.heap.size := by omega
        have Htk := Lib.hid (HF.out j hlt)
        have hrl2 : ((T.take j).filter (fun x => fr.isPrefixOf x.1)).length ≤ 40 := Nat.le_trans (List.length_filter_le _ _) (by rw [List.length_take]; omega)
        have hkx := kT.out T[j] (List.getElem_mem hlt)
        clear hbel hc
        generalize T[j] = x at *
        obtain ⟨xk, xv, xt⟩ := x
        simp only at c0 c1 c2 Htk hkx
        have Hbg := Lib.hid (fun wx => rbegins_w xk fr wx (by omega) (by omega))
        generalize (T.take j).filter (fun x => fr.isPrefixOf x.1) = left at *
        cases hp : fr.isPrefixOf xk with
        | false =>
          rw [hp] at Hbg Htk
          have Hn := Lib.hid (show (T.take (j + 1)).filter (fun x => fr.isPrefixOf x.1) = left by rw [Htk.out]; simp)
          clear hp Htk
          go_wp2_with fail
          refine (Hbg.out _).mono ?_
          rintro e w6 ⟨rfl, rfl⟩
          go_wp2
          go_roundw
          case rel => exact ⟨j + 1, by omega, by go_num, by rw [Hn.out]; exact Hown.out, Hbel.out⟩
          case measure => simp [intOf]; omega
        | true =>
          rw [hp] at Hbg Htk
          have Hn := Lib.hid (show (T.take (j + 1)).filter (fun x => fr.isPrefixOf x.1) = left ++ [(xk, xv, xt)] by rw [Htk.out]; simp)
          clear hp Htk
          go_wp2_with fail
          refine (Hbg.out _).mono ?_
          rintro e w6 ⟨rfl, rfl⟩
          go_wp2_with (at_builtin; refine append_pairs rfl _ _ rfl w5.heap.size _ left rfl (Hown.out.alloc _) _ [(xk, xv, xt)] rfl (one_pairs (xk, xv, xt) hxs.out) (by simp only [List.length_cons, List.length_nil]; omega) (by simp; omega) ?_; intro v7 w7 hown2 hbel2)
          have Hown2 := Lib.hid hown2
          have Hbel2 : Hid (Below w5.heap.size w5 w7) := Lib.hid ((Hbel.out.alloc hsz _).trans hbel2)
          clear hown2 hbel2
          go_wp2
          go_roundw
          case rel => exact ⟨j + 1, by omega, by go_num, by rw [Hn.out]; exact Hown2.out, Hbel2.out⟩
          case measure => simp [intOf]; omega
      · obtain rfl : j = T.length := by omega
        rw [List.take_length, Hsr.out] at Hown
        have hpr := IsPairs.owned Hown.out (fun x hx => (HSr.out.at (v := .slice pb src.length cb) (l := src) (by simp)).small x hx)
        obtain ⟨-, -, crr, prr, rfl, -⟩ := hpr.form
        have HSf := Lib.hid (HSr.out.add hpr)
        have hlen : M.length = src.length := by rw [Hmap.out, List.length_map]
        have hlnb : ((M.length : Int) != (src.length : Int)) = false := by rw [hlen]; simp
        have Hlen := Lib.hid hlen
        clear hbel hpr Hown HSr HS hlen
        go_wp2_with fail
        refine (st_rvalid HSf.out M (by simp) (by omega)).mono ?_
        rw [Hvm.out]
        rintro e w8 ⟨rfl, hst⟩
        replace HSf := Lib.hid hst
        clear hst
        go_wp2_with fail
        refine (st_same HSf.out src src (by simp) (by simp)).mono ?_
        rw [decide_eq_true (rfl : src = src)]
        rintro e w9 ⟨rfl, hst⟩
        replace HSf := Lib.hid hst
        clear hst
        go_wp2
        obtain ⟨bm, om, capm, pm', hvm, hlcm, hcmm, hppm, hccm⟩ := (HSf.out.at (v := .slice pm M.length cm) (l := M) (by simp)).form
        injection hvm with hm1 hm2 hm3
        subst hm1 hm3
        clear hm2
        obtain ⟨bs, os', caps, ps', hvs, hlcs, hcms, hpps, hccs⟩ := (HSf.out.at (v := .slice prr src.length crr) (l := src) (by simp)).form
        injection hvs with hs1 hs2 hs3
        subst hs1 hs3
        clear hs2
        unfold maxLen at hcmm hcms
        have HCM := Lib.hid hccm
        have HCS := Lib.hid hccs
        have Hfin := Lib.hid HSf.out.g
        have mixed := mixedA
        clear hppm hccm hpps hccs HSf
        go_loopw [14] (fun i wr => ∃ k : Nat, k ≤ M.length ∧ i = .int .i64 k ∧ Below w9.heap.size w9 wr) (fun i _ => M.length - (intOf i).toNat)
        case atStart => exact ⟨0, Nat.zero_le _, rfl, Below.refl _ _⟩
        case round =>
          obtain ⟨k, hk, rfl, hbel⟩ := hrel
          have Hbel := Lib.hid hbel
          by_cases hlt : k < M.length
          · have hlts : k < src.length := by have := Hlen.out; omega
            obtain ⟨rfl, m0, m1, m2⟩ := HCM.out k hlt
            obtain ⟨rfl, s0, s1, s2⟩ := HCS.out k hlts
            have hlm := cell_lt m0
            have hls := cell_lt s0
            have hltz : (k : Int) < (M.length : Int) := by omega
            have hltsz : (k : Int) < (src.length : Int) := by omega
            have hmk : M[k] = (tx ++ src[k].1.drop fr.length, src[k].2) := by
              have h := Hmap.out
              have h2 : M[k]? = (src.map fun x => (tx ++ x.1.drop fr.length, x.2))[k]? := by rw [← h]
              rw [List.getElem?_eq_getElem hlt, List.getElem?_map, List.getElem?_eq_getElem hlts] at h2
              exact Option.some.inj h2
            rw [hmk] at m0 m1 m2
            have hpx := Hpf.out src[k] (List.getElem_mem hlts)
            have hkx := Hkf.out src[k] (List.getElem_mem hlts)
            clear hmk
            generalize src[k] = x at *
            obtain ⟨xk, xv, xt⟩ := x
            simp only at m0 m1 m2 s0 s1 s2 hpx hkx
            obtain ⟨r, hr⟩ := List.isPrefixOf_iff_prefix.1 hpx
            have hd : xk.drop fr.length = r := by rw [← hr]; simp
            rw [hd] at m0
            have hl1 : xk.length = fr.length + r.length := by rw [← hr, List.length_append]
            have hl2 : (tx ++ r).length = tx.length + r.length := List.length_append
            have hpt := prefix_app tx r
            clear hpx hr hd
            generalize tx ++ r = km at *
            have hw1 : IntKind.i64.wrap ((km.length : Int) - (tx.length : Int)) = (r.length : Int) := by rw [show (km.length : Int) - (tx.length : Int) = (r.length : Int) by omega]; exact IntWalk.i64_in _ (by omega)
            have hw2 : IntKind.i64.wrap ((xk.length : Int) - (fr.length : Int)) = (r.length : Int) := by rw [show (xk.length : Int) - (fr.length : Int) = (r.length : Int) by omega]; exact IntWalk.i64_in _ (by omega)
            have he1 : (km.length : Int) - (tx.length : Int) = (r.length : Int) := by omega
            have he2 : (xk.length : Int) - (fr.length : Int) = (r.length : Int) := by omega
            have hbg := Lib.hid (fun wx => (show Calls Try.prog 34 #[.string (Str km), .string (Str tx)] wx fun e w' => e = .returned (.bool true) ∧ w' = wx from (rbegins_w km tx wx (by omega) (by omega)).mono fun _ _ ⟨h1, h2⟩ => ⟨by rw [h1, hpt], h2.symm⟩))
            have m0 := fun n => (drewN_cell wr n _).trans ((hbel.cell (p := ⟨bm, om + k * 3, none⟩) hlm).trans m0)
            have m1 := fun n => (drewN_cell wr n _).trans ((hbel.cell (p := ⟨bm, om + k * 3 + 1, none⟩) hlm).trans m1)
            have m2 := fun n => (drewN_cell wr n _).trans ((hbel.cell (p := ⟨bm, om + k * 3 + 2, none⟩) hlm).trans m2)
            have s0 := fun n => (drewN_cell wr n _).trans ((hbel.cell (p := ⟨bs, os' + k * 3, none⟩) hls).trans s0)
            have s1 := fun n => (drewN_cell wr n _).trans ((hbel.cell (p := ⟨bs, os' + k * 3 + 1, none⟩) hls).trans s1)
            have s2 := fun n => (drewN_cell wr n _).trans ((hbel.cell (p := ⟨bs, os' + k * 3 + 2, none⟩) hls).trans s2)
            clear hl1 hl2 hpt hbel hlm hls
            go_wp2_with fail
            go_quiet ((go_at_call 34; exact Calls.quiet_of_same (hbg.out _)))
            go_wp2
            go_roundw
            case rel => exact ⟨k + 1, by omega, by go_num, Hbel.out.trans (below_drewN _ _)⟩
            case measure => simp [intOf]; omega
          · obtain rfl : k = M.length := by omega
            clear hbel
            go_wp2
            go_ret
            exact ⟨rfl, Hfin.out.trans (Hbel.out.mono Hfin.out.size)⟩

end Go.Proofs.Ytbbiobhffelaaaa
