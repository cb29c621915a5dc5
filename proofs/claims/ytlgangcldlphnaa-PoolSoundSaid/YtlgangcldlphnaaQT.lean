/-
  Walks: Clone, Add and the law's add once more, for lists that are read in a world that need not lie below (gen_qt.py); what does not lie in a box of slices.
-/
import Derived.Test.YtlgangcldlphnaaQS
import Derived.Test.YtlgangcldlphnaaPY
namespace Go.Proofs.Ytlgangcldlphnaa
open Go.RowKit Go.Sort
set_option linter.unusedVariables false
set_option maxRecDepth 100000

theorem node_kids {w : World} {v0 v1 v2 v3 v4 : Value} {n : Nd} (h : IsNode w (.agg #[v0, v1, v2, v3, v4]) n) : IsInts w v2 n.kids := by
  obtain ⟨a, b, c, d, e, he, h1, h2, h3, h4, h5⟩ := h
  have he1 : v0 = a ∧ v1 = b ∧ v2 = c ∧ v3 = d ∧ v4 = e := by simpa using he
  obtain ⟨rfl, rfl, rfl, rfl, rfl⟩ := he1
  exact h3
set_option maxHeartbeats 2000000 in
theorem cloneSlF_w (v : Value) (P : List Sl) (w0 w : World) (h : SlF w0 w v P) (hs0 : IsSlots w v P) (hl : P.length ≤ 1000000) :
    Calls Try.prog 40 #[v] w fun e w' => ∃ v', e = .returned v' ∧ OwnF w0 w' w.heap.size v' P ∧ Below w.heap.size w w' := by
  obtain ⟨L, hall, hany⟩ := h.any
  have HA := Lib.hid hall
  have H := Lib.hid hs0
  obtain ⟨a, cap, rfl, hle, hcm, hpm⟩ := hs0.slice
  have HY := Lib.hid hany
  have HL := Lib.hid hall.1
  clear h hall hany
  have q26 : ∀ (w : World) (a : Option Addr) (n c n' c' : Nat), (binOp .eql 27 (.slice a n c) (.slice none n' c')).run Try.prog w = .ok (.bool a.isNone) w := fun w a n c n' c' => Lib.run_eql_slice_nil w _ _ a n c n' c' Try.underlying27
  cases a with
  | none =>
    have hn : P = [] := by
      by_cases e : 0 < P.length
      · obtain ⟨b, off, cap', s, e, _⟩ := slot_at H.out 0 e; cases e
      · exact List.length_eq_zero_iff.1 (by omega)
    subst hn
    go_enter Try.func40, Try.ntmps40
    go_wp2
    go_ret
    exact ⟨_, rfl, ⟨L, HA.out, (by have e : L = [] := List.length_eq_zero_iff.1 HL.out; rw [e]; exact World.ownsRow_nil _ _ _ _)⟩, Below.refl _ _⟩
  | some ad =>
    have hb : IsAny encV 8 (w.alloc (.cells #[] 61)) (.slice (some ad) P.length cap) L := by
      obtain ⟨a, c, e, hc⟩ := HY.out
      refine ⟨a, c, e, fun hne => ?_⟩
      obtain ⟨b, off, e2, hc2⟩ := hc hne
      refine ⟨b, off, e2, fun i hi j u hu => ?_⟩
      have := hc2 i hi j u hu
      rw [(below_box (w := w) (.cells #[] 61)).cell (p := ⟨b, off + i * 8 + j, none⟩) (by exact cell_lt this)]
      exact this
    have HB := Lib.hid hb
    clear hb
    go_enter Try.func40, Try.ntmps40
    go_wp2_with (at_builtin; refine append_any (en := encV) rfl _ _ 27 61 _ 8 136 infoSl Try.underlying27 rfl (by decide) (by decide) encV_len encV_one rfl w.heap.size _ [] rfl (own_emptySl w w.heap.size (Nat.le_refl _)) _ L rfl HB.out (by rw [HL.out]; simp; omega) (by simp) ?_; intro v' w1 hown hbel)
    have Hown := Lib.hid hown
    have Hbel : Hid (Below w.heap.size w w1) := Lib.hid ((below_box _).trans hbel)
    clear hown hbel
    go_wp2
    go_ret
    exact ⟨_, rfl, ⟨L, HA.out, by have := Hown.out; rwa [List.nil_append, HL.out] at this⟩, Hbel.out⟩

set_option maxHeartbeats 4000000 in
theorem addF_w (v nv : Value) (P : List Sl) (n : Nd) (w0 w : World) (h0 : SlF w0 w v P) (h : IsSlots w v P) (hn : IsNode w0 nv n) (hnw : IsNode w nv n) (hl : P.length ≤ 4096) (hk : n.kids.length ≤ 1000000) (hr : ∀ i, (atP P i).used = true → 0 ≤ (atP P i).refs ∧ (atP P i).refs ≤ 1000000000) :
    Calls Try.prog 38 #[poolV v, nv] w fun e w' => ∃ v', e = .returned (.tuple #[poolV v', .int .i64 (addP P n).2.1, .int .i64 (addP P n).2.2]) ∧ SlOut w0 w w' v v' (addP P n).1 := by
  have mixed := mixedA
  have H0 := Lib.hid h0
  obtain ⟨s, rfl, hs1, hs2, hs3, hs⟩ := hn.sl true false 1
  have hkw := node_kids hnw
  have hkl := hs.lens.2.2.1
  obtain ⟨su, sl, sr, sa, sb, ⟨ca, cn, cc⟩, sd, se⟩ := s
  simp only at hs1 hs2 hs3 hkl
  subst hs1 hs2 hs3 hkl
  have HS := Lib.hid hs
  have H := Lib.hid h
  have HKI : Hid (IsInts w (.slice ca n.kids.length cc) n.kids) := Lib.hid hkw
  obtain ⟨a, cap, rfl, hlc, hcm, hpm⟩ := h.slice
  clear h hn hs h0 hnw hkw
  obtain ⟨W1, hW1⟩ : ∃ W1, W1 = (((w.alloc (.cells #[.slice a P.length cap] 29)).alloc (.cells #[slv sa, slv sb, .slice ca n.kids.length cc, slv sd, slv se] 39)).alloc (.cells #[.slice none 0 0] 29)) := ⟨_, rfl⟩
  have HB0 : Hid (Below w.heap.size w W1) := Lib.hid (by rw [hW1]; exact (((Grown.refl w).alloc _).alloc _ |>.alloc _).below (Nat.le_refl _))
  have HP : Hid (Blk W1 w.heap.size 29 #[.slice a P.length cap]) := Lib.hid (by rw [hW1]; exact ((Blk.new _ _ _).alloc _).alloc _)
  have HN : Hid (Blk W1 (w.heap.size + 1) 39 #[slv sa, slv sb, .slice ca n.kids.length cc, slv sd, slv se]) := Lib.hid (by rw [hW1]; exact (Blk.new' _ _ _ (by simp)).alloc _)
  have HR : Hid (Blk W1 (w.heap.size + 2) 29 #[.slice none 0 0]) := Lib.hid (by rw [hW1]; exact Blk.new' _ _ _ (by simp))
  have HW1 := Lib.hid hW1
  clear hW1
  have HA := Lib.hid (fun wx (hx : Below w.heap.size w wx) => allUsed_w (.slice a P.length cap) (.slice ca n.kids.length cc) P n.kids wx (H.out.below hx) (HKI.out.below hx))
  have HF := Lib.hid (fun wx (hx : Below w.heap.size w wx) => firstFree_w (.slice a P.length cap) P wx (H.out.below hx))
  have HCL := Lib.hid (fun wx (hx : Below w.heap.size w wx) => cloneSlF_w (.slice a P.length cap) P w0 wx (H0.out.below hx) (H.out.below hx) (by omega))
  obtain ⟨f, hf⟩ : ∃ f : Nat, freeI P = f := ⟨_, rfl⟩
  have hfl : f ≤ P.length := by rw [← hf]; exact freeI_le P
  rw [hf] at HF
  have Hf := Lib.hid hf
  clear hf
  by_cases hu : n.kids.all (usedB P) = true
  · rw [hu] at HA
    have Hu := Lib.hid hu
    clear hu
    go_enter Try.func38, Try.ntmps38
    go_wp2_with fail
    rw [← HW1.out]
    refine (HA.out _ HB0.out).mono ?_
    rintro e w1 ⟨rfl, hb⟩
    have Hb : Hid (Below w.heap.size w w1) := Lib.hid (Below.next HB0.out (Nat.le_refl _) hb)
    have hN1 := HN.out.below hb HN.out.lt
    have hP1 := HP.out.below hb HP.out.lt
    have hR1 := HR.out.below hb HR.out.lt
    have p0 : w1.cell? ⟨w.heap.size, 0, none⟩ = some (.slice a P.length cap) := hP1.c0 0 _ rfl
    have HN1 := Lib.hid hN1
    have HP1 := Lib.hid hP1
    have HR1 := Lib.hid hR1
    clear hb hN1 hP1 hR1
    go_wp2_with fail
    refine (HF.out _ Hb.out).mono ?_
    rintro e w2 ⟨rfl, hb⟩
    clear p0
    have Hb2 : Hid (Below w.heap.size w w2) := Lib.hid (Below.next Hb.out (Nat.le_refl _) hb)
    have hN1 := HN1.out.below hb HN1.out.lt
    have hP1 := HP1.out.below hb HP1.out.lt
    have hR1 := HR1.out.below hb HR1.out.lt
    have p0 : w2.cell? ⟨w.heap.size, 0, none⟩ = some (.slice a P.length cap) := hP1.c0 0 _ rfl
    have HN2 := Lib.hid hN1
    have HP2 := Lib.hid hP1
    have HR2 := Lib.hid hR1
    clear hb hN1 hP1 hR1
    by_cases hfe : f = P.length
    · have e1 : ((f : Int) == (P.length : Int)) = true := by rw [hfe]; simp
      by_cases hfull : 4096 ≤ f
      · have HG : Hid (addP P n = (P, 0, 111)) := Lib.hid (by unfold addP; rw [if_pos Hu.out, if_pos (by rw [Hf.out]; omega)])
        have e2 : (4096 : Int) ≤ (f : Int) := by omega
        obtain ⟨r0, g0⟩ : w2.cell? ⟨w.heap.size + 2, 0, none⟩ = some (.slice none 0 0) ∧ w2.frozen? ⟨w.heap.size + 2, 0, none⟩ = false := ⟨HR2.out.c0 0 _ rfl, HR2.out.free 0⟩
        clear hfe
        go_wp2
        have z0 := (HR2.out.setCell 0 (.slice a P.length cap)).c0 0 _ rfl
        refine bodyPost_ret (v := .tuple #[poolV (.slice a P.length cap), .int .i64 0, .int .i64 111]) (by simp [results, Try.results38, go_sem, z0]) rfl ?_
        rw [HG.out]
        have hB := Hb2.out.setCell (p := ⟨w.heap.size + 2, 0, none⟩) (by simp) (.slice a P.length cap)
        exact ⟨_, rfl, H0.out.below hB, fun b hb => .inl rfl, hB⟩
      · have HG : Hid (addP P n = (heldP ((P ++ [zSl]).set f ⟨true, false, 1, n⟩) n.kids, (f : Int), 0)) := Lib.hid (by unfold addP; rw [if_pos Hu.out, if_neg (by rw [Hf.out]; omega)]; unfold placeP; rw [Hf.out, if_pos hfe])
        have e2 : (f : Int) < 4096 := by omega
        have HQA : Hid (∀ i, atP (P ++ [zSl]) i = atP P i) := Lib.hid (fun i => atP_push P i)
        have hfq : f < (P ++ [zSl]).length ∧ P.length ≤ (P ++ [zSl]).length ∧ (P ++ [zSl]).length ≤ 4097 := by rw [List.length_append]; simp; omega
        have HFE := Lib.hid hfe
        clear hfe
        go_wp2_with fail
        refine (HCL.out _ Hb2.out).mono ?_
        rintro e w3 ⟨v3, rfl, hown, hb⟩
        obtain ⟨a3, cap3, rfl, -⟩ := hown.form
        have HO := Lib.hid hown
        have HB3 := Lib.hid hb
        clear hown hb p0
        go_upto_region 9 with (at_builtin; refine append_zero rfl _ _ rfl w2.heap.size _ P rfl HO.out rfl (by omega) HB3.out.size ?_; intro v4 w4 hown hb)
        have HO4 := Lib.hid hown
        have HB4 : Hid (Below w2.heap.size w2 w4) := Lib.hid ((HB3.out.alloc HB3.out.size _).trans hb)
        clear hown hb HO HB3
        obtain ⟨Q, hQ⟩ : ∃ Q, Q = P ++ [zSl] := ⟨_, rfl⟩
        rw [← hQ] at HO4 hfq HQA HG
        clear hQ
        obtain ⟨hfq1, hfq2, hfq3⟩ := hfq
        have HO := HO4
        have HB3 := HB4
        clear HO4 HB4
        obtain ⟨w3, hw3⟩ : ∃ w3, w3 = w4 := ⟨_, rfl⟩
        subst hw3
        obtain ⟨a3, cap3, rfl, hl3, hm3, hg3⟩ := HO.out.form
        have hfz : (f : Int) < (Q.length : Int) := by omega
        obtain ⟨g, rfl⟩ := hg3 (by omega)
        obtain ⟨hgb1, hgb2⟩ := HO.out.blk
        obtain ⟨sv, hsv, hcs⟩ := HO.out.at f (by omega)
        obtain ⟨c0, c1, c2, c3, c4, c5, c6, c7⟩ := p8_ok hcs
        have f0 := HO.out.free (f * 8)
        have f1 := HO.out.free (f * 8 + 1)
        have f2 := HO.out.free (f * 8 + 2)
        have f3 := HO.out.free (f * 8 + 3)
        have f4 := HO.out.free (f * 8 + 4)
        have f5 := HO.out.free (f * 8 + 5)
        have f6 := HO.out.free (f * 8 + 6)
        have f7 := HO.out.free (f * 8 + 7)
        have hN3 := HN2.out.below HB3.out HN2.out.lt
        obtain ⟨n0, n1, n2, n3, n4, -⟩ := p5_ok hN3
        have hqm : (Q.length : Int) ≤ 9223372036854775807 := by omega
        clear hsv hcs hg3 hN3
        go_upto_region 10 with fail
        have HO4 := Lib.hid (HO.out.slot f (by omega) HS.out)
        have HB4 := Lib.hid (below_st8s HB3.out g (f * 8) hgb1 ⟨true, false, 1, sa, sb, (ca, n.kids.length, cc), sd, se⟩)
        have HQ4 : Hid (∀ (kk : Nat), usedB P (kk : Int) = true → kk < Q.length ∧ 0 ≤ (atP (Q.set f ⟨true, false, 1, n⟩) kk).refs ∧ (atP (Q.set f ⟨true, false, 1, n⟩) kk).refs ≤ 1000000000) := Lib.hid (fun kk hu => by
          rw [usedB_nat] at hu
          have h1 := used_lt hu
          have h2 := hr kk hu
          have h3 : kk ≠ f := by rintro rfl; rw [← Hf.out, freeI_used] at hu; cases hu
          rw [atP_set kk (by omega), if_neg h3, HQA.out]
          exact ⟨by omega, h2⟩)
        clear c0 c1 c2 c3 c4 c5 c6 c7 f0 f1 f2 f3 f4 f5 f6 f7 n0 n1 n2 n3 n4
        obtain ⟨w4, hw4⟩ : ∃ w4, w4 = st8s w3 g (f * 8) ⟨true, false, 1, sa, sb, (ca, n.kids.length, cc), sd, se⟩ := ⟨_, rfl⟩
        rw [← hw4] at HO4 HB4
        dsimp only [st8s] at hw4
        rw [← hw4]
        clear hw4
        obtain ⟨Q4, hQ4⟩ : ∃ Q4, Q4 = Q.set f ⟨true, false, 1, n⟩ := ⟨_, rfl⟩
        have HQ4L : Hid (Q4.length = Q.length) := Lib.hid (by rw [hQ4, List.length_set])
        rw [← hQ4] at HO4 HQ4 HG
        clear hQ4
        have hN4 := HN2.out.below HB4.out HN2.out.lt
        obtain ⟨n0, n1, n2, n3, n4, -⟩ := p5_ok hN4
        clear hN4
        have hkm : (n.kids.length : Int) ≤ 1000000 := by omega
        go_wp2_with fail
        go_loopw [48] (fun i wr => ∃ k : Nat, k ≤ n.kids.length ∧ i = .int .i64 k ∧ Hid (OwnF w0 wr w2.heap.size (.slice (some ⟨g, 0, none⟩) Q.length cap3) (heldP Q4 (n.kids.take k))) ∧ Hid (Below w2.heap.size w2 wr)) (fun i _ => n.kids.length - (intOf i).toNat)
        case atStart => exact ⟨0, Nat.zero_le _, rfl, HO4, HB4⟩
        case round =>
          obtain ⟨k, hkk, rfl, HOr, HBr⟩ := hrel
          by_cases hlt : k < n.kids.length
          · obtain ⟨b5, off5, cap5, he, hbl5, hlz5, x0⟩ := at_int (HKI.out.below (Below.next Hb2.out (Nat.le_refl _) HBr.out)) k hlt
            injection he with he1 he2 he3
            subst he1 he3
            clear he2
            have hltz : (k : Int) < (n.kids.length : Int) := by omega
            have hu' : usedB P n.kids[k] = true := List.all_eq_true.1 Hu.out _ (List.getElem_mem hlt)
            obtain ⟨kk, hkk2⟩ : ∃ kk : Nat, n.kids[k] = (kk : Int) := ⟨_, (Int.toNat_of_nonneg (usedB_lt hu').1).symm⟩
            have HT : Hid (heldP Q4 (n.kids.take (k + 1)) = incP (heldP Q4 (n.kids.take k)) (kk : Int)) := Lib.hid (by rw [List.take_succ_eq_append_getElem hlt, hkk2, heldP_snoc])
            rw [hkk2] at x0 hu'
            obtain ⟨q1, q2, q3⟩ := HQ4.out kk hu'
            have hqz : (kk : Int) < (Q.length : Int) := by omega
            have hm := atP_heldP (P := Q4) (ks := n.kids.take k) (fun x hx => by
              have h1 := usedB_lt (List.all_eq_true.1 Hu.out x (List.mem_of_mem_take hx))
              exact ⟨h1.1, by rw [HQ4L.out]; omega⟩) kk
            have hcn : (n.kids.take k).count (kk : Int) ≤ k := Nat.le_trans List.count_le_length (by rw [List.length_take]; omega)
            have hHL : (heldP Q4 (n.kids.take k)).length = Q.length := by rw [heldP_len, HQ4L.out]
            obtain ⟨sv, hsv, hcs⟩ := HOr.out.at kk (by omega)
            obtain ⟨-, -, c2, -, -, -, -, -⟩ := p8_ok hcs
            have f2 := HOr.out.free (kk * 8 + 2)
            have hsr := hsv.refs
            have hmr : (atP (heldP Q4 (n.kids.take k)) kk).refs = (atP Q4 kk).refs + ((n.kids.take k).count (kk : Int) : Nat) := by rw [hm]; rfl
            obtain ⟨r, hr1⟩ : ∃ r, r = sv.refs := ⟨_, rfl⟩
            rw [← hr1] at c2
            have HT2 : Hid (heldP Q4 (n.kids.take (k + 1)) = (heldP Q4 (n.kids.take k)).set kk { atP (heldP Q4 (n.kids.take k)) kk with refs := r + 1 }) := Lib.hid (by rw [HT.out, hr1, hsr]; rfl)
            have hr2 : 0 ≤ r ∧ r ≤ 2000000000 := by rw [hr1, hsr, hmr]; omega
            obtain ⟨hr3, hr4⟩ := hr2
            clear hm hmr hsr hr1 hsv hcs hcn q1 q2 q3 hu' hkk2
            have HHL := Lib.hid hHL
            clear hHL
            go_wp2
            go_roundw
            case rel => exact ⟨k + 1, by omega, by go_num, Lib.hid (by rw [HT2.out]; exact HOr.out.refs kk (by rw [HHL.out]; omega) (r + 1)), Lib.hid (HBr.out.setCell hgb1 _)⟩
            case measure => simp [intOf]; omega
          · obtain rfl : k = n.kids.length := by omega
            rw [List.take_length] at HOr
            have hR := HR2.out.below HBr.out HR2.out.lt
            have r0 := hR.c0 0 _ rfl
            have g0 := hR.free 0
            have HRr := Lib.hid hR
            have HL2 := Lib.hid HR2.out.lt
            clear hR
            go_wp2
            have z0 := (HRr.out.setCell 0 (.slice (some ⟨g, 0, none⟩) Q.length cap3)).c0 0 _ rfl
            refine bodyPost_ret (v := .tuple #[poolV (.slice (some ⟨g, 0, none⟩) Q.length cap3), .int .i64 f, .int .i64 0]) (by simp [results, Try.results38, go_sem, z0]) rfl ?_
            rw [HG.out]
            have hB : Below w.heap.size w (wr.setCell ⟨w.heap.size + 2, 0, none⟩ (.slice (some ⟨g, 0, none⟩) Q.length cap3)) := (Below.next Hb2.out (Nat.le_refl _) HBr.out).setCell (by show w.heap.size ≤ w.heap.size + 2; omega) _
            exact ⟨_, rfl, (HOr.out.setOther (w.heap.size + 2) 0 (.slice (some ⟨g, 0, none⟩) Q.length cap3) (by have := HL2.out; intro e; have e2 : g = w.heap.size + 2 := Option.some.inj e; omega)).slF, fun b hb => .inr (by injection hb with hb; have := Hb2.out.size; show w.heap.size ≤ b; rw [← hb]; show w.heap.size ≤ g; omega), hB⟩
    · have e1 : ((f : Int) == (P.length : Int)) = false := by simp; omega
      have HG : Hid (addP P n = (heldP (P.set f ⟨true, false, 1, n⟩) n.kids, (f : Int), 0)) := Lib.hid (by unfold addP; rw [if_pos Hu.out, if_neg (by rw [Hf.out]; omega)]; unfold placeP; rw [Hf.out, if_neg hfe])
      · have HQA : Hid (∀ i, atP P i = atP P i) := Lib.hid (fun i => rfl)
        have hfq1 : f < P.length := by omega
        go_wp2_with fail
        refine (HCL.out _ Hb2.out).mono ?_
        rintro e w3 ⟨v3, rfl, hown, hb⟩
        obtain ⟨a3, cap3, rfl, hl3, hm3, hg3⟩ := hown.form
        have HO := Lib.hid hown
        have HB3 := Lib.hid hb
        clear hown hb p0
        have hfq2 : P.length ≤ P.length := Nat.le_refl _
        have hfq3 : P.length ≤ 4097 := by omega
        have hfz : (f : Int) < (P.length : Int) := by omega
        obtain ⟨g, rfl⟩ := hg3 (by omega)
        obtain ⟨hgb1, hgb2⟩ := HO.out.blk
        obtain ⟨sv, hsv, hcs⟩ := HO.out.at f (by omega)
        obtain ⟨c0, c1, c2, c3, c4, c5, c6, c7⟩ := p8_ok hcs
        have f0 := HO.out.free (f * 8)
        have f1 := HO.out.free (f * 8 + 1)
        have f2 := HO.out.free (f * 8 + 2)
        have f3 := HO.out.free (f * 8 + 3)
        have f4 := HO.out.free (f * 8 + 4)
        have f5 := HO.out.free (f * 8 + 5)
        have f6 := HO.out.free (f * 8 + 6)
        have f7 := HO.out.free (f * 8 + 7)
        have hN3 := HN2.out.below HB3.out HN2.out.lt
        obtain ⟨n0, n1, n2, n3, n4, -⟩ := p5_ok hN3
        have hqm : (P.length : Int) ≤ 9223372036854775807 := by omega
        clear hsv hcs hg3 hN3
        go_upto_region 10 with fail
        have HO4 := Lib.hid (HO.out.slot f (by omega) HS.out)
        have HB4 := Lib.hid (below_st8s HB3.out g (f * 8) hgb1 ⟨true, false, 1, sa, sb, (ca, n.kids.length, cc), sd, se⟩)
        have HQ4 : Hid (∀ (kk : Nat), usedB P (kk : Int) = true → kk < P.length ∧ 0 ≤ (atP (P.set f ⟨true, false, 1, n⟩) kk).refs ∧ (atP (P.set f ⟨true, false, 1, n⟩) kk).refs ≤ 1000000000) := Lib.hid (fun kk hu => by
          rw [usedB_nat] at hu
          have h1 := used_lt hu
          have h2 := hr kk hu
          have h3 : kk ≠ f := by rintro rfl; rw [← Hf.out, freeI_used] at hu; cases hu
          rw [atP_set kk (by omega), if_neg h3]
          exact ⟨by omega, h2⟩)
        clear c0 c1 c2 c3 c4 c5 c6 c7 f0 f1 f2 f3 f4 f5 f6 f7 n0 n1 n2 n3 n4
        obtain ⟨w4, hw4⟩ : ∃ w4, w4 = st8s w3 g (f * 8) ⟨true, false, 1, sa, sb, (ca, n.kids.length, cc), sd, se⟩ := ⟨_, rfl⟩
        rw [← hw4] at HO4 HB4
        dsimp only [st8s] at hw4
        rw [← hw4]
        clear hw4
        obtain ⟨Q4, hQ4⟩ : ∃ Q4, Q4 = P.set f ⟨true, false, 1, n⟩ := ⟨_, rfl⟩
        have HQ4L : Hid (Q4.length = P.length) := Lib.hid (by rw [hQ4, List.length_set])
        rw [← hQ4] at HO4 HQ4 HG
        clear hQ4
        have hN4 := HN2.out.below HB4.out HN2.out.lt
        obtain ⟨n0, n1, n2, n3, n4, -⟩ := p5_ok hN4
        clear hN4
        have hkm : (n.kids.length : Int) ≤ 1000000 := by omega
        go_wp2_with fail
        go_loopw [48] (fun i wr => ∃ k : Nat, k ≤ n.kids.length ∧ i = .int .i64 k ∧ Hid (OwnF w0 wr w2.heap.size (.slice (some ⟨g, 0, none⟩) P.length cap3) (heldP Q4 (n.kids.take k))) ∧ Hid (Below w2.heap.size w2 wr)) (fun i _ => n.kids.length - (intOf i).toNat)
        case atStart => exact ⟨0, Nat.zero_le _, rfl, HO4, HB4⟩
        case round =>
          obtain ⟨k, hkk, rfl, HOr, HBr⟩ := hrel
          by_cases hlt : k < n.kids.length
          · obtain ⟨b5, off5, cap5, he, hbl5, hlz5, x0⟩ := at_int (HKI.out.below (Below.next Hb2.out (Nat.le_refl _) HBr.out)) k hlt
            injection he with he1 he2 he3
            subst he1 he3
            clear he2
            have hltz : (k : Int) < (n.kids.length : Int) := by omega
            have hu' : usedB P n.kids[k] = true := List.all_eq_true.1 Hu.out _ (List.getElem_mem hlt)
            obtain ⟨kk, hkk2⟩ : ∃ kk : Nat, n.kids[k] = (kk : Int) := ⟨_, (Int.toNat_of_nonneg (usedB_lt hu').1).symm⟩
            have HT : Hid (heldP Q4 (n.kids.take (k + 1)) = incP (heldP Q4 (n.kids.take k)) (kk : Int)) := Lib.hid (by rw [List.take_succ_eq_append_getElem hlt, hkk2, heldP_snoc])
            rw [hkk2] at x0 hu'
            obtain ⟨q1, q2, q3⟩ := HQ4.out kk hu'
            have hqz : (kk : Int) < (P.length : Int) := by omega
            have hm := atP_heldP (P := Q4) (ks := n.kids.take k) (fun x hx => by
              have h1 := usedB_lt (List.all_eq_true.1 Hu.out x (List.mem_of_mem_take hx))
              exact ⟨h1.1, by rw [HQ4L.out]; omega⟩) kk
            have hcn : (n.kids.take k).count (kk : Int) ≤ k := Nat.le_trans List.count_le_length (by rw [List.length_take]; omega)
            have hHL : (heldP Q4 (n.kids.take k)).length = P.length := by rw [heldP_len, HQ4L.out]
            obtain ⟨sv, hsv, hcs⟩ := HOr.out.at kk (by omega)
            obtain ⟨-, -, c2, -, -, -, -, -⟩ := p8_ok hcs
            have f2 := HOr.out.free (kk * 8 + 2)
            have hsr := hsv.refs
            have hmr : (atP (heldP Q4 (n.kids.take k)) kk).refs = (atP Q4 kk).refs + ((n.kids.take k).count (kk : Int) : Nat) := by rw [hm]; rfl
            obtain ⟨r, hr1⟩ : ∃ r, r = sv.refs := ⟨_, rfl⟩
            rw [← hr1] at c2
            have HT2 : Hid (heldP Q4 (n.kids.take (k + 1)) = (heldP Q4 (n.kids.take k)).set kk { atP (heldP Q4 (n.kids.take k)) kk with refs := r + 1 }) := Lib.hid (by rw [HT.out, hr1, hsr]; rfl)
            have hr2 : 0 ≤ r ∧ r ≤ 2000000000 := by rw [hr1, hsr, hmr]; omega
            obtain ⟨hr3, hr4⟩ := hr2
            clear hm hmr hsr hr1 hsv hcs hcn q1 q2 q3 hu' hkk2
            have HHL := Lib.hid hHL
            clear hHL
            go_wp2
            go_roundw
            case rel => exact ⟨k + 1, by omega, by go_num, Lib.hid (by rw [HT2.out]; exact HOr.out.refs kk (by rw [HHL.out]; omega) (r + 1)), Lib.hid (HBr.out.setCell hgb1 _)⟩
            case measure => simp [intOf]; omega
          · obtain rfl : k = n.kids.length := by omega
            rw [List.take_length] at HOr
            have hR := HR2.out.below HBr.out HR2.out.lt
            have r0 := hR.c0 0 _ rfl
            have g0 := hR.free 0
            have HRr := Lib.hid hR
            have HL2 := Lib.hid HR2.out.lt
            clear hR
            go_wp2
            have z0 := (HRr.out.setCell 0 (.slice (some ⟨g, 0, none⟩) P.length cap3)).c0 0 _ rfl
            refine bodyPost_ret (v := .tuple #[poolV (.slice (some ⟨g, 0, none⟩) P.length cap3), .int .i64 f, .int .i64 0]) (by simp [results, Try.results38, go_sem, z0]) rfl ?_
            rw [HG.out]
            have hB : Below w.heap.size w (wr.setCell ⟨w.heap.size + 2, 0, none⟩ (.slice (some ⟨g, 0, none⟩) P.length cap3)) := (Below.next Hb2.out (Nat.le_refl _) HBr.out).setCell (by show w.heap.size ≤ w.heap.size + 2; omega) _
            exact ⟨_, rfl, (HOr.out.setOther (w.heap.size + 2) 0 (.slice (some ⟨g, 0, none⟩) P.length cap3) (by have := HL2.out; intro e; have e2 : g = w.heap.size + 2 := Option.some.inj e; omega)).slF, fun b hb => .inr (by injection hb with hb; have := Hb2.out.size; show w.heap.size ≤ b; rw [← hb]; show w.heap.size ≤ g; omega), hB⟩
  · have HG : Hid (addP P n = (P, 0, 110)) := Lib.hid (by unfold addP; rw [if_neg hu])
    have hu : n.kids.all (usedB P) = false := by simpa using hu
    rw [hu] at HA
    clear hu
    go_enter Try.func38, Try.ntmps38
    go_wp2_with fail
    rw [← HW1.out]
    refine (HA.out _ HB0.out).mono ?_
    rintro e w1 ⟨rfl, hb⟩
    have Hb : Hid (Below w.heap.size w w1) := Lib.hid (Below.next HB0.out (Nat.le_refl _) hb)
    have hP1 := HP.out.below hb HP.out.lt
    have HR1 := Lib.hid (HR.out.below hb HR.out.lt)
    have p0 : w1.cell? ⟨w.heap.size, 0, none⟩ = some (.slice a P.length cap) := hP1.c0 0 _ rfl
    obtain ⟨r0, g0⟩ : w1.cell? ⟨w.heap.size + 2, 0, none⟩ = some (.slice none 0 0) ∧ w1.frozen? ⟨w.heap.size + 2, 0, none⟩ = false := ⟨HR1.out.c0 0 _ rfl, HR1.out.free 0⟩
    clear hb hP1
    go_wp2
    have z0 := (HR1.out.setCell 0 (.slice a P.length cap)).c0 0 _ rfl
    refine bodyPost_ret (v := .tuple #[poolV (.slice a P.length cap), .int .i64 0, .int .i64 110]) (by simp [results, Try.results38, go_sem, z0]) rfl ?_
    rw [HG.out]
    have hB := Hb.out.setCell (p := ⟨w.heap.size + 2, 0, none⟩) (by simp) (.slice a P.length cap)
    exact ⟨_, rfl, H0.out.below hB, fun b hb => .inl rfl, hB⟩

set_option maxHeartbeats 4000000 in
theorem laddF_w (v nv : Value) (P : List Sl) (n : Nd) (w0 w : World) (h0 : SlF w0 w v P) (h : IsSlots w v P) (hn0 : IsNode w0 nv n) (hn : IsNode w nv n) (hl : P.length ≤ 4096) (hk : n.kids.length ≤ 1000000) (hr : ∀ i, (atP P i).used = true → 0 ≤ (atP P i).refs ∧ (atP P i).refs ≤ 1000000000) :
    Calls Try.prog 15 #[poolV v, nv] w fun e w' => ∃ v', e = .returned (.agg #[v', .int .i64 (addP P n).2.1, .int .i64 (addP P n).2.2]) ∧ SlOut w0 w w' v v' (addP P n).1 := by
  have mixed := mixedA
  have H := Lib.hid h
  have HND := Lib.hid hn
  obtain ⟨s, rfl, hs1, hs2, hs3, hs⟩ := hn0.sl true false 1
  obtain ⟨su, sl, sr, sa, sb, sc, sd, se⟩ := s
  obtain ⟨a, cap, rfl, hlc, hcm, hpm⟩ := h.slice
  have HADD := Lib.hid (fun wx (hb : Below w.heap.size w wx) => addF_w (.slice a P.length cap) _ P n w0 wx (h0.below hb) (h.below hb) hn0 (hn.below hb) hl hk hr)
  clear h hn hs hs1 hs2 hs3 h0 hn0
  obtain ⟨W1, hW1⟩ : ∃ W1, W1 = (((w.alloc (.cells #[.slice a P.length cap] 29)).alloc (.cells #[slv sa, slv sb, slv sc, slv sd, slv se] 39)).alloc (.cells #[.slice none 0 0, .int .i64 0, .int .i64 0] 44)) := ⟨_, rfl⟩
  have HB0 : Hid (Below w.heap.size w W1) := Lib.hid (by rw [hW1]; exact keepP (keepP (keepP (Below.refl _ _) _) _) _)
  have HP : Hid (Blk W1 w.heap.size 29 #[.slice a P.length cap]) := Lib.hid (by rw [hW1]; exact ((Blk.new _ _ _).alloc _).alloc _)
  have HN : Hid (Blk W1 (w.heap.size + 1) 39 #[slv sa, slv sb, slv sc, slv sd, slv se]) := Lib.hid (by rw [hW1]; exact (Blk.new' _ _ _ (by simp)).alloc _)
  have HR : Hid (Blk W1 (w.heap.size + 2) 44 #[.slice none 0 0, .int .i64 0, .int .i64 0]) := Lib.hid (by rw [hW1]; exact Blk.new' _ _ _ (by simp))
  have HW1 := Lib.hid hW1
  clear hW1
  go_enter Try.func15, Try.ntmps15
  go_upto_region 1 with fail
  rw [← HW1.out]
  have p0 := HP.out.c0 0 _ rfl
  obtain ⟨n0, n1, n2, n3, n4, -⟩ := p5_ok HN.out
  go_wp2_with fail
  refine (HADD.out _ HB0.out).mono ?_
  rintro e w2 ⟨v2, rfl, hout⟩
  obtain ⟨a2, c2, rfl⟩ : ∃ a2 c2, v2 = .slice a2 (addP P n).1.length c2 := by obtain ⟨L, _, a3, cap3, e3, _⟩ := hout.sl; exact ⟨a3, cap3, e3⟩
  have HOUT := Lib.hid hout
  have hr2 := HR.out.below hout.bel HR.out.lt
  have HFAR := Lib.hid (hout.far2 H.out (w.heap.size + 2) (by omega) HR.out.lt)
  obtain ⟨r0, r1, r2, g0, g1, g2⟩ := three_ok (hr2.alloc (.cells #[.slice a2 (addP P n).1.length c2] 29))
  have HR2 := Lib.hid hr2
  clear hout hr2 p0 n0 n1 n2 n3 n4
  go_wp2
  obtain ⟨z0, z1, z2, -⟩ := three_ok (blk_set3 (HR2.out.alloc (.cells #[.slice a2 (addP P n).1.length c2] 29)) (.slice a2 (addP P n).1.length c2) (.int .i64 (addP P n).2.1) (.int .i64 (addP P n).2.2))
  refine bodyPost_ret (v := .agg #[.slice a2 (addP P n).1.length c2, .int .i64 (addP P n).2.1, .int .i64 (addP P n).2.2]) (by simp [results, Try.results15, go_sem, z0, z1, z2]) rfl ?_
  have hB := below_set3 (keepP (HB0.out.trans (HOUT.out.bel.mono HB0.out.size)) (.cells #[.slice a2 (addP P n).1.length c2] 29)) (w.heap.size + 2) (by omega) (.slice a2 (addP P n).1.length c2) (.int .i64 (addP P n).2.1) (.int .i64 (addP P n).2.2)
  exact ⟨_, rfl, ⟨(HOUT.out.sl.below (below_box _)).but (but_set3 _ _ _ _ _) HFAR.out, fun b hb => (HOUT.out.blk b hb).imp id (fun h => Nat.le_trans HB0.out.size h), hB⟩⟩

/-- Where the result of the law's add lies, at block b. -/
structure AddOk2 (W1 : World) (P : List Sl) (n : Nd) (b : Nat) (v' : Value) (wx : World) : Prop where
  blk : Blk wx b 44 #[v', .int .i64 (addP P n).2.1, .int .i64 (addP P n).2.2]
  sl : IsSlots wx v' (addP P n).1
  bel : Below W1.heap.size W1 wx
  le : W1.heap.size ≤ b
theorem AddOk2.stored {w W1 w0 wc wx : World} {P : List Sl} {n : Nd} {b : Nat} {v v' : Value} {c0 c1 c2 : Value} (hb : Blk wx b 44 #[c0, c1, c2]) (hout : SlOut w0 wc wx v v' (addP P n).1) (hf : ∀ r, w.heap.size ≤ r → r < wc.heap.size → (addP P n).1 ≠ [] → blkOf v' ≠ some r)
    (hc : Below W1.heap.size W1 wc) (h0c : Below w0.heap.size w0 wc) (hw : w.heap.size ≤ W1.heap.size) (hle : W1.heap.size ≤ b) (h0b : w0.heap.size ≤ b) (hlt : b < wc.heap.size) :
    AddOk2 W1 P n b v' (set3 wx b v' (.int .i64 (addP P n).2.1) (.int .i64 (addP P n).2.2)) :=
  ⟨blk_set3 hb _ _ _, (hout.sl.but (but_set3 _ _ _ _ _) (hf b (by omega) hlt)).slots (below_set3 (h0c.trans (hout.bel.mono h0c.size)) b h0b _ _ _), below_set3 (hc.trans (hout.bel.mono hc.size)) b hle _ _ _, hle⟩
theorem AddOk2.holed {w W1 w2 wh wc wx : World} {P : List Sl} {n : Nd} {b : Nat} {v v' : Value} {c0 c1 c2 : Value} (hb : Blk wx b 44 #[c0, c1, c2]) (hout : SlOut wh wc wx v v' (addP P n).1) (hf : ∀ r, w.heap.size ≤ r → r < wc.heap.size → (addP P n).1 ≠ [] → blkOf v' ≠ some r)
    (hbare : ∀ i, Bare (atP (addP P n).1 i).node) (hhc : ∀ o, wh.cell? ⟨b, o, none⟩ = none) (hh : ButP b wh w2) (h2c : Below w2.heap.size w2 wc) (hc : Below W1.heap.size W1 wc) (hw : w.heap.size ≤ W1.heap.size) (hle : W1.heap.size ≤ b) (hlt : b < wc.heap.size) :
    AddOk2 W1 P n b v' (set3 wx b v' (.int .i64 (addP P n).2.1) (.int .i64 (addP P n).2.2)) :=
  ⟨blk_set3 hb _ _ _, slots_hole (hout.sl.but (but_set3 _ _ _ _ _) (hf b (by omega) hlt)) hbare hhc (((hh.trans (ButP.of h2c)).trans (ButP.of hout.bel)).trans (but_set3 _ _ _ _ _)), below_set3 (hc.trans (hout.bel.mono hc.size)) b hle _ _ _, hle⟩
theorem AddOk2.fresh {W1 w0 wc wx : World} {P : List Sl} {n : Nd} {v v' : Value} (hout : SlOut w0 wc wx v v' (addP P n).1)
    (hc : Below W1.heap.size W1 wc) (h0c : Below w0.heap.size w0 wc) :
    AddOk2 W1 P n wx.heap.size v' (wx.alloc (.cells #[v', .int .i64 (addP P n).2.1, .int .i64 (addP P n).2.2] 44)) :=
  ⟨Blk.new _ _ _, (hout.sl.slots (h0c.trans (hout.bel.mono h0c.size))).below (below_box _), (hc.trans (hout.bel.mono hc.size)).alloc (Nat.le_trans hc.size hout.bel.size) _, Nat.le_trans hc.size hout.bel.size⟩
/-- A block that holds slices alone. -/
def OnlyS (w : World) (r : Nat) : Prop := ∀ o u, w.cell? ⟨r, o, none⟩ = some u → ∃ a n c, u = .slice a n c
theorem onlyS1 {w : World} {r : Nat} {T : TypeId} {a : Option Addr} {n c : Nat} (h : Blk w r T #[.slice a n c]) : OnlyS w r := by
  intro o u hu
  rw [h.cell] at hu
  match o, hu with
  | 0, hu => exact ⟨_, _, _, (Option.some.inj hu).symm⟩
  | k + 1, hu => simp at hu
theorem onlyS2 {w : World} {r : Nat} {T : TypeId} {a a' : Option Addr} {n c n' c' : Nat} (h : Blk w r T #[.slice a n c, .slice a' n' c']) : OnlyS w r := by
  intro o u hu
  rw [h.cell] at hu
  match o, hu with
  | 0, hu => exact ⟨_, _, _, (Option.some.inj hu).symm⟩
  | 1, hu => exact ⟨_, _, _, (Option.some.inj hu).symm⟩
  | k + 2, hu => simp at hu
theorem ints_offS {w : World} {v : Value} {l : List Int} {r : Nat} (h : IsInts w v l) (hr : OnlyS w r) : l ≠ [] → blkOf v ≠ some r := by
  intro hne e
  obtain ⟨a, cap, rfl, h2, h3, h4⟩ := h
  obtain ⟨b, off, rfl, hlt, hc⟩ := h4 hne
  obtain rfl : b = r := Option.some.inj e
  obtain ⟨_, _, _, hu⟩ := hr _ _ (hc 0 (List.length_pos_iff.2 hne))
  cases hu
theorem pairs_offS {w : World} {v : Value} {l : List Pr} {r : Nat} (h : IsPairs w v l) (hr : OnlyS w r) : l ≠ [] → blkOf v ≠ some r := by
  intro hne e
  obtain ⟨a, cap, rfl, h2, h3, hs, h4⟩ := h
  obtain ⟨b, off, rfl, hlt, hc⟩ := h4 hne
  obtain rfl : b = r := Option.some.inj e
  obtain ⟨_, _, _, hu⟩ := hr _ _ (hc 0 (List.length_pos_iff.2 hne)).1
  cases hu
theorem slots_offS {w : World} {v : Value} {P : List Sl} {r : Nat} (h : IsSlots w v P) (hr : OnlyS w r) : P ≠ [] → blkOf v ≠ some r := by
  intro hne e
  obtain ⟨L, _, a, cap, rfl, _, _, h4⟩ := h
  obtain ⟨b, off, rfl, hlt, hc⟩ := h4 hne
  obtain rfl : b = r := Option.some.inj e
  obtain ⟨_, _, _, hu⟩ := hr _ _ (hc 0 (List.length_pos_iff.2 hne)).1
  cases hu
theorem isSl_butS {w w' : World} {v : Sv} {s : Sl} {r : Nat} (h : IsSl w v s) (hs : Bare s.node) (hr : OnlyS w r) (hb : ButP r w w') : IsSl w' v s := by
  obtain ⟨h1, h2, h3, h4, h5, h6, h7, h8⟩ := h
  obtain ⟨e1, e2, e3⟩ := hs
  refine ⟨h1, h2, h3, pairs_but h4 hb (pairs_offS h4 hr), ?_, ints_but h6 hb (ints_offS h6 hr), ?_, ?_⟩
  · rw [e1] at h5 ⊢
    obtain ⟨a, cap, e, x1, x2, -⟩ := h5
    exact ⟨a, cap, e, x1, x2, fun h => absurd rfl h⟩
  · rw [e2] at h7 ⊢
    obtain ⟨a, cap, e, x1, x2, -⟩ := h7
    exact ⟨a, cap, e, x1, x2, fun h => absurd rfl h⟩
  · rw [e3] at h8 ⊢
    obtain ⟨a, cap, e, x1, x2, -⟩ := h8
    exact ⟨a, cap, e, x1, x2, fun h => absurd rfl h⟩
/-- Slots and numbers stay, but for a store into a box of slices. -/
theorem slots_butS {w w' : World} {v : Value} {P : List Sl} {r : Nat} (h : IsSlots w v P) (hbare : ∀ i, Bare (atP P i).node) (hr : OnlyS w r) (hb : ButP r w w') : IsSlots w' v P := by
  have h2 := h.slF.but hb (slots_offS h hr)
  obtain ⟨L, h3, h4⟩ := h2
  exact ⟨L, ⟨h3.1, fun i => isSl_butS (h3.2 i) (hbare i) hr hb⟩, h4⟩
theorem ints_butS {w w' : World} {v : Value} {l : List Int} {r : Nat} (h : IsInts w v l) (hr : OnlyS w r) (hb : ButP r w w') : IsInts w' v l := ints_but h hb (ints_offS h hr)
theorem drop_same {P : List Sl} {R : List Int} {j m : Nat} (h : Good P R j) (hm : m < R.length) : dropP P (R.getD m 0) = rdropP P (R.getD m 0) := by
  have hp := roots_perm hm
  have hu : usedB P (R.getD m 0) = true := h.fair.all _ (List.mem_append_left _ (hp.mem_iff.2 (by simp)))
  unfold dropP rdropP
  rw [if_pos hu, if_pos hu]
  congr 1
  exact DR.unique (runL_dr _ _ _ (Nat.le_refl _)) (runQ_dr _ _ _ (Nat.le_refl _)) (h.fair.perm hp) (h.fair.perm hp) h.tidy h.acyc
theorem k_drop {v : Value} {P : List Sl} {R : List Int} {j m : Nat} {w : World} (hg : Good P R j) (hm : m < R.length) (hj : j ≤ 100) (h : IsSlots w v P) :
    Calls Try.prog 28 #[poolV v, .int .i64 (R.getD m 0)] w fun e w' => GivesP w w' (fun x => .tuple #[poolV x, .int .i64 0]) e (rdropP P (R.getD m 0)).1 := by
  have hu : usedB P (R.getD m 0) = true := hg.fair.all _ (List.mem_append_left _ ((roots_perm hm).mem_iff.2 (by simp)))
  have := m_drop (i := R.getD m 0) ⟨by have := hg.plen; omega, fun i => by have := hg.refs i; omega, fun i => by have := hg.mu [i]; simp at this; omega⟩ h
  have e2 : (dropP P (R.getD m 0)).2 = 0 := by unfold dropP; rw [if_pos hu]
  rw [e2, drop_same hg hm] at this
  exact this
theorem k_hold {v : Value} {P : List Sl} {R : List Int} {j m : Nat} {w : World} (hg : Good P R j) (hm : m < R.length) (hj : j ≤ 100) (h : IsSlots w v P) :
    Calls Try.prog 21 #[poolV v, .int .i64 (R.getD m 0)] w fun e w' => GivesP w w' (fun x => .tuple #[poolV x, .int .i64 0]) e (holdP P (R.getD m 0)).1 := by
  have hu : usedB P (R.getD m 0) = true := hg.fair.all _ (List.mem_append_left _ ((roots_perm hm).mem_iff.2 (by simp)))
  have := m_hold (i := R.getD m 0) ⟨by have := hg.plen; omega, fun i => by have := hg.refs i; omega, fun i => by have := hg.mu [i]; simp at this; omega⟩ h
  have e2 : (holdP P (R.getD m 0)).2 = 0 := by unfold holdP; rw [if_pos hu]
  rw [e2] at this
  exact this

end Go.Proofs.Ytlgangcldlphnaa
