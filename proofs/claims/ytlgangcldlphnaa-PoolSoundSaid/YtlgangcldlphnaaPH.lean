/-
  Walks: Add.
-/
import Derived.Test.YtlgangcldlphnaaPF
import Derived.Test.YtlgangcldlphnaaPJ
namespace Go.Proofs.Ytlgangcldlphnaa
open Go.RowKit Go.Sort
set_option linter.unusedVariables false
set_option maxRecDepth 100000

/-- A copied row of slots to which one, zero, is appended. -/
theorem append_zero {w0 w : World} {ops : Array Oper} {rest : List Oper} {o : Oper} {a : Act} {Q : Exit → Act → World → Prop} (hgd : o.guard = none) (s x : Operand)
    (ho : o.op = .call { callee := .builtin .append, args := #[s, x], argTypes := #[27, 27] }) (base : Nat) (v : Value) (P : List Sl) (hs : a.eval s = v) (hown : OwnF w0 w base v P)
    (hx : a.eval x = .slice (some ⟨w.heap.size, 0, none⟩) 1 1) (hl : P.length ≤ 1000000) (hbase : base ≤ w.heap.size)
    (h : ∀ v' w', OwnF w0 w' base v' (P ++ [zSl]) → Below base (w.alloc (.cells #[.bool false, .bool false, .int .i64 0, .slice none 0 0, .slice none 0 0, .slice none 0 0, .slice none 0 0, .slice none 0 0] 61)) w' → wpList Try.prog ops Q rest (a.put o.dst v') w') : wpList Try.prog ops Q (o :: rest) a (w.alloc (.cells #[.bool false, .bool false, .int .i64 0, .slice none 0 0, .slice none 0 0, .slice none 0 0, .slice none 0 0, .slice none 0 0] 61)) := by
  obtain ⟨L, hL, hrow⟩ := hown
  have hB : Blk (w.alloc (.cells #[.bool false, .bool false, .int .i64 0, .slice none 0 0, .slice none 0 0, .slice none 0 0, .slice none 0 0, .slice none 0 0] 61)) w.heap.size 61 (encV zSv).toArray := Blk.new _ _ _
  refine append_any (en := encV) hgd s x 27 61 _ 8 136 infoSl Try.underlying27 rfl (by decide) (by decide) encV_len encV_one ho base v L hs ?_ _ [zSv] hx ⟨_, 1, rfl, fun _ => ⟨w.heap.size, 0, rfl, fun i hi j u hu => ?_⟩⟩ (by simp; have := hL.1; omega) (by simp; omega) ?_
  · rw [hL.1]; exact hrow.alloc _
  · have hi0 : i = 0 := by simpa using hi
    subst hi0
    rw [hB.cell]
    simpa using hu
  · intro v' w' h1 h2
    exact h v' w' ⟨L ++ [zSv], hL.push, by have e := hL.1; rw [List.length_append] at h1 ⊢; rw [e] at h1; exact h1⟩ h2
theorem heldP_snoc (Q : List Sl) (ks : List Int) (k : Int) : heldP Q (ks ++ [k]) = incP (heldP Q ks) k := by unfold heldP; rw [List.foldl_append]; rfl
theorem p8_ok {w : World} {b o : Nat} {s : Sv} (h : VAt w b o s) : w.cell? ⟨b, o, none⟩ = some (.bool s.used) ∧ w.cell? ⟨b, o + 1, none⟩ = some (.bool s.lost) ∧ w.cell? ⟨b, o + 2, none⟩ = some (.int .i64 s.refs) ∧ w.cell? ⟨b, o + 3, none⟩ = some (slv s.a) ∧
  w.cell? ⟨b, o + 4, none⟩ = some (slv s.b) ∧ w.cell? ⟨b, o + 5, none⟩ = some (slv s.c) ∧ w.cell? ⟨b, o + 6, none⟩ = some (slv s.d) ∧ w.cell? ⟨b, o + 7, none⟩ = some (slv s.e) := h
set_option maxHeartbeats 4000000 in
theorem add_w (v nv : Value) (P : List Sl) (n : Nd) (w0 w : World) (h0 : SlF w0 w v P) (hb0 : Below w0.heap.size w0 w) (hn : IsNode w0 nv n) (hl : P.length ≤ 4096) (hk : n.kids.length ≤ 1000000) (hr : ∀ i, (atP P i).used = true → 0 ≤ (atP P i).refs ∧ (atP P i).refs ≤ 1000000000) :
    Calls Try.prog 38 #[poolV v, nv] w fun e w' => ∃ v', e = .returned (.tuple #[poolV v', .int .i64 (addP P n).2.1, .int .i64 (addP P n).2.2]) ∧ SlOut w0 w w' v v' (addP P n).1 := by
  have mixed := mixedA
  have h := h0.slots hb0
  have H0 := Lib.hid h0
  have HB00 := Lib.hid hb0
  obtain ⟨s, rfl, hs1, hs2, hs3, hs⟩ := hn.sl true false 1
  have hkl := hs.lens.2.2.1
  obtain ⟨su, sl, sr, sa, sb, ⟨ca, cn, cc⟩, sd, se⟩ := s
  simp only at hs1 hs2 hs3 hkl
  subst hs1 hs2 hs3 hkl
  have HS := Lib.hid hs
  have H := Lib.hid h
  have HKI : Hid (IsInts w (.slice ca n.kids.length cc) n.kids) := Lib.hid (hs.kids.below hb0)
  obtain ⟨a, cap, rfl, hlc, hcm, hpm⟩ := h.slice
  clear h hn hs h0 hb0
  obtain ⟨W1, hW1⟩ : ∃ W1, W1 = (((w.alloc (.cells #[.slice a P.length cap] 29)).alloc (.cells #[slv sa, slv sb, .slice ca n.kids.length cc, slv sd, slv se] 39)).alloc (.cells #[.slice none 0 0] 29)) := ⟨_, rfl⟩
  have HB0 : Hid (Below w.heap.size w W1) := Lib.hid (by rw [hW1]; exact (((Grown.refl w).alloc _).alloc _ |>.alloc _).below (Nat.le_refl _))
  have HP : Hid (Blk W1 w.heap.size 29 #[.slice a P.length cap]) := Lib.hid (by rw [hW1]; exact ((Blk.new _ _ _).alloc _).alloc _)
  have HN : Hid (Blk W1 (w.heap.size + 1) 39 #[slv sa, slv sb, .slice ca n.kids.length cc, slv sd, slv se]) := Lib.hid (by rw [hW1]; exact (Blk.new' _ _ _ (by simp)).alloc _)
  have HR : Hid (Blk W1 (w.heap.size + 2) 29 #[.slice none 0 0]) := Lib.hid (by rw [hW1]; exact Blk.new' _ _ _ (by simp))
  have HW1 := Lib.hid hW1
  clear hW1
  have HA := Lib.hid (fun wx (hx : Below w.heap.size w wx) => allUsed_w (.slice a P.length cap) (.slice ca n.kids.length cc) P n.kids wx (H.out.below hx) (HKI.out.below hx))
  have HF := Lib.hid (fun wx (hx : Below w.heap.size w wx) => firstFree_w (.slice a P.length cap) P wx (H.out.below hx))
  have HCL := Lib.hid (fun wx (hx : Below w.heap.size w wx) => cloneSl_w (.slice a P.length cap) P w0 wx (H0.out.below hx) (HB00.out.trans (hx.mono HB00.out.size)) (by omega))
  obtain ⟨f, hf⟩ : ∃ f : Nat, freeI P = f := ⟨_, rfl⟩
  have hfl : f ≤ P.length := by rw [← hf]; exact freeI_le P
  rw [hf] at HF
  have Hf := Lib.hid hf
  clear hf
  by_cases hu : n.kids.all (usedB P) = true
  · rw [hu] at HA
    have Hu := Lib.hid hu
    clear hu
    go_enter Try.func38, Try.ntmps38
    go_wp2_with fail
    rw [← HW1.out]
    refine (HA.out _ HB0.out).mono ?_
    rintro e w1 ⟨rfl, hb⟩
    have Hb : Hid (Below w.heap.size w w1) := Lib.hid (Below.next HB0.out (Nat.le_refl _) hb)
    have hN1 := HN.out.below hb HN.out.lt
    have hP1 := HP.out.below hb HP.out.lt
    have hR1 := HR.out.below hb HR.out.lt
    have p0 : w1.cell? ⟨w.heap.size, 0, none⟩ = some (.slice a P.length cap) := hP1.c0 0 _ rfl
    have HN1 := Lib.hid hN1
    have HP1 := Lib.hid hP1
    have HR1 := Lib.hid hR1
    clear hb hN1 hP1 hR1
    go_wp2_with fail
    refine (HF.out _ Hb.out).mono ?_
    rintro e w2 ⟨rfl, hb⟩
    clear p0
    have Hb2 : Hid (Below w.heap.size w w2) := Lib.hid (Below.next Hb.out (Nat.le_refl _) hb)
    have hN1 := HN1.out.below hb HN1.out.lt
    have hP1 := HP1.out.below hb HP1.out.lt
    have hR1 := HR1.out.below hb HR1.out.lt
    have p0 : w2.cell? ⟨w.heap.size, 0, none⟩ = some (.slice a P.length cap) := hP1.c0 0 _ rfl
    have HN2 := Lib.hid hN1
    have HP2 := Lib.hid hP1
    have HR2 := Lib.hid hR1
    clear hb hN1 hP1 hR1
    by_cases hfe : f = P.length
    · have e1 : ((f : Int) == (P.length : Int)) = true := by rw [hfe]; simp
      by_cases hfull : 4096 ≤ f
      · have HG : Hid (addP P n = (P, 0, 111)) := Lib.hid (by unfold addP; rw [if_pos Hu.out, if_pos (by rw [Hf.out]; omega)])
        have e2 : (4096 : Int) ≤ (f : Int) := by omega
        obtain ⟨r0, g0⟩ : w2.cell? ⟨w.heap.size + 2, 0, none⟩ = some (.slice none 0 0) ∧ w2.frozen? ⟨w.heap.size + 2, 0, none⟩ = false := ⟨HR2.out.c0 0 _ rfl, HR2.out.free 0⟩
        clear hfe
        go_wp2
        have z0 := (HR2.out.setCell 0 (.slice a P.length cap)).c0 0 _ rfl
        refine bodyPost_ret (v := .tuple #[poolV (.slice a P.length cap), .int .i64 0, .int .i64 111]) (by simp [results, Try.results38, go_sem, z0]) rfl ?_
        rw [HG.out]
        have hB := Hb2.out.setCell (p := ⟨w.heap.size + 2, 0, none⟩) (by simp) (.slice a P.length cap)
        exact ⟨_, rfl, H0.out.below hB, fun b hb => .inl rfl, hB⟩
      · have HG : Hid (addP P n = (heldP ((P ++ [zSl]).set f ⟨true, false, 1, n⟩) n.kids, (f : Int), 0)) := Lib.hid (by unfold addP; rw [if_pos Hu.out, if_neg (by rw [Hf.out]; omega)]; unfold placeP; rw [Hf.out, if_pos hfe])
        have e2 : (f : Int) < 4096 := by omega
        have HQA : Hid (∀ i, atP (P ++ [zSl]) i = atP P i) := Lib.hid (fun i => atP_push P i)
        have hfq : f < (P ++ [zSl]).length ∧ P.length ≤ (P ++ [zSl]).length ∧ (P ++ [zSl]).length ≤ 4097 := by rw [List.length_append]; simp; omega
        have HFE := Lib.hid hfe
        clear hfe
        go_wp2_with fail
        refine (HCL.out _ Hb2.out).mono ?_
        rintro e w3 ⟨v3, rfl, hown, hb⟩
        obtain ⟨a3, cap3, rfl, -⟩ := hown.form
        have HO := Lib.hid hown
        have HB3 := Lib.hid hb
        clear hown hb p0
        go_upto_region 9 with (at_builtin; refine append_zero rfl _ _ rfl w2.heap.size _ P rfl HO.out rfl (by omega) HB3.out.size ?_; intro v4 w4 hown hb)
        have HO4 := Lib.hid hown
        have HB4 : Hid (Below w2.heap.size w2 w4) := Lib.hid ((HB3.out.alloc HB3.out.size _).trans hb)
        clear hown hb HO HB3
        obtain ⟨Q, hQ⟩ : ∃ Q, Q = P ++ [zSl] := ⟨_, rfl⟩
        rw [← hQ] at HO4 hfq HQA HG
        clear hQ
        obtain ⟨hfq1, hfq2, hfq3⟩ := hfq
        have HO := HO4
        have HB3 := HB4
        clear HO4 HB4
        obtain ⟨w3, hw3⟩ : ∃ w3, w3 = w4 := ⟨_, rfl⟩
        subst hw3
        obtain ⟨a3, cap3, rfl, hl3, hm3, hg3⟩ := HO.out.form
        have hfz : (f : Int) < (Q.length : Int) := by omega
        obtain ⟨g, rfl⟩ := hg3 (by omega)
        obtain ⟨hgb1, hgb2⟩ := HO.out.blk
        obtain ⟨sv, hsv, hcs⟩ := HO.out.at f (by omega)
        obtain ⟨c0, c1, c2, c3, c4, c5, c6, c7⟩ := p8_ok hcs
        have f0 := HO.out.free (f * 8)
        have f1 := HO.out.free (f * 8 + 1)
        have f2 := HO.out.free (f * 8 + 2)
        have f3 := HO.out.free (f * 8 + 3)
        have f4 := HO.out.free (f * 8 + 4)
        have f5 := HO.out.free (f * 8 + 5)
        have f6 := HO.out.free (f * 8 + 6)
        have f7 := HO.out.free (f * 8 + 7)
        have hN3 := HN2.out.below HB3.out HN2.out.lt
        obtain ⟨n0, n1, n2, n3, n4, -⟩ := p5_ok hN3
        have hqm : (Q.length : Int) ≤ 9223372036854775807 := by omega
        clear hsv hcs hg3 hN3
        go_upto_region 10 with fail
        have HO4 := Lib.hid (HO.out.slot f (by omega) HS.out)
        have HB4 := Lib.hid (below_st8s HB3.out g (f * 8) hgb1 ⟨true, false, 1, sa, sb, (ca, n.kids.length, cc), sd, se⟩)
        have HQ4 : Hid (∀ (kk : Nat), usedB P (kk : Int) = true → kk < Q.length ∧ 0 ≤ (atP (Q.set f ⟨true, false, 1, n⟩) kk).refs ∧ (atP (Q.set f ⟨true, false, 1, n⟩) kk).refs ≤ 1000000000) := Lib.hid (fun kk hu => by
          rw [usedB_nat] at hu
          have h1 := used_lt hu
          have h2 := hr kk hu
          have h3 : kk ≠ f := by rintro rfl; rw [← Hf.out, freeI_used] at hu; cases hu
          rw [atP_set kk (by omega), if_neg h3, HQA.out]
          exact ⟨by omega, h2⟩)
        clear c0 c1 c2 c3 c4 c5 c6 c7 f0 f1 f2 f3 f4 f5 f6 f7 n0 n1 n2 n3 n4
        obtain ⟨w4, hw4⟩ : ∃ w4, w4 = st8s w3 g (f * 8) ⟨true, false, 1, sa, sb, (ca, n.kids.length, cc), sd, se⟩ := ⟨_, rfl⟩
        rw [← hw4] at HO4 HB4
        dsimp only [st8s] at hw4
        rw [← hw4]
        clear hw4
        obtain ⟨Q4, hQ4⟩ : ∃ Q4, Q4 = Q.set f ⟨true, false, 1, n⟩ := ⟨_, rfl⟩
        have HQ4L : Hid (Q4.length = Q.length) := Lib.hid (by rw [hQ4, List.length_set])
        rw [← hQ4] at HO4 HQ4 HG
        clear hQ4
        have hN4 := HN2.out.below HB4.out HN2.out.lt
        obtain ⟨n0, n1, n2, n3, n4, -⟩ := p5_ok hN4
        clear hN4
        have hkm : (n.kids.length : Int) ≤ 1000000 := by omega
        go_wp2_with fail
        go_loopw [48] (fun i wr => ∃ k : Nat, k ≤ n.kids.length ∧ i = .int .i64 k ∧ Hid (OwnF w0 wr w2.heap.size (.slice (some ⟨g, 0, none⟩) Q.length cap3) (heldP Q4 (n.kids.take k))) ∧ Hid (Below w2.heap.size w2 wr)) (fun i _ => n.kids.length - (intOf i).toNat)
        case atStart => exact ⟨0, Nat.zero_le _, rfl, HO4, HB4⟩
        case round =>
          obtain ⟨k, hkk, rfl, HOr, HBr⟩ := hrel
          by_cases hlt : k < n.kids.length
          · obtain ⟨b5, off5, cap5, he, hbl5, hlz5, x0⟩ := at_int (HKI.out.below (Below.next Hb2.out (Nat.le_refl _) HBr.out)) k hlt
            injection he with he1 he2 he3
            subst he1 he3
            clear he2
            have hltz : (k : Int) < (n.kids.length : Int) := by omega
            have hu' : usedB P n.kids[k] = true := List.all_eq_true.1 Hu.out _ (List.getElem_mem hlt)
            obtain ⟨kk, hkk2⟩ : ∃ kk : Nat, n.kids[k] = (kk : Int) := ⟨_, (Int.toNat_of_nonneg (usedB_lt hu').1).symm⟩
            have HT : Hid (heldP Q4 (n.kids.take (k + 1)) = incP (heldP Q4 (n.kids.take k)) (kk : Int)) := Lib.hid (by rw [List.take_succ_eq_append_getElem hlt, hkk2, heldP_snoc])
            rw [hkk2] at x0 hu'
            obtain ⟨q1, q2, q3⟩ := HQ4.out kk hu'
            have hqz : (kk : Int) < (Q.length : Int) := by omega
            have hm := atP_heldP (P := Q4) (ks := n.kids.take k) (fun x hx => by
              have h1 := usedB_lt (List.all_eq_true.1 Hu.out x (List.mem_of_mem_take hx))
              exact ⟨h1.1, by rw [HQ4L.out]; omega⟩) kk
            have hcn : (n.kids.take k).count (kk : Int) ≤ k := Nat.le_trans List.count_le_length (by rw [List.length_take]; omega)
            have hHL : (heldP Q4 (n.kids.take k)).length = Q.length := by rw [heldP_len, HQ4L.out]
            obtain ⟨sv, hsv, hcs⟩ := HOr.out.at kk (by omega)
            obtain ⟨-, -, c2, -, -, -, -, -⟩ := p8_ok hcs
            have f2 := HOr.out.free (kk * 8 + 2)
            have hsr := hsv.refs
            have hmr : (atP (heldP Q4 (n.kids.take k)) kk).refs = (atP Q4 kk).refs + ((n.kids.take k).count (kk : Int) : Nat) := by rw [hm]; rfl
            obtain ⟨r, hr1⟩ : ∃ r, r = sv.refs := ⟨_, rfl⟩
            rw [← hr1] at c2
            have HT2 : Hid (heldP Q4 (n.kids.take (k + 1)) = (heldP Q4 (n.kids.take k)).set kk { atP (heldP Q4 (n.kids.take k)) kk with refs := r + 1 }) := Lib.hid (by rw [HT.out, hr1, hsr]; rfl)
            have hr2 : 0 ≤ r ∧ r ≤ 2000000000 := by rw [hr1, hsr, hmr]; omega
            obtain ⟨hr3, hr4⟩ := hr2
            clear hm hmr hsr hr1 hsv hcs hcn q1 q2 q3 hu' hkk2
            have HHL := Lib.hid hHL
            clear hHL
            go_wp2
            go_roundw
            case rel => exact ⟨k + 1, by omega, by go_num, Lib.hid (by rw [HT2.out]; exact HOr.out.refs kk (by rw [HHL.out]; omega) (r + 1)), Lib.hid (HBr.out.setCell hgb1 _)⟩
            case measure => simp [intOf]; omega
          · obtain rfl : k = n.kids.length := by omega
            rw [List.take_length] at HOr
            have hR := HR2.out.below HBr.out HR2.out.lt
            have r0 := hR.c0 0 _ rfl
            have g0 := hR.free 0
            have HRr := Lib.hid hR
            have HL2 := Lib.hid HR2.out.lt
            clear hR
            go_wp2
            have z0 := (HRr.out.setCell 0 (.slice (some ⟨g, 0, none⟩) Q.length cap3)).c0 0 _ rfl
            refine bodyPost_ret (v := .tuple #[poolV (.slice (some ⟨g, 0, none⟩) Q.length cap3), .int .i64 f, .int .i64 0]) (by simp [results, Try.results38, go_sem, z0]) rfl ?_
            rw [HG.out]
            have hB : Below w.heap.size w (wr.setCell ⟨w.heap.size + 2, 0, none⟩ (.slice (some ⟨g, 0, none⟩) Q.length cap3)) := (Below.next Hb2.out (Nat.le_refl _) HBr.out).setCell (by show w.heap.size ≤ w.heap.size + 2; omega) _
            exact ⟨_, rfl, (HOr.out.setOther (w.heap.size + 2) 0 (.slice (some ⟨g, 0, none⟩) Q.length cap3) (by have := HL2.out; intro e; have e2 : g = w.heap.size + 2 := Option.some.inj e; omega)).slF, fun b hb => .inr (by injection hb with hb; have := Hb2.out.size; show w.heap.size ≤ b; rw [← hb]; show w.heap.size ≤ g; omega), hB⟩
    · have e1 : ((f : Int) == (P.length : Int)) = false := by simp; omega
      have HG : Hid (addP P n = (heldP (P.set f ⟨true, false, 1, n⟩) n.kids, (f : Int), 0)) := Lib.hid (by unfold addP; rw [if_pos Hu.out, if_neg (by rw [Hf.out]; omega)]; unfold placeP; rw [Hf.out, if_neg hfe])
      · have HQA : Hid (∀ i, atP P i = atP P i) := Lib.hid (fun i => rfl)
        have hfq1 : f < P.length := by omega
        go_wp2_with fail
        refine (HCL.out _ Hb2.out).mono ?_
        rintro e w3 ⟨v3, rfl, hown, hb⟩
        obtain ⟨a3, cap3, rfl, hl3, hm3, hg3⟩ := hown.form
        have HO := Lib.hid hown
        have HB3 := Lib.hid hb
        clear hown hb p0
        have hfq2 : P.length ≤ P.length := Nat.le_refl _
        have hfq3 : P.length ≤ 4097 := by omega
        have hfz : (f : Int) < (P.length : Int) := by omega
        obtain ⟨g, rfl⟩ := hg3 (by omega)
        obtain ⟨hgb1, hgb2⟩ := HO.out.blk
        obtain ⟨sv, hsv, hcs⟩ := HO.out.at f (by omega)
        obtain ⟨c0, c1, c2, c3, c4, c5, c6, c7⟩ := p8_ok hcs
        have f0 := HO.out.free (f * 8)
        have f1 := HO.out.free (f * 8 + 1)
        have f2 := HO.out.free (f * 8 + 2)
        have f3 := HO.out.free (f * 8 + 3)
        have f4 := HO.out.free (f * 8 + 4)
        have f5 := HO.out.free (f * 8 + 5)
        have f6 := HO.out.free (f * 8 + 6)
        have f7 := HO.out.free (f * 8 + 7)
        have hN3 := HN2.out.below HB3.out HN2.out.lt
        obtain ⟨n0, n1, n2, n3, n4, -⟩ := p5_ok hN3
        have hqm : (P.length : Int) ≤ 9223372036854775807 := by omega
        clear hsv hcs hg3 hN3
        go_upto_region 10 with fail
        have HO4 := Lib.hid (HO.out.slot f (by omega) HS.out)
        have HB4 := Lib.hid (below_st8s HB3.out g (f * 8) hgb1 ⟨true, false, 1, sa, sb, (ca, n.kids.length, cc), sd, se⟩)
        have HQ4 : Hid (∀ (kk : Nat), usedB P (kk : Int) = true → kk < P.length ∧ 0 ≤ (atP (P.set f ⟨true, false, 1, n⟩) kk).refs ∧ (atP (P.set f ⟨true, false, 1, n⟩) kk).refs ≤ 1000000000) := Lib.hid (fun kk hu => by
          rw [usedB_nat] at hu
          have h1 := used_lt hu
          have h2 := hr kk hu
          have h3 : kk ≠ f := by rintro rfl; rw [← Hf.out, freeI_used] at hu; cases hu
          rw [atP_set kk (by omega), if_neg h3]
          exact ⟨by omega, h2⟩)
        clear c0 c1 c2 c3 c4 c5 c6 c7 f0 f1 f2 f3 f4 f5 f6 f7 n0 n1 n2 n3 n4
        obtain ⟨w4, hw4⟩ : ∃ w4, w4 = st8s w3 g (f * 8) ⟨true, false, 1, sa, sb, (ca, n.kids.length, cc), sd, se⟩ := ⟨_, rfl⟩
        rw [← hw4] at HO4 HB4
        dsimp only [st8s] at hw4
        rw [← hw4]
        clear hw4
        obtain ⟨Q4, hQ4⟩ : ∃ Q4, Q4 = P.set f ⟨true, false, 1, n⟩ := ⟨_, rfl⟩
        have HQ4L : Hid (Q4.length = P.length) := Lib.hid (by rw [hQ4, List.length_set])
        rw [← hQ4] at HO4 HQ4 HG
        clear hQ4
        have hN4 := HN2.out.below HB4.out HN2.out.lt
        obtain ⟨n0, n1, n2, n3, n4, -⟩ := p5_ok hN4
        clear hN4
        have hkm : (n.kids.length : Int) ≤ 1000000 := by omega
        go_wp2_with fail
        go_loopw [48] (fun i wr => ∃ k : Nat, k ≤ n.kids.length ∧ i = .int .i64 k ∧ Hid (OwnF w0 wr w2.heap.size (.slice (some ⟨g, 0, none⟩) P.length cap3) (heldP Q4 (n.kids.take k))) ∧ Hid (Below w2.heap.size w2 wr)) (fun i _ => n.kids.length - (intOf i).toNat)
        case atStart => exact ⟨0, Nat.zero_le _, rfl, HO4, HB4⟩
        case round =>
          obtain ⟨k, hkk, rfl, HOr, HBr⟩ := hrel
          by_cases hlt : k < n.kids.length
          · obtain ⟨b5, off5, cap5, he, hbl5, hlz5, x0⟩ := at_int (HKI.out.below (Below.next Hb2.out (Nat.le_refl _) HBr.out)) k hlt
            injection he with he1 he2 he3
            subst he1 he3
            clear he2
            have hltz : (k : Int) < (n.kids.length : Int) := by omega
            have hu' : usedB P n.kids[k] = true := List.all_eq_true.1 Hu.out _ (List.getElem_mem hlt)
            obtain ⟨kk, hkk2⟩ : ∃ kk : Nat, n.kids[k] = (kk : Int) := ⟨_, (Int.toNat_of_nonneg (usedB_lt hu').1).symm⟩
            have HT : Hid (heldP Q4 (n.kids.take (k + 1)) = incP (heldP Q4 (n.kids.take k)) (kk : Int)) := Lib.hid (by rw [List.take_succ_eq_append_getElem hlt, hkk2, heldP_snoc])
            rw [hkk2] at x0 hu'
            obtain ⟨q1, q2, q3⟩ := HQ4.out kk hu'
            have hqz : (kk : Int) < (P.length : Int) := by omega
            have hm := atP_heldP (P := Q4) (ks := n.kids.take k) (fun x hx => by
              have h1 := usedB_lt (List.all_eq_true.1 Hu.out x (List.mem_of_mem_take hx))
              exact ⟨h1.1, by rw [HQ4L.out]; omega⟩) kk
            have hcn : (n.kids.take k).count (kk : Int) ≤ k := Nat.le_trans List.count_le_length (by rw [List.length_take]; omega)
            have hHL : (heldP Q4 (n.kids.take k)).length = P.length := by rw [heldP_len, HQ4L.out]
            obtain ⟨sv, hsv, hcs⟩ := HOr.out.at kk (by omega)
            obtain ⟨-, -, c2, -, -, -, -, -⟩ := p8_ok hcs
            have f2 := HOr.out.free (kk * 8 + 2)
            have hsr := hsv.refs
            have hmr : (atP (heldP Q4 (n.kids.take k)) kk).refs = (atP Q4 kk).refs + ((n.kids.take k).count (kk : Int) : Nat) := by rw [hm]; rfl
            obtain ⟨r, hr1⟩ : ∃ r, r = sv.refs := ⟨_, rfl⟩
            rw [← hr1] at c2
            have HT2 : Hid (heldP Q4 (n.kids.take (k + 1)) = (heldP Q4 (n.kids.take k)).set kk { atP (heldP Q4 (n.kids.take k)) kk with refs := r + 1 }) := Lib.hid (by rw [HT.out, hr1, hsr]; rfl)
            have hr2 : 0 ≤ r ∧ r ≤ 2000000000 := by rw [hr1, hsr, hmr]; omega
            obtain ⟨hr3, hr4⟩ := hr2
            clear hm hmr hsr hr1 hsv hcs hcn q1 q2 q3 hu' hkk2
            have HHL := Lib.hid hHL
            clear hHL
            go_wp2
            go_roundw
            case rel => exact ⟨k + 1, by omega, by go_num, Lib.hid (by rw [HT2.out]; exact HOr.out.refs kk (by rw [HHL.out]; omega) (r + 1)), Lib.hid (HBr.out.setCell hgb1 _)⟩
            case measure => simp [intOf]; omega
          · obtain rfl : k = n.kids.length := by omega
            rw [List.take_length] at HOr
            have hR := HR2.out.below HBr.out HR2.out.lt
            have r0 := hR.c0 0 _ rfl
            have g0 := hR.free 0
            have HRr := Lib.hid hR
            have HL2 := Lib.hid HR2.out.lt
            clear hR
            go_wp2
            have z0 := (HRr.out.setCell 0 (.slice (some ⟨g, 0, none⟩) P.length cap3)).c0 0 _ rfl
            refine bodyPost_ret (v := .tuple #[poolV (.slice (some ⟨g, 0, none⟩) P.length cap3), .int .i64 f, .int .i64 0]) (by simp [results, Try.results38, go_sem, z0]) rfl ?_
            rw [HG.out]
            have hB : Below w.heap.size w (wr.setCell ⟨w.heap.size + 2, 0, none⟩ (.slice (some ⟨g, 0, none⟩) P.length cap3)) := (Below.next Hb2.out (Nat.le_refl _) HBr.out).setCell (by show w.heap.size ≤ w.heap.size + 2; omega) _
            exact ⟨_, rfl, (HOr.out.setOther (w.heap.size + 2) 0 (.slice (some ⟨g, 0, none⟩) P.length cap3) (by have := HL2.out; intro e; have e2 : g = w.heap.size + 2 := Option.some.inj e; omega)).slF, fun b hb => .inr (by injection hb with hb; have := Hb2.out.size; show w.heap.size ≤ b; rw [← hb]; show w.heap.size ≤ g; omega), hB⟩
  · have HG : Hid (addP P n = (P, 0, 110)) := Lib.hid (by unfold addP; rw [if_neg hu])
    have hu : n.kids.all (usedB P) = false := by simpa using hu
    rw [hu] at HA
    clear hu
    go_enter Try.func38, Try.ntmps38
    go_wp2_with fail
    rw [← HW1.out]
    refine (HA.out _ HB0.out).mono ?_
    rintro e w1 ⟨rfl, hb⟩
    have Hb : Hid (Below w.heap.size w w1) := Lib.hid (Below.next HB0.out (Nat.le_refl _) hb)
    have hP1 := HP.out.below hb HP.out.lt
    have HR1 := Lib.hid (HR.out.below hb HR.out.lt)
    have p0 : w1.cell? ⟨w.heap.size, 0, none⟩ = some (.slice a P.length cap) := hP1.c0 0 _ rfl
    obtain ⟨r0, g0⟩ : w1.cell? ⟨w.heap.size + 2, 0, none⟩ = some (.slice none 0 0) ∧ w1.frozen? ⟨w.heap.size + 2, 0, none⟩ = false := ⟨HR1.out.c0 0 _ rfl, HR1.out.free 0⟩
    clear hb hP1
    go_wp2
    have z0 := (HR1.out.setCell 0 (.slice a P.length cap)).c0 0 _ rfl
    refine bodyPost_ret (v := .tuple #[poolV (.slice a P.length cap), .int .i64 0, .int .i64 110]) (by simp [results, Try.results38, go_sem, z0]) rfl ?_
    rw [HG.out]
    have hB := Hb.out.setCell (p := ⟨w.heap.size + 2, 0, none⟩) (by simp) (.slice a P.length cap)
    exact ⟨_, rfl, H0.out.below hB, fun b hb => .inl rfl, hB⟩

end Go.Proofs.Ytlgangcldlphnaa
