/-
  The walk of the law SettleMatchesReference.
-/
import Derived.Test.YtfpcaoacbjhkgaaGreatUH
import Derived.Test.YtfpcaoacbjhkgaaGreatUJ
import Derived.Test.YtfpcaoacbjhkgaaGreatUK
import Derived.Test.YtfpcaoacbjhkgaaGreatUO
import Derived.Test.YtfpcaoacbjhkgaaGreatUZ3
namespace Go.Proofs.YtfpcaoacbjhkgaaGreat
open Go.RowKit Go.Sort
set_option linter.unusedVariables false
set_option linter.unusedSimpArgs false

theorem made_kindsU (a b c d e f : Nat) : OneToSix (madeM a b c d e f) := by
  unfold OneToSix madeM
  split
  · simp
  split
  · simp
  split
  · simp
  split
  · simp
  split
  · simp
  simp
theorem listS_oneU (x : List R6) (n : Nat) : ∀ m ∈ listS x n, OneToSix m := fun m hm => by
  unfold listS at hm
  obtain ⟨y, _, rfl⟩ := List.mem_map.1 hm
  exact made_kindsU _ _ _ _ _ _

set_option maxRecDepth 100000 in
set_option maxHeartbeats 16000000 in
theorem settleMatchesReference_walk (w : World) (v0 : Value) (x0 : List Rw) (h0 : T4.IsRaws w v0 x0) (v1 : Value) (x1 : List R6) (h1 : IsR6s w v1 x1) (v2 : Value) (x2 : Nat) (h2 : v2 = .int .u8 x2 ∧ x2 < 256) :
    Calls Tryz.prog 4 #[v0, v1, v2] w fun e w' => e = .returned (.bool true) ∧ Below w.heap.size w w' := by
  have mixed := mixedA
  obtain ⟨rfl, hx2⟩ := h2
  have H0 := Lib.hid h0
  have H1 := Lib.hid h1
  clear h0 h1
  have HT0 := Lib.hid (fun wx (h : T4.IsRaws wx v0 x0) => T4.made_w v0 x0 wx h)
  have HL0 := Lib.hid (fun wx (h : IsR6s wx v1 x1) => list_w v1 x1 8 wx h (by decide))
  have hst := T4.srt_made x0
  have hTl := T4.made_len x0
  have hTs := T4.made_small (l := x0)
  have hall := listS_okU x1 8
  have hone := listS_oneU x1 8
  have hml := listS_len x1 8
  generalize T4.madeS x0 = T at *
  generalize listS x1 8 = Bf at *
  have hps := pivU_srt x2
  have hpl := pivU_len x2 8
  have HPV := Lib.hid (fun wx => pivots9_w x2 wx hx2)
  generalize pivU x2 8 = ps at *
  go_enter Tryz.func4, Tryz.ntmps4
  go_wp2_with fail
  refine (usan_w w).mono ?_
  rintro e w1 ⟨rfl, hb1⟩
  have HB1 := Lib.hid hb1
  clear hb1
  go_wp2_with fail
  refine (HT0.out w1 (H0.out.below HB1.out)).mono ?_
  rintro e w2 ⟨vt, rfl, -, hp2, hb2⟩
  have HP2 := Lib.hid hp2
  have HB2 := Lib.hid (HB1.out.trans (hb2.mono HB1.out.size))
  obtain ⟨at', ct, rfl⟩ := pairs_form hp2
  clear hp2 hb2 HB1
  go_wp2_with fail
  refine (HL0.out w2 (H1.out.below HB2.out)).mono ?_
  rintro e w3 ⟨vb, rfl, ho3, hb3⟩
  have hm3 := ho3.msgs
  have HM3 := Lib.hid hm3
  have HP3 := Lib.hid (HP2.out.below hb3)
  have HB3 := Lib.hid (HB2.out.trans (hb3.mono HB2.out.size))
  obtain ⟨gl, ol, capl, al, rfl, hl1, hl2, hl3, hl4⟩ := hm3.form
  unfold maxLen at hl2
  have HCL : Hid (∀ i (h : i < Bf.length), al = some ⟨gl, ol, none⟩ ∧ gl < w3.heap.size ∧ Bf[i] ∈ Bf ∧ MAt w3 gl (ol + i * 8) Bf[i]) := Lib.hid (fun i h => ⟨(hl4 i h).1, (hl3 (by rintro rfl; simp at h)).2, List.getElem_mem h, (hl4 i h).2⟩)
  clear ho3 hm3 hb3 HP2 HB2 hl3 hl4 H0 H1 HT0 HL0
  obtain ⟨src0, hs0, hs1, hs2, hs3⟩ : ∃ src0 : List Pr, (Bf = [] → src0 = []) ∧ (∀ (h : 0 < Bf.length), src0 = sourceS Bf[0] T) ∧ src0.length ≤ 100000000 ∧ (∀ m r, Bf = m :: r → movesB m = true → ∀ x ∈ src0, m.src.isPrefixOf x.1 = true ∧ x.1.length ≤ 1000000000) := by
    cases Bf with
    | nil => exact ⟨[], fun _ => rfl, fun h => absurd h (by simp), by simp, fun m r e => by cases e⟩
    | cons m r => exact ⟨sourceS m T, (fun e => by cases e), fun _ => rfl, by have := source_len m T; omega, fun m' r' e _ x hx => by
        cases e
        have := source_mem hx
        exact ⟨this.2, by have := (hTs x this.1).1; omega⟩⟩
  have HTU := Lib.hid (fun v sv wx (h : IsMsgs wx v Bf) (k : IsPairs wx sv src0) => sturn_w v sv Bf src0 wx h (fun o ho => (hall o ho).1) k hs2 (by omega) hs3)
  have HTR := Lib.hid (fun v sv wx (h : IsMsgs wx v Bf) (k : IsPairs wx sv src0) => rturn9_w v sv Bf src0 wx h (fun o ho => (hall o ho).1) k hs2 (by omega) hs3)
  unfold TurnOut at HTU HTR
  generalize turnR Bf src0 = L0 at *
  generalize (if turnB Bf then (0 : Int) else 50) = er at *
  have HFI := Lib.hid (fun v vp wx (h : IsMsgs wx v Bf) (hp : IsStrs wx vp ps) => sfirst_w v vp _ _ wx h hp hps (fun o ho => (hall o ho).1) (by omega))
  have HFR := Lib.hid (fun v vp wx (h : IsMsgs wx v Bf) (hp : IsStrs wx vp ps) => rfirst9_w v vp _ _ wx h hp hps (fun o ho => ⟨(hall o ho).1, hone o ho⟩) (by omega))
  generalize firstF ps Bf 0 = R at *
  have HSS := Lib.hid (fun o (ho : o ∈ Bf) wx (h : IsPairs wx (.slice at' T.length ct) T) => source_w _ T o wx h (by omega) (by have := (hall o ho).1.2.2.2.2.1; omega))
  have HAL := Lib.hid hall
  have HTS := Lib.hid hTs
  have HS1 := Lib.hid hs1
  have HS0 := Lib.hid hs0
  clear hs0 hs1 hs2 hs3 hall hTs hst hone
  go_wp2_with fail
  refine (HPV.out w3).mono ?_
  rintro e w4 ⟨v4, rfl, hp4, hb4⟩
  have HP4 := Lib.hid hp4
  have HM4 := Lib.hid (HM3.out.below hb4)
  have HT4 := Lib.hid (HP3.out.below hb4)
  have HB4 := Lib.hid hb4
  obtain ⟨a4, c4, rfl, -⟩ := hp4
  clear hb4
  go_wp2_with fail
  refine (HFI.out _ _ w4 HM4.out HP4.out).mono ?_
  rintro e w5 ⟨rfl, hb5⟩
  have HB5 := Lib.hid (HB4.out.trans (hb5.mono HB4.out.size))
  have HM5 := Lib.hid (HM4.out.below hb5)
  have HT5 := Lib.hid (HT4.out.below hb5)
  have hs5 := HB5.out.size
  clear hb5 HB4 HM3 HM4 HP3 HT4 HP4 HFI
  obtain ⟨n, hn⟩ : ∃ n, n = Bf.length := ⟨_, rfl⟩
  have HN := Lib.hid hn
  rw [← hn] at hl1 hml HM5 ⊢
  clear hn
  by_cases h0 : n = 0
  · have HBF : Hid (Bf = []) := Lib.hid (List.eq_nil_of_length_eq_zero (by rw [← HN.out]; exact h0))
    have hsrc := HS0.out HBF.out
    subst h0
    rw [hsrc] at HTU HTR
    clear HS1 HS0 HCL HSS HAL HTS hsrc
    go_wp2
    go_loopw [12] (fun iv wr => iv = .int .i64 0 ∧ Below w5.heap.size w5 wr) (fun iv _ => 0)
    case atStart => exact ⟨rfl, Below.refl _ _⟩
    case round =>
      obtain ⟨rfl, hbel⟩ := hrel
      have HF := Lib.hid (HB3.out.trans ((HB5.out.trans (hbel.mono hs5)).mono HB3.out.size))
      have HMa := Lib.hid (HM5.out.below hbel)
      clear hbel
      go_wp2_with fail
      refine (HTU.out _ _ _ (HMa.out.below (below_box _)) ⟨_, 0, rfl, Nat.le_refl _, Nat.zero_le _, fun x hx => (by cases hx), fun h => absurd rfl h⟩).mono ?_
      rintro e w7 ⟨v7, rfl, hm7, hb7⟩
      have HB7 := Lib.hid ((HF.out.alloc HF.out.size _).trans (hb7.mono (HF.out.alloc HF.out.size _).size))
      have HM7 := Lib.hid ((HMa.out.below (below_box _)).below hb7)
      have HA7 := Lib.hid hm7
      obtain ⟨p7, c7, rfl⟩ := msgs_form hm7
      clear hm7 hb7
      go_wp2_with fail
      refine (HTR.out _ _ _ HM7.out ⟨_, 0, rfl, Nat.le_refl _, Nat.zero_le _, fun x hx => (by cases hx), fun h => absurd rfl h⟩).mono ?_
      rintro e w8 ⟨v8, rfl, hm8, hb8⟩
      have HB8 := Lib.hid (HB7.out.trans (hb8.mono HB7.out.size))
      have HM8 := Lib.hid (HM7.out.below hb8)
      have HA8 := Lib.hid (HA7.out.below hb8)
      have HC8 := Lib.hid hm8
      obtain ⟨p8, c8, rfl⟩ := msgs_form hm8
      clear hm8 hb8
      go_wp2_with fail
      refine (HPV.out w8).mono ?_
      rintro e w9 ⟨v9, rfl, hp9, hb9⟩
      have HB9 := Lib.hid (HB8.out.trans (hb9.mono HB8.out.size))
      have HM9 := Lib.hid (HM8.out.below hb9)
      have HA9 := Lib.hid (HA8.out.below hb9)
      have HC9 := Lib.hid (HC8.out.below hb9)
      have HP9 := Lib.hid hp9
      obtain ⟨a9, c9, rfl, -⟩ := hp9
      clear hb9
      go_wp2_with fail
      refine (HFR.out _ _ w9 HM9.out HP9.out).mono ?_
      rintro e wa ⟨rfl, hba⟩
      have HBa := Lib.hid (HB9.out.trans (hba.mono HB9.out.size))
      have HAa := Lib.hid (HA9.out.below hba)
      have HCa := Lib.hid (HC9.out.below hba)
      clear hba
      go_wp2_with fail
      refine (fsame_w _ _ L0 L0 wa HAa.out HCa.out).mono ?_
      rintro e wb ⟨he, nb, hwb⟩
      rw [decide_eq_true rfl] at he
      subst he
      have HBb : Hid (Below w.heap.size w wb) := Lib.hid (by rw [hwb]; exact HBa.out.trans ((below_drewN wa nb).mono HBa.out.size))
      clear hwb
      go_wp2_with fail
      go_ret
      exact ⟨by first | rfl | simp, HBb.out⟩
  · obtain ⟨rfl, hgl, hmem0, hma0⟩ := HCL.out 0 (by rw [← HN.out]; omega)
    have HC0 := Lib.hid hma0
    have HMM : Hid (∀ k (h : k < n), Bf[k]'(by rw [← HN.out]; exact h) ∈ Bf ∧ MAt w3 gl (ol + k * 8) (Bf[k]'(by rw [← HN.out]; exact h))) := Lib.hid (fun k h => (HCL.out k (by rw [← HN.out]; exact h)).2.2)
    have HS2 := Lib.hid (HS1.out (by rw [← HN.out]; omega))
    have HSZ := Lib.hid (HSS.out _ hmem0)
    have hn1 : 0 < n := by omega
    have hnz1 : (0 : Int) < (n : Int) := by omega
    rw [← HS2.out] at HSZ
    rw [Nat.zero_mul, Nat.add_zero] at HC0
    generalize Bf[0]'(by rw [← HN.out]; omega) = o0 at HSZ HC0
    clear HCL HS1 HS0 HS2 hma0 hmem0
    go_wp2
    go_loopw [12] (fun iv wr => ∃ k : Nat, k ≤ n ∧ iv = .int .i64 k ∧ Below w5.heap.size w5 wr) (fun iv _ => n - (intOf iv).toNat)
    case atStart => exact ⟨0, Nat.zero_le _, rfl, Below.refl _ _⟩
    case round =>
      obtain ⟨k, hk, rfl, hbel⟩ := hrel
      have Hbel := Lib.hid hbel
      by_cases hlt : k < n
      · have hltz : (k : Int) < (n : Int) := by omega
        obtain ⟨hmem, hma⟩ := HMM.out k hlt
        have hma' := (hma.below HB5.out hgl).below hbel (Nat.lt_of_lt_of_le hgl hs5)
        have hgl' : gl < wr.heap.size := Nat.lt_of_lt_of_le (Nat.lt_of_lt_of_le hgl hs5) hbel.size
        have hss := HSS.out _ hmem
        obtain ⟨hzm, hvm, -⟩ := HAL.out _ hmem
        generalize Bf[k]'(by rw [← HN.out]; exact hlt) = o at *
        have hM : ∀ wx, Below wr.heap.size wr wx → MAt wx gl (ol + k * 8) o := fun wx hx => hma'.below hx hgl'
        have hsl := source_len o T
        have hkk : ∀ x ∈ sourceS o T, o.src.isPrefixOf x.1 = true ∧ x.1.length ≤ 1000000000 := fun x hx => by
          have := source_mem hx
          exact ⟨this.2, by have := (HTS.out x this.1).1; omega⟩
        have htr := HT5.out.below hbel
        have HSO : Hid (∀ wx, Below wr.heap.size wr wx → Calls Tryz.prog 30 #[.slice at' T.length ct, msgV o] wx fun e w' => ∃ p c, e = .returned (.slice p (sourceS o T).length c) ∧ IsPairs w' (.slice p (sourceS o T).length c) (sourceS o T) ∧ Below wr.heap.size wr w') := Lib.hid (fun wx hx => (hss wx (htr.below hx)).mono fun e w' ⟨v', he, hp, hb⟩ => by
          have h1 := hp
          obtain ⟨p, c, rfl⟩ := pairs_form h1
          exact ⟨p, c, he, hp, hx.trans (hb.mono hx.size)⟩)
        have HSP : Hid (∀ p c wx, Below wr.heap.size wr wx → IsMsgs wx (.slice p (settledS o (sourceS o T)).length c) (settledS o (sourceS o T)) → Calls Tryz.prog 30 #[.slice at' T.length ct, msgV o] wx fun e w' => ∃ p' c', e = .returned (.slice p' (sourceS o T).length c') ∧ IsPairs w' (.slice p' (sourceS o T).length c') (sourceS o T) ∧ IsMsgs w' (.slice p (settledS o (sourceS o T)).length c) (settledS o (sourceS o T)) ∧ Below wr.heap.size wr w') := Lib.hid (fun p c wx hx hL => (hss wx (htr.below hx)).mono fun e w' ⟨v', he, hp, hb⟩ => by
          have h1 := hp
          obtain ⟨p, c, rfl⟩ := pairs_form h1
          exact ⟨p, c, he, hp, hL.below hb, hx.trans (hb.mono hx.size)⟩)
        have HLI : Hid (∀ p c wx, Below wr.heap.size wr wx → IsPairs wx (.slice p (sourceS o T).length c) (sourceS o T) → Calls Tryz.prog 29 #[msgV o, .slice p (sourceS o T).length c] wx fun e w' => ∃ p' c', e = .returned (.slice p' (settledS o (sourceS o T)).length c') ∧ IsMsgs w' (.slice p' (settledS o (sourceS o T)).length c') (settledS o (sourceS o T)) ∧ Below wr.heap.size wr w') := Lib.hid (fun p c wx hx hI => (slist_w o _ _ wx (by omega) hzm hkk hI).mono fun e w' ⟨v', he, ho, hb⟩ => by
          have h1 := ho.msgs
          obtain ⟨p, c, rfl⟩ := msgs_form h1
          exact ⟨p, c, he, h1, hx.trans (hb.mono hx.size)⟩)
        have HRI : Hid (∀ p c q d wx, Below wr.heap.size wr wx → IsPairs wx (.slice p (sourceS o T).length c) (sourceS o T) → IsMsgs wx (.slice q (settledS o (sourceS o T)).length d) (settledS o (sourceS o T)) → Calls Tryz.prog 31 #[msgV o, .slice p (sourceS o T).length c] wx fun e w' => ∃ p' c', e = .returned (.slice p' (settledS o (sourceS o T)).length c') ∧ IsMsgs w' (.slice p' (settledS o (sourceS o T)).length c') (settledS o (sourceS o T)) ∧ IsMsgs w' (.slice q (settledS o (sourceS o T)).length d) (settledS o (sourceS o T)) ∧ Below wr.heap.size wr w') := Lib.hid (fun p c q d wx hx hI hL => (r9list_w o _ _ wx (by omega) hzm hkk hI).mono fun e w' ⟨v', he, ho, hb⟩ => by
          have h1 := ho.msgs
          obtain ⟨p, c, rfl⟩ := msgs_form h1
          exact ⟨p, c, he, h1, hL.below hb, hx.trans (hb.mono hx.size)⟩)
        generalize settledS o (sourceS o T) = L at *
        generalize sourceS o T = src at *
        have HSM : Hid (∀ v u wx, Below wr.heap.size wr wx → IsMsgs wx v L → IsMsgs wx u L → Calls Tryz.prog 28 #[v, u] wx fun e w' => e = .returned (.bool true) ∧ Below wr.heap.size wr w') := Lib.hid (fun v u wx hx h1 h2 => (fsame_w v u L L wx h1 h2).mono fun e w' ⟨he, n, hw⟩ => ⟨by rw [he, decide_eq_true rfl], by rw [hw]; exact hx.trans ((below_drewN wx n).mono hx.size)⟩)
        have HL0 : Hid (Below wr.heap.size wr wr) := Lib.hid (Below.refl _ _)
        clear hmem hma hma' hss hzm hvm hsl hkk htr hbel
        go_upto_region 8 with fail
        have y0 : ∀ wx, Below wr.heap.size wr wx → wx.cell? ⟨gl, ol + k * 8, none⟩ = some (.int .i64 o.kind) := fun wx hx => (hM wx hx).1
        have y1 : ∀ wx, Below wr.heap.size wr wx → wx.cell? ⟨gl, ol + k * 8 + 1, none⟩ = some (.string (Str o.key)) := fun wx hx => (hM wx hx).2.1
        have y2 : ∀ wx, Below wr.heap.size wr wx → wx.cell? ⟨gl, ol + k * 8 + 2, none⟩ = some (.string (Str o.val)) := fun wx hx => (hM wx hx).2.2.1
        have y3 : ∀ wx, Below wr.heap.size wr wx → wx.cell? ⟨gl, ol + k * 8 + 3, none⟩ = some (.string (Str o.lo)) := fun wx hx => (hM wx hx).2.2.2.1
        have y4 : ∀ wx, Below wr.heap.size wr wx → wx.cell? ⟨gl, ol + k * 8 + 4, none⟩ = some (.string (Str o.hi)) := fun wx hx => (hM wx hx).2.2.2.2.1
        have y5 : ∀ wx, Below wr.heap.size wr wx → wx.cell? ⟨gl, ol + k * 8 + 5, none⟩ = some (.string (Str o.src)) := fun wx hx => (hM wx hx).2.2.2.2.2.1
        have y6 : ∀ wx, Below wr.heap.size wr wx → wx.cell? ⟨gl, ol + k * 8 + 6, none⟩ = some (.string (Str o.dst)) := fun wx hx => (hM wx hx).2.2.2.2.2.2.1
        have y7 : ∀ wx, Below wr.heap.size wr wx → wx.cell? ⟨gl, ol + k * 8 + 7, none⟩ = some (.int .i64 o.n) := fun wx hx => (hM wx hx).2.2.2.2.2.2.2
        clear hM
        go_cut [59] (fun s59 wx => s59 = .bool false ∧ Hid (Below wr.heap.size wr wx))
        case first =>
          refine wp_region_noPanic ?_
          refine wp_region_held_drew (S := fun wx => Below wr.heap.size wr wx) (by kernel_rfl) (Below.drew HL0.out) (fun hHeld => ?_)
          refine wpAnyH_take (i := 0) (oi := _) (v := ?_) rfl (by kernel_rfl) (by kernel_rfl) (by kernel_rfl) (fun _ _ _ h => h) (Or.inl ⟨by kernel_rfl, ?_⟩) (by with_reducible assumption) ?_
          rotate_left
          · intro wt hSw
            go_simp
            all_goals with_reducible rfl
          try simp only [Act.put, List.setIfInBounds_toArray, List.set_cons_zero, List.set_cons_succ]
          refine wpAnyH_take (i := 1) (oi := _) (v := ?_) rfl (by kernel_rfl) (by kernel_rfl) (by kernel_rfl) (fun _ _ _ h => h) (Or.inl ⟨by kernel_rfl, ?_⟩) (by with_reducible assumption) ?_
          rotate_left
          · intro wt hSw
            go_simp
            all_goals with_reducible rfl
          try simp only [Act.put, List.setIfInBounds_toArray, List.set_cons_zero, List.set_cons_succ]
          refine wpAnyH_take (i := 2) (oi := _) (v := ?_) rfl (by kernel_rfl) (by kernel_rfl) (by kernel_rfl) (fun _ _ _ h => h) (Or.inl ⟨by kernel_rfl, ?_⟩) (by with_reducible assumption) ?_
          rotate_left
          · intro wt hSw
            go_simp
            all_goals with_reducible rfl
          try simp only [Act.put, List.setIfInBounds_toArray, List.set_cons_zero, List.set_cons_succ]
          refine wpAnyH_take (i := 3) (oi := _) (v := ?_) rfl (by kernel_rfl) (by kernel_rfl) (by kernel_rfl) (fun _ _ _ h => h) (Or.inl ⟨by kernel_rfl, ?_⟩) (by with_reducible assumption) ?_
          rotate_left
          · intro wt hSw
            go_simp
            all_goals with_reducible rfl
          try simp only [Act.put, List.setIfInBounds_toArray, List.set_cons_zero, List.set_cons_succ]
          refine wpAnyH_take (i := 4) (oi := _) (v := ?_) rfl (by kernel_rfl) (by kernel_rfl) (by kernel_rfl) (fun _ _ _ h => h) (Or.inl ⟨by kernel_rfl, ?_⟩) (by with_reducible assumption) ?_
          rotate_left
          · intro wt hSw
            go_simp
            all_goals with_reducible rfl
          try simp only [Act.put, List.setIfInBounds_toArray, List.set_cons_zero, List.set_cons_succ]
          refine wpAnyH_take (i := 5) (oi := _) (v := ?_) rfl (by kernel_rfl) (by kernel_rfl) (by kernel_rfl) (fun _ _ _ h => h) (Or.inl ⟨by kernel_rfl, ?_⟩) (by with_reducible assumption) ?_
          rotate_left
          · intro wt hSw
            go_simp
            all_goals with_reducible rfl
          try simp only [Act.put, List.setIfInBounds_toArray, List.set_cons_zero, List.set_cons_succ]
          refine wpAnyH_take (i := 6) (oi := _) (v := ?_) rfl (by kernel_rfl) (by kernel_rfl) (by kernel_rfl) (fun _ _ _ h => h) (Or.inl ⟨by kernel_rfl, ?_⟩) (by with_reducible assumption) ?_
          rotate_left
          · intro wt hSw
            go_simp
            all_goals with_reducible rfl
          try simp only [Act.put, List.setIfInBounds_toArray, List.set_cons_zero, List.set_cons_succ]
          refine wpAnyH_take (i := 7) (oi := _) (v := ?_) rfl (by kernel_rfl) (by kernel_rfl) (by kernel_rfl) (fun _ _ _ h => h) (Or.inl ⟨by kernel_rfl, ?_⟩) (by with_reducible assumption) ?_
          rotate_left
          · intro wt hSw
            go_simp
            all_goals with_reducible rfl
          try simp only [Act.put, List.setIfInBounds_toArray, List.set_cons_zero, List.set_cons_succ]
          refine wpAnyH_take (i := 8) (oi := _) (v := ?_) rfl (by kernel_rfl) (by kernel_rfl) (by kernel_rfl) (fun _ _ _ h => h) (Or.inl ⟨by kernel_rfl, ?_⟩) (by with_reducible assumption) ?_
          rotate_left
          · intro wt hSw
            go_simp
            all_goals with_reducible rfl
          try simp only [Act.put, List.setIfInBounds_toArray, List.set_cons_zero, List.set_cons_succ]
          refine wpAnyH_take (i := 11) (oi := _) (v := ?_) rfl (by kernel_rfl) (by kernel_rfl) (by kernel_rfl) (fun _ _ _ h => h) (Or.inl ⟨by kernel_rfl, ?_⟩) (by with_reducible assumption) ?_
          rotate_left
          · intro wt hSw
            go_simp
            all_goals with_reducible rfl
          try simp only [Act.put, List.setIfInBounds_toArray, List.set_cons_zero, List.set_cons_succ]
          refine wpAnyH_take (i := 12) (oi := _) (v := ?_) rfl (by kernel_rfl) (by kernel_rfl) (by kernel_rfl) (fun _ _ _ h => h) (Or.inl ⟨by kernel_rfl, ?_⟩) (by with_reducible assumption) ?_
          rotate_left
          · intro wt hSw
            go_simp
            all_goals with_reducible rfl
          try simp only [Act.put, List.setIfInBounds_toArray, List.set_cons_zero, List.set_cons_succ]
          refine wpAnyH_take (i := 13) (oi := _) (v := ?_) rfl (by kernel_rfl) (by kernel_rfl) (by kernel_rfl) (fun _ _ _ h => h) (Or.inl ⟨by kernel_rfl, ?_⟩) (by with_reducible assumption) ?_
          rotate_left
          · intro wt hSw
            go_simp
            all_goals with_reducible rfl
          try simp only [Act.put, List.setIfInBounds_toArray, List.set_cons_zero, List.set_cons_succ]
          refine wpAnyH_take (i := 14) (oi := _) (v := ?_) rfl (by kernel_rfl) (by kernel_rfl) (by kernel_rfl) (fun _ _ _ h => h) (Or.inl ⟨by kernel_rfl, ?_⟩) (by with_reducible assumption) ?_
          rotate_left
          · intro wt hSw
            go_simp
            all_goals with_reducible rfl
          try simp only [Act.put, List.setIfInBounds_toArray, List.set_cons_zero, List.set_cons_succ]
          refine wpAnyH_take (i := 15) (oi := _) (v := ?_) rfl (by kernel_rfl) (by kernel_rfl) (by kernel_rfl) (fun _ _ _ h => h) (Or.inl ⟨by kernel_rfl, ?_⟩) (by with_reducible assumption) ?_
          rotate_left
          · intro wt hSw
            go_simp
            all_goals with_reducible rfl
          try simp only [Act.put, List.setIfInBounds_toArray, List.set_cons_zero, List.set_cons_succ]
          refine wpAnyH_take (i := 16) (oi := _) (v := ?_) rfl (by kernel_rfl) (by kernel_rfl) (by kernel_rfl) (fun _ _ _ h => h) (Or.inl ⟨by kernel_rfl, ?_⟩) (by with_reducible assumption) ?_
          rotate_left
          · intro wt hSw
            go_simp
            all_goals with_reducible rfl
          try simp only [Act.put, List.setIfInBounds_toArray, List.set_cons_zero, List.set_cons_succ]
          refine wpAnyH_take (i := 17) (oi := _) (v := ?_) rfl (by kernel_rfl) (by kernel_rfl) (by kernel_rfl) (fun _ _ _ h => h) (Or.inl ⟨by kernel_rfl, ?_⟩) (by with_reducible assumption) ?_
          rotate_left
          · intro wt hSw
            go_simp
            all_goals with_reducible rfl
          try simp only [Act.put, List.setIfInBounds_toArray, List.set_cons_zero, List.set_cons_succ]
          refine wpAnyH_take (i := 18) (oi := _) (v := ?_) rfl (by kernel_rfl) (by kernel_rfl) (by kernel_rfl) (fun _ _ _ h => h) (Or.inl ⟨by kernel_rfl, ?_⟩) (by with_reducible assumption) ?_
          rotate_left
          · intro wt hSw
            go_simp
            all_goals with_reducible rfl
          try simp only [Act.put, List.setIfInBounds_toArray, List.set_cons_zero, List.set_cons_succ]
          refine wpAnyH_take (i := 19) (oi := _) (v := ?_) rfl (by kernel_rfl) (by kernel_rfl) (by kernel_rfl) (fun _ _ _ h => h) (Or.inl ⟨by kernel_rfl, ?_⟩) (by with_reducible assumption) ?_
          rotate_left
          · intro wt hSw
            go_simp
            all_goals with_reducible rfl
          try simp only [Act.put, List.setIfInBounds_toArray, List.set_cons_zero, List.set_cons_succ]
          refine wpAnyH_ready (rs := [9]) (by kernel_rfl) (by simp) ?_
          refine AllReadyH.cons (o := _) rfl (fun K hK => ?_) AllReadyH.nil
          go_simp
          (go_at_call 30; (refine (HSO.out _ (by (repeat (first | with_reducible assumption | with_reducible exact HL0.out | with_reducible refine Below.drew ?_)))).mono ?_); rintro e2 y2' ⟨p2, c2, rfl, g2, hS2⟩)
          refine hK.out _ _ (by (repeat (first | with_reducible assumption | with_reducible exact HL0.out | with_reducible refine Below.drew ?_))) (fun hHeld => ?_)
          clear hK K
          try simp only [List.setIfInBounds_toArray, List.set_cons_zero, List.set_cons_succ]
          refine wpAnyH_ready (rs := [10]) (by kernel_rfl) (by simp) ?_
          refine AllReadyH.cons (o := _) rfl (fun K hK => ?_) AllReadyH.nil
          go_simp
          (go_at_call 29; (refine (HLI.out _ _ _ (by (repeat (first | with_reducible assumption | with_reducible exact HL0.out | with_reducible refine Below.drew ?_))) (by first | with_reducible exact g2 | exact g2.below (below_drewN _ 1))).mono ?_); rintro e3 y3' ⟨p3, c3, rfl, g3, hS3⟩)
          refine hK.out _ _ (by (repeat (first | with_reducible assumption | with_reducible exact HL0.out | with_reducible refine Below.drew ?_))) (fun hHeld => ?_)
          clear hK K
          try simp only [List.setIfInBounds_toArray, List.set_cons_zero, List.set_cons_succ]
          refine wpAnyH_ready (rs := [20]) (by kernel_rfl) (by simp) ?_
          refine AllReadyH.cons (o := _) rfl (fun K hK => ?_) AllReadyH.nil
          go_simp
          (go_at_call 30; (refine (HSP.out _ _ _ (by (repeat (first | with_reducible assumption | with_reducible exact HL0.out | with_reducible refine Below.drew ?_))) (by first | with_reducible exact g3 | exact g3.below (below_drewN _ 1))).mono ?_); rintro e4 y4' ⟨p4, c4, rfl, g4, f4, hS4⟩)
          refine hK.out _ _ (by (repeat (first | with_reducible assumption | with_reducible exact HL0.out | with_reducible refine Below.drew ?_))) (fun hHeld => ?_)
          clear hK K
          try simp only [List.setIfInBounds_toArray, List.set_cons_zero, List.set_cons_succ]
          refine wpAnyH_ready (rs := [21]) (by kernel_rfl) (by simp) ?_
          refine AllReadyH.cons (o := _) rfl (fun K hK => ?_) AllReadyH.nil
          go_simp
          (go_at_call 31; (refine (HRI.out _ _ _ _ _ (by (repeat (first | with_reducible assumption | with_reducible exact HL0.out | with_reducible refine Below.drew ?_))) (by first | with_reducible exact g4 | exact g4.below (below_drewN _ 1)) (by first | with_reducible exact f4 | exact f4.below (below_drewN _ 1))).mono ?_); rintro e5 y5' ⟨p5, c5, rfl, g5, f5, hS5⟩)
          refine hK.out _ _ (by (repeat (first | with_reducible assumption | with_reducible exact HL0.out | with_reducible refine Below.drew ?_))) (fun hHeld => ?_)
          clear hK K
          try simp only [List.setIfInBounds_toArray, List.set_cons_zero, List.set_cons_succ]
          refine wpAnyH_ready (rs := [22]) (by kernel_rfl) (by simp) ?_
          refine AllReadyH.cons (o := _) rfl (fun K hK => ?_) AllReadyH.nil
          go_simp
          (go_at_call 28; (refine (HSM.out _ _ _ (by (repeat (first | with_reducible assumption | with_reducible exact HL0.out | with_reducible refine Below.drew ?_))) (by first | with_reducible exact f5 | exact f5.below (below_drewN _ 1)) (by first | with_reducible exact g5 | exact g5.below (below_drewN _ 1))).mono ?_); rintro e6 y6' ⟨rfl, hS6⟩)
          refine hK.out _ _ (by (repeat (first | with_reducible assumption | with_reducible exact HL0.out | with_reducible refine Below.drew ?_))) (fun hHeld => ?_)
          clear hK K
          try simp only [List.setIfInBounds_toArray, List.set_cons_zero, List.set_cons_succ]
          refine wpAnyH_take (i := 23) (oi := _) (v := ?_) rfl (by kernel_rfl) (by kernel_rfl) (by kernel_rfl) (fun _ _ _ h => h) (Or.inl ⟨by kernel_rfl, ?_⟩) (by with_reducible assumption) ?_
          rotate_left
          · intro wt hSw
            go_simp
            all_goals with_reducible rfl
          try simp only [Act.put, List.setIfInBounds_toArray, List.set_cons_zero, List.set_cons_succ]
          try simp only [Act.put, List.getElem_toArray, List.getElem_cons_zero, List.getElem_cons_succ, List.setIfInBounds_toArray, List.set_cons_zero, List.set_cons_succ]
          refine wpAnyH_done (by kernel_rfl) ?_ _
          refine NoPanic.normal ?_
          have HF := Lib.hid hHeld
          clear y0 y1 y2 y3 y4 y5 y6 y7
          go_wp2_with fail
          go_meet
          exact ⟨rfl, HF⟩
        case rest =>
          obtain ⟨rfl, hS⟩ := hcut
          clear y0 y1 y2 y3 y4 y5 y6 y7 HSO HSP HLI HRI HSM
          have HF := Lib.hid (Hbel.out.trans (hS.out.mono Hbel.out.size))
          go_wp2
          go_roundw
          case rel => exact ⟨k + 1, by omega, by go_num, HF.out⟩
          case measure => simp [intOf]; omega
      · obtain rfl : k = n := by omega
        have HF := Lib.hid (HB3.out.trans ((HB5.out.trans (hbel.mono hs5)).mono HB3.out.size))
        have HMa := Lib.hid (HM5.out.below hbel)
        have HTa := Lib.hid (HT5.out.below hbel)
        have hma := (HC0.out.below HB5.out hgl).below hbel (Nat.lt_of_lt_of_le hgl hs5)
        have hgl' : gl < wr.heap.size := Nat.lt_of_lt_of_le (Nat.lt_of_lt_of_le hgl hs5) hbel.size
        have hmx := hma.below (below_box (w := wr) (.cells #[] 71)) hgl'
        obtain ⟨y0, y1, y2, y3, y4, y5, y6, y7⟩ := hmx
        clear hbel hlt hma
        go_wp2_with fail
        refine (HSZ.out _ (HTa.out.below (below_box _))).mono ?_
        rintro e w6 ⟨v6, rfl, hp6, hb6⟩
        have HF6 := Lib.hid ((HF.out.alloc HF.out.size _).trans (hb6.mono (HF.out.alloc HF.out.size _).size))
        have HM6 := Lib.hid ((HMa.out.below (below_box _)).below hb6)
        have HP6 := Lib.hid hp6
        obtain ⟨p6, c6, rfl⟩ := pairs_form hp6
        clear hp6 hb6 y0 y1 y2 y3 y4 y5 y6 y7
        go_wp2_with fail
        refine (HTU.out _ _ _ HM6.out HP6.out).mono ?_
        rintro e w7 ⟨v7, rfl, hm7, hb7⟩
        have HB7 := Lib.hid (HF6.out.trans (hb7.mono HF6.out.size))
        have HM7 := Lib.hid (HM6.out.below hb7)
        have HP7 := Lib.hid (HP6.out.below hb7)
        have HA7 := Lib.hid hm7
        obtain ⟨p7, c7, rfl⟩ := msgs_form hm7
        clear hm7 hb7
        go_wp2_with fail
        refine (HTR.out _ _ _ HM7.out HP7.out).mono ?_
        rintro e w8 ⟨v8, rfl, hm8, hb8⟩
        have HB8 := Lib.hid (HB7.out.trans (hb8.mono HB7.out.size))
        have HM8 := Lib.hid (HM7.out.below hb8)
        have HA8 := Lib.hid (HA7.out.below hb8)
        have HC8 := Lib.hid hm8
        obtain ⟨p8, c8, rfl⟩ := msgs_form hm8
        clear hm8 hb8
        go_wp2_with fail
        refine (HPV.out w8).mono ?_
        rintro e w9 ⟨v9, rfl, hp9, hb9⟩
        have HB9 := Lib.hid (HB8.out.trans (hb9.mono HB8.out.size))
        have HM9 := Lib.hid (HM8.out.below hb9)
        have HA9 := Lib.hid (HA8.out.below hb9)
        have HC9 := Lib.hid (HC8.out.below hb9)
        have HP9 := Lib.hid hp9
        obtain ⟨a9, c9, rfl, -⟩ := hp9
        clear hb9
        go_wp2_with fail
        refine (HFR.out _ _ w9 HM9.out HP9.out).mono ?_
        rintro e wa ⟨rfl, hba⟩
        have HBa := Lib.hid (HB9.out.trans (hba.mono HB9.out.size))
        have HAa := Lib.hid (HA9.out.below hba)
        have HCa := Lib.hid (HC9.out.below hba)
        clear hba
        go_wp2_with fail
        refine (fsame_w _ _ L0 L0 wa HAa.out HCa.out).mono ?_
        rintro e wb ⟨he, nb, hwb⟩
        rw [decide_eq_true rfl] at he
        subst he
        have HBb : Hid (Below w.heap.size w wb) := Lib.hid (by rw [hwb]; exact HBa.out.trans ((below_drewN wa nb).mono HBa.out.size))
        clear hwb
        go_wp2_with fail
        go_ret
        exact ⟨by first | rfl | simp, HBb.out⟩

end Go.Proofs.YtfpcaoacbjhkgaaGreat
