/-
  Walk of the law SplitPieces.
-/
import Derived.Test.YthpajecigkfajaaAK
import Derived.StillTactics
namespace Go.Proofs.Ythpajecigkfajaa
open Go.RowKit Go.Sort
set_option linter.unusedVariables false
set_option maxRecDepth 100000

theorem IsPcs.mem {α : Type} {B : Nat} {en : α → List Value} {k : Nat} {w : World} {v : Value} {ps : List (List α)} (h : IsPcs B en k w v ps) : ∃ (a : Option Addr) (cap : Nat), v = .slice a ps.length cap ∧ ps.length ≤ cap ∧ (cap : Int) ≤ 9223372036854775807 ∧
    ∀ i (h : i < ps.length), ∃ b off p c, a = some ⟨b, off, none⟩ ∧ b < w.heap.size ∧ w.cell? ⟨b, off + i, none⟩ = some (.slice p ps[i].length c) ∧ ps[i].length ≤ c ∧ (c : Int) ≤ 9223372036854775807 ∧ IsRow B en k w (.slice p ps[i].length c) ps[i] := by
  obtain ⟨a, cap, rfl, h2, h3, h4⟩ := h
  unfold maxLen at h3
  refine ⟨a, cap, rfl, h2, by omega, fun i hi => ?_⟩
  obtain ⟨b, off, e, hlt, hc⟩ := h4 (by rintro rfl; simp at hi)
  obtain ⟨s, hs, hr⟩ := hc i hi
  obtain ⟨p, c, rfl, h5, h6, h7⟩ := id hr
  unfold maxLen at h6
  exact ⟨b, off, p, c, e, hlt, hs, h5, by omega, hr⟩

set_option maxHeartbeats 8000000 in
theorem splitPieces_walk (w : World) (v0 : Value) (x0 : List T4.Rw) (r0 : T4.IsRaws w v0 x0) (v1 : Value) (x1 : Nat) (r1 : v1 = .int .u8 x1 ∧ x1 < 256) :
    Calls Try.prog 3 #[v0, v1] w fun e w' => e = .returned (.bool true) ∧ Below w.heap.size w w' := by
  have mixed := mixedA
  obtain ⟨rfl, hx1⟩ := r1
  have HR := Lib.hid r0
  have hln := T4.made_len x0
  have HMD := Lib.hid (fun wx (hx : Below w.heap.size w wx) => T4.made_w v0 x0 wx (HR.out.below hx))
  generalize T4.madeS x0 = PL at *
  have Hmz : Hid ((1 + (x1 : Int) % 30) = ((1 + x1 % 30 : Nat) : Int)) := Lib.hid (by omega)
  go_enter Try.func3, Try.ntmps3
  go_wp2_with fail
  refine (sanity13_w w).mono ?_
  rintro e w1 ⟨rfl, hb1⟩
  have HB1 := Lib.hid hb1
  clear hb1
  go_wp2_with fail
  refine (HMD.out _ HB1.out).mono ?_
  rintro e w2 ⟨v2, rfl, hown2, hp2, hb2⟩
  have HP2 := Lib.hid hp2
  have HB2 : Hid (Below w.heap.size w w2) := Lib.hid (HB1.out.trans (hb2.mono HB1.out.size))
  obtain ⟨a2, c2, rfl, hlc2, hcm2, -⟩ := hp2
  unfold maxLen at hcm2
  clear hown2 hb2 HMD HR r0
  go_upto_region 3 with fail
  rw [Hmz.out]
  have hm1 : 1 ≤ 1 + x1 % 30 := by omega
  have hm2 : 1 + x1 % 30 ≤ 30 := by omega
  have HCNT := Lib.hid (cutL_cnt PL (1 + x1 % 30) hm1)
  have HFL := Lib.hid (cutL_flat PL (1 + x1 % 30) hm1)
  have HSZ : Hid (PL ≠ [] → ∃ c q r, cutL PL ((1 + x1 % 30 : Nat) : Int) = cutS c PL ∧ 1 ≤ c ∧ c ≤ PL.length ∧ (c - 1) * (1 + x1 % 30) < PL.length ∧ r < c ∧ 1 ≤ q ∧ q + (if 0 < r then 1 else 0) ≤ 1 + x1 % 30 ∧ PL.length = q * c + r ∧ (cutS c PL).map List.length = List.replicate r (q + 1) ++ List.replicate (c - r) q) := Lib.hid (cutL_sizes PL (1 + x1 % 30) hm1)
  have HNIL : Hid (PL = [] → cutL PL ((1 + x1 % 30 : Nat) : Int) = []) := Lib.hid (fun h => by rw [h]; exact cut_nil _)
  have HC := Lib.hid (pieces_w (.slice a2 PL.length c2) PL ((1 + x1 % 30 : Nat) : Int) w2 HP2.out (by omega) (by omega) (by omega))
  generalize 1 + x1 % 30 = m at *
  generalize cutL PL (m : Int) = PS at *
  clear Hmz hx1
  go_wp2_with fail
  refine HC.out.mono ?_
  rintro e w3 ⟨v3, rfl, hpc3, hb3⟩
  obtain ⟨a3, c3, rfl, hlc3, hcm3, hmem⟩ := hpc3.mem
  have HMEM := Lib.hid hmem
  have HP3 := Lib.hid (HP2.out.below hb3)
  have HB3 : Hid (Below w.heap.size w w3) := Lib.hid (HB2.out.trans (hb3.mono HB2.out.size))
  clear hpc3 hb3 hmem
  have hc40 : PS.length ≤ PL.length := HCNT.out
  have hn1 : ¬ ((PL.length : Int) < (PS.length : Int)) := by omega
  have hmul : ((PS.length : Int) - 1) * (m : Int) < (PL.length : Int) := by
    by_cases h : PL = []
    · have e := HNIL.out h
      rw [e, h]
      show ((0 : Int) - 1) * (m : Int) < 0
      omega
    · obtain ⟨c, q, r, e, h1, h2, h3, -⟩ := HSZ.out h
      rw [e, cutS_len]
      obtain ⟨d, rfl⟩ : ∃ d, c = d + 1 := ⟨c - 1, by omega⟩
      rw [Nat.add_sub_cancel] at h3
      have e2 : (((d + 1 : Nat) : Int) - 1) = (d : Int) := by omega
      rw [e2]
      have : ((d * m : Nat) : Int) < (PL.length : Int) := by omega
      simpa using this
  have hmul2 : -30 ≤ ((PS.length : Int) - 1) * (m : Int) := by
    by_cases h : PS.length = 0
    · rw [h]
      show -30 ≤ ((0 : Int) - 1) * (m : Int)
      omega
    · have h1 : (0 : Int) ≤ ((PS.length : Int) - 1) * (m : Int) := Int.mul_nonneg (by omega) (by omega)
      omega
  go_wp2
  have HE3 := Lib.hid (emptyP w3 w3.heap.size (Nat.le_refl _))
  go_loopw [9, 10] (fun lv i wr => ∃ k : Nat, k ≤ PS.length ∧ i = .int .i64 k ∧ Hid (wr.ownsRow w3.heap.size 45 3 lv (PS.take k).flatten.length ((PS.take k).flatten.flatMap encP)) ∧ Hid (Below w3.heap.size w3 wr)) (fun _ i _ => PS.length - (intOf i).toNat)
  case atStart => exact ⟨0, Nat.zero_le _, rfl, HE3, Lib.hid (below_box _)⟩
  case round =>
    obtain ⟨k, hk, rfl, HO, HB⟩ := hrel
    by_cases hlt : k < PS.length
    · have hltz : (k : Int) < (PS.length : Int) := by omega
      have hcl : PS.length - 1 < PS.length := by omega
      obtain ⟨b, off, p1, q1, rfl, hbl, hc1, hp1, hq1, hr1⟩ := HMEM.out k hlt
      obtain ⟨b', off', p2, q2, e2, -, hc2, hp2, hq2, -⟩ := HMEM.out (PS.length - 1) hcl
      injection e2 with e2
      injection e2 with e3 e4
      subst e3 e4
      obtain ⟨b', off', p3, q3, e2, -, hc3, hp3, hq3, -⟩ := HMEM.out (k - 1) (by omega)
      injection e2 with e2
      injection e2 with e3 e4
      subst e3 e4
      have hlen : 1 ≤ PS[k].length ∧ PS[k].length ≤ m ∧ PS[k].length ≤ PS[PS.length - 1].length + 1 ∧ PS[k].length ≤ PS[k - 1].length := by
        have hne : PL ≠ [] := by
          intro h
          have := HNIL.out h
          rw [this] at hlt
          simp at hlt
        obtain ⟨c, q, r, e, h1, h2, h3, h4, h5, h6, h7, h8⟩ := HSZ.out hne
        rw [← e] at h8
        have hcc : PS.length = c := by rw [e, cutS_len]
        have s1 := sizes_at h8 k hlt
        have s2 := sizes_at h8 (PS.length - 1) hcl
        have s3 := sizes_at h8 (k - 1) (by omega)
        rw [s1, s2, s3]
        refine ⟨by omega, ?_, ?_, ?_⟩
        · split <;> (first | omega | (rw [if_pos (by omega)] at h6; omega) | (split at h6 <;> omega))
        · split <;> split <;> omega
        · split <;> split <;> omega
      obtain ⟨l1, l2, l3, l4⟩ := hlen
      have HT : Hid ((PS.take (k + 1)).flatten = (PS.take k).flatten ++ PS[k]) := Lib.hid (by rw [List.take_succ_eq_append_getElem hlt, List.flatten_append]; simp)
      have hfl : (PS.take k).flatten.length ≤ 40 := by
        have h := congrArg List.length HFL.out
        have h2 : (PS.take k).flatten.length ≤ PS.flatten.length := by
          conv => rhs; rw [← List.take_append_drop k PS]
          rw [List.flatten_append, List.length_append]; omega
        omega
      have Hr1 := Lib.hid (hr1.below HB.out)
      have d1 := (HB.out.cell (p := ⟨b, off + k, none⟩) hbl).trans hc1
      have d2 := (HB.out.cell (p := ⟨b, off + (PS.length - 1), none⟩) hbl).trans hc2
      have d3 := (HB.out.cell (p := ⟨b, off + (k - 1), none⟩) hbl).trans hc3
      clear hr1 hc1 hc2 hc3
      generalize (PS.take k).flatten = X at *
      generalize PS[PS.length - 1].length = L2 at *
      generalize PS[k - 1].length = L3 at *
      generalize PS[k] = pk at *
      have hs1 : IntKind.i64.wrap ((PS.length : Int) - 1) = ((PS.length - 1 : Nat) : Int) := by rw [IntWalk.i64_in _ (by omega)]; omega
      have z1 : ((pk.length : Int) == 0) = false := by rw [beq_eq_false_iff_ne]; omega
      have z2 : ¬ ((m : Int) < (pk.length : Int)) := by omega
      obtain ⟨dd, hdd⟩ : ∃ dd : Int, dd = (pk.length : Int) - (L2 : Int) := ⟨_, rfl⟩
      have hd1 : IntKind.i64.wrap ((pk.length : Int) - (L2 : Int)) = dd := by rw [IntWalk.i64_in _ (by omega)]; exact hdd.symm
      have z3 : ¬ ((1 : Int) < dd) := by omega
      have z4 : ¬ ((L3 : Int) < (pk.length : Int)) := by omega
      have z5 : ((PS.length - 1 : Nat) : Int) < (PS.length : Int) := by omega
      by_cases h0 : 0 < k
      · have h0z : 0 < (k : Int) := by omega
        have hs2 : IntKind.i64.wrap ((k : Int) - 1) = ((k - 1 : Nat) : Int) := by rw [IntWalk.i64_in _ (by omega)]; omega
        have z6 : ((k - 1 : Nat) : Int) < (PS.length : Int) := by omega
        clear hdd
        go_wp2_with fail
        have y1 : decide (m < pk.length) = false := decide_eq_false (by omega)
        have y2 : decide ((1 : Int) < dd) = false := decide_eq_false (by omega)
        have y3 : decide (0 < k) = true := decide_eq_true (by omega)
        have y4 : decide (L3 < pk.length) = false := decide_eq_false (by omega)
        go_quiet (fail)
        go_wp2_with (at_builtin; refine append_any (en := encP) rfl _ _ 24 45 _ 3 40 infoP Try.underlying24 rfl (by decide) (by decide) lenP ocP rfl w3.heap.size u9 X rfl (owns_below HO.out (below_drewN _ _)) (.slice p1 pk.length q1) pk rfl (Hr1.out.below (below_drewN _ _)).any (by omega) HB.out.size ?_; intro v5 w5 hown5 hb5; have HO5 := Lib.hid hown5; have HB5 : Hid (Below w3.heap.size w3 w5) := Lib.hid ((HB.out.trans (below_drewN _ _)).trans hb5); clear hown5 hb5)
        go_roundw
        case rel => exact ⟨k + 1, hlt, by go_num, by rw [HT.out]; exact HO5, HB5⟩
        case measure => simp [intOf]; omega
      · obtain rfl : k = 0 := by omega
        have hl0 : (0 : Int) < (PS.length : Int) := by omega
        rw [Nat.add_zero] at d1
        clear hdd d3 hltz h0 hs1 z5
        have hs1 : IntKind.i64.wrap ((PS.length : Int) - 1) = ((PS.length - 1 : Nat) : Int) := by rw [IntWalk.i64_in _ (by omega)]; omega
        have z5 : ((PS.length - 1 : Nat) : Int) < (PS.length : Int) := by omega
        go_wp2_with fail
        have y1 : decide (m < pk.length) = false := decide_eq_false (by omega)
        have y2 : decide ((1 : Int) < dd) = false := decide_eq_false (by omega)
        go_quiet (fail)
        go_wp2_with (at_builtin; refine append_any (en := encP) rfl _ _ 24 45 _ 3 40 infoP Try.underlying24 rfl (by decide) (by decide) lenP ocP rfl w3.heap.size u9 X rfl (owns_below HO.out (below_drewN _ _)) (.slice p1 pk.length q1) pk rfl (Hr1.out.below (below_drewN _ _)).any (by omega) HB.out.size ?_; intro v5 w5 hown5 hb5; have HO5 := Lib.hid hown5; have HB5 : Hid (Below w3.heap.size w3 w5) := Lib.hid ((HB.out.trans (below_drewN _ _)).trans hb5); clear hown5 hb5)
        go_roundw
        case rel => exact ⟨1, hlt, by go_num, by rw [HT.out]; exact HO5, HB5⟩
        case measure => simp [intOf]; omega
    · obtain rfl : k = PS.length := by omega
      rw [List.take_length, HFL.out] at HO
      have HPO := Lib.hid (IsPairs.owned HO.out HP3.out.small)
      have HS := Lib.hid (T4.same_w _ _ PL PL wr HPO.out (HP3.out.below HB.out))
      have hdc : decide (PL = PL) = true := by simp
      go_wp2_with fail
      refine HS.out.mono ?_
      rintro e w6 ⟨rfl, n6, rfl⟩
      go_wp2
      go_ret
      exact ⟨rfl, HB3.out.trans ((HB.out.mono HB3.out.size).trans (below_drewN _ _))⟩

end Go.Proofs.Ythpajecigkfajaa
