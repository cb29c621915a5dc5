/-
  The walk of the law EntryKinds, the case of long texts, and the whole.
-/
import Derived.Test.YtachicdkgkiiiaaEWK
namespace Go.Proofs.Ytachicdkgkiiiaa
open Go.RowKit Go.Sort
set_option linter.unusedVariables false

set_option maxRecDepth 100000 in
set_option maxHeartbeats 1000000 in
theorem kinds5 (w : World) (m1 m2 m3 m4 m5 : Int) (mt : Bs) (rk ro ra rb : Int) (rt : Bs) (d c : Nat) (hd : d < 256) (hc : c < 256) (hmt : mt.length ≤ maxLen)
    (hm : ∀ wx, Calls Try.prog 21 #[.agg #[.int .u8 rk, .int .u8 ro, .int .u16 ra, .int .u16 rb, .string (Str rt)]] wx fun e w' => e = .returned (.agg #[.int .i64 m1, .int .i64 m2, .int .i64 m3, .int .i64 m4, .int .i64 m5, .string (Str mt)]) ∧ Below wx.heap.size wx w')
    (hw : d % 6 = 5) (hg : validE ⟨m1, m2, m3, m4, m5, mt⟩ = true) (hv : validE ⟨3, 0, 0, 0, 0, List.replicate (c % 60) 120⟩ = (decide (1 ≤ c % 60) && decide (c % 60 ≤ 50))) :
    Calls Try.prog 9 #[.agg #[.int .u8 rk, .int .u8 ro, .int .u16 ra, .int .u16 rb, .string (Str rt)], .int .u8 d, .int .u8 c] w fun e w' => e = .returned (.bool true) ∧ Below w.heap.size w w' := by
  have hgo := fun wx => valid_w m1 m2 m3 m4 m5 mt wx hmt
  rw [hg] at hgo
  have hcc : (d : Int) % 6 = 5 := by omega
  obtain ⟨j, hj⟩ : ∃ j, j = c % 60 := ⟨_, rfl⟩
  have hj60 : j < 60 := by omega
  have e60 : (c : Int) % 60 = (j : Int) := by omega
  have hva := fun wx => valid_w 3 0 0 0 0 (List.replicate j 120) wx (by unfold maxLen; simp; omega)
  rw [← hj] at hv
  rw [hv] at hva
  have Hgo := Lib.hid hgo
  have Hva := Lib.hid hva
  have Hm := Lib.hid hm
  clear hva hm hv hw hg hgo hj
  go_enter Try.func9, Try.ntmps9
  go_wp2_with (first
    | (go_at_call 10; refine (sanity_w _).mono ?_; rintro e w1 ⟨rfl, hb1⟩; have hx := Blk.below (Blk.new w 41 #[.int .u8 rk, .int .u8 ro, .int .u16 ra, .int .u16 rb, .string (Str rt)]) hb1 (by simp); have x0 := hx.c0 0 _ rfl; have x1 := hx.c0 1 _ rfl; have x2 := hx.c0 2 _ rfl; have x3 := hx.c0 3 _ rfl; have x4 := hx.c0 4 _ rfl; simp at x0 x1 x2 x3 x4; have Hb1 := Lib.hid hb1; clear hb1 hx)
    | (go_at_call 21; refine (Hm.out _).mono ?_; rintro e w2 ⟨rfl, hb2⟩; have Hb2 := Lib.hid hb2; clear hb2)
    | (go_at_call 17; refine (Hgo.out _).mono ?_; rintro e w3 ⟨rfl, hg3⟩; have he := Blk.below (Blk.new w2 23 #[.int .i64 m1, .int .i64 m2, .int .i64 m3, .int .i64 m4, .int .i64 m5, .string (Str mt)]) (hg3.below (Nat.le_refl _)) (by simp); have a0 := he.c0 0 _ rfl; have a1 := he.c0 1 _ rfl; have a2 := he.c0 2 _ rfl; have a3 := he.c0 3 _ rfl; have a4 := he.c0 4 _ rfl; have a5 := he.c0 5 _ rfl; simp at a0 a1 a2 a3 a4 a5; have lte := he.lt; have Hg3 := Lib.hid hg3; clear hg3 he))
  have HB0 : Hid (Below w.heap.size w w3) := Lib.hid (by
    have h1 := Hb1.out.size
    have h2 := Hb2.out.size
    simp at h1 h2
    exact ((((below_box _).trans (Hb1.out.mono (by simp))).trans (Hb2.out.mono (by omega))).alloc (by omega) _).trans (Hg3.out.below (by simp; omega)))
  have hsz : w.heap.size ≤ w3.heap.size := HB0.out.size
  clear x0 x1 x2 x3 x4 a0 a1 a2 a3 a4 a5 Hm Hgo
  go_loopw [13] (fun i wr => ∃ k : Nat, k ≤ j ∧ i = .int .i64 k ∧ Blk wr w3.heap.size 23 #[.int .i64 3, .int .i64 0, .int .i64 0, .int .i64 0, .int .i64 0, .string (Str (List.replicate k 120))] ∧ Below w.heap.size w wr) (fun i _ => j - (intOf i).toNat)
  case atStart => exact ⟨0, Nat.zero_le _, rfl, Blk.new _ _ _, HB0.out.alloc (by omega) _⟩
  case round =>
    obtain ⟨k, hk, rfl, hblk, hbel⟩ := hrel
    have Hblk := Lib.hid hblk
    have Hbel := Lib.hid hbel
    have b0 := hblk.c0 0 _ rfl
    have b1 := hblk.c0 1 _ rfl
    have b2 := hblk.c0 2 _ rfl
    have b3 := hblk.c0 3 _ rfl
    have b4 := hblk.c0 4 _ rfl
    have b5 := hblk.c0 5 _ rfl
    have f5 := hblk.free 5
    simp at b0 b1 b2 b3 b4 b5
    clear hblk hbel
    by_cases hlt : k < j
    · have Hrep : Hid (List.replicate (k + 1) (120 : UInt8) = List.replicate k 120 ++ [120]) := Lib.hid List.replicate_succ'
      have hxl : ((List.replicate k (120 : UInt8)).length : Int) ≤ 60 := by rw [List.length_replicate]; omega
      generalize List.replicate k (120 : UInt8) = xs at *
      go_wp2
      go_roundw
      case rel =>
        refine ⟨k + 1, by omega, by go_num, ?_, ?_⟩
        · rw [Hrep.out]; exact Hblk.out.setCell 5 _
        · exact Hbel.out.setCell (by omega) _
      case measure => simp [intOf]; omega
    · obtain rfl : k = j := by omega
      have hva := Hva.out
      generalize List.replicate k (120 : UInt8) = xs at *
      by_cases h1 : 1 ≤ k
      · have g1 : 1 ≤ (k : Int) := by omega
        by_cases h2 : k ≤ 50
        · have g2 : (k : Int) ≤ 50 := by omega
          rw [show (decide (1 ≤ k) && decide (k ≤ 50)) = true from by simp [h1, h2]] at hva
          have Hv := Lib.hid hva
          clear hva Hva
          go_wp2_with (go_at_call 17; refine (Hv.out _).mono ?_; rintro e w5 ⟨rfl, hg5⟩; have Hg5 := Lib.hid hg5; clear hg5)
          go_ret
          exact ⟨rfl, Hbel.out.trans (Hg5.out.below Hbel.out.size)⟩
        · have g2 : decide ((k : Int) ≤ 50) = false := by simp; omega
          rw [show (decide (1 ≤ k) && decide (k ≤ 50)) = false from by simp; omega] at hva
          have Hv := Lib.hid hva
          clear hva Hva
          go_wp2_with (go_at_call 17; refine (Hv.out _).mono ?_; rintro e w5 ⟨rfl, hg5⟩; have Hg5 := Lib.hid hg5; clear hg5)
          go_ret
          exact ⟨rfl, Hbel.out.trans (Hg5.out.below Hbel.out.size)⟩
      · have g1 : (k : Int) < 1 := by omega
        rw [show (decide (1 ≤ k) && decide (k ≤ 50)) = false from by simp; omega] at hva
        have Hv := Lib.hid hva
        clear hva Hva
        go_wp2_with (go_at_call 17; refine (Hv.out _).mono ?_; rintro e w5 ⟨rfl, hg5⟩; have Hg5 := Lib.hid hg5; clear hg5)
        go_ret
        exact ⟨rfl, Hbel.out.trans (Hg5.out.below Hbel.out.size)⟩

theorem entryKinds_walk (w : World) (v0 : Value) (x : RawE) (h0 : IsRawE w v0 x) (v1 : Value) (d : Nat) (h1 : IsU8 w v1 d) (v2 : Value) (c : Nat) (h2 : IsU8 w v2 c) :
    Calls Try.prog 9 #[v0, v1, v2] w fun e w' => e = .returned (.bool true) ∧ Below w.heap.size w w' := by
  obtain ⟨rk, ro, ra, rb, rt⟩ := x
  obtain ⟨rfl, hk, ho, ha, hb, ht⟩ := h0
  obtain ⟨rfl, hd⟩ := h1
  obtain ⟨rfl, hc⟩ := h2
  simp only at hk ho ha hb ht
  have hm := fun wx => made_w rk ro ra rb rt wx hk ho ha hb ht
  have hg := madeE_valid rk ro ra rb rt ho ha
  have hl := madeE_len rk ro ra rb rt
  generalize madeE rk ro ra rb rt = m at *
  obtain ⟨m1, m2, m3, m4, m5, mt⟩ := m
  simp only at hm hl
  have hmt : mt.length ≤ maxLen := by unfold maxLen; omega
  have hkind := validE_kind hg
  have how := validE_owner hg
  have hu : (UInt8.ofNat c).toNat = c := by rw [UInt8.toNat_ofNat']; omega
  by_cases c0 : d % 6 = 0
  · exact kinds0 w m1 m2 m3 m4 m5 mt rk ro ra rb rt d c hd hc hmt hm c0 hg (by unfold validE fieldsB; simp only; rw [if_neg (by omega), if_neg (by omega), if_neg (by omega), if_neg (by omega)]; simp)
  · by_cases c1 : d % 6 = 1
    · exact kinds1 w m1 m2 m3 m4 m5 mt rk ro ra rb rt d c hd hc hmt hm c1 hg (by unfold validE fieldsB; simp only; rw [if_neg (by omega), if_neg (by omega), if_neg (by omega), if_neg (by omega)]; simp)
    · by_cases c2 : d % 6 = 2
      · by_cases hk4 : m1 = 4
        · exact kinds2l w m1 m2 m3 m4 m5 mt rk ro ra rb rt d c hd hc hmt hm c2 hk4 hg (by simp [validE, fieldsB, linkB]; omega)
        · refine kinds2n w m1 m2 m3 m4 m5 mt rk ro ra rb rt d c hd hc hmt hm c2 hk4 hg ?_
          rcases hkind with rfl | rfl | rfl | rfl
          · simp [validE, fieldsB, dirB]; omega
          · simp [validE, fieldsB, fileB]; omega
          · simp [validE, fieldsB, symB]; omega
          · exact absurd rfl hk4
      · by_cases c3 : d % 6 = 3
        · by_cases hk2 : m1 = 2
          · exact kinds3f w m1 m2 m3 m4 m5 mt rk ro ra rb rt d c hd hc hmt hm c3 hk2 hg (by simp [validE, fieldsB, fileB])
          · refine kinds3n w m1 m2 m3 m4 m5 mt rk ro ra rb rt d c hd hc hmt hm c3 hk2 hg ?_
            rcases hkind with rfl | rfl | rfl | rfl
            · simp [validE, fieldsB, dirB]; omega
            · exact absurd rfl hk2
            · simp [validE, fieldsB, symB]; omega
            · simp [validE, fieldsB, linkB]; omega
        · by_cases c4 : d % 6 = 4
          · by_cases a : c < 32
            · exact kinds4lo w m1 m2 m3 m4 m5 mt rk ro ra rb rt d c hd hc hmt hm c4 a hg (by simp [validE, fieldsB, symB, textB, prB, hu]; omega)
            · by_cases b : 126 < c
              · exact kinds4hi w m1 m2 m3 m4 m5 mt rk ro ra rb rt d c hd hc hmt hm c4 b hg (by simp [validE, fieldsB, symB, textB, prB, hu]; omega)
              · exact kinds4in w m1 m2 m3 m4 m5 mt rk ro ra rb rt d c hd hc hmt hm c4 (by omega) (by omega) hg (by simp [validE, fieldsB, symB, textB, prB, hu, inB]; omega)
          · refine kinds5 w m1 m2 m3 m4 m5 mt rk ro ra rb rt d c hd hc hmt hm (by omega) hg ?_
            simp [validE, fieldsB, symB, textB, inB, prB]

end Go.Proofs.Ytachicdkgkiiiaa
