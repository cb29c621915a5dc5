/-
  The walk of the law PathLimits.
-/
import Derived.Test.YtgfbinlakfojdaaWA
import Derived.Test.YtgfbinlakfojdaaG
import Derived.Test.YtgfbinlakfojdaaS4
import Derived.Deep.RegionHeld3
import Derived.Deep.DeepCutAuto
namespace Go.Proofs.Ytgfbinlakfojdaa
open Go.RowKit
set_option linter.unusedVariables false

/-- The length of a text in a slot. -/
def lenOf : Value → Nat | .string s => s.size | _ => 0

set_option maxRecDepth 100000 in
set_option maxHeartbeats 4000000 in
theorem pathLimits_walk (w : World) (v0 : Value) (x : Int × Int) (h0 : IsI32x2 w v0 x) (v1 : Value) (n : Nat) (h1 : IsU8 w v1 n) :
    Calls Try.prog 10 #[v0, v1] w fun e w' => e = .returned (.bool true) ∧ Below w.heap.size w w' := by
  obtain ⟨rfl, hn⟩ := h1
  obtain ⟨a, b⟩ := x
  obtain ⟨rfl, ha, hb⟩ := h0
  simp only at ha hb
  obtain ⟨ha1, ha2⟩ := ha
  obtain ⟨hb1, hb2⟩ := hb
  have HB : Hid (Below w.heap.size w (w.alloc (.cells #[.int .i32 a, .int .i32 b] 59))) := Lib.hid ((Below.refl _ _).alloc (Nat.le_refl _) _)
  have HK : Hid (Blk (w.alloc (.cells #[.int .i32 a, .int .i32 b] 59)) w.heap.size 59 #[.int .i32 a, .int .i32 b]) := Lib.hid (Blk.new _ _ _)
  have ea : IntKind.i64.wrap a = a := by rw [IntKind.wrap_i64]; omega
  have eb : IntKind.i64.wrap b = b := by rw [IntKind.wrap_i64]; omega
  go_enter Try.func10, Try.ntmps10
  go_upto_region 2 with (go_at_call 12; refine (sanity_w _).mono ?_; rintro e w1 ⟨rfl, hb⟩; have hk := Blk.below HK.out hb (by simp); have c0 := hk.cell 0; have c1 := hk.cell 1; simp at c0 c1; replace HK := Lib.hid hk; replace HB := Lib.hid (Below.next HB.out (Nat.le_refl _) hb); clear hk hb)
  go_cut [6, 7] (fun s6 s7 wx => s6 = .string (Str (bodyS a)) ∧ s7 = .string (Str (bodyS b)) ∧ Below w.heap.size w wx ∧ Blk wx w.heap.size 59 #[.int .i32 a, .int .i32 b])
  case first =>
    go_region_held3 (fun wr => wr.cell? ⟨w.heap.size, 0, none⟩ = some (.int .i32 a) ∧ wr.cell? ⟨w.heap.size, 1, none⟩ = some (.int .i32 b)) (go_keep)
      (first
        | (go_at_call 32; refine (body_w _ _).mono ?_; rintro e w1 ⟨rfl, hb⟩; have hk : Blk w1 w.heap.size 59 #[.int .i32 a, .int .i32 b] := Blk.below (by exact HK.out) hb (by exact HK.out.lt); have d0 := hk.cell 0; have d1 := hk.cell 1; simp at d0 d1; replace HK := Lib.hid hk; replace HB := Lib.hid (Below.next (by first | exact HB.out | exact HB.out.drew) (Nat.le_refl _) hb); clear hk hb))
    all_goals (go_wp2_with fail; go_meet; exact ⟨rfl, rfl, HB.out, HK.out⟩)
  case rest =>
    obtain ⟨rfl, rfl, hB, hK⟩ := hcut
    have d0 := hK.cell 0
    have d1 := hK.cell 1
    simp at d0 d1
    replace HB := Lib.hid hB
    replace HK := Lib.hid hK
    clear hB hK c0 c1
    go_upto_region 3 with fail
    go_cut [76] (fun c wx => c = .bool false ∧ Below w.heap.size w wx)
    case first =>
      have hbig : bodyS (a % 4294967296 + 2147483648) = [] := by unfold bodyS; rw [if_pos (.inr (by omega))]
      have hthird := fun wx => body_w (a % 4294967296 + 2147483648) wx
      rw [hbig] at hthird
      have Hthird := Lib.hid hthird
      have hva := fun wx (h : (Str (bodyS a)).size ≤ maxLen) => valid_w (Str (bodyS a)) wx h
      rw [toList_Str] at hva
      have hsz : (Str (bodyS a)).size ≤ maxLen := by
        rw [size_Str]; unfold bodyS maxLen; split
        · simp
        · rw [body_len]; omega
      have Hsz := Lib.hid hsz
      clear hthird hbig hsz
      by_cases hneg : a < 0
      · have e : bodyS a = [] := by unfold bodyS; rw [if_pos (.inl hneg)]
        have hv0 : validB (bodyS a) = true := by rw [e]; decide +kernel
        have hem : (bodyS a).isEmpty = true := by rw [e]; rfl
        rw [hv0] at hva
        have Hva := Lib.hid hva
        have hneg' : ¬ 0 ≤ a := by omega
        clear hva e hv0
        go_wp2_with (first
          | (go_at_call 32; refine (Hthird.out _).mono ?_; rintro e w1 ⟨rfl, hb⟩; have hk := Blk.below HK.out hb HK.out.lt; clear d0 d1; have d0 := hk.cell 0; have d1 := hk.cell 1; simp at d0 d1; replace HK := Lib.hid hk; replace HB := Lib.hid (Below.next HB.out (Nat.le_refl _) hb); clear hb hk)
          | (go_at_call 20; refine (Hva.out _ Hsz.out).mono ?_; rintro e w1 ⟨rfl, hb⟩; have hk := Blk.below HK.out hb HK.out.lt; clear d0 d1; have d0 := hk.cell 0; have d1 := hk.cell 1; simp at d0 d1; replace HK := Lib.hid hk; replace HB := Lib.hid (Below.next HB.out (Nat.le_refl _) hb); clear hb hk))
        go_meet
        exact ⟨rfl, HB.out⟩
      · have e : bodyS a = bodyN a.toNat := by unfold bodyS; rw [if_neg (by omega)]
        have ha0 : 0 ≤ a := by omega
        have hv0 : validB (bodyS a) = false := by rw [e]; exact body_invalid _
        have hem : (bodyS a).isEmpty = false := by rw [e]; rfl
        have hlen : (bodyS a).length = 10 := by rw [e]; exact body_len _
        rw [hv0] at hva
        have Hva := Lib.hid hva
        have hbig2 : bodyS (a + 2147483648) = [] := by unfold bodyS; rw [if_pos (.inr (by omega))]
        have hthird2 := fun wx => body_w (a + 2147483648) wx
        rw [hbig2] at hthird2
        have Hthird2 := Lib.hid hthird2
        clear hbig2 hthird2 Hthird
        by_cases hnb : b < 0
        · have hb0 : ¬ 0 ≤ b := by omega
          clear hva hv0 e hneg
          go_wp2_with (first
            | (go_at_call 32; refine (Hthird2.out _).mono ?_; rintro e w1 ⟨rfl, hb⟩; have hk := Blk.below HK.out hb HK.out.lt; clear d0 d1; have d0 := hk.cell 0; have d1 := hk.cell 1; simp at d0 d1; replace HK := Lib.hid hk; replace HB := Lib.hid (Below.next HB.out (Nat.le_refl _) hb); clear hb hk)
            | (go_at_call 20; refine (Hva.out _ Hsz.out).mono ?_; rintro e w1 ⟨rfl, hb⟩; have hk := Blk.below HK.out hb HK.out.lt; clear d0 d1; have d0 := hk.cell 0; have d1 := hk.cell 1; simp at d0 d1; replace HK := Lib.hid hk; replace HB := Lib.hid (Below.next HB.out (Nat.le_refl _) hb); clear hb hk))
          go_meet
          exact ⟨rfl, HB.out⟩
        · have hb0 : 0 ≤ b := by omega
          have eb' : bodyS b = bodyN b.toNat := by unfold bodyS; rw [if_neg (by omega)]
          have hless : Op.bytesLess (bodyS a) (bodyS b) = decide (a < b) := by
            rw [e, eb', body_less (by omega) (by omega), Bool.eq_iff_iff]; simp only [decide_eq_true_eq]; omega
          clear hva hv0 e hneg hnb eb'
          go_wp2_with (first
            | (go_at_call 32; refine (Hthird2.out _).mono ?_; rintro e w1 ⟨rfl, hb⟩; have hk := Blk.below HK.out hb HK.out.lt; clear d0 d1; have d0 := hk.cell 0; have d1 := hk.cell 1; simp at d0 d1; replace HK := Lib.hid hk; replace HB := Lib.hid (Below.next HB.out (Nat.le_refl _) hb); clear hb hk)
            | (go_at_call 20; refine (Hva.out _ Hsz.out).mono ?_; rintro e w1 ⟨rfl, hb⟩; have hk := Blk.below HK.out hb HK.out.lt; clear d0 d1; have d0 := hk.cell 0; have d1 := hk.cell 1; simp at d0 d1; replace HK := Lib.hid hk; replace HB := Lib.hid (Below.next HB.out (Nat.le_refl _) hb); clear hb hk))
          go_meet
          exact ⟨rfl, HB.out⟩
    case rest =>
      obtain ⟨rfl, hB⟩ := hcut
      replace HB := Lib.hid hB
      clear hB HK d0 d1 ea eb ha1 ha2 hb1 hb2
      obtain ⟨j, hj⟩ : ∃ j, j = n % 14 := ⟨_, rfl⟩
      have hj13 : j ≤ 13 := by omega
      have e14 : (n : Int) % 14 = (j : Int) := by omega
      obtain ⟨f1, f2, f3⟩ := limit_facts ⟨j, by omega⟩
      simp only at f1 f2 f3
      have hx : (⟨#[97, 98, 99, 100, 101, 102, 103, 104, 105, 106, 107, 108, 109]⟩ : ByteArray).extract 0 j = Str (restN j) := extract_Str0 [97, 98, 99, 100, 101, 102, 103, 104, 105, 106, 107, 108, 109] j
      have hjn := fun wx => join_w (Str (longP 15)) (Str (restN j)) wx (by rw [size_Str, longP_len]; omega) (by rw [size_Str, f3]; omega)
      have hpn := fun wx => parse_w (Str (47 :: (longP 15 ++ restN j))) wx (by rw [size_Str]; unfold maxLen; simp only [List.length_cons, List.length_append, longP_len, f3]; omega)
      simp only [toList_Str] at hjn hpn
      rw [f1] at hjn
      rw [f2] at hpn
      have Hjn := Lib.hid hjn
      have Hpn := Lib.hid hpn
      have F3 := Lib.hid f3
      clear f1 f2 f3 hj hjn hpn
      go_wp2_with fail
      go_loop [8] (fun s8 => ∃ k : Nat, k ≤ 15 ∧ s8 = .string (Str (longP k))) (fun s8 => 200 - lenOf s8)
      case atStart => exact ⟨0, by omega, rfl⟩
      case round =>
        obtain ⟨k, hk, rfl⟩ := hrel
        by_cases hlt : k < 15
        · have hle : ((longP k).length : Int) + 13 ≤ 200 := by rw [longP_len]; omega
          go_wp2_with fail
          go_round
          case rel => exact ⟨k + 1, by omega, rfl⟩
          case measure =>
            show 200 - (Str (longP (k + 1))).size < 200 - (Str (longP k)).size
            rw [size_Str, size_Str, longP_len, longP_len]; omega
        · obtain rfl : k = 15 := by omega
          have hL : (longP 15).length = 195 := longP_len 15
          have hR : (restN j).length = j := F3.out
          clear hlt hk
          by_cases c1 : j = 0 ∨ 12 < j
          · have hjn := Hjn.out
            have hpn := Hpn.out
            rw [if_pos c1] at hjn
            rw [if_pos (by omega)] at hpn
            have HJ := Lib.hid hjn
            have HP := Lib.hid hpn
            clear hjn hpn Hjn Hpn F3
            rcases c1 with rfl | c1
            · go_wp2_with (first
                | (go_at_call 16; refine (HJ.out _).mono ?_; rintro e w1 ⟨rfl, hb⟩; replace HB := Lib.hid (Below.next HB.out (Nat.le_refl _) hb); clear hb)
                | (go_at_call 14; refine (HP.out _).mono ?_; rintro e w1 ⟨rfl, hb⟩; replace HB := Lib.hid (Below.next HB.out (Nat.le_refl _) hb); clear hb))
              go_ret
              exact ⟨rfl, HB.out⟩
            · have c1' : (12 : Int) < (j : Int) := by omega
              have c1'' : ((j : Int) == 0) = false := by simp; omega
              go_wp2_with (first
                | (go_at_call 16; refine (HJ.out _).mono ?_; rintro e w1 ⟨rfl, hb⟩; replace HB := Lib.hid (Below.next HB.out (Nat.le_refl _) hb); clear hb)
                | (go_at_call 14; refine (HP.out _).mono ?_; rintro e w1 ⟨rfl, hb⟩; replace HB := Lib.hid (Below.next HB.out (Nat.le_refl _) hb); clear hb))
              go_ret
              exact ⟨rfl, HB.out⟩
          · have c1'' : ((j : Int) == 0) = false := by simp; omega
            have c2 : (j : Int) ≤ 12 := by omega
            by_cases c3 : 4 < j
            · have hjn := Hjn.out
              have hpn := Hpn.out
              rw [if_neg c1, if_pos c3] at hjn
              rw [if_pos (by omega)] at hpn
              have HJ := Lib.hid hjn
              have HP := Lib.hid hpn
              have c3' : (4 : Int) < (j : Int) := by omega
              clear hjn hpn Hjn Hpn F3 c1 c3
              go_wp2_with (first
                | (go_at_call 16; refine (HJ.out _).mono ?_; rintro e w1 ⟨rfl, hb⟩; replace HB := Lib.hid (Below.next HB.out (Nat.le_refl _) hb); clear hb)
                | (go_at_call 14; refine (HP.out _).mono ?_; rintro e w1 ⟨rfl, hb⟩; replace HB := Lib.hid (Below.next HB.out (Nat.le_refl _) hb); clear hb))
              go_ret
              exact ⟨rfl, HB.out⟩
            · have hjn := Hjn.out
              have hpn := Hpn.out
              rw [if_neg c1, if_neg c3] at hjn
              rw [if_neg (by omega)] at hpn
              have HJ := Lib.hid hjn
              have HP := Lib.hid hpn
              have c3' : (j : Int) ≤ 4 := by omega
              clear hjn hpn Hjn Hpn F3 c1 c3
              go_wp2_with (first
                | (go_at_call 16; refine (HJ.out _).mono ?_; rintro e w1 ⟨rfl, hb⟩; replace HB := Lib.hid (Below.next HB.out (Nat.le_refl _) hb); clear hb)
                | (go_at_call 14; refine (HP.out _).mono ?_; rintro e w1 ⟨rfl, hb⟩; replace HB := Lib.hid (Below.next HB.out (Nat.le_refl _) hb); clear hb))
              go_ret
              exact ⟨rfl, HB.out⟩

end Go.Proofs.Ytgfbinlakfojdaa
