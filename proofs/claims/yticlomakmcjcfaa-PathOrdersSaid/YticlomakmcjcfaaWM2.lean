/-
  The walk of the law PathMatchesReference.
-/
import Derived.Test.YticlomakmcjcfaaWI
import Derived.Test.YticlomakmcjcfaaWA
import Derived.Test.YticlomakmcjcfaaF
import Derived.Test.YticlomakmcjcfaaWQ
import Derived.Deep.RegionHeld3
import Derived.Deep.DeepCutAuto
namespace Go.Proofs.Yticlomakmcjcfaa
open Go.RowKit Go.Sort
set_option linter.unusedVariables false
set_option maxRecDepth 100000

/-- A block of one's own that stays. -/
def KB (w : World) (b : Nat) (T : TypeId) (cs : Array Value) (wx : World) : Prop := Blk wx b T cs ∧ Below w.heap.size w wx ∧ w.heap.size ≤ b
theorem KB.new (w : World) (T : TypeId) (cs : Array Value) : KB w w.heap.size T cs (w.alloc (.cells cs T)) := ⟨Blk.new _ _ _, (Below.refl _ _).alloc (Nat.le_refl _) _, Nat.le_refl _⟩
theorem KB.below {w wx wy : World} {b : Nat} {T : TypeId} {cs : Array Value} (h : KB w b T cs wx) (hb : Below wx.heap.size wx wy) : KB w b T cs wy := ⟨h.1.below hb h.1.lt, Below.next h.2.1 (Nat.le_refl _) hb, h.2.2⟩
theorem KB.alloc {w wx : World} {b : Nat} {T : TypeId} {cs : Array Value} (h : KB w b T cs wx) (o : Obj) : KB w b T cs (wx.alloc o) := ⟨h.1.alloc o, h.2.1.alloc h.2.1.size _, h.2.2⟩
theorem KB.drew {w wx : World} {b : Nat} {T : TypeId} {cs : Array Value} (h : KB w b T cs wx) : KB w b T cs wx.drew := ⟨h.1, h.2.1.drew, h.2.2⟩

theorem keepA {W wx : World} (h : Below W.heap.size W wx) (o : Obj) : Below W.heap.size W (wx.alloc o) := h.alloc h.size o
theorem keepB {W wx wy : World} (h : Below W.heap.size W wx) (k : Below wx.heap.size wx wy) : Below W.heap.size W wy := h.trans (k.mono h.size)
/-- The box of the texts, and two boxes of places. -/
structure PM (w : World) (o : Nat) (T : TypeId) (cs : Array Value) (ox oy : Nat) (p : Bs) (t n : Int) (m : Bs) (wx : World) : Prop where
  k : KB w o T cs wx
  x : Blk wx ox 32 #[.string (Str p), .int .i64 t, .int .i64 n, .string (Str m)]
  y : Blk wx oy 32 #[.string (Str p), .int .i64 t, .int .i64 n, .string (Str m)]
theorem PM.below {w wx wy : World} {o : Nat} {T : TypeId} {cs : Array Value} {ox oy : Nat} {p : Bs} {t n : Int} {m : Bs} (h : PM w o T cs ox oy p t n m wx) (hb : Below wx.heap.size wx wy) : PM w o T cs ox oy p t n m wy :=
  ⟨h.k.below hb, h.x.below hb h.x.lt, h.y.below hb h.y.lt⟩
theorem PM.facts {w wx : World} {o : Nat} {T : TypeId} {cs : Array Value} {ox oy : Nat} {p : Bs} {t n : Int} {m : Bs} (h : PM w o T cs ox oy p t n m wx) :
    (wx.cell? ⟨ox, 0, none⟩ = some (.string (Str p)) ∧ wx.cell? ⟨ox, 1, none⟩ = some (.int .i64 t) ∧ wx.cell? ⟨ox, 2, none⟩ = some (.int .i64 n) ∧ wx.cell? ⟨ox, 3, none⟩ = some (.string (Str m))) ∧
    (wx.cell? ⟨oy, 0, none⟩ = some (.string (Str p)) ∧ wx.cell? ⟨oy, 1, none⟩ = some (.int .i64 t) ∧ wx.cell? ⟨oy, 2, none⟩ = some (.int .i64 n) ∧ wx.cell? ⟨oy, 3, none⟩ = some (.string (Str m))) :=
  ⟨⟨h.x.cell 0, h.x.cell 1, h.x.cell 2, h.x.cell 3⟩, h.y.cell 0, h.y.cell 1, h.y.cell 2, h.y.cell 3⟩

set_option maxHeartbeats 8000000 in
theorem pathMatchesReference_walk (w : World) (v0 : Value) (l : Bs) (h0 : IsBytes w v0 l) (v1 : Value) (s : Bs) (h1 : IsStr w v1 s) (v2 : Value) (xx : Nat × Nat) (h2 : IsU8x2 w v2 xx) :
    Calls Try.prog 3 #[v0, v1, v2] w fun e w' => e = .returned (.bool true) ∧ Below w.heap.size w w' := by
  obtain ⟨rfl, hs⟩ := h1
  obtain ⟨x0, x1⟩ := xx
  obtain ⟨rfl, hx0, hx1⟩ := h2
  simp only at hx0 hx1
  unfold maxLen at hs
  have Hm := Lib.hid (fun wx (h : Below w.heap.size w wx) => made_w v0 l wx (h0.below h))
  obtain ⟨a, cap, rfl, _, _⟩ := h0.form
  have HK0 := Lib.hid (KB.new w 23 #[.int .u8 x0, .int .u8 x1])
  clear h0
  by_cases hlen : 220 < (s.length : Int)
  · clear Hm
    go_enter Try.func3, Try.ntmps3
    go_wp2_with (go_at_call 14; refine (sanity_w _).mono ?_; rintro e w1 ⟨rfl, hb⟩; have HK1 := Lib.hid (HK0.out.below hb); clear hb)
    go_ret
    exact ⟨rfl, HK1.out.2.1⟩
  · have hpl := madeS_le l
    have hpv := validB_made l
    generalize madeS l = p at *
    have Hpv := Lib.hid hpv
    clear hpv
    go_enter Try.func3, Try.ntmps3
    go_upto_if 35 with (first
      | (go_at_call 14; refine (sanity_w _).mono ?_; rintro e w1 ⟨rfl, hb⟩; have HK1 := Lib.hid (HK0.out.below hb); clear hb)
      | (go_at_call 15; refine (Hm.out _ HK1.out.2.1).mono ?_; rintro e w2 ⟨rfl, hb2⟩; have K2 := HK1.out.below hb2; have c0 := K2.1.cell 0; have c1 := K2.1.cell 1; simp at c0 c1; have HK2 := Lib.hid K2; clear hb2 K2))
    go_cut [9] (fun s9 wx => ∃ odd : Bs, s9 = .string (Str odd) ∧ odd.length ≤ 52 ∧ KB w w.heap.size 23 #[.int .u8 x0, .int .u8 x1] wx)
    case first =>
      by_cases hp : p = []
      · subst hp
        go_wp2_with fail
        go_meet
        exact ⟨[], rfl, by simp, HK2.out⟩
      · have hp0 : 0 < p.length := List.length_pos_iff.2 hp
        have hmod : (x0 : Int) % (p.length : Int) = ((x0 % p.length : Nat) : Int) := by omega
        have hlt : x0 % p.length < p.length := Nat.mod_lt _ hp0
        have hne : ((p.length : Int) == 0) = false := by simp; omega
        generalize x0 % p.length = i at *
        go_wp2_with fail
        simp only [hmod]
        have hle : i ≤ p.length := by omega
        have hle1 : i + 1 ≤ p.length := by omega
        have hcv : (convert 22 9 (.slice (some ⟨w2.heap.size, 0, none⟩) 1 1)).run Try.prog ((w2.alloc (.cells #[.int .u8 x1] 5)).drew) = .ok (.string (Str [UInt8.ofNat x1])) ((w2.alloc (.cells #[.int .u8 x1] 5)).drew) := conv1 w2.drew 5 x1 rfl
        go_region
        all_goals (go_wp2_with fail; go_meet)
        all_goals exact ⟨_, rfl, by simp; omega, (HK2.out.alloc _).drew⟩
    case rest =>
      obtain ⟨odd, rfl, hol, hK⟩ := hcut
      have HK3 := Lib.hid hK
      have HKT : Hid (KB w wc.heap.size 26 #[.string (Str p), .string (Str odd), .string (Str s), .string (Str (47 :: odd))] (wc.alloc (.cells #[.string (Str p), .string (Str odd), .string (Str s), .string (Str (47 :: odd))] 26))) :=
        Lib.hid ⟨Blk.new _ _ _, hK.2.1.alloc hK.2.1.size _, hK.2.1.size⟩
      clear hK c0 c1
      go_wp2_with fail
      go_loopw [12] (fun i wr => ∃ n : Nat, n ≤ 4 ∧ i = .int .i64 n ∧ KB w wc.heap.size 26 #[.string (Str p), .string (Str odd), .string (Str s), .string (Str (47 :: odd))] wr) (fun i _ => 4 - (intOf i).toNat)
      case atStart => exact ⟨0, by omega, rfl, HKT.out⟩
      case round =>
        obtain ⟨n, hn, rfl, hK⟩ := hrel
        by_cases hlt : n < 4
        · have hx : ∃ x : Bs, x.length ≤ 220 ∧ ∀ wx, KB w wc.heap.size 26 #[.string (Str p), .string (Str odd), .string (Str s), .string (Str (47 :: odd))] wx → wx.cell? ⟨wc.heap.size, n, none⟩ = some (.string (Str x)) := by
            rcases (by omega : n = 0 ∨ n = 1 ∨ n = 2 ∨ n = 3) with rfl | rfl | rfl | rfl
            · exact ⟨p, by omega, fun wx h => h.1.cell 0⟩
            · exact ⟨odd, by omega, fun wx h => h.1.cell 1⟩
            · exact ⟨s, by omega, fun wx h => h.1.cell 2⟩
            · exact ⟨47 :: odd, by simp; omega, fun wx h => h.1.cell 3⟩
          obtain ⟨x, hxl, hx⟩ := hx
          have Hx := Lib.hid hx
          have hlt4 : (n : Int) < 4 := by omega
          have c0 := hx _ hK
          have HK := Lib.hid hK
          have Ha := Lib.hid (fun wx => parse_w (Str x) wx (by rw [size_Str]; unfold maxLen; omega))
          have Hb := Lib.hid (fun wx => rparse_w x wx (by unfold maxLen; omega))
          have Hc := Lib.hid (fun wx => join_w (Str x) (Str s) wx (by rw [size_Str]; omega) (by rw [size_Str]; omega))
          have Hd := Lib.hid (fun wx => rjoin_w x s wx (by omega) (by omega))
          have Hp1 := Lib.hid (fun wx => place_w (Str (x ++ [1])) wx (by rw [size_Str]; simp; unfold maxLen; omega))
          have Hp2 := Lib.hid (fun wx => rplace_w (x ++ [1]) wx (by simp; omega))
          have Hv1 := Lib.hid (fun wx => valid_w (Str x) wx (by rw [size_Str]; unfold maxLen; omega))
          have Hv2 := Lib.hid (fun wx => rvalid_w x wx (by omega))
          have Hs1 := Lib.hid (fun wx => lsplit_w (Str x) wx (by rw [size_Str]; omega))
          have Hs2 := Lib.hid (fun wx => rsplit_w x wx (by omega))
          have Hu1 := Lib.hid (fun wx => under_w (Str x) (Str p) wx)
          have Hu2 := Lib.hid (fun wx => runder_w x p wx (by omega) (by omega))
          simp only [toList_Str] at Ha Hc Hp1 Hv1 Hs1 Hu1
          generalize parseS x = q1 at *
          generalize joinS x s = q2 at *
          generalize validB x = q3 at *
          generalize splitS x = q4 at *
          generalize p.isPrefixOf x = q5 at *
          have hpr : ∃ (pp : Bs) (pt pn : Int) (pm : Bs) (pe : Int), placeR (x ++ [1]) = .tuple #[placeV pp pt pn pm, .int .i64 pe] := by
            unfold placeR
            split
            · exact ⟨_, _, _, _, _, rfl⟩
            · exact ⟨_, _, _, _, _, rfl⟩
          obtain ⟨pp, pt, pn, pm, pe, hpr⟩ := hpr
          rw [hpr] at Hp1 Hp2
          obtain ⟨q11, q12⟩ := q1
          obtain ⟨q21, q22⟩ := q2
          obtain ⟨q41, q42, q43⟩ := q4
          simp only [placeV, splitV] at Hp1 Hp2 Hs1 Hs2
          simp only at Ha Hb Hc Hd
          clear hx hK hpr
          go_wp2_with (first
            | (go_at_call 16; refine (Ha.out _).mono ?_; rintro e wy ⟨rfl, hb⟩; replace HK := Lib.hid (HK.out.below hb); (try clear c0); have c0 := Hx.out _ HK.out; clear hb)
            | (go_at_call 17; refine (Hb.out _).mono ?_; rintro e wy ⟨rfl, hb⟩; replace HK := Lib.hid (HK.out.below hb); (try clear c0); have c0 := Hx.out _ HK.out; clear hb)
            | (go_at_call 18; refine (Hc.out _).mono ?_; rintro e wy ⟨rfl, hb⟩; replace HK := Lib.hid (HK.out.below hb); (try clear c0); have c0 := Hx.out _ HK.out; clear hb)
            | (go_at_call 19; refine (Hd.out _).mono ?_; rintro e wy ⟨rfl, hb⟩; replace HK := Lib.hid (HK.out.below hb); (try clear c0); have c0 := Hx.out _ HK.out; clear hb)
            | (go_at_call 20; refine (Hp1.out _).mono ?_; rintro e wx1 ⟨rfl, hb⟩; replace HK := Lib.hid (HK.out.below hb); (try clear c0); have c0 := Hx.out _ (HK.out.alloc (Obj.cells #[.string (Str pp), .int .i64 pt, .int .i64 pn, .string (Str pm)] 32)); have HX1 := Lib.hid (XAt.new pp pt pn pm wx1); clear hb)
            | (go_at_call 21; refine (Hp2.out _).mono ?_; rintro e wx2 ⟨rfl, hb⟩; have HK2 := Lib.hid ((HK.out.alloc _).below hb); clear c0; have c0 := Hx.out _ (HK2.out.alloc (Obj.cells #[.string (Str pp), .int .i64 pt, .int .i64 pn, .string (Str pm)] 32)); have HX2 := Lib.hid (HX1.out.below hb); have HX3 := Lib.hid (XAt.new pp pt pn pm wx2); clear hb))
          obtain ⟨wL, hwL⟩ : ∃ wL, wL = wx2.alloc (.cells #[.string (Str pp), .int .i64 pt, .int .i64 pn, .string (Str pm)] 32) := ⟨_, rfl⟩
          have HM : Hid (PM w wc.heap.size 26 #[.string (Str p), .string (Str odd), .string (Str s), .string (Str (47 :: odd))] wx1.heap.size wx2.heap.size pp pt pn pm wL) := Lib.hid (by rw [hwL]; exact ⟨HK2.out.alloc _, HX2.out.1.alloc _, HX3.out.1⟩)
          rw [← hwL]
          clear hwL c0 HX1 HX2 HX3 HK HK2 Hp1 Hp2 Ha Hb Hc Hd HKT HK3 Hm
          have HL0 : Hid (Below wL.heap.size wL wL) := Lib.hid (Below.refl _ _)
          have hc0 : ∀ wx, Below wL.heap.size wL wx → wx.cell? ⟨wc.heap.size, n, none⟩ = some (.string (Str x)) := fun wx hx => Hx.out _ (HM.out.below hx).k
          have ha0 : ∀ wx, Below wL.heap.size wL wx → wx.cell? ⟨wx1.heap.size, 0, none⟩ = some (.string (Str pp)) := fun wx hx => (HM.out.below hx).facts.1.1
          have ha1 : ∀ wx, Below wL.heap.size wL wx → wx.cell? ⟨wx1.heap.size, 1, none⟩ = some (.int .i64 pt) := fun wx hx => (HM.out.below hx).facts.1.2.1
          have ha2 : ∀ wx, Below wL.heap.size wL wx → wx.cell? ⟨wx1.heap.size, 2, none⟩ = some (.int .i64 pn) := fun wx hx => (HM.out.below hx).facts.1.2.2.1
          have ha3 : ∀ wx, Below wL.heap.size wL wx → wx.cell? ⟨wx1.heap.size, 3, none⟩ = some (.string (Str pm)) := fun wx hx => (HM.out.below hx).facts.1.2.2.2
          have hb0 : ∀ wx, Below wL.heap.size wL wx → wx.cell? ⟨wx2.heap.size, 0, none⟩ = some (.string (Str pp)) := fun wx hx => (HM.out.below hx).facts.2.1
          have hb1 : ∀ wx, Below wL.heap.size wL wx → wx.cell? ⟨wx2.heap.size, 1, none⟩ = some (.int .i64 pt) := fun wx hx => (HM.out.below hx).facts.2.2.1
          have hb2 : ∀ wx, Below wL.heap.size wL wx → wx.cell? ⟨wx2.heap.size, 2, none⟩ = some (.int .i64 pn) := fun wx hx => (HM.out.below hx).facts.2.2.2.1
          have hb3 : ∀ wx, Below wL.heap.size wL wx → wx.cell? ⟨wx2.heap.size, 3, none⟩ = some (.string (Str pm)) := fun wx hx => (HM.out.below hx).facts.2.2.2.2
          have Gv1 : Hid (∀ wx, Below wL.heap.size wL wx → Calls Try.prog 22 #[.string (Str x)] wx fun e w' => e = .returned (.bool q3) ∧ Below wL.heap.size wL w') := Lib.hid (fun wx hx => (Hv1.out wx).mono fun e w' ⟨h1, h2⟩ => ⟨h1, keepB hx h2⟩)
          have Gv2 : Hid (∀ wx, Below wL.heap.size wL wx → Calls Try.prog 23 #[.string (Str x)] wx fun e w' => e = .returned (.bool q3) ∧ Below wL.heap.size wL w') := Lib.hid (fun wx hx => (Hv2.out wx).mono fun e w' ⟨h1, h2⟩ => ⟨h1, keepB hx h2⟩)
          have Gs1 : Hid (∀ wx, Below wL.heap.size wL wx → Calls Try.prog 24 #[.string (Str x)] wx fun e w' => e = .returned (.agg #[.string (Str q41), .string (Str q42), .int .i64 q43]) ∧ Below wL.heap.size wL w') := Lib.hid (fun wx hx => (Hs1.out wx).mono fun e w' ⟨h1, h2⟩ => ⟨h1, keepB hx h2⟩)
          have Gs2 : Hid (∀ wx, Below wL.heap.size wL wx → Calls Try.prog 25 #[.string (Str x)] wx fun e w' => e = .returned (.agg #[.string (Str q41), .string (Str q42), .int .i64 q43]) ∧ Below wL.heap.size wL w') := Lib.hid (fun wx hx => (Hs2.out wx).mono fun e w' ⟨h1, h2⟩ => ⟨h1, keepB hx h2⟩)
          have Gu1 : Hid (∀ wx, Below wL.heap.size wL wx → Calls Try.prog 26 #[.string (Str x), .string (Str p)] wx fun e w' => e = .returned (.bool q5) ∧ Below wL.heap.size wL w') := Lib.hid (fun wx hx => (Hu1.out wx).mono fun e w' ⟨h1, h2⟩ => ⟨h1, h2 ▸ hx⟩)
          have Gu2 : Hid (∀ wx, Below wL.heap.size wL wx → Calls Try.prog 27 #[.string (Str x), .string (Str p)] wx fun e w' => e = .returned (.bool q5) ∧ Below wL.heap.size wL w') := Lib.hid (fun wx hx => (Hu2.out wx).mono fun e w' ⟨h1, h2⟩ => ⟨h1, h2 ▸ hx⟩)
          clear Hv1 Hv2 Hs1 Hs2 Hu1 Hu2
          go_region_held3 (fun wx => Below wL.heap.size wL wx)
            (repeat (first | with_reducible assumption | with_reducible exact HL0.out | with_reducible refine Below.drew ?_ | with_reducible refine keepA ?_ _))
            (first
              | (go_at_call 22; (with_reducible refine (Gv1.out _ (by repeat (first | with_reducible assumption | with_reducible exact HL0.out | with_reducible refine Below.drew ?_ | with_reducible refine keepA ?_ _))).mono ?_); rintro e2 y2 ⟨rfl, hS2⟩)
              | (go_at_call 23; (with_reducible refine (Gv2.out _ (by repeat (first | with_reducible assumption | with_reducible exact HL0.out | with_reducible refine Below.drew ?_ | with_reducible refine keepA ?_ _))).mono ?_); rintro e3 y3 ⟨rfl, hS3⟩)
              | (go_at_call 24; (with_reducible refine (Gs1.out _ (by repeat (first | with_reducible assumption | with_reducible exact HL0.out | with_reducible refine Below.drew ?_ | with_reducible refine keepA ?_ _))).mono ?_); rintro e4 y4 ⟨rfl, hS4⟩)
              | (go_at_call 25; (with_reducible refine (Gs2.out _ (by repeat (first | with_reducible assumption | with_reducible exact HL0.out | with_reducible refine Below.drew ?_ | with_reducible refine keepA ?_ _))).mono ?_); rintro e5 y5 ⟨rfl, hS5⟩)
              | (go_at_call 26; (with_reducible refine (Gu1.out _ (by repeat (first | with_reducible assumption | with_reducible exact HL0.out | with_reducible refine Below.drew ?_ | with_reducible refine keepA ?_ _))).mono ?_); rintro e6 y6 ⟨rfl, hS6⟩)
              | (go_at_call 27; (with_reducible refine (Gu2.out _ (by repeat (first | with_reducible assumption | with_reducible exact HL0.out | with_reducible refine Below.drew ?_ | with_reducible refine keepA ?_ _))).mono ?_); rintro e7 y7 ⟨rfl, hS7⟩)
              | fail "no arm")
          have HF : Hid (KB w wc.heap.size 26 #[.string (Str p), .string (Str odd), .string (Str s), .string (Str (47 :: odd))] y7) := Lib.hid (HM.out.below hS7).k
          clear hS2 hS3 hS4 hS5 hS6 hS7 hc0 ha0 ha1 ha2 ha3 hb0 hb1 hb2 hb3 Gv1 Gv2 Gs1 Gs2 Gu1 Gu2
          go_wp2
          go_roundw
          case rel => exact ⟨n + 1, by omega, by go_num, HF.out⟩
          case measure => simp [intOf]; omega
        · obtain rfl : n = 4 := by omega
          have HK := Lib.hid hK
          clear hK
          have Ht1 := Lib.hid (fun wx => text_w (Str p) wx (by rw [size_Str]; omega))
          have Ht2 := Lib.hid (fun wx => rtext_w p wx (by omega) Hpv.out)
          simp only [toList_Str] at Ht1
          go_wp2_with (first
            | (go_at_call 28; refine (Ht1.out _).mono ?_; rintro e wy ⟨rfl, rfl⟩)
            | (go_at_call 29; refine (Ht2.out _).mono ?_; rintro e wy ⟨rfl, rfl⟩))
          go_ret
          exact ⟨rfl, HK.out.2.1⟩

end Go.Proofs.Yticlomakmcjcfaa
