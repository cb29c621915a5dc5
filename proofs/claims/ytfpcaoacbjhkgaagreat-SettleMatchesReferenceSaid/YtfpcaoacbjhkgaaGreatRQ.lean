/-
  Walks of package route: the spans that messages read or write, and whether a message lies in a span.
-/
import Derived.Test.YtfpcaoacbjhkgaaGreatRO
import Derived.Test.YtfpcaoacbjhkgaaGreatRM
import Derived.Test.YtfpcaoacbjhkgaaGreatMFG
import Derived.Test.YtfpcaoacbjhkgaaGreatMDH
import Derived.Deep.RegionHeld3
namespace Go.Proofs.YtfpcaoacbjhkgaaGreat
open Go.RowKit Go.Sort
set_option linter.unusedVariables false

theorem concat3_w (wx : World) (va vb vc : Value) (a b c : List Sp) (T : TypeId) (ha : IsSpans wx va a) (hb : IsSpans wx vb b) (hc : IsSpans wx vc c) (hl : a.length + b.length + c.length ≤ 1000000000) :
    Calls Tryz.prog 115 #[.slice (some ⟨wx.heap.size, 0, none⟩) 3 3] (wx.alloc (.cells #[va, vb, vc] T)) fun e w' =>
      ∃ v', e = .returned v' ∧ w'.ownsRow wx.heap.size 38 2 v' (a ++ (b ++ c)).length ((a ++ (b ++ c)).flatMap encS) ∧ Below wx.heap.size wx w' := by
  have B2 : Blk (wx.alloc (.cells #[va, vb, vc] T)) wx.heap.size T [va, vb, vc].toArray := Blk.new _ _ _
  have hbx : Below wx.heap.size wx (wx.alloc (.cells #[va, vb, vc] T)) := below_box _
  refine (concatS_w T _ _ [a, b, c] _ B2 rfl (by simp) (fun i hi hv => ?_) (by simp; omega)).mono ?_
  · have : i = 0 ∨ i = 1 ∨ i = 2 := by simp at hi; omega
    rcases this with rfl | rfl | rfl
    · exact ha.below hbx
    · exact hb.below hbx
    · exact hc.below hbx
  · rintro e w' ⟨v', rfl, ho, hbl⟩
    refine ⟨v', rfl, ?_, hbx.trans (hbl.mono (by simp))⟩
    have ho2 := owns_lower ho (show wx.heap.size ≤ _ by simp)
    simpa using ho2
theorem rw_len (m : Ms) : (readsS m).length ≤ 2 ∧ (writesS m).length ≤ 2 := by
  constructor
  · unfold readsS; repeat' split
    all_goals simp
  · unfold writesS; repeat' split
    all_goals simp
theorem touch_len (m : Ms) : (touchS m).length ≤ 4 := by
  unfold touchS; rw [List.length_append]; have := rw_len m; omega
theorem flat_len4 (f : Ms → List Sp) (hf : ∀ m, (f m).length ≤ 4) (l : List Ms) : (l.flatMap f).length ≤ 4 * l.length := by
  induction l with
  | nil => simp
  | cons m r ih => rw [List.flatMap_cons, List.length_append, List.length_cons]; have := hf m; omega
theorem flatM_take (f : Ms → List Sp) (l : List Ms) (k : Nat) (h : k < l.length) : (l.take (k + 1)).flatMap f = (l.take k).flatMap f ++ f l[k] := by
  rw [List.take_succ_eq_append_getElem h, List.flatMap_append]; simp

theorem keepA {W wx : World} (h : Below W.heap.size W wx) (o : Obj) : Below W.heap.size W (wx.alloc o) := h.alloc h.size o
theorem keepG {W wx wy : World} (h : Below W.heap.size W wx) (g : Grown wx wy) : Below W.heap.size W wy := h.trans (g.below h.size)
set_option maxRecDepth 100000 in
set_option maxHeartbeats 4000000 in
theorem touched_w (v : Value) (l : List Ms) (w : World) (h : IsMsgs w v l) (hz : ∀ m ∈ l, SizeM m) (hl : l.length ≤ 1000) :
    Calls Tryz.prog 91 #[v] w (OutS w.heap.size w (l.flatMap touchS)) := by
  have mixed := mixedA
  obtain ⟨g, off, cap, p, rfl, hlc, hcm, hpp, hcc⟩ := h.form
  unfold maxLen at hcm
  have HP := Lib.hid hpp
  have HC := Lib.hid hcc
  have Hz := Lib.hid hz
  clear h hpp hcc hz
  go_enter Tryz.func91, Tryz.ntmps91
  go_wp2
  go_loopw [3, 8] (fun x i wr => ∃ k : Nat, k ≤ l.length ∧ i = .int .i64 k ∧ wr.ownsRow w.heap.size 38 2 x ((l.take k).flatMap touchS).length (((l.take k).flatMap touchS).flatMap encS) ∧ Below w.heap.size w wr) (fun _ i _ => l.length - (intOf i).toNat)
  case atStart => exact ⟨0, Nat.zero_le _, rfl, by simpa using World.ownsRow_nil _ _ _ _, Below.refl _ _⟩
  case round =>
    obtain ⟨k, hk, rfl, hown, hbel⟩ := hrel
    have hsz := hbel.size
    have Hown := Lib.hid hown
    have Hbel := Lib.hid hbel
    clear hown hbel
    by_cases hlt : k < l.length
    · obtain ⟨rfl, hc⟩ := HC.out k hlt
      have hgl := (HP.out (by rintro rfl; simp at hlt)).2
      have hltz : (k : Int) < (l.length : Int) := by omega
      obtain ⟨c0, c1, c2, c3, c4, c5, c6, c7⟩ := hc.below Hbel.out hgl
      have Htk := Lib.hid (flatM_take touchS l k hlt)
      have hfl := flat_len4 touchS touch_len (l.take k)
      have hkl : (l.take k).length ≤ 1000 := by rw [List.length_take]; omega
      have hzk := Hz.out _ (List.getElem_mem hlt)
      generalize l[k] = m at *
      have HR := Lib.hid (fun wx => reads_w m wx hzk)
      have HW := Lib.hid (fun wx => writes_w m wx hzk)
      have hrw := rw_len m
      have HT : Hid (touchS m = readsS m ++ writesS m) := Lib.hid rfl
      have hTL : (List.take k l).length ≤ 1000 := hkl
      have hB1 : Blk (wr.alloc (.cells (encM m) 40)) wr.heap.size 40 (encM m) := Blk.new _ _ _
      obtain ⟨W1, hW1⟩ : ∃ W1, W1 = wr.alloc (.cells (encM m) 40) := ⟨_, rfl⟩
      have hg1 : Below wr.heap.size wr W1 := by rw [hW1]; exact below_box _
      rw [← hW1] at hB1
      have hx : ∀ i x, (encM m)[i]? = some x → ∀ wx, Below W1.heap.size W1 wx → wx.cell? ⟨wr.heap.size, i, none⟩ = some x := fun i x hi wx hg => (Blk.below hB1 hg hB1.lt).c0 i x hi
      have x0 : ∀ wx, Below W1.heap.size W1 wx → wx.cell? ⟨wr.heap.size, 0, none⟩ = some (.int .i64 m.kind) := hx 0 _ rfl
      have x1 : ∀ wx, Below W1.heap.size W1 wx → wx.cell? ⟨wr.heap.size, 1, none⟩ = some (.string (Str m.key)) := hx 1 _ rfl
      have x2 : ∀ wx, Below W1.heap.size W1 wx → wx.cell? ⟨wr.heap.size, 2, none⟩ = some (.string (Str m.val)) := hx 2 _ rfl
      have x3 : ∀ wx, Below W1.heap.size W1 wx → wx.cell? ⟨wr.heap.size, 3, none⟩ = some (.string (Str m.lo)) := hx 3 _ rfl
      have x4 : ∀ wx, Below W1.heap.size W1 wx → wx.cell? ⟨wr.heap.size, 4, none⟩ = some (.string (Str m.hi)) := hx 4 _ rfl
      have x5 : ∀ wx, Below W1.heap.size W1 wx → wx.cell? ⟨wr.heap.size, 5, none⟩ = some (.string (Str m.src)) := hx 5 _ rfl
      have x6 : ∀ wx, Below W1.heap.size W1 wx → wx.cell? ⟨wr.heap.size, 6, none⟩ = some (.string (Str m.dst)) := hx 6 _ rfl
      have x7 : ∀ wx, Below W1.heap.size W1 wx → wx.cell? ⟨wr.heap.size, 7, none⟩ = some (.int .i64 m.n) := hx 7 _ rfl
      generalize hA : (l.take k).flatMap touchS = A at *
      generalize readsS m = R at *
      generalize writesS m = Wr at *
      have HA : Hid (IsSpans wr u3 A) := Lib.hid (IsSpans.owned Hown.out)
      obtain ⟨pa, ca, rfl, -⟩ := id HA.out
      have HS0 : Hid (Below W1.heap.size W1 W1) := Lib.hid (Below.refl _ _)
      have HG1 := Lib.hid hg1
      have HCAT : Hid (∀ wz vR vW T, Below W1.heap.size W1 wz → IsSpans wz vR R → IsSpans wz vW Wr → Calls Tryz.prog 115 #[.slice (some ⟨wz.heap.size, 0, none⟩) 3 3] (wz.alloc (.cells #[.slice pa A.length ca, vR, vW] T)) fun e w' => ∃ v', e = .returned v' ∧ w'.ownsRow wr.heap.size 38 2 v' (A ++ (R ++ Wr)).length ((A ++ (R ++ Wr)).flatMap encS) ∧ Below wr.heap.size wr w' ∧ Below W1.heap.size W1 w') := Lib.hid (fun wz vR vW T hg h1 h2 => by
        have hb := HG1.out.trans (hg.mono HG1.out.size)
        refine (concat3_w wz _ vR vW A R Wr T (HA.out.below hb) h1 h2 (by omega)).mono ?_
        rintro e w' ⟨v', rfl, a1, a2⟩
        exact ⟨v', rfl, owns_lower a1 hb.size, hb.trans (a2.mono hb.size), hg.trans (a2.mono hg.size)⟩)
      clear hB1 hg1 hx hc
      have HFL : Hid (A.length ≤ 4 * 1000) := Lib.hid (by omega)
      clear hfl hrw hkl hTL
      have HT2 : Hid ((l.take (k + 1)).flatMap touchS = A ++ (R ++ Wr)) := Lib.hid (by rw [Htk.out, HT.out])
      clear hA Htk HT
      go_wp2_with fail
      rw [← hW1]
      have HW1 := Lib.hid hW1
      clear hW1
      go_region_held3 (fun wx => Below W1.heap.size W1 wx)
        (repeat (first | with_reducible assumption | with_reducible exact HS0.out | with_reducible refine Below.drew ?_ | with_reducible refine keepA ?_ _))
        (first
          | (go_at_call 116; (refine (HR.out _).mono ?_); rintro e2 w2 ⟨v2, rfl, hR2, hG2⟩; obtain ⟨pR, cR, rfl, -⟩ := id hR2; have hS2 : Below W1.heap.size W1 w2 := keepG (by repeat (first | with_reducible assumption | with_reducible exact HS0.out | with_reducible refine Below.drew ?_)) hG2)
          | (go_at_call 62; (refine (HW.out _).mono ?_); rintro e3 w3 ⟨v3, rfl, hW3, hG3⟩; obtain ⟨pW, cW, rfl, -⟩ := id hW3; have hS3 : Below W1.heap.size W1 w3 := keepG (by repeat (first | with_reducible assumption | with_reducible exact HS0.out | with_reducible refine Below.drew ?_)) hG3; have hR3 := hR2.below (hG3.below (Nat.le_refl _)))
          | (go_at_call 115; (refine (HCAT.out _ _ _ _ (by repeat (first | with_reducible assumption | with_reducible refine Below.drew ?_)) (by first | exact hR3 | exact hR3.below (below_drewN _ 1)) (by first | exact hW3 | exact hW3.below (below_drewN _ 1))).mono ?_); rintro e5 w5 ⟨v5, rfl, ho5, hb5, hS5⟩)
          | fail "no arm")
      all_goals
        have Ho5 := Lib.hid (owns_lower ho5 hsz)
        have Hb5 : Hid (Below w.heap.size w w5) := Lib.hid (Hbel.out.trans (hb5.mono hsz))
        clear ho5 hb5 hS5 hS3 hS2 hR2 hW3 hR3 x0 x1 x2 x3 x4 x5 x6 x7
        go_wp2
        go_roundw
        case rel => exact ⟨k + 1, by omega, by go_num, by rw [HT2.out]; exact Ho5.out, Hb5.out⟩
        case measure => simp [intOf]; omega
    · obtain rfl : k = l.length := by omega
      rw [List.take_length] at Hown
      go_wp2
      go_ret
      exact ⟨_, rfl, Hown.out, Hbel.out⟩

end Go.Proofs.YtfpcaoacbjhkgaaGreat
