/-
  Walks: reference 11: Step.
-/
import Derived.Test.YtlgangcldlphnaaPX0
namespace Go.Proofs.Ytlgangcldlphnaa
open Go.RowKit Go.Sort
set_option linter.unusedVariables false
set_option maxRecDepth 100000

/-- A pool with its roots, as a value. -/
@[reducible] def heldV (v u : Value) : Value := .agg #[v, u]
theorem blk_made {W w' : World} {cs : Array Value} {T : TypeId} (hb : Below (W.alloc (.cells cs T)).drew.heap.size (W.alloc (.cells cs T)).drew w') : Blk w' W.heap.size T cs :=
  Blk.below (show Blk (W.alloc (.cells cs T)).drew _ _ _ from Blk.new W T cs) hb (by simp)
theorem blk_madeP {W w' : World} {cs : Array Value} {T : TypeId} (hb : Below (W.alloc (.cells cs T)).heap.size (W.alloc (.cells cs T)) w') : Blk w' W.heap.size T cs :=
  Blk.below (Blk.new W T cs) hb (by simp)
set_option maxHeartbeats 8000000 in
theorem step_but_w (v u : Value) (P : List Sl) (R : List Int) (j : Nat) (x : R4) (w : World) (hx : x.ok) (h : IsSlots w v P) (hu : IsInts w u R) (hg : Good P R j) (hj : j ≤ 4000) (hnadd : ¬ (x.x0 % 8 < 5 ∨ R.length = 0)) :
    Calls Try.prog 33 #[heldV v u, r4V x] w fun e w' => ∃ v' u', e = .returned (heldV v' u') ∧ IsSlots w' v' (stepX P R x).1 ∧ IsInts w' u' (stepX P R x).2 ∧ Below w.heap.size w w' := by
  have mixed := mixedA
  have H := Lib.hid h
  have HU := Lib.hid hu
  have HGD := Lib.hid hg
  obtain ⟨a, cap, rfl, hle, hcm, hpm⟩ := h.slice
  obtain ⟨ua, uc, rfl, hul, hum⟩ := hu.slice
  have hpl := hg.plen
  have hrl := hg.rlen
  have HXK := Lib.hid hx
  have HNODE := Lib.hid (fun wx (hb : Below w.heap.size w wx) => node_w x (.slice ua R.length uc) R wx hx (hu.below hb) (by omega))
  have HHOLD := Lib.hid (fun wx (hb : Below w.heap.size w wx) i => rhold_w (.slice a P.length cap) P i w wx (h.slF.below hb) hb (by omega) (fun _ => by have := hg.refs i.toNat; omega))
  have HDROP := Lib.hid (fun wx (hb : Below w.heap.size w wx) i => rdrop_w (.slice a P.length cap) P i w wx (h.slF.below hb) hb (by omega) (Nat.le_trans (hg.mu [i]) (by simp; omega)) (fun i => by have := hg.refs i; omega))
  clear h hu hg
  obtain ⟨hx0, hx1, hx2, hx3⟩ := hx
  obtain ⟨y0, y1, y2, y3⟩ := x
  simp only at hx0 hx1 hx2 hx3
  obtain ⟨W1, hW1⟩ : ∃ W1, W1 = ((w.alloc (.cells #[.slice a P.length cap, .slice ua R.length uc] 32)).alloc (.cells #[.int .u8 y0, .int .u8 y1, .int .u8 y2, .int .u8 y3] 24)).alloc (.cells #[.slice none 0 0, .slice none 0 0] 32) := ⟨_, rfl⟩
  have HB1 : Hid (Below w.heap.size w W1) := Lib.hid (by rw [hW1]; exact keepP (keepP (keepP (Below.refl _ _) _) _) _)
  have HH : Hid (Blk W1 w.heap.size 32 #[.slice a P.length cap, .slice ua R.length uc]) := Lib.hid (by rw [hW1]; exact ((Blk.new _ _ _).alloc _).alloc _)
  have HX : Hid (Blk W1 (w.heap.size + 1) 24 #[.int .u8 y0, .int .u8 y1, .int .u8 y2, .int .u8 y3]) := Lib.hid (by rw [hW1]; exact (Blk.new' _ _ _ (by simp)).alloc _)
  have HR : Hid (Blk W1 (w.heap.size + 2) 32 #[.slice none 0 0, .slice none 0 0]) := Lib.hid (by rw [hW1]; exact Blk.new' _ _ _ (by simp))
  have HW1 := Lib.hid hW1
  clear hW1
  obtain ⟨m0, hm0⟩ : ∃ m0 : Nat, m0 = y0 % 8 := ⟨_, rfl⟩
  have hmz : (y0 : Int) % 8 = (m0 : Int) := by omega
  have hmt : (y0 : Int).tmod 8 = (m0 : Int) := by rw [Int.tmod_eq_emod_of_nonneg (by omega)]; exact hmz
  have hm8 : m0 < 8 := by omega
  have HM0 := Lib.hid hm0
  have hy0z : (y0 : Int) < 256 := by omega
  have hy1z : (y1 : Int) < 256 := by omega
  clear hm0
  go_enter Try.func33, Try.ntmps33
  go_upto_region 1 with fail
  rw [← HW1.out]
  have x0 : W1.cell? ⟨w.heap.size + 1, 0, none⟩ = some (.int .u8 y0) := HX.out.c0 0 _ rfl
  have u0 : W1.cell? ⟨w.heap.size, 1, none⟩ = some (.slice ua R.length uc) := HH.out.c0 1 _ rfl
  have hnadd' : ¬ (y0 % 8 < 5 ∨ R.length = 0) := hnadd
  have hadd : ¬ (m0 < 5 ∨ R.length = 0) := by have := HM0.out; omega
  clear hnadd hnadd'
  · have hm5z : (5 : Int) ≤ (m0 : Int) := by omega
    have hlp : 0 < R.length := by omega
    have hlz : ((R.length : Int) == 0) = false := by simpa using List.length_pos_iff.1 hlp
    obtain ⟨r, hr⟩ : ∃ r : Nat, r = y1 % R.length := ⟨_, rfl⟩
    have hrl2 : r < R.length := by rw [hr]; exact Nat.mod_lt _ hlp
    have hrz : (y1 : Int) % (R.length : Int) = (r : Int) := by rw [hr]; exact (Int.natCast_emod y1 R.length).symm
    have hrt : (y1 : Int).tmod (R.length : Int) = (r : Int) := by rw [Int.tmod_eq_emod_of_nonneg (by omega)]; exact hrz
    have hyw : IntKind.i64.wrap (y1 : Int) = (y1 : Int) := IntWalk.i64_in _ (by omega)
    have hrw : IntKind.i64.wrap (r : Int) = (r : Int) := IntWalk.i64_in _ (by omega)
    have hn0 : ¬ ((R.length : Int) = 0) := by omega
    have hrn : ¬ (R = []) := List.length_pos_iff.1 hlp
    have hn1 : ¬ ((R.length : Int) = -1) := by omega
    have hrlz : (r : Int) < (R.length : Int) := by omega
    obtain ⟨b5, off5, cap6, he, hbl5, hlz5, z0⟩ := at_int (HU.out.below HB1.out) r hrl2
    injection he with he1 he2 he3
    subst he1 he3
    clear he2
    have HID : Hid (R.getD r 0 = R[r]) := Lib.hid (by rw [List.getD_eq_getElem?_getD, List.getElem?_eq_getElem hrl2]; rfl)
    have HRR := Lib.hid hr
    generalize R[r] = id at *
    have x1 : W1.cell? ⟨w.heap.size + 1, 1, none⟩ = some (.int .u8 y1) := HX.out.c0 1 _ rfl
    have p0 : W1.cell? ⟨w.heap.size, 0, none⟩ = some (.slice a P.length cap) := HH.out.c0 0 _ rfl
    by_cases hm5 : m0 = 5
    · have HST : Hid (stepX P R ⟨y0, y1, y2, y3⟩ = ((holdP P id).1, R ++ [id])) := Lib.hid (by
        unfold stepX
        rw [if_neg, if_pos]
        · show ((holdP P (R.getD (y1 % R.length) 0)).1, R ++ [R.getD (y1 % R.length) 0]) = _
          rw [← HRR.out, HID.out]
        · show y0 % 8 = 5; have := HM0.out; omega
        · show ¬ (y0 % 8 < 5 ∨ R.length = 0); have := HM0.out; omega)
      have hm5b : ((m0 : Int) == 5) = true := by rw [hm5]; rfl
      clear hr hm5 hadd
      go_wp2_with fail
      refine (HHOLD.out _ HB1.out id).mono ?_
      rintro e w2 ⟨v2, rfl, hout⟩
      obtain ⟨a2, c2, rfl, -⟩ := (hout.sl.slots (HB1.out.trans (hout.bel.mono HB1.out.size))).slice
      have HOUT := Lib.hid hout
      have HB2 := Lib.hid hout.bel
      have u2 : w2.cell? ⟨w.heap.size, 1, none⟩ = some (.slice (some ⟨b5, off5, none⟩) R.length uc) := (HH.out.below hout.bel HH.out.lt).c0 1 _ rfl
      have HRS := Lib.hid (HR.out.below hout.bel HR.out.lt)
      have HLT := Lib.hid HR.out.lt
      clear hout x0 x1 u0 p0 z0
      go_wp2_with fail
      obtain ⟨w3, hw3⟩ : ∃ w3, w3 = w2.alloc (.cells #[.slice a2 (holdP P id).1.length c2] 29) := ⟨_, rfl⟩
      have HB3 : Hid (Below w2.heap.size w2 w3) := Lib.hid (by rw [hw3]; exact keepP (Below.refl _ _) _)
      have HP3 : Hid (Blk w3 w2.heap.size 29 #[.slice a2 (holdP P id).1.length c2]) := Lib.hid (by rw [hw3]; exact Blk.new _ _ _)
      have HR3 : Hid (Blk w3 (w.heap.size + 2) 32 #[.slice none 0 0, .slice none 0 0]) := Lib.hid (HRS.out.below HB3.out HRS.out.lt)
      have HBw3 : Hid (Below W1.heap.size W1 w3) := Lib.hid (HB2.out.trans (HB3.out.mono HB2.out.size))
      have hs3 : w.heap.size + 2 < w2.heap.size := Nat.lt_of_lt_of_le HLT.out HB2.out.size
      have hs4 : w2.heap.size < w3.heap.size := HP3.out.lt
      rw [← hw3]
      clear hw3 u2
      have HS0 : Hid (RgS (w.heap.size + 2) w3 w2.heap.size 29 #[.slice a2 (holdP P id).1.length c2] w3) := Lib.hid (RgS.refl HP3.out)
      have HIR : Hid (∀ wx, RgS (w.heap.size + 2) w3 w2.heap.size 29 #[.slice a2 (holdP P id).1.length c2] wx → IsInts wx (.slice (some ⟨b5, off5, none⟩) R.length uc) R) := Lib.hid (fun wx hx => HU.out.below ((HB1.out.trans (HBw3.out.mono HB1.out.size)).trans (hx.but.below (B := w.heap.size) (by omega) (by omega))))
      have pA : ∀ wx, RgS (w.heap.size + 2) w3 w2.heap.size 29 #[.slice a2 (holdP P id).1.length c2] wx → wx.cell? ⟨w2.heap.size, 0, none⟩ = some (.slice a2 (holdP P id).1.length c2) := fun wx hx => hx.blk.c0 0 _ rfl
      have uA : ∀ wx, RgS (w.heap.size + 2) w3 w2.heap.size 29 #[.slice a2 (holdP P id).1.length c2] wx → wx.cell? ⟨w.heap.size, 1, none⟩ = some (.slice (some ⟨b5, off5, none⟩) R.length uc) := fun wx hx => (hx.but.blk (HH.out.below HBw3.out HH.out.lt) (by omega)).c0 1 _ rfl
      have HRL : Hid (R.length ≤ 4000) := Lib.hid (by omega)
      go_region_held3 (fun wx => RgS (w.heap.size + 2) w3 w2.heap.size 29 #[.slice a2 (holdP P id).1.length c2] wx)
        (repeat (first | with_reducible assumption | with_reducible exact HS0.out | with_reducible refine RgS.drew ?_ | with_reducible refine RgS.alloc ?_ _ | with_reducible refine RgS.set ?_ _ _ (by omega)))
        (first
          | (refine step_ints1 rfl _ _ rfl w3.heap.size (.slice (some ⟨w3.heap.size, 0, none⟩) 0 0) [] rfl (by first | exact own_emptyI w3 _ (Nat.le_refl _) | exact (own_emptyI w3 _ (Nat.le_refl _)).alloc _) (.slice (some ⟨b5, off5, none⟩) R.length uc) R rfl (HIR.out _ (by repeat (first | with_reducible assumption | with_reducible exact HS0.out | with_reducible refine RgS.drew ?_ | with_reducible refine RgS.alloc ?_ _))) (by simp only [List.length_nil]; have := HRL.out; omega) (by first | (simp; done) | (simp; omega)) ?_; intro v3 y3 ho3 hg3; have hS3 : RgS (w.heap.size + 2) w3 w2.heap.size 29 #[.slice a2 (holdP P id).1.length c2] y3 := RgS.grown (by repeat (first | with_reducible assumption | with_reducible exact HS0.out | with_reducible refine RgS.drew ?_ | with_reducible refine RgS.alloc ?_ _)) hg3 (fun c hc => by have hc : w3.heap.size = c := Option.some.inj hc; omega) (by omega); have hr3 : Blk y3 (w.heap.size + 2) 32 #[.slice none 0 0, .slice none 0 0] := (grown_blk hg3 (by first | exact (HR3.out.alloc _) | exact ((HR3.out.alloc _).alloc _)) (fun e' => by have e' : w3.heap.size = (w.heap.size + 2) := Option.some.inj e'; omega)); (first | (have hL : IsInts y3 (.slice (some ⟨w3.heap.size + 1, 0, none⟩) 1 1) [id] := ints_grown (lit_A w3 id) hg3 (neA w3 _ _)) | (have hL : IsInts y3 (.slice (some ⟨w3.heap.size + 1, 0, none⟩) 1 1) [id] := ints_grown (lit_Ad w3 id) hg3 (neA w3 _ _)) | skip))
          | (refine step_ints1 rfl _ _ rfl w3.heap.size (.slice (some ⟨w3.heap.size + 1, 0, none⟩) 0 0) [] rfl (by first | exact lit_own (w := w3.alloc _) (by simp) (Nat.le_succ _)) (.slice (some ⟨b5, off5, none⟩) R.length uc) R rfl (HIR.out _ (by repeat (first | with_reducible assumption | with_reducible exact HS0.out | with_reducible refine RgS.drew ?_ | with_reducible refine RgS.alloc ?_ _))) (by simp only [List.length_nil]; have := HRL.out; omega) (by first | (simp; done) | (simp; omega)) ?_; intro v3 y3 ho3 hg3; have hS3 : RgS (w.heap.size + 2) w3 w2.heap.size 29 #[.slice a2 (holdP P id).1.length c2] y3 := RgS.grown (by repeat (first | with_reducible assumption | with_reducible exact HS0.out | with_reducible refine RgS.drew ?_ | with_reducible refine RgS.alloc ?_ _)) hg3 (fun c hc => by have hc : w3.heap.size + 1 = c := Option.some.inj hc; omega) (by omega); have hr3 : Blk y3 (w.heap.size + 2) 32 #[.slice none 0 0, .slice none 0 0] := (grown_blk hg3 (by first | exact (HR3.out.alloc _) | exact ((HR3.out.alloc _).alloc _)) (fun e' => by have e' : w3.heap.size + 1 = (w.heap.size + 2) := Option.some.inj e'; omega)); (first | (have hL : IsInts y3 (.slice (some ⟨w3.heap.size, 0, none⟩) 1 1) [id] := ints_grown (lit_B w3 id) hg3 (neB w3 _ _)) | (have hL : IsInts y3 (.slice (some ⟨w3.heap.size, 0, none⟩) 1 1) [id] := ints_grown (lit_Bd w3 id) hg3 (neB w3 _ _)) | skip))
          | (refine step_ints1 rfl _ _ rfl w3.heap.size v3 ([] ++ R) rfl (by first | with_reducible exact ho3 | with_reducible exact World.ownsRow.alloc ho3 _) (.slice (some ⟨y3.heap.size, 0, none⟩) 1 1) [id] rfl (by first | exact isInts_lit [id] rfl (by simp) (by simp) | exact (isInts_lit [id] rfl (by simp) (by simp)).below (below_drewN _ 1)) (by simp only [List.nil_append, List.length_cons, List.length_nil]; have := HRL.out; omega) (by have := hS3.sz; first | exact this | (simp; omega)) ?_; intro v5 y5 ho5 hg5; obtain ⟨a5, c5, rfl⟩ := own_sl ho5; have hv3 := own_blkOf2 ho3; have hS5 : RgS (w.heap.size + 2) w3 w2.heap.size 29 #[.slice a2 (holdP P id).1.length c2] y5 := RgS.grown (by repeat (first | with_reducible assumption | with_reducible exact HS0.out | with_reducible refine RgS.drew ?_ | with_reducible refine RgS.alloc ?_ _)) hg5 hv3 (by omega); have hr5 : Blk y5 (w.heap.size + 2) 32 #[.slice none 0 0, .slice none 0 0] := (grown_blk hg5 (by first | exact hr3 | exact (hr3.alloc _)) (fun e => by have := hv3 _ e; omega)); have n0 := hr5.c0 0 _ rfl; have n1 := hr5.c0 1 _ rfl; have f0 := hr5.free 0; have f1 := hr5.free 1)
          | (refine step_ints1 rfl _ _ rfl w3.heap.size v3 ([] ++ R) rfl (by first | with_reducible exact ho3) (.slice (some ⟨w3.heap.size + 1, 0, none⟩) 1 1) [id] rfl (by first | exact hL) (by simp only [List.nil_append, List.length_cons, List.length_nil]; have := HRL.out; omega) (by have := hS3.sz; first | exact this | (simp; omega)) ?_; intro v5 y5 ho5 hg5; obtain ⟨a5, c5, rfl⟩ := own_sl ho5; have hv3 := own_blkOf2 ho3; have hS5 : RgS (w.heap.size + 2) w3 w2.heap.size 29 #[.slice a2 (holdP P id).1.length c2] y5 := RgS.grown (by repeat (first | with_reducible assumption | with_reducible exact HS0.out | with_reducible refine RgS.drew ?_ | with_reducible refine RgS.alloc ?_ _)) hg5 hv3 (by omega); have hr5 : Blk y5 (w.heap.size + 2) 32 #[.slice none 0 0, .slice none 0 0] := (grown_blk hg5 (by first | exact hr3 | exact (hr3.alloc _)) (fun e => by have := hv3 _ e; omega)); have n0 := hr5.c0 0 _ rfl; have n1 := hr5.c0 1 _ rfl; have f0 := hr5.free 0; have f1 := hr5.free 1)
          | (refine step_ints1 rfl _ _ rfl w3.heap.size v3 ([] ++ R) rfl (by first | with_reducible exact ho3) (.slice (some ⟨w3.heap.size, 0, none⟩) 1 1) [id] rfl (by first | exact hL) (by simp only [List.nil_append, List.length_cons, List.length_nil]; have := HRL.out; omega) (by have := hS3.sz; first | exact this | (simp; omega)) ?_; intro v5 y5 ho5 hg5; obtain ⟨a5, c5, rfl⟩ := own_sl ho5; have hv3 := own_blkOf2 ho3; have hS5 : RgS (w.heap.size + 2) w3 w2.heap.size 29 #[.slice a2 (holdP P id).1.length c2] y5 := RgS.grown (by repeat (first | with_reducible assumption | with_reducible exact HS0.out | with_reducible refine RgS.drew ?_ | with_reducible refine RgS.alloc ?_ _)) hg5 hv3 (by omega); have hr5 : Blk y5 (w.heap.size + 2) 32 #[.slice none 0 0, .slice none 0 0] := (grown_blk hg5 (by first | exact hr3 | exact (hr3.alloc _)) (fun e => by have := hv3 _ e; omega)); have n0 := hr5.c0 0 _ rfl; have n1 := hr5.c0 1 _ rfl; have f0 := hr5.free 0; have f1 := hr5.free 1)
          | fail "no arm")
      all_goals
        rw [List.nil_append] at ho5
        have HO5 := Lib.hid ho5
        have HS5 := Lib.hid hS5
        have HR5 := Lib.hid hr5
        clear ho3 hg3 hS3 hr3 ho5 hg5 hS5 hr5
        go_wp2
        obtain ⟨z0, z1⟩ : _ ∧ _ := ⟨((HR5.out.setCell 0 (.slice a2 (holdP P id).1.length c2)).setCell 1 (.slice a5 (R.length + 1) c5)).c0 0 _ rfl, ((HR5.out.setCell 0 (.slice a2 (holdP P id).1.length c2)).setCell 1 (.slice a5 (R.length + 1) c5)).c0 1 _ rfl⟩
        refine bodyPost_ret (v := heldV (.slice a2 (holdP P id).1.length c2) (.slice a5 (R.length + 1) c5)) (by simp [results, Try.results33, go_sem, z0, z1]) rfl ?_
        rw [HST.out]
        have hbut : ButP (w.heap.size + 2) w2 y5 := (ButP.of HB3.out).trans HS5.out.but
        have hbut2 := (hbut.trans (ButP.setCell (w.heap.size + 2) 0 (.slice a2 (holdP P id).1.length c2) y5)).trans (ButP.setCell (w.heap.size + 2) 1 (.slice a5 (R.length + 1) c5) _)
        have hfar := HOUT.out.far (r := w.heap.size + 2) H.out (by omega) HLT.out
        have hB : Below w.heap.size w ((y5.setCell ⟨w.heap.size + 2, 0, none⟩ (.slice a2 (holdP P id).1.length c2)).setCell ⟨w.heap.size + 2, 1, none⟩ (.slice a5 (R.length + 1) c5)) := (HB1.out.trans (HB2.out.mono HB1.out.size)).trans (hbut2.below (B := w.heap.size) (by omega) (by omega))
        have hi := IsInts.owned HO5.out
        have hv5 := own_blkOf HO5.out
        have hn5 : blkOf (.slice a5 (R ++ [id]).length c5) ≠ some (w.heap.size + 2) := fun e => by have := hv5 _ e; omega
        rw [List.length_append] at hi hn5
        exact ⟨_, _, rfl, (HOUT.out.sl.but hbut2 hfar).slots hB, (hi.set _ 0 _ hn5).set _ 1 _ hn5, hB⟩
    · have HST : Hid (stepX P R ⟨y0, y1, y2, y3⟩ = ((rdropP P id).1, R.take r ++ R.drop (r + 1))) := Lib.hid (by
        unfold stepX
        rw [if_neg, if_neg]
        · show ((rdropP P (R.getD (y1 % R.length) 0)).1, R.take (y1 % R.length) ++ R.drop (y1 % R.length + 1)) = _
          rw [← HRR.out, HID.out]
        · show ¬ (y0 % 8 = 5); have := HM0.out; omega
        · show ¬ (y0 % 8 < 5 ∨ R.length = 0); have := HM0.out; omega)
      have hm5b : ((m0 : Int) == 5) = false := by simp; omega
      clear hr hm5 hadd
      go_wp2_with fail
      refine (HDROP.out _ HB1.out id).mono ?_
      rintro e w2 ⟨v2, rfl, hout⟩
      obtain ⟨a2, c2, rfl, -⟩ := (hout.sl.slots (HB1.out.trans (hout.bel.mono HB1.out.size))).slice
      generalize (rdropP P id).1 = P2 at *
      have HOUT := Lib.hid hout
      have HB2 := Lib.hid hout.bel
      have u2 : w2.cell? ⟨w.heap.size, 1, none⟩ = some (.slice (some ⟨b5, off5, none⟩) R.length uc) := (HH.out.below hout.bel HH.out.lt).c0 1 _ rfl
      have HRS := Lib.hid (HR.out.below hout.bel HR.out.lt)
      have HLT := Lib.hid HR.out.lt
      clear hout x0 x1 u0 p0 z0
      go_wp2_with fail
      obtain ⟨w3, hw3⟩ : ∃ w3, w3 = w2.alloc (.cells #[.slice a2 P2.length c2] 29) := ⟨_, rfl⟩
      have HB3 : Hid (Below w2.heap.size w2 w3) := Lib.hid (by rw [hw3]; exact keepP (Below.refl _ _) _)
      have HP3 : Hid (Blk w3 w2.heap.size 29 #[.slice a2 P2.length c2]) := Lib.hid (by rw [hw3]; exact Blk.new _ _ _)
      have HR3 : Hid (Blk w3 (w.heap.size + 2) 32 #[.slice none 0 0, .slice none 0 0]) := Lib.hid (HRS.out.below HB3.out HRS.out.lt)
      have HBw3 : Hid (Below W1.heap.size W1 w3) := Lib.hid (HB2.out.trans (HB3.out.mono HB2.out.size))
      have hs3 : w.heap.size + 2 < w2.heap.size := Nat.lt_of_lt_of_le HLT.out HB2.out.size
      have hs4 : w2.heap.size < w3.heap.size := HP3.out.lt
      rw [← hw3]
      clear hw3 u2
      have HS0 : Hid (RgS (w.heap.size + 2) w3 w2.heap.size 29 #[.slice a2 P2.length c2] w3) := Lib.hid (RgS.refl HP3.out)
      have pA : ∀ wx, RgS (w.heap.size + 2) w3 w2.heap.size 29 #[.slice a2 P2.length c2] wx → wx.cell? ⟨w2.heap.size, 0, none⟩ = some (.slice a2 P2.length c2) := fun wx hx => hx.blk.c0 0 _ rfl
      have uA : ∀ wx, RgS (w.heap.size + 2) w3 w2.heap.size 29 #[.slice a2 P2.length c2] wx → wx.cell? ⟨w.heap.size, 1, none⟩ = some (.slice (some ⟨b5, off5, none⟩) R.length uc) := fun wx hx => (hx.but.blk (HH.out.below HBw3.out HH.out.lt) (by omega)).c0 1 _ rfl
      obtain ⟨hsA, hiA⟩ := ints_to HU.out r (Nat.le_of_lt hrl2)
      obtain ⟨aB, cB, hsB0, hiB⟩ := ints_from HU.out (r + 1) hrl2
      have hsB : ∀ wx : World, (Instr.slice 30 (.slice (some ⟨b5, off5, none⟩) R.length uc) (some (.int .i64 ((r : Int) + 1))) none none).run Try.prog wx = .ok (.slice aB (R.drop (r + 1)).length cB) wx := hsB0
      have hrw1 : IntKind.i64.wrap ((r : Int) + 1) = (r : Int) + 1 := IntWalk.i64_in _ (by omega)
      have HLL : Hid ((R.take r).length + (R.drop (r + 1)).length ≤ 4000) := Lib.hid (by rw [List.length_take, List.length_drop]; omega)
      have HL1 : Hid ((R.take r).length = r) := Lib.hid (by rw [List.length_take]; omega)
      clear hsB0
      generalize R.take r = L1 at *
      generalize R.drop (r + 1) = L2 at *
      have HI1 : Hid (∀ wx, RgS (w.heap.size + 2) w3 w2.heap.size 29 #[.slice a2 P2.length c2] wx → IsInts wx (.slice (some ⟨b5, off5, none⟩) r uc) L1) := Lib.hid (fun wx hx => hiA.below ((HB1.out.trans (HBw3.out.mono HB1.out.size)).trans (hx.but.below (B := w.heap.size) (by omega) (by omega))))
      have HI2 : Hid (∀ wx, RgS (w.heap.size + 2) w3 w2.heap.size 29 #[.slice a2 P2.length c2] wx → IsInts wx (.slice aB L2.length cB) L2) := Lib.hid (fun wx hx => hiB.below ((HB1.out.trans (HBw3.out.mono HB1.out.size)).trans (hx.but.below (B := w.heap.size) (by omega) (by omega))))
      clear hiA hiB
      go_region_held3 (fun wx => RgS (w.heap.size + 2) w3 w2.heap.size 29 #[.slice a2 P2.length c2] wx)
        (repeat (first | with_reducible assumption | with_reducible exact HS0.out | with_reducible refine RgS.drew ?_ | with_reducible refine RgS.alloc ?_ _ | with_reducible refine RgS.set ?_ _ _ (by omega)))
        (first
          | (refine step_ints1 rfl _ _ rfl w3.heap.size (.slice (some ⟨w3.heap.size, 0, none⟩) 0 0) [] rfl (by first | exact own_emptyI w3 _ (Nat.le_refl _) | exact (own_emptyI w3 _ (Nat.le_refl _)).alloc _) (.slice (some ⟨b5, off5, none⟩) r uc) L1 rfl (HI1.out _ (by repeat (first | with_reducible assumption | with_reducible exact HS0.out | with_reducible refine RgS.drew ?_ | with_reducible refine RgS.alloc ?_ _))) (by simp only [List.length_nil]; have := HLL.out; omega) (by first | (simp; done) | (simp; omega)) ?_; intro v3 y3 ho3 hg3; have hS3 : RgS (w.heap.size + 2) w3 w2.heap.size 29 #[.slice a2 P2.length c2] y3 := RgS.grown (by repeat (first | with_reducible assumption | with_reducible exact HS0.out | with_reducible refine RgS.drew ?_ | with_reducible refine RgS.alloc ?_ _)) hg3 (fun c hc => by have hc : w3.heap.size = c := Option.some.inj hc; omega) (by omega); have hr3 : Blk y3 (w.heap.size + 2) 32 #[.slice none 0 0, .slice none 0 0] := (grown_blk hg3 (by first | exact (HR3.out.alloc _) | exact ((HR3.out.alloc _).alloc _)) (fun e' => by have e' : w3.heap.size = w.heap.size + 2 := Option.some.inj e'; omega)))
          | (refine step_ints1 rfl _ _ rfl w3.heap.size v3 ([] ++ L1) rfl (by first | with_reducible exact ho3 | with_reducible exact World.ownsRow.alloc ho3 _) (.slice aB L2.length cB) L2 rfl (HI2.out _ (by repeat (first | with_reducible assumption | with_reducible refine RgS.drew ?_ | with_reducible refine RgS.alloc ?_ _))) (by simp only [List.nil_append]; have := HLL.out; omega) (by have := hS3.sz; first | exact this | (simp; omega)) ?_; intro v5 y5 ho5 hg5; obtain ⟨a5, c5, rfl⟩ := own_sl ho5; have hv3 := own_blkOf2 ho3; have hS5 : RgS (w.heap.size + 2) w3 w2.heap.size 29 #[.slice a2 P2.length c2] y5 := RgS.grown (by repeat (first | with_reducible assumption | with_reducible refine RgS.drew ?_ | with_reducible refine RgS.alloc ?_ _)) hg5 hv3 (by omega); have hr5 : Blk y5 (w.heap.size + 2) 32 #[.slice none 0 0, .slice none 0 0] := (grown_blk hg5 (by first | exact hr3 | exact (hr3.alloc _)) (fun e => by have := hv3 _ e; omega)); have n0 := hr5.c0 0 _ rfl; have n1 := hr5.c0 1 _ rfl; have f0 := hr5.free 0; have f1 := hr5.free 1)
          | fail "no arm")
      all_goals
        rw [List.nil_append] at ho5
        have HO5 := Lib.hid ho5
        have HS5 := Lib.hid hS5
        have HR5 := Lib.hid hr5
        clear ho3 hg3 hS3 hr3 ho5 hg5 hS5 hr5
        go_wp2
        obtain ⟨z0, z1⟩ : _ ∧ _ := ⟨((HR5.out.setCell 0 (.slice a2 P2.length c2)).setCell 1 (.slice a5 (L1.length + L2.length) c5)).c0 0 _ rfl, ((HR5.out.setCell 0 (.slice a2 P2.length c2)).setCell 1 (.slice a5 (L1.length + L2.length) c5)).c0 1 _ rfl⟩
        refine bodyPost_ret (v := heldV (.slice a2 P2.length c2) (.slice a5 (L1.length + L2.length) c5)) (by simp [results, Try.results33, go_sem, z0, z1]) rfl ?_
        rw [HST.out]
        have hbut : ButP (w.heap.size + 2) w2 y5 := (ButP.of HB3.out).trans HS5.out.but
        have hbut2 := (hbut.trans (ButP.setCell (w.heap.size + 2) 0 (.slice a2 P2.length c2) y5)).trans (ButP.setCell (w.heap.size + 2) 1 (.slice a5 (L1.length + L2.length) c5) _)
        have hfar := HOUT.out.far (r := w.heap.size + 2) H.out (by omega) HLT.out
        have hB : Below w.heap.size w ((y5.setCell ⟨w.heap.size + 2, 0, none⟩ (.slice a2 P2.length c2)).setCell ⟨w.heap.size + 2, 1, none⟩ (.slice a5 (L1.length + L2.length) c5)) := (HB1.out.trans (HB2.out.mono HB1.out.size)).trans (hbut2.below (B := w.heap.size) (by omega) (by omega))
        have hi := IsInts.owned HO5.out
        have hv5 := own_blkOf HO5.out
        have hn5 : blkOf (.slice a5 (L1 ++ L2).length c5) ≠ some (w.heap.size + 2) := fun e => by have := hv5 _ e; omega
        rw [List.length_append] at hi hn5
        exact ⟨_, _, rfl, (HOUT.out.sl.but hbut2 hfar).slots hB, (hi.set _ 0 _ hn5).set _ 1 _ hn5, hB⟩

end Go.Proofs.Ytlgangcldlphnaa
