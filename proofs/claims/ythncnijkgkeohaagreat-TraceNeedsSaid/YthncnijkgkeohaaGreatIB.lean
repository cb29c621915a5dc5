/-
  Walks: the fixed examples of package trace.
-/
import Derived.Test.YthncnijkgkeohaaGreatIA
namespace Go.Proofs.YthncnijkgkeohaaGreat
open Go.RowKit Go.Sort
set_option linter.unusedVariables false

def mM1 : Ms := ⟨1, [97, 47, 120], [49], [], [], [], [], 2⟩
def mM2 : Ms := ⟨4, [], [], [], [], [97, 47], [98, 47], 0⟩
def mM3 : Ms := ⟨6, [], [], [98, 47], [98, 48], [], [], 9⟩
def lMo : List Mo := [⟨mM1, by unfold Ok SizeM; decide⟩, ⟨mM2, by unfold Ok SizeM; decide⟩, ⟨mM3, by unfold Ok SizeM; decide⟩]
theorem ex_a : keyF [98, 47, 120] [mM1, mM2, mM3] = ⟨true, true, ([98, 47, 120], [49], 9), [], false, 0⟩ := by rfl
theorem ex_b : keyF [98, 47, 121] [mM1, mM2, mM3] = ⟨false, false, ([98, 47, 121], [], 0), [97, 47, 121], true, 9⟩ := by rfl
theorem ex_c : keyF [97, 47, 120] [mM1, mM2, mM3] = ⟨true, false, ([], [], 0), [], false, 0⟩ := by rfl
theorem ex_d : keyF [99] [mM1, mM2, mM3] = ⟨false, false, ([99], [], 0), [99], false, 0⟩ := by rfl
theorem ex_s : spansF ([98, 47], [98, 48]) [mM1, mM2, mM3] = [([97, 47], [97, 47, 120]), ([97, 47, 120, 0], [97, 48])] := by decide +kernel

theorem new_l3 {n : Nat} (W : World) (hn : n = W.heap.size) : IsMsgs (W.alloc (.cells #[.int .i64 1, .string ⟨#[97, 47, 120]⟩, .string ⟨#[49]⟩, .string ⟨#[]⟩, .string ⟨#[]⟩, .string ⟨#[]⟩, .string ⟨#[]⟩, .int .i64 2, .int .i64 4, .string ⟨#[]⟩, .string ⟨#[]⟩, .string ⟨#[]⟩, .string ⟨#[]⟩, .string ⟨#[97, 47]⟩, .string ⟨#[98, 47]⟩, .int .i64 0, .int .i64 6, .string ⟨#[]⟩, .string ⟨#[]⟩, .string ⟨#[98, 47]⟩, .string ⟨#[98, 48]⟩, .string ⟨#[]⟩, .string ⟨#[]⟩, .int .i64 9] 63)) (.slice (some ⟨n, 0, none⟩) 3 3) [mM1, mM2, mM3] := by
  subst hn
  refine ⟨_, 3, rfl, Nat.le_refl _, by unfold maxLen; omega, fun _ => ⟨_, 0, rfl, by simp, fun i hi => ?_⟩⟩
  unfold MAt
  match i, hi with
  | 0, _ => simp [World.cell?_alloc_new, mM1, mM2, mM3, Str]
  | 1, _ => simp [World.cell?_alloc_new, mM1, mM2, mM3, Str]
  | 2, _ => simp [World.cell?_alloc_new, mM1, mM2, mM3, Str]
@[reducible] def fV (a b : Bool) (s t : ByteArray) (n : Int) (u : ByteArray) (c : Bool) (m : Int) : Value := .agg #[.bool a, .bool b, .string s, .string t, .int .i64 n, .string u, .bool c, .int .i64 m]
@[reducible] def fA (a b : Bool) (s t : ByteArray) (n : Int) (u : ByteArray) (c : Bool) (m : Int) : Array Value := #[.bool a, .bool b, .string s, .string t, .int .i64 n, .string u, .bool c, .int .i64 m]
theorem sk_a (v : Value) (w : World) (h : IsMsgs w v [mM1, mM2, mM3]) : Calls Tryz.prog 17 #[.string ⟨#[98, 47, 120]⟩, v] w fun e w' => e = .returned (fV true true ⟨#[98, 47, 120]⟩ ⟨#[49]⟩ 9 ⟨#[]⟩ false 0) ∧ Below w.heap.size w w' :=
  (tkey_w [98, 47, 120] v lMo w h (by decide) (by decide)).mono fun e w' ⟨h1, h2⟩ => ⟨h1.trans (by rw [show lMo.map (·.1) = [mM1, mM2, mM3] from rfl, ex_a]; rfl), h2⟩
theorem sk_b (v : Value) (w : World) (h : IsMsgs w v [mM1, mM2, mM3]) : Calls Tryz.prog 17 #[.string ⟨#[98, 47, 121]⟩, v] w fun e w' => e = .returned (fV false false ⟨#[98, 47, 121]⟩ ⟨#[]⟩ 0 ⟨#[97, 47, 121]⟩ true 9) ∧ Below w.heap.size w w' :=
  (tkey_w [98, 47, 121] v lMo w h (by decide) (by decide)).mono fun e w' ⟨h1, h2⟩ => ⟨h1.trans (by rw [show lMo.map (·.1) = [mM1, mM2, mM3] from rfl, ex_b]; rfl), h2⟩
theorem sk_c (v : Value) (w : World) (h : IsMsgs w v [mM1, mM2, mM3]) : Calls Tryz.prog 17 #[.string ⟨#[97, 47, 120]⟩, v] w fun e w' => e = .returned (fV true false ⟨#[]⟩ ⟨#[]⟩ 0 ⟨#[]⟩ false 0) ∧ Below w.heap.size w w' :=
  (tkey_w [97, 47, 120] v lMo w h (by decide) (by decide)).mono fun e w' ⟨h1, h2⟩ => ⟨h1.trans (by rw [show lMo.map (·.1) = [mM1, mM2, mM3] from rfl, ex_c]; rfl), h2⟩
theorem sk_d (v : Value) (w : World) (h : IsMsgs w v [mM1, mM2, mM3]) : Calls Tryz.prog 17 #[.string ⟨#[99]⟩, v] w fun e w' => e = .returned (fV false false ⟨#[99]⟩ ⟨#[]⟩ 0 ⟨#[99]⟩ false 0) ∧ Below w.heap.size w w' :=
  (tkey_w [99] v lMo w h (by decide) (by decide)).mono fun e w' ⟨h1, h2⟩ => ⟨h1.trans (by rw [show lMo.map (·.1) = [mM1, mM2, mM3] from rfl, ex_d]; rfl), h2⟩
theorem sk_s (v : Value) (w : World) (h : IsMsgs w v [mM1, mM2, mM3]) : Calls Tryz.prog 19 #[.agg #[.string ⟨#[98, 47]⟩, .string ⟨#[98, 48]⟩], v] w fun e w' => ∃ p c, e = .returned (.slice p 2 c) ∧ IsSpans w' (.slice p 2 c) [([97, 47], [97, 47, 120]), ([97, 47, 120, 0], [97, 48])] ∧ Below w.heap.size w w' :=
  (tspans_w ([98, 47], [98, 48]) v lMo w h (by decide) (by decide) (by decide)).mono fun e w' ⟨v', h1, h2, h3⟩ => by
    rw [show lMo.map (·.1) = [mM1, mM2, mM3] from rfl, ex_s] at h2
    have h4 := IsSpans.owned h2
    obtain ⟨p, c, rfl, -⟩ := id h4
    exact ⟨p, c, h1, h4, h3⟩
theorem sk_v (w : World) : Calls Tryz.prog 15 #[fV false false ⟨#[98, 47, 121]⟩ ⟨#[]⟩ 0 ⟨#[97, 47, 121]⟩ true 9, .agg #[.string ⟨#[97, 47, 121]⟩, .string ⟨#[118]⟩, .int .i64 1], .bool true] w fun e w' => e = .returned (.tuple #[.agg #[.string ⟨#[98, 47, 121]⟩, .string ⟨#[118]⟩, .int .i64 9], .bool true]) ∧ Grown w w' :=
  tvalue_w ⟨false, false, ([98, 47, 121], [], 0), [97, 47, 121], true, 9⟩ ([97, 47, 121], [118], 1) true w
theorem sk_n (w : World) : Calls Tryz.prog 15 #[fV false false ⟨#[98, 47, 121]⟩ ⟨#[]⟩ 0 ⟨#[97, 47, 121]⟩ true 9, .agg #[.string ⟨#[]⟩, .string ⟨#[]⟩, .int .i64 0], .bool false] w fun e w' => e = .returned (.tuple #[.agg #[.string ⟨#[]⟩, .string ⟨#[]⟩, .int .i64 0], .bool false]) ∧ Grown w w' :=
  tvalue_w ⟨false, false, ([98, 47, 121], [], 0), [97, 47, 121], true, 9⟩ ([], [], 0) false w

theorem new_sp2 {n : Nat} (W : World) (hn : n = W.heap.size) : IsSpans (W.alloc (.cells #[.string ⟨#[97, 47]⟩, .string ⟨#[97, 47, 120]⟩, .string ⟨#[97, 47, 120, 0]⟩, .string ⟨#[97, 48]⟩] 29)) (.slice (some ⟨n, 0, none⟩) 2 2) [([97, 47], [97, 47, 120]), ([97, 47, 120, 0], [97, 48])] := by
  subst hn
  refine ⟨_, 2, rfl, Nat.le_refl _, by unfold maxLen; omega, fun _ => ⟨_, 0, rfl, by simp, fun i hi => ?_⟩⟩
  match i, hi with
  | 0, _ => simp [World.cell?_alloc_new, Str]
  | 1, _ => simp [World.cell?_alloc_new, Str]
set_option maxRecDepth 100000 in
set_option maxHeartbeats 4000000 in
theorem sanity_w (w : World) : Calls Tryz.prog 9 #[] w fun e w' => e = .returned (.bool true) ∧ Below w.heap.size w w' := by
  go_enter Tryz.func9, Tryz.ntmps9
  go_wp2_with fail
  have hm0 := new_l3 w rfl
  have hb0 : Below w.heap.size w (w.alloc (.cells #[.int .i64 1, .string ⟨#[97, 47, 120]⟩, .string ⟨#[49]⟩, .string ⟨#[]⟩, .string ⟨#[]⟩, .string ⟨#[]⟩, .string ⟨#[]⟩, .int .i64 2, .int .i64 4, .string ⟨#[]⟩, .string ⟨#[]⟩, .string ⟨#[]⟩, .string ⟨#[]⟩, .string ⟨#[97, 47]⟩, .string ⟨#[98, 47]⟩, .int .i64 0, .int .i64 6, .string ⟨#[]⟩, .string ⟨#[]⟩, .string ⟨#[98, 47]⟩, .string ⟨#[98, 48]⟩, .string ⟨#[]⟩, .string ⟨#[]⟩, .int .i64 9] 63)) := below_box _
  generalize w.alloc (.cells #[.int .i64 1, .string ⟨#[97, 47, 120]⟩, .string ⟨#[49]⟩, .string ⟨#[]⟩, .string ⟨#[]⟩, .string ⟨#[]⟩, .string ⟨#[]⟩, .int .i64 2, .int .i64 4, .string ⟨#[]⟩, .string ⟨#[]⟩, .string ⟨#[]⟩, .string ⟨#[]⟩, .string ⟨#[97, 47]⟩, .string ⟨#[98, 47]⟩, .int .i64 0, .int .i64 6, .string ⟨#[]⟩, .string ⟨#[]⟩, .string ⟨#[98, 47]⟩, .string ⟨#[98, 48]⟩, .string ⟨#[]⟩, .string ⟨#[]⟩, .int .i64 9] 63) = w0 at *
  refine (sk_a _ w0 hm0).mono ?_
  rintro e w1 ⟨rfl, hb1⟩
  have hm1 := hm0.below hb1
  have hc1 := hb0.trans (hb1.mono hb0.size)
  clear hm0 hb0 hb1
  go_wp2_with fail
  refine (sk_b _ w1 hm1).mono ?_
  rintro e w2 ⟨rfl, hb2⟩
  have hm2 := hm1.below hb2
  have hc2 := hc1.trans (hb2.mono hc1.size)
  clear hm1 hc1 hb2
  go_wp2_with fail
  have hsz2 := hc2.size
  have hA : Blk ((w2.alloc (.cells (fA true true ⟨#[98, 47, 120]⟩ ⟨#[49]⟩ 9 ⟨#[]⟩ false 0) 35)).alloc (.cells (fA false false ⟨#[98, 47, 121]⟩ ⟨#[]⟩ 0 ⟨#[97, 47, 121]⟩ true 9) 35)) w2.heap.size 35 (fA true true ⟨#[98, 47, 120]⟩ ⟨#[49]⟩ 9 ⟨#[]⟩ false 0) := (Blk.new _ _ _).alloc _
  have hB : Blk ((w2.alloc (.cells (fA true true ⟨#[98, 47, 120]⟩ ⟨#[49]⟩ 9 ⟨#[]⟩ false 0) 35)).alloc (.cells (fA false false ⟨#[98, 47, 121]⟩ ⟨#[]⟩ 0 ⟨#[97, 47, 121]⟩ true 9) 35)) (w2.heap.size + 1) 35 (fA false false ⟨#[98, 47, 121]⟩ ⟨#[]⟩ 0 ⟨#[97, 47, 121]⟩ true 9) := Blk.new' _ _ _ (by simp)
  have hm2' := (hm2.below (below_box (.cells (fA true true ⟨#[98, 47, 120]⟩ ⟨#[49]⟩ 9 ⟨#[]⟩ false 0) 35))).below (below_box (.cells (fA false false ⟨#[98, 47, 121]⟩ ⟨#[]⟩ 0 ⟨#[97, 47, 121]⟩ true 9) 35))
  have hc2' := hc2.trans ((below_box (.cells (fA true true ⟨#[98, 47, 120]⟩ ⟨#[49]⟩ 9 ⟨#[]⟩ false 0) 35)).trans ((below_box (.cells (fA false false ⟨#[98, 47, 121]⟩ ⟨#[]⟩ 0 ⟨#[97, 47, 121]⟩ true 9) 35)).mono (by simp)) |>.mono hsz2)
  clear hm2 hc2
  generalize (w2.alloc (.cells (fA true true ⟨#[98, 47, 120]⟩ ⟨#[49]⟩ 9 ⟨#[]⟩ false 0) 35)).alloc (.cells (fA false false ⟨#[98, 47, 121]⟩ ⟨#[]⟩ 0 ⟨#[97, 47, 121]⟩ true 9) 35) = x2 at *
  generalize w2.heap.size = ba at *
  refine (sk_c _ x2 hm2').mono ?_
  rintro e w3 ⟨rfl, hb3⟩
  have hm3 := hm2'.below hb3
  have hc3 := hc2'.trans (hb3.mono hc2'.size)
  have hA3 := hA.below hb3 hA.lt
  have hB3 := hB.below hb3 hB.lt
  clear hA hB hm2' hc2' hb3
  go_wp2_with fail
  refine (sk_d _ w3 hm3).mono ?_
  rintro e w4 ⟨rfl, hb4⟩
  have hm4 := hm3.below hb4
  have hc4 := hc3.trans (hb4.mono hc3.size)
  have hA4 := hA3.below hb4 hA3.lt
  have hB4 := hB3.below hb4 hB3.lt
  clear hA3 hB3 hm3 hc3 hb4
  go_wp2_with fail
  have hC : Blk ((w4.alloc (.cells (fA true false ⟨#[]⟩ ⟨#[]⟩ 0 ⟨#[]⟩ false 0) 35)).alloc (.cells (fA false false ⟨#[99]⟩ ⟨#[]⟩ 0 ⟨#[99]⟩ false 0) 35)) w4.heap.size 35 (fA true false ⟨#[]⟩ ⟨#[]⟩ 0 ⟨#[]⟩ false 0) := (Blk.new _ _ _).alloc _
  have hD : Blk ((w4.alloc (.cells (fA true false ⟨#[]⟩ ⟨#[]⟩ 0 ⟨#[]⟩ false 0) 35)).alloc (.cells (fA false false ⟨#[99]⟩ ⟨#[]⟩ 0 ⟨#[99]⟩ false 0) 35)) (w4.heap.size + 1) 35 (fA false false ⟨#[99]⟩ ⟨#[]⟩ 0 ⟨#[99]⟩ false 0) := Blk.new' _ _ _ (by simp)
  have hm4' := (hm4.below (below_box (.cells (fA true false ⟨#[]⟩ ⟨#[]⟩ 0 ⟨#[]⟩ false 0) 35))).below (below_box (.cells (fA false false ⟨#[99]⟩ ⟨#[]⟩ 0 ⟨#[99]⟩ false 0) 35))
  have hc4' := hc4.trans ((below_box (.cells (fA true false ⟨#[]⟩ ⟨#[]⟩ 0 ⟨#[]⟩ false 0) 35)).trans ((below_box (.cells (fA false false ⟨#[99]⟩ ⟨#[]⟩ 0 ⟨#[99]⟩ false 0) 35)).mono (by simp)) |>.mono hc4.size)
  have hA5 : Blk ((w4.alloc (.cells (fA true false ⟨#[]⟩ ⟨#[]⟩ 0 ⟨#[]⟩ false 0) 35)).alloc (.cells (fA false false ⟨#[99]⟩ ⟨#[]⟩ 0 ⟨#[99]⟩ false 0) 35)) ba 35 (fA true true ⟨#[98, 47, 120]⟩ ⟨#[49]⟩ 9 ⟨#[]⟩ false 0) := (hA4.alloc _).alloc _
  have hB5 : Blk ((w4.alloc (.cells (fA true false ⟨#[]⟩ ⟨#[]⟩ 0 ⟨#[]⟩ false 0) 35)).alloc (.cells (fA false false ⟨#[99]⟩ ⟨#[]⟩ 0 ⟨#[99]⟩ false 0) 35)) (ba + 1) 35 (fA false false ⟨#[98, 47, 121]⟩ ⟨#[]⟩ 0 ⟨#[97, 47, 121]⟩ true 9) := (hB4.alloc _).alloc _
  clear hm4 hc4 hA4 hB4
  generalize (w4.alloc (.cells (fA true false ⟨#[]⟩ ⟨#[]⟩ 0 ⟨#[]⟩ false 0) 35)).alloc (.cells (fA false false ⟨#[99]⟩ ⟨#[]⟩ 0 ⟨#[99]⟩ false 0) 35) = x4 at *
  generalize w4.heap.size = bc at *
  refine (sk_s _ x4 hm4').mono ?_
  rintro e w5 ⟨ps, cs, rfl, hs5, hb5⟩
  have hc5 := hc4'.trans (hb5.mono hc4'.size)
  have hA6 := hA5.below hb5 hA5.lt
  have hB6 := hB5.below hb5 hB5.lt
  have hC6 := hC.below hb5 hC.lt
  have hD6 := hD.below hb5 hD.lt
  clear hA5 hB5 hC hD hm4' hc4' hb5
  obtain ⟨b0, b1, b2, b3, b4, b5, b6, b7⟩ := hB6.eightC
  go_wp2_with fail
  refine (sk_v w5).mono ?_
  rintro e w6 ⟨rfl, hg6⟩
  have hs6 := hs5.below (hg6.below (Nat.le_refl _))
  have hc6 := hc5.trans (hg6.below hc5.size)
  have hA7 := hg6.blk hA6
  have hB7 := hg6.blk hB6
  have hC7 := hg6.blk hC6
  have hD7 := hg6.blk hD6
  clear hA6 hB6 hC6 hD6 hg6 hs5 hc5 b0 b1 b2 b3 b4 b5 b6 b7
  obtain ⟨b0, b1, b2, b3, b4, b5, b6, b7⟩ := hB7.eightC
  have hbl := hB7.lt
  go_wp2_with fail
  have hP : Blk (w6.alloc (.cells #[.string ⟨#[98, 47, 121]⟩, .string ⟨#[118]⟩, .int .i64 9] 33)) w6.heap.size 33 #[.string ⟨#[98, 47, 121]⟩, .string ⟨#[118]⟩, .int .i64 9] := Blk.new _ _ _
  have hs6' := hs6.below (below_box (.cells #[.string ⟨#[98, 47, 121]⟩, .string ⟨#[118]⟩, .int .i64 9] 33))
  have hc6' := hc6.trans ((below_box (.cells #[.string ⟨#[98, 47, 121]⟩, .string ⟨#[118]⟩, .int .i64 9] 33)).mono hc6.size)
  have hA8 := hA7.alloc (.cells #[.string ⟨#[98, 47, 121]⟩, .string ⟨#[118]⟩, .int .i64 9] 33)
  have hB8 := hB7.alloc (.cells #[.string ⟨#[98, 47, 121]⟩, .string ⟨#[118]⟩, .int .i64 9] 33)
  have hC8 := hC7.alloc (.cells #[.string ⟨#[98, 47, 121]⟩, .string ⟨#[118]⟩, .int .i64 9] 33)
  have hD8 := hD7.alloc (.cells #[.string ⟨#[98, 47, 121]⟩, .string ⟨#[118]⟩, .int .i64 9] 33)
  clear hA7 hB7 hC7 hD7 hs6 hc6 hbl b0 b1 b2 b3 b4 b5 b6 b7
  generalize w6.alloc (.cells #[.string ⟨#[98, 47, 121]⟩, .string ⟨#[118]⟩, .int .i64 9] 33) = x6 at *
  generalize w6.heap.size = bp at *
  refine (sk_n x6).mono ?_
  rintro e w7 ⟨rfl, hg7⟩
  have hs7 := hs6'.below (hg7.below (Nat.le_refl _))
  have hc7 := hc6'.trans (hg7.below hc6'.size)
  have hA9 := hg7.blk hA8
  have hB9 := hg7.blk hB8
  have hC9 := hg7.blk hC8
  have hD9 := hg7.blk hD8
  have hP9 := hg7.blk hP
  clear hA8 hB8 hC8 hD8 hP hg7 hs6' hc6'
  obtain ⟨a0, a1, a2, a3, a4, a5, a6, a7⟩ := hA9.eightC
  obtain ⟨b0, b1, b2, b3, b4, b5, b6, b7⟩ := hB9.eightC
  obtain ⟨c0, c1, c2, c3, c4, c5, c6, c7⟩ := hC9.eightC
  obtain ⟨d0, d1, d2, d3, d4, d5, d6, d7⟩ := hD9.eightC
  have hqa : ∀ w, (binOp .eql 35 (fV true true ⟨#[98, 47, 120]⟩ ⟨#[49]⟩ 9 ⟨#[]⟩ false 0) (fV true true ⟨#[98, 47, 120]⟩ ⟨#[49]⟩ 9 ⟨#[]⟩ false 0)).run Tryz.prog w = .ok (.bool true) w := fun _ => by kernel_rfl
  have hqb : ∀ w, (binOp .eql 35 (fV false false ⟨#[98, 47, 121]⟩ ⟨#[]⟩ 0 ⟨#[97, 47, 121]⟩ true 9) (fV false false ⟨#[98, 47, 121]⟩ ⟨#[]⟩ 0 ⟨#[97, 47, 121]⟩ true 9)).run Tryz.prog w = .ok (.bool true) w := fun _ => by kernel_rfl
  have hqc : ∀ w, (binOp .eql 35 (fV true false ⟨#[]⟩ ⟨#[]⟩ 0 ⟨#[]⟩ false 0) (fV true false ⟨#[]⟩ ⟨#[]⟩ 0 ⟨#[]⟩ false 0)).run Tryz.prog w = .ok (.bool true) w := fun _ => by kernel_rfl
  have hqd : ∀ w, (binOp .eql 35 (fV false false ⟨#[99]⟩ ⟨#[]⟩ 0 ⟨#[99]⟩ false 0) (fV false false ⟨#[99]⟩ ⟨#[]⟩ 0 ⟨#[99]⟩ false 0)).run Tryz.prog w = .ok (.bool true) w := fun _ => by kernel_rfl
  have la := hA9.lt
  have lb := hB9.lt
  have lc := hC9.lt
  have ld := hD9.lt
  have lp := hP9.lt
  obtain ⟨p0, p1, p2, -⟩ := hP9.three
  go_wp2_with fail
  have hP10 : Blk ((w7.alloc (.cells #[.string ⟨#[]⟩, .string ⟨#[]⟩, .int .i64 0] 33)).alloc (.cells #[.string ⟨#[97, 47]⟩, .string ⟨#[97, 47, 120]⟩, .string ⟨#[97, 47, 120, 0]⟩, .string ⟨#[97, 48]⟩] 29)) bp 33 #[.string ⟨#[98, 47, 121]⟩, .string ⟨#[118]⟩, .int .i64 9] := (hP9.alloc _).alloc _
  have hs8 : IsSpans ((w7.alloc (.cells #[.string ⟨#[]⟩, .string ⟨#[]⟩, .int .i64 0] 33)).alloc (.cells #[.string ⟨#[97, 47]⟩, .string ⟨#[97, 47, 120]⟩, .string ⟨#[97, 47, 120, 0]⟩, .string ⟨#[97, 48]⟩] 29)) (.slice ps 2 cs) [([97, 47], [97, 47, 120]), ([97, 47, 120, 0], [97, 48])] := (hs7.below (below_box _)).below (below_box _)
  have ht8 : IsSpans ((w7.alloc (.cells #[.string ⟨#[]⟩, .string ⟨#[]⟩, .int .i64 0] 33)).alloc (.cells #[.string ⟨#[97, 47]⟩, .string ⟨#[97, 47, 120]⟩, .string ⟨#[97, 47, 120, 0]⟩, .string ⟨#[97, 48]⟩] 29)) (.slice (some ⟨w7.heap.size + 1, 0, none⟩) 2 2) [([97, 47], [97, 47, 120]), ([97, 47, 120, 0], [97, 48])] := new_sp2 (w7.alloc (.cells #[.string ⟨#[]⟩, .string ⟨#[]⟩, .int .i64 0] 33)) (by simp)
  have hc8 : Below w.heap.size w ((w7.alloc (.cells #[.string ⟨#[]⟩, .string ⟨#[]⟩, .int .i64 0] 33)).alloc (.cells #[.string ⟨#[97, 47]⟩, .string ⟨#[97, 47, 120]⟩, .string ⟨#[97, 47, 120, 0]⟩, .string ⟨#[97, 48]⟩] 29)) := hc7.trans ((below_box (.cells #[.string ⟨#[]⟩, .string ⟨#[]⟩, .int .i64 0] 33)).trans ((below_box (.cells #[.string ⟨#[97, 47]⟩, .string ⟨#[97, 47, 120]⟩, .string ⟨#[97, 47, 120, 0]⟩, .string ⟨#[97, 48]⟩] 29)).mono (by simp)) |>.mono hc7.size)
  clear hA9 hB9 hC9 hD9 hP9 hs7 hc7 a0 a1 a2 a3 a4 a5 a6 a7 b0 b1 b2 b3 b4 b5 b6 b7 c0 c1 c2 c3 c4 c5 c6 c7 d0 d1 d2 d3 d4 d5 d6 d7 p0 p1 p2 hqa hqb hqc hqd
  generalize (w7.alloc (.cells #[.string ⟨#[]⟩, .string ⟨#[]⟩, .int .i64 0] 33)).alloc (.cells #[.string ⟨#[97, 47]⟩, .string ⟨#[97, 47, 120]⟩, .string ⟨#[97, 47, 120, 0]⟩, .string ⟨#[97, 48]⟩] 29) = x8 at *
  refine (spsame_w _ _ _ _ x8 hs8 ht8).mono ?_
  rintro e w9 ⟨rfl, hg9⟩
  have hP11 := hg9.blk hP10
  have hc9 := Lib.hid (hc8.trans (hg9.below hc8.size))
  obtain ⟨p0, p1, p2, -⟩ := hP11.three
  clear hP10 hs8 ht8 hc8 hg9 hP11 la lb lc ld lp
  have hqp : ∀ w, (binOp .eql 33 (.agg #[.string ⟨#[98, 47, 121]⟩, .string ⟨#[118]⟩, .int .i64 9]) (.agg #[.string ⟨#[98, 47, 121]⟩, .string ⟨#[118]⟩, .int .i64 9])).run Tryz.prog w = .ok (.bool true) w := fun _ => by kernel_rfl
  rw [decide_eq_true rfl]
  go_wp2_with fail
  go_ret
  exact ⟨rfl, hc9.out⟩

end Go.Proofs.YthncnijkgkeohaaGreat
