/-
  Walks: the places that the reference makes.
-/
import Derived.Test.YticlomakmcjcfaaWB
import Derived.Deep.RegionWith
import Derived.Deep.RegionHeld3
import Derived.Deep.DeepCutAuto
namespace Go.Proofs.Yticlomakmcjcfaa
open Go.RowKit
set_option linter.unusedVariables false

/-- What the world holds while a place is made. -/
structure MP (w : World) (raw : Array Value) (o : Nat) (cs : Array Value) (wx : World) : Prop where
  raw : Blk wx w.heap.size 44 raw
  res : Blk wx (w.heap.size + 1) 32 #[.string (Str []), .int .i64 0, .int .i64 0, .string (Str [])]
  out : Blk wx o 32 cs
  bel : Below w.heap.size w wx
  ho : w.heap.size + 2 ≤ o
theorem MP.below {w wx w1 : World} {raw : Array Value} {o : Nat} {cs : Array Value} (h : MP w raw o cs wx) (k : Below wx.heap.size wx w1) : MP w raw o cs w1 :=
  ⟨h.raw.below k h.raw.lt, h.res.below k h.res.lt, h.out.below k h.out.lt, Below.next h.bel (Nat.le_refl _) k, h.ho⟩
theorem MP.set {w wx : World} {raw : Array Value} {o : Nat} {cs : Array Value} (h : MP w raw o cs wx) (i : Nat) (v : Value) : MP w raw o (cs.setIfInBounds i v) (wx.setCell ⟨o, i, none⟩ v) :=
  ⟨h.raw.setCell_other (by have := h.ho; omega) _ _, h.res.setCell_other (by have := h.ho; omega) _ _, h.out.setCell _ _, h.bel.setCell (by have := h.ho; show _ ≤ o; omega) _, h.ho⟩
def MPCut (w : World) (raw cs : Array Value) (s : Value) (wx : World) : Prop := ∃ o, s = .pointer (some ⟨o, 0, none⟩) ∧ MP w raw o cs wx

set_option maxRecDepth 100000 in
set_option maxHeartbeats 4000000 in
theorem madePlace_w (v : Value) (l : Bs) (t n : Nat) (w : World) (hv : IsBytes w v l) (ht : t < 256) (hn : n < 65536) :
    Calls Try.prog 30 #[.agg #[v, .int .u8 t, .int .u16 n]] w fun e w' => e = .returned (placeV (rawPath l t n) (1 + ((t % 4 : Nat) : Int)) (rawN t n) (rawM t n)) ∧ Below w.heap.size w w' := by
  have hm := fun wx (h : Below w.heap.size w wx) => made_w v l wx (hv.below h)
  have Hm := Lib.hid hm
  have hsh : ∃ a c, v = .slice a l.length c := by obtain ⟨a, c, h, _⟩ := hv; exact ⟨a, c, h⟩
  clear hm hv
  obtain ⟨a, c, rfl⟩ := hsh
  have HA : Hid (Blk (w.alloc (.cells #[.slice a l.length c, .int .u8 t, .int .u16 n] 44)) w.heap.size 44 #[.slice a l.length c, .int .u8 t, .int .u16 n]) := Lib.hid (Blk.new _ _ _)
  have HB : Hid (Blk ((w.alloc (.cells #[.slice a l.length c, .int .u8 t, .int .u16 n] 44)).alloc (.cells #[.string (Str []), .int .i64 0, .int .i64 0, .string (Str [])] 32)) (w.heap.size + 1) 32 #[.string (Str []), .int .i64 0, .int .i64 0, .string (Str [])]) := Lib.hid (Blk.new' _ _ _ (by simp))
  have HC : Hid (Blk (((w.alloc (.cells #[.slice a l.length c, .int .u8 t, .int .u16 n] 44)).alloc (.cells #[.string (Str []), .int .i64 0, .int .i64 0, .string (Str [])] 32)).alloc (.cells #[.string (Str []), .int .i64 0, .int .i64 0, .string (Str [])] 32)) (w.heap.size + 2) 32 #[.string (Str []), .int .i64 0, .int .i64 0, .string (Str [])]) := Lib.hid (Blk.new' _ _ _ (by simp))
  have HW : Hid (Below w.heap.size w ((w.alloc (.cells #[.slice a l.length c, .int .u8 t, .int .u16 n] 44)).alloc (.cells #[.string (Str []), .int .i64 0, .int .i64 0, .string (Str [])] 32))) := Lib.hid (((Below.refl _ _).alloc (Nat.le_refl _) _).alloc (by simp) _)
  obtain ⟨q, hq⟩ : ∃ q, q = t % 4 := ⟨_, rfl⟩
  have hq4 : q < 4 := by omega
  have e1 : (t : Int).tmod 4 = (q : Int) := by rw [hq, Int.tmod_eq_emod_of_nonneg (by omega)]; omega
  have e2 : IntKind.i64.wrap (q : Int) = q := by rw [IntKind.wrap_i64]; omega
  have e3 : IntKind.i64.wrap (1 + (q : Int)) = 1 + (q : Int) := by rw [IntKind.wrap_i64]; omega
  have Hq := Lib.hid hq
  rw [← hq]
  clear hq
  go_enter Try.func30, Try.ntmps30
  go_upto_region 1 with fail
  go_cut [3] (fun s3 wx => MPCut w #[.slice a l.length c, .int .u8 t, .int .u16 n] #[.string (Str (madeS l)), .int .i64 (1 + q), .int .i64 0, .string (Str [])] s3 wx)
  case first =>
    go_region_held3 (fun wr => wr.cell? ⟨w.heap.size, 0, none⟩ = some (.slice a l.length c) ∧ wr.cell? ⟨w.heap.size, 1, none⟩ = some (.int .u8 t)) (first | go_keep | (refine ⟨?_, ?_⟩ <;> (repeat rw [World.cell?_setCell_far _ _ _ _ (by simp; try omega)]) <;> simp [*]))
      (first | (go_at_call 15; refine (Hm.out _ (by repeat (first | exact Below.refl _ _ | apply Below.drew | refine Below.alloc ?_ (by simp; try omega) _))).mono ?_; rintro e w1 ⟨rfl, hb⟩; have bA : Blk w1 w.heap.size 44 #[.slice a l.length c, .int .u8 t, .int .u16 n] := Blk.below (by first | exact HA.out.alloc _ | exact (HA.out.alloc _).alloc _) hb (by simp; try omega); have hz1 : w.heap.size + 2 ≤ w1.heap.size := (by have hsz := hb.size; simp only [World.size_drew, World.size_alloc] at hsz; omega); have c0 := bA.cell 0; have c1 := bA.cell 1; have bB : Blk w1 (w.heap.size + 1) 32 #[.string (Str []), .int .i64 0, .int .i64 0, .string (Str [])] := Blk.below (by first | exact HB.out | exact HB.out.alloc _) hb (by simp; try omega); have bW : Below w.heap.size w w1 := Below.next (by first | exact HW.out.drew | exact (HW.out.alloc HW.out.size _).drew) (Nat.le_refl _) hb; have HbB := Lib.hid bB; have HbW := Lib.hid bW; have Hbb := Lib.hid hb; have HbA := Lib.hid bA; clear bB bW; simp at c0 c1; (try (have bC : Blk w1 (w.heap.size + 2) 32 #[.string (Str []), .int .i64 0, .int .i64 0, .string (Str [])] := Blk.below (by exact HC.out) hb (by simp; try omega); have d0 := bC.cell 0; have d1 := bC.cell 1; have d2 := bC.cell 2; have d3 := bC.cell 3; have g0 := bC.free 0; have g1 := bC.free 1; have g2 := bC.free 2; have g3 := bC.free 3; simp at d0 d1 d2 d3; have HbC := Lib.hid bC; clear bC)); clear hb bA))
    · go_wp2_with fail
      go_meet
      exact ⟨_, rfl, HbA.out.alloc _, HbB.out.alloc _, Blk.new _ _ _, HbW.out.alloc HbW.out.size _, hz1⟩
    · go_wp2_with fail
      go_meet
      exact ⟨w.heap.size + 2, rfl, ((((MP.set ⟨HbA.out, HbB.out, HbC.out, HbW.out, Nat.le_refl _⟩ 0 _).set 1 _).set 2 _).set 3 _)⟩
  case rest =>
    obtain ⟨o, rfl, hmp⟩ := hcut
    have a1 := hmp.raw.cell 1
    have a2 := hmp.raw.cell 2
    have c0 := hmp.out.cell 0
    have c1 := hmp.out.cell 1
    have c2 := hmp.out.cell 2
    have c3 := hmp.out.cell 3
    have f0 := hmp.out.free 0
    have f2 := hmp.out.free 2
    have f3 := hmp.out.free 3
    have r0 := hmp.res.cell 0
    have r1 := hmp.res.cell 1
    have r2 := hmp.res.cell 2
    have r3 := hmp.res.cell 3
    have k0 := hmp.res.free 0
    have k1 := hmp.res.free 1
    have k2 := hmp.res.free 2
    have k3 := hmp.res.free 3
    simp at a1 a2 c0 c1 c2 c3 r0 r1 r2 r3
    have ho := hmp.ho
    have HMP := Lib.hid hmp
    clear hmp
    have hN : (n : Int) % 60001 = ((n % 60001 : Nat) : Int) := by omega
    have hM : ((n : Int) % 8).toNat = n % 8 := by omega
    have HN := Lib.hid hN
    have HM := Lib.hid hM
    clear hN hM
    clear Hm HA HB HC HW e1 e2 e3
    by_cases h64 : 64 ≤ t
    · rcases (by omega : q = 0 ∨ q = 1 ∨ q = 2 ∨ q = 3) with rfl | rfl | rfl | rfl
      · have HP : Hid (rawPath l t n = bodyS ((n : Int) * 257)) := Lib.hid (by have := Hq.out; unfold rawPath; rw [if_pos ⟨h64, by omega⟩])
        have HNn : Hid (rawN t n = 0) := Lib.hid (by have := Hq.out; unfold rawN; rw [if_neg (by omega)])
        have HMm : Hid (rawM t n = []) := Lib.hid (by have := Hq.out; unfold rawM; rw [if_neg (by omega)])
        go_wp2_with (first
          | (go_at_call 70; refine (refBody_w _ _).mono ?_; rintro e w1 ⟨rfl, hb⟩; have m1 := HMP.out.below hb; clear a1 a2 c0 c1 c2 c3 f0 f2 f3 r0 r1 r2 r3 k0 k1 k2 k3; have a1 := m1.raw.cell 1; have a2 := m1.raw.cell 2; have c0 := m1.out.cell 0; have c1 := m1.out.cell 1; have c2 := m1.out.cell 2; have c3 := m1.out.cell 3; have f0 := m1.out.free 0; have f2 := m1.out.free 2; have f3 := m1.out.free 3; have r0 := m1.res.cell 0; have r1 := m1.res.cell 1; have r2 := m1.res.cell 2; have r3 := m1.res.cell 3; have k0 := m1.res.free 0; have k1 := m1.res.free 1; have k2 := m1.res.free 2; have k3 := m1.res.free 3; simp at a1 a2 c0 c1 c2 c3 r0 r1 r2 r3; replace HMP := Lib.hid m1; clear hb m1)
          | (go_at_call 33; refine (call_w _ _ (by omega)).mono ?_; rw [HM.out]; rintro e w1 ⟨rfl, hb⟩; have m1 := MP.below (by first | exact HMP.out | exact HMP.out.set 0 _) hb; clear a1 a2 c0 c1 c2 c3 f0 f2 f3 r0 r1 r2 r3 k0 k1 k2 k3; have a1 := m1.raw.cell 1; have a2 := m1.raw.cell 2; have c0 := m1.out.cell 0; have c1 := m1.out.cell 1; have c2 := m1.out.cell 2; have c3 := m1.out.cell 3; have f0 := m1.out.free 0; have f2 := m1.out.free 2; have f3 := m1.out.free 3; have r0 := m1.res.cell 0; have r1 := m1.res.cell 1; have r2 := m1.res.cell 2; have r3 := m1.res.cell 3; have k0 := m1.res.free 0; have k1 := m1.res.free 1; have k2 := m1.res.free 2; have k3 := m1.res.free 3; simp at a1 a2 c0 c1 c2 c3 r0 r1 r2 r3; replace HMP := Lib.hid m1; clear hb m1))
        try simp only [HN.out]
        refine bodyPost_ret (v := placeV (bodyS ((n : Int) * 257)) 1 (0) ([])) (by simp [results, Try.results30, go_sem, placeV, r0, r1, r2, r3]; try rfl) rfl ⟨by rw [HP.out, HNn.out, HMm.out]; try rfl, ?_⟩
        have hsz := HMP.out.bel
        repeat (first | exact HMP.out.bel | refine Below.setCell ?_ (by simp; try omega) _)
      · have HP : Hid (rawPath l t n = bodyS ((n : Int) * 257)) := Lib.hid (by have := Hq.out; unfold rawPath; rw [if_pos ⟨h64, by omega⟩])
        have HNn : Hid (rawN t n = ((n % 60001 : Nat) : Int)) := Lib.hid (by have := Hq.out; unfold rawN; rw [if_pos (by omega)])
        have HMm : Hid (rawM t n = []) := Lib.hid (by have := Hq.out; unfold rawM; rw [if_neg (by omega)])
        go_wp2_with (first
          | (go_at_call 70; refine (refBody_w _ _).mono ?_; rintro e w1 ⟨rfl, hb⟩; have m1 := HMP.out.below hb; clear a1 a2 c0 c1 c2 c3 f0 f2 f3 r0 r1 r2 r3 k0 k1 k2 k3; have a1 := m1.raw.cell 1; have a2 := m1.raw.cell 2; have c0 := m1.out.cell 0; have c1 := m1.out.cell 1; have c2 := m1.out.cell 2; have c3 := m1.out.cell 3; have f0 := m1.out.free 0; have f2 := m1.out.free 2; have f3 := m1.out.free 3; have r0 := m1.res.cell 0; have r1 := m1.res.cell 1; have r2 := m1.res.cell 2; have r3 := m1.res.cell 3; have k0 := m1.res.free 0; have k1 := m1.res.free 1; have k2 := m1.res.free 2; have k3 := m1.res.free 3; simp at a1 a2 c0 c1 c2 c3 r0 r1 r2 r3; replace HMP := Lib.hid m1; clear hb m1)
          | (go_at_call 33; refine (call_w _ _ (by omega)).mono ?_; rw [HM.out]; rintro e w1 ⟨rfl, hb⟩; have m1 := MP.below (by first | exact HMP.out | exact HMP.out.set 0 _) hb; clear a1 a2 c0 c1 c2 c3 f0 f2 f3 r0 r1 r2 r3 k0 k1 k2 k3; have a1 := m1.raw.cell 1; have a2 := m1.raw.cell 2; have c0 := m1.out.cell 0; have c1 := m1.out.cell 1; have c2 := m1.out.cell 2; have c3 := m1.out.cell 3; have f0 := m1.out.free 0; have f2 := m1.out.free 2; have f3 := m1.out.free 3; have r0 := m1.res.cell 0; have r1 := m1.res.cell 1; have r2 := m1.res.cell 2; have r3 := m1.res.cell 3; have k0 := m1.res.free 0; have k1 := m1.res.free 1; have k2 := m1.res.free 2; have k3 := m1.res.free 3; simp at a1 a2 c0 c1 c2 c3 r0 r1 r2 r3; replace HMP := Lib.hid m1; clear hb m1))
        try simp only [HN.out]
        refine bodyPost_ret (v := placeV (bodyS ((n : Int) * 257)) 2 (((n % 60001 : Nat) : Int)) ([])) (by simp [results, Try.results30, go_sem, placeV, r0, r1, r2, r3]; try rfl) rfl ⟨by rw [HP.out, HNn.out, HMm.out]; try rfl, ?_⟩
        have hsz := HMP.out.bel
        repeat (first | exact HMP.out.bel | refine Below.setCell ?_ (by simp; try omega) _)
      · have HP : Hid (rawPath l t n = bodyS ((n : Int) * 257)) := Lib.hid (by have := Hq.out; unfold rawPath; rw [if_pos ⟨h64, by omega⟩])
        have HNn : Hid (rawN t n = 0) := Lib.hid (by have := Hq.out; unfold rawN; rw [if_neg (by omega)])
        have HMm : Hid (rawM t n = callS (n % 8)) := Lib.hid (by have := Hq.out; unfold rawM; rw [if_pos (by omega)])
        go_wp2_with (first
          | (go_at_call 70; refine (refBody_w _ _).mono ?_; rintro e w1 ⟨rfl, hb⟩; have m1 := HMP.out.below hb; clear a1 a2 c0 c1 c2 c3 f0 f2 f3 r0 r1 r2 r3 k0 k1 k2 k3; have a1 := m1.raw.cell 1; have a2 := m1.raw.cell 2; have c0 := m1.out.cell 0; have c1 := m1.out.cell 1; have c2 := m1.out.cell 2; have c3 := m1.out.cell 3; have f0 := m1.out.free 0; have f2 := m1.out.free 2; have f3 := m1.out.free 3; have r0 := m1.res.cell 0; have r1 := m1.res.cell 1; have r2 := m1.res.cell 2; have r3 := m1.res.cell 3; have k0 := m1.res.free 0; have k1 := m1.res.free 1; have k2 := m1.res.free 2; have k3 := m1.res.free 3; simp at a1 a2 c0 c1 c2 c3 r0 r1 r2 r3; replace HMP := Lib.hid m1; clear hb m1)
          | (go_at_call 33; refine (call_w _ _ (by omega)).mono ?_; rw [HM.out]; rintro e w1 ⟨rfl, hb⟩; have m1 := MP.below (by first | exact HMP.out | exact HMP.out.set 0 _) hb; clear a1 a2 c0 c1 c2 c3 f0 f2 f3 r0 r1 r2 r3 k0 k1 k2 k3; have a1 := m1.raw.cell 1; have a2 := m1.raw.cell 2; have c0 := m1.out.cell 0; have c1 := m1.out.cell 1; have c2 := m1.out.cell 2; have c3 := m1.out.cell 3; have f0 := m1.out.free 0; have f2 := m1.out.free 2; have f3 := m1.out.free 3; have r0 := m1.res.cell 0; have r1 := m1.res.cell 1; have r2 := m1.res.cell 2; have r3 := m1.res.cell 3; have k0 := m1.res.free 0; have k1 := m1.res.free 1; have k2 := m1.res.free 2; have k3 := m1.res.free 3; simp at a1 a2 c0 c1 c2 c3 r0 r1 r2 r3; replace HMP := Lib.hid m1; clear hb m1))
        try simp only [HN.out]
        refine bodyPost_ret (v := placeV (bodyS ((n : Int) * 257)) 3 (0) (callS (n % 8))) (by simp [results, Try.results30, go_sem, placeV, r0, r1, r2, r3]; try rfl) rfl ⟨by rw [HP.out, HNn.out, HMm.out]; try rfl, ?_⟩
        have hsz := HMP.out.bel
        repeat (first | exact HMP.out.bel | refine Below.setCell ?_ (by simp; try omega) _)
      · have HP : Hid (rawPath l t n = madeS l) := Lib.hid (by have := Hq.out; unfold rawPath; rw [if_neg (by omega)])
        have HNn : Hid (rawN t n = 0) := Lib.hid (by have := Hq.out; unfold rawN; rw [if_neg (by omega)])
        have HMm : Hid (rawM t n = []) := Lib.hid (by have := Hq.out; unfold rawM; rw [if_neg (by omega)])
        go_wp2
        try simp only [HN.out]
        refine bodyPost_ret (v := placeV (madeS l) 4 (0) ([])) (by simp [results, Try.results30, go_sem, placeV, r0, r1, r2, r3]; try rfl) rfl ⟨by rw [HP.out, HNn.out, HMm.out]; try rfl, ?_⟩
        have hsz := HMP.out.bel
        repeat (first | exact HMP.out.bel | refine Below.setCell ?_ (by simp; try omega) _)
    · rcases (by omega : q = 0 ∨ q = 1 ∨ q = 2 ∨ q = 3) with rfl | rfl | rfl | rfl
      · have HP : Hid (rawPath l t n = madeS l) := Lib.hid (by have := Hq.out; unfold rawPath; rw [if_neg (by omega)])
        have HNn : Hid (rawN t n = 0) := Lib.hid (by have := Hq.out; unfold rawN; rw [if_neg (by omega)])
        have HMm : Hid (rawM t n = []) := Lib.hid (by have := Hq.out; unfold rawM; rw [if_neg (by omega)])
        go_wp2
        try simp only [HN.out]
        refine bodyPost_ret (v := placeV (madeS l) 1 (0) ([])) (by simp [results, Try.results30, go_sem, placeV, r0, r1, r2, r3]; try rfl) rfl ⟨by rw [HP.out, HNn.out, HMm.out]; try rfl, ?_⟩
        have hsz := HMP.out.bel
        repeat (first | exact HMP.out.bel | refine Below.setCell ?_ (by simp; try omega) _)
      · have HP : Hid (rawPath l t n = madeS l) := Lib.hid (by have := Hq.out; unfold rawPath; rw [if_neg (by omega)])
        have HNn : Hid (rawN t n = ((n % 60001 : Nat) : Int)) := Lib.hid (by have := Hq.out; unfold rawN; rw [if_pos (by omega)])
        have HMm : Hid (rawM t n = []) := Lib.hid (by have := Hq.out; unfold rawM; rw [if_neg (by omega)])
        go_wp2
        try simp only [HN.out]
        refine bodyPost_ret (v := placeV (madeS l) 2 (((n % 60001 : Nat) : Int)) ([])) (by simp [results, Try.results30, go_sem, placeV, r0, r1, r2, r3]; try rfl) rfl ⟨by rw [HP.out, HNn.out, HMm.out]; try rfl, ?_⟩
        have hsz := HMP.out.bel
        repeat (first | exact HMP.out.bel | refine Below.setCell ?_ (by simp; try omega) _)
      · have HP : Hid (rawPath l t n = madeS l) := Lib.hid (by have := Hq.out; unfold rawPath; rw [if_neg (by omega)])
        have HNn : Hid (rawN t n = 0) := Lib.hid (by have := Hq.out; unfold rawN; rw [if_neg (by omega)])
        have HMm : Hid (rawM t n = callS (n % 8)) := Lib.hid (by have := Hq.out; unfold rawM; rw [if_pos (by omega)])
        go_wp2_with (first
          | (go_at_call 70; refine (refBody_w _ _).mono ?_; rintro e w1 ⟨rfl, hb⟩; have m1 := HMP.out.below hb; clear a1 a2 c0 c1 c2 c3 f0 f2 f3 r0 r1 r2 r3 k0 k1 k2 k3; have a1 := m1.raw.cell 1; have a2 := m1.raw.cell 2; have c0 := m1.out.cell 0; have c1 := m1.out.cell 1; have c2 := m1.out.cell 2; have c3 := m1.out.cell 3; have f0 := m1.out.free 0; have f2 := m1.out.free 2; have f3 := m1.out.free 3; have r0 := m1.res.cell 0; have r1 := m1.res.cell 1; have r2 := m1.res.cell 2; have r3 := m1.res.cell 3; have k0 := m1.res.free 0; have k1 := m1.res.free 1; have k2 := m1.res.free 2; have k3 := m1.res.free 3; simp at a1 a2 c0 c1 c2 c3 r0 r1 r2 r3; replace HMP := Lib.hid m1; clear hb m1)
          | (go_at_call 33; refine (call_w _ _ (by omega)).mono ?_; rw [HM.out]; rintro e w1 ⟨rfl, hb⟩; have m1 := MP.below (by first | exact HMP.out | exact HMP.out.set 0 _) hb; clear a1 a2 c0 c1 c2 c3 f0 f2 f3 r0 r1 r2 r3 k0 k1 k2 k3; have a1 := m1.raw.cell 1; have a2 := m1.raw.cell 2; have c0 := m1.out.cell 0; have c1 := m1.out.cell 1; have c2 := m1.out.cell 2; have c3 := m1.out.cell 3; have f0 := m1.out.free 0; have f2 := m1.out.free 2; have f3 := m1.out.free 3; have r0 := m1.res.cell 0; have r1 := m1.res.cell 1; have r2 := m1.res.cell 2; have r3 := m1.res.cell 3; have k0 := m1.res.free 0; have k1 := m1.res.free 1; have k2 := m1.res.free 2; have k3 := m1.res.free 3; simp at a1 a2 c0 c1 c2 c3 r0 r1 r2 r3; replace HMP := Lib.hid m1; clear hb m1))
        try simp only [HN.out]
        refine bodyPost_ret (v := placeV (madeS l) 3 (0) (callS (n % 8))) (by simp [results, Try.results30, go_sem, placeV, r0, r1, r2, r3]; try rfl) rfl ⟨by rw [HP.out, HNn.out, HMm.out]; try rfl, ?_⟩
        have hsz := HMP.out.bel
        repeat (first | exact HMP.out.bel | refine Below.setCell ?_ (by simp; try omega) _)
      · have HP : Hid (rawPath l t n = madeS l) := Lib.hid (by have := Hq.out; unfold rawPath; rw [if_neg (by omega)])
        have HNn : Hid (rawN t n = 0) := Lib.hid (by have := Hq.out; unfold rawN; rw [if_neg (by omega)])
        have HMm : Hid (rawM t n = []) := Lib.hid (by have := Hq.out; unfold rawM; rw [if_neg (by omega)])
        go_wp2
        try simp only [HN.out]
        refine bodyPost_ret (v := placeV (madeS l) 4 (0) ([])) (by simp [results, Try.results30, go_sem, placeV, r0, r1, r2, r3]; try rfl) rfl ⟨by rw [HP.out, HNn.out, HMm.out]; try rfl, ?_⟩
        have hsz := HMP.out.bel
        repeat (first | exact HMP.out.bel | refine Below.setCell ?_ (by simp; try omega) _)

end Go.Proofs.Yticlomakmcjcfaa
