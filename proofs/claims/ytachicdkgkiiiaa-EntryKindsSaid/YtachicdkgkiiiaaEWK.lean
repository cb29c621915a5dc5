/-
  The walk of the law EntryKinds.
-/
import Derived.Test.YtachicdkgkiiiaaEWE
namespace Go.Proofs.Ytachicdkgkiiiaa
open Go.RowKit Go.Sort
set_option linter.unusedVariables false

set_option maxRecDepth 100000 in
set_option maxHeartbeats 1000000 in
theorem kinds0 (w : World) (m1 m2 m3 m4 m5 : Int) (mt : Bs) (rk ro ra rb : Int) (rt : Bs) (d c : Nat) (hd : d < 256) (hc : c < 256) (hmt : mt.length ≤ maxLen)
    (hm : ∀ wx, Calls Try.prog 21 #[.agg #[.int .u8 rk, .int .u8 ro, .int .u16 ra, .int .u16 rb, .string (Str rt)]] wx fun e w' => e = .returned (.agg #[.int .i64 m1, .int .i64 m2, .int .i64 m3, .int .i64 m4, .int .i64 m5, .string (Str mt)]) ∧ Below wx.heap.size wx w')
    (hw : d % 6 = 0)  (hg : validE ⟨m1, m2, m3, m4, m5, mt⟩ = true) (hv : validE ⟨(5 + c), m2, m3, m4, m5, mt⟩ = false) :
    Calls Try.prog 9 #[.agg #[.int .u8 rk, .int .u8 ro, .int .u16 ra, .int .u16 rb, .string (Str rt)], .int .u8 d, .int .u8 c] w fun e w' => e = .returned (.bool true) ∧ Below w.heap.size w w' := by
  have hgo := fun wx => valid_w m1 m2 m3 m4 m5 mt wx hmt
  rw [hg] at hgo
  have hen := fun wx => encode_w (5 + c) m2 m3 m4 m5 mt wx (by exact hmt)
  have hva := fun wx => valid_w (5 + c) m2 m3 m4 m5 mt wx (by exact hmt)
  rw [encE_no hv] at hen
  rw [hv] at hva
  simp only at hen
  have hcc : (d : Int) % 6 = 0 := by omega
  have hc1 : (c : Int) ≤ 255 := by omega
  have Hgo := Lib.hid hgo
  have Hen := Lib.hid hen
  have Hva := Lib.hid hva
  have Hm := Lib.hid hm
  clear hen hva hm hv hw hg hgo
  go_enter Try.func9, Try.ntmps9
  go_wp2_with (first
    | (go_at_call 10; refine (sanity_w _).mono ?_; rintro e w1 ⟨rfl, hb1⟩; have hx := Blk.below (Blk.new w 41 #[.int .u8 rk, .int .u8 ro, .int .u16 ra, .int .u16 rb, .string (Str rt)]) hb1 (by simp); have x0 := hx.c0 0 _ rfl; have x1 := hx.c0 1 _ rfl; have x2 := hx.c0 2 _ rfl; have x3 := hx.c0 3 _ rfl; have x4 := hx.c0 4 _ rfl; simp at x0 x1 x2 x3 x4; have Hb1 := Lib.hid hb1; clear hb1 hx)
    | (go_at_call 21; refine (Hm.out _).mono ?_; rintro e w2 ⟨rfl, hb2⟩; have Hb2 := Lib.hid hb2; clear hb2)
    | (go_at_call_of 17 (Value.int IntKind.i64 m1); refine (Hgo.out _).mono ?_; rintro e w3 ⟨rfl, hg3⟩; have he := Blk.below (Blk.new w2 23 #[.int .i64 m1, .int .i64 m2, .int .i64 m3, .int .i64 m4, .int .i64 m5, .string (Str mt)]) (hg3.below (Nat.le_refl _)) (by simp); have a0 := he.c0 0 _ rfl; have a1 := he.c0 1 _ rfl; have a2 := he.c0 2 _ rfl; have a3 := he.c0 3 _ rfl; have a4 := he.c0 4 _ rfl; have a5 := he.c0 5 _ rfl; simp at a0 a1 a2 a3 a4 a5; have lte := he.lt; have Hg3 := Lib.hid hg3; clear hg3 he)
    | (go_at_call 17; refine (Hva.out _).mono ?_; rintro e w5 ⟨rfl, hg5⟩; have Hg5 := Lib.hid hg5; clear hg5)
    | (go_at_call 13; refine (Hen.out _).mono ?_; rintro e w4 ⟨rfl, hb4⟩; have hd := Blk.below (Blk.new w3 23 #[.int .i64 (5 + c), .int .i64 m2, .int .i64 m3, .int .i64 m4, .int .i64 m5, .string (Str mt)]) hb4 (by simp); have b0 := hd.c0 0 _ rfl; have b1 := hd.c0 1 _ rfl; have b2 := hd.c0 2 _ rfl; have b3 := hd.c0 3 _ rfl; have b4 := hd.c0 4 _ rfl; have b5 := hd.c0 5 _ rfl; simp at b0 b1 b2 b3 b4 b5; have Hb4 := Lib.hid hb4; clear hb4 hd))
  go_ret
  refine ⟨rfl, ?_⟩
  have h1 := Hb1.out.size
  have h2 := Hb2.out.size
  have h3 := grown_size Hg3.out
  have h4 := Hb4.out.size
  simp at h1 h2 h3 h4
  exact (((((((below_box _).trans (Hb1.out.mono (by simp))).trans (Hb2.out.mono (by omega))).alloc (by omega) _).trans (Hg3.out.below (by simp; omega))).alloc (by omega) _).trans (Hb4.out.mono (by simp; omega))).trans (Hg5.out.below (by omega))

set_option maxRecDepth 100000 in
set_option maxHeartbeats 1000000 in
theorem kinds1 (w : World) (m1 m2 m3 m4 m5 : Int) (mt : Bs) (rk ro ra rb : Int) (rt : Bs) (d c : Nat) (hd : d < 256) (hc : c < 256) (hmt : mt.length ≤ maxLen)
    (hm : ∀ wx, Calls Try.prog 21 #[.agg #[.int .u8 rk, .int .u8 ro, .int .u16 ra, .int .u16 rb, .string (Str rt)]] wx fun e w' => e = .returned (.agg #[.int .i64 m1, .int .i64 m2, .int .i64 m3, .int .i64 m4, .int .i64 m5, .string (Str mt)]) ∧ Below wx.heap.size wx w')
    (hw : d % 6 = 1)  (hg : validE ⟨m1, m2, m3, m4, m5, mt⟩ = true) (hv : validE ⟨(-c), m2, m3, m4, m5, mt⟩ = false) :
    Calls Try.prog 9 #[.agg #[.int .u8 rk, .int .u8 ro, .int .u16 ra, .int .u16 rb, .string (Str rt)], .int .u8 d, .int .u8 c] w fun e w' => e = .returned (.bool true) ∧ Below w.heap.size w w' := by
  have hgo := fun wx => valid_w m1 m2 m3 m4 m5 mt wx hmt
  rw [hg] at hgo
  have hen := fun wx => encode_w (-c) m2 m3 m4 m5 mt wx (by exact hmt)
  have hva := fun wx => valid_w (-c) m2 m3 m4 m5 mt wx (by exact hmt)
  rw [encE_no hv] at hen
  rw [hv] at hva
  simp only at hen
  have hcc : (d : Int) % 6 = 1 := by omega
  have hc1 : (c : Int) ≤ 255 := by omega
  have Hgo := Lib.hid hgo
  have Hen := Lib.hid hen
  have Hva := Lib.hid hva
  have Hm := Lib.hid hm
  clear hen hva hm hv hw hg hgo
  go_enter Try.func9, Try.ntmps9
  go_wp2_with (first
    | (go_at_call 10; refine (sanity_w _).mono ?_; rintro e w1 ⟨rfl, hb1⟩; have hx := Blk.below (Blk.new w 41 #[.int .u8 rk, .int .u8 ro, .int .u16 ra, .int .u16 rb, .string (Str rt)]) hb1 (by simp); have x0 := hx.c0 0 _ rfl; have x1 := hx.c0 1 _ rfl; have x2 := hx.c0 2 _ rfl; have x3 := hx.c0 3 _ rfl; have x4 := hx.c0 4 _ rfl; simp at x0 x1 x2 x3 x4; have Hb1 := Lib.hid hb1; clear hb1 hx)
    | (go_at_call 21; refine (Hm.out _).mono ?_; rintro e w2 ⟨rfl, hb2⟩; have Hb2 := Lib.hid hb2; clear hb2)
    | (go_at_call_of 17 (Value.int IntKind.i64 m1); refine (Hgo.out _).mono ?_; rintro e w3 ⟨rfl, hg3⟩; have he := Blk.below (Blk.new w2 23 #[.int .i64 m1, .int .i64 m2, .int .i64 m3, .int .i64 m4, .int .i64 m5, .string (Str mt)]) (hg3.below (Nat.le_refl _)) (by simp); have a0 := he.c0 0 _ rfl; have a1 := he.c0 1 _ rfl; have a2 := he.c0 2 _ rfl; have a3 := he.c0 3 _ rfl; have a4 := he.c0 4 _ rfl; have a5 := he.c0 5 _ rfl; simp at a0 a1 a2 a3 a4 a5; have lte := he.lt; have Hg3 := Lib.hid hg3; clear hg3 he)
    | (go_at_call 17; refine (Hva.out _).mono ?_; rintro e w5 ⟨rfl, hg5⟩; have Hg5 := Lib.hid hg5; clear hg5)
    | (go_at_call 13; refine (Hen.out _).mono ?_; rintro e w4 ⟨rfl, hb4⟩; have hd := Blk.below (Blk.new w3 23 #[.int .i64 (-c), .int .i64 m2, .int .i64 m3, .int .i64 m4, .int .i64 m5, .string (Str mt)]) hb4 (by simp); have b0 := hd.c0 0 _ rfl; have b1 := hd.c0 1 _ rfl; have b2 := hd.c0 2 _ rfl; have b3 := hd.c0 3 _ rfl; have b4 := hd.c0 4 _ rfl; have b5 := hd.c0 5 _ rfl; simp at b0 b1 b2 b3 b4 b5; have Hb4 := Lib.hid hb4; clear hb4 hd))
  go_ret
  refine ⟨rfl, ?_⟩
  have h1 := Hb1.out.size
  have h2 := Hb2.out.size
  have h3 := grown_size Hg3.out
  have h4 := Hb4.out.size
  simp at h1 h2 h3 h4
  exact (((((((below_box _).trans (Hb1.out.mono (by simp))).trans (Hb2.out.mono (by omega))).alloc (by omega) _).trans (Hg3.out.below (by simp; omega))).alloc (by omega) _).trans (Hb4.out.mono (by simp; omega))).trans (Hg5.out.below (by omega))

set_option maxRecDepth 100000 in
set_option maxHeartbeats 1000000 in
theorem kinds2l (w : World) (m1 m2 m3 m4 m5 : Int) (mt : Bs) (rk ro ra rb : Int) (rt : Bs) (d c : Nat) (hd : d < 256) (hc : c < 256) (hmt : mt.length ≤ maxLen)
    (hm : ∀ wx, Calls Try.prog 21 #[.agg #[.int .u8 rk, .int .u8 ro, .int .u16 ra, .int .u16 rb, .string (Str rt)]] wx fun e w' => e = .returned (.agg #[.int .i64 m1, .int .i64 m2, .int .i64 m3, .int .i64 m4, .int .i64 m5, .string (Str mt)]) ∧ Below wx.heap.size wx w')
    (hw : d % 6 = 2) (hk : m1 = 4) (hg : validE ⟨m1, m2, m3, m4, m5, mt⟩ = true) (hv : validE ⟨4, (1 + c), m3, m4, m5, mt⟩ = false) :
    Calls Try.prog 9 #[.agg #[.int .u8 rk, .int .u8 ro, .int .u16 ra, .int .u16 rb, .string (Str rt)], .int .u8 d, .int .u8 c] w fun e w' => e = .returned (.bool true) ∧ Below w.heap.size w w' := by
  subst hk
  have hgo := fun wx => valid_w 4 m2 m3 m4 m5 mt wx hmt
  rw [hg] at hgo
  have hen := fun wx => encode_w 4 (1 + c) m3 m4 m5 mt wx (by exact hmt)
  have hva := fun wx => valid_w 4 (1 + c) m3 m4 m5 mt wx (by exact hmt)
  rw [encE_no hv] at hen
  rw [hv] at hva
  simp only at hen
  have hcc : (d : Int) % 6 = 2 := by omega
  have hc1 : (c : Int) ≤ 255 := by omega
  have Hgo := Lib.hid hgo
  have Hen := Lib.hid hen
  have Hva := Lib.hid hva
  have Hm := Lib.hid hm
  clear hen hva hm hv hw hg hgo
  go_enter Try.func9, Try.ntmps9
  go_wp2_with (first
    | (go_at_call 10; refine (sanity_w _).mono ?_; rintro e w1 ⟨rfl, hb1⟩; have hx := Blk.below (Blk.new w 41 #[.int .u8 rk, .int .u8 ro, .int .u16 ra, .int .u16 rb, .string (Str rt)]) hb1 (by simp); have x0 := hx.c0 0 _ rfl; have x1 := hx.c0 1 _ rfl; have x2 := hx.c0 2 _ rfl; have x3 := hx.c0 3 _ rfl; have x4 := hx.c0 4 _ rfl; simp at x0 x1 x2 x3 x4; have Hb1 := Lib.hid hb1; clear hb1 hx)
    | (go_at_call 21; refine (Hm.out _).mono ?_; rintro e w2 ⟨rfl, hb2⟩; have Hb2 := Lib.hid hb2; clear hb2)
    | (go_at_call_of 17 (Value.int IntKind.i64 m2); refine (Hgo.out _).mono ?_; rintro e w3 ⟨rfl, hg3⟩; have he := Blk.below (Blk.new w2 23 #[.int .i64 4, .int .i64 m2, .int .i64 m3, .int .i64 m4, .int .i64 m5, .string (Str mt)]) (hg3.below (Nat.le_refl _)) (by simp); have a0 := he.c0 0 _ rfl; have a1 := he.c0 1 _ rfl; have a2 := he.c0 2 _ rfl; have a3 := he.c0 3 _ rfl; have a4 := he.c0 4 _ rfl; have a5 := he.c0 5 _ rfl; simp at a0 a1 a2 a3 a4 a5; have lte := he.lt; have Hg3 := Lib.hid hg3; clear hg3 he)
    | (go_at_call 17; refine (Hva.out _).mono ?_; rintro e w5 ⟨rfl, hg5⟩; have Hg5 := Lib.hid hg5; clear hg5)
    | (go_at_call 13; refine (Hen.out _).mono ?_; rintro e w4 ⟨rfl, hb4⟩; have hd := Blk.below (Blk.new w3 23 #[.int .i64 4, .int .i64 (1 + c), .int .i64 m3, .int .i64 m4, .int .i64 m5, .string (Str mt)]) hb4 (by simp); have b0 := hd.c0 0 _ rfl; have b1 := hd.c0 1 _ rfl; have b2 := hd.c0 2 _ rfl; have b3 := hd.c0 3 _ rfl; have b4 := hd.c0 4 _ rfl; have b5 := hd.c0 5 _ rfl; simp at b0 b1 b2 b3 b4 b5; have Hb4 := Lib.hid hb4; clear hb4 hd))
  go_ret
  refine ⟨rfl, ?_⟩
  have h1 := Hb1.out.size
  have h2 := Hb2.out.size
  have h3 := grown_size Hg3.out
  have h4 := Hb4.out.size
  simp at h1 h2 h3 h4
  exact (((((((below_box _).trans (Hb1.out.mono (by simp))).trans (Hb2.out.mono (by omega))).alloc (by omega) _).trans (Hg3.out.below (by simp; omega))).alloc (by omega) _).trans (Hb4.out.mono (by simp; omega))).trans (Hg5.out.below (by omega))

set_option maxRecDepth 100000 in
set_option maxHeartbeats 1000000 in
theorem kinds2n (w : World) (m1 m2 m3 m4 m5 : Int) (mt : Bs) (rk ro ra rb : Int) (rt : Bs) (d c : Nat) (hd : d < 256) (hc : c < 256) (hmt : mt.length ≤ maxLen)
    (hm : ∀ wx, Calls Try.prog 21 #[.agg #[.int .u8 rk, .int .u8 ro, .int .u16 ra, .int .u16 rb, .string (Str rt)]] wx fun e w' => e = .returned (.agg #[.int .i64 m1, .int .i64 m2, .int .i64 m3, .int .i64 m4, .int .i64 m5, .string (Str mt)]) ∧ Below wx.heap.size wx w')
    (hw : d % 6 = 2) (hk : ¬ m1 = 4) (hg : validE ⟨m1, m2, m3, m4, m5, mt⟩ = true) (hv : validE ⟨m1, m2, m3, (1 + c), m5, mt⟩ = false) :
    Calls Try.prog 9 #[.agg #[.int .u8 rk, .int .u8 ro, .int .u16 ra, .int .u16 rb, .string (Str rt)], .int .u8 d, .int .u8 c] w fun e w' => e = .returned (.bool true) ∧ Below w.heap.size w w' := by
  have hkb : (m1 == 4) = false := by simpa using hk
  have hgo := fun wx => valid_w m1 m2 m3 m4 m5 mt wx hmt
  rw [hg] at hgo
  have hen := fun wx => encode_w m1 m2 m3 (1 + c) m5 mt wx (by exact hmt)
  have hva := fun wx => valid_w m1 m2 m3 (1 + c) m5 mt wx (by exact hmt)
  rw [encE_no hv] at hen
  rw [hv] at hva
  simp only at hen
  have hcc : (d : Int) % 6 = 2 := by omega
  have hc1 : (c : Int) ≤ 255 := by omega
  have Hgo := Lib.hid hgo
  have Hen := Lib.hid hen
  have Hva := Lib.hid hva
  have Hm := Lib.hid hm
  clear hen hva hm hv hw hg hgo
  go_enter Try.func9, Try.ntmps9
  go_wp2_with (first
    | (go_at_call 10; refine (sanity_w _).mono ?_; rintro e w1 ⟨rfl, hb1⟩; have hx := Blk.below (Blk.new w 41 #[.int .u8 rk, .int .u8 ro, .int .u16 ra, .int .u16 rb, .string (Str rt)]) hb1 (by simp); have x0 := hx.c0 0 _ rfl; have x1 := hx.c0 1 _ rfl; have x2 := hx.c0 2 _ rfl; have x3 := hx.c0 3 _ rfl; have x4 := hx.c0 4 _ rfl; simp at x0 x1 x2 x3 x4; have Hb1 := Lib.hid hb1; clear hb1 hx)
    | (go_at_call 21; refine (Hm.out _).mono ?_; rintro e w2 ⟨rfl, hb2⟩; have Hb2 := Lib.hid hb2; clear hb2)
    | (go_at_call_of 17 (Value.int IntKind.i64 m4); refine (Hgo.out _).mono ?_; rintro e w3 ⟨rfl, hg3⟩; have he := Blk.below (Blk.new w2 23 #[.int .i64 m1, .int .i64 m2, .int .i64 m3, .int .i64 m4, .int .i64 m5, .string (Str mt)]) (hg3.below (Nat.le_refl _)) (by simp); have a0 := he.c0 0 _ rfl; have a1 := he.c0 1 _ rfl; have a2 := he.c0 2 _ rfl; have a3 := he.c0 3 _ rfl; have a4 := he.c0 4 _ rfl; have a5 := he.c0 5 _ rfl; simp at a0 a1 a2 a3 a4 a5; have lte := he.lt; have Hg3 := Lib.hid hg3; clear hg3 he)
    | (go_at_call 17; refine (Hva.out _).mono ?_; rintro e w5 ⟨rfl, hg5⟩; have Hg5 := Lib.hid hg5; clear hg5)
    | (go_at_call 13; refine (Hen.out _).mono ?_; rintro e w4 ⟨rfl, hb4⟩; have hd := Blk.below (Blk.new w3 23 #[.int .i64 m1, .int .i64 m2, .int .i64 m3, .int .i64 (1 + c), .int .i64 m5, .string (Str mt)]) hb4 (by simp); have b0 := hd.c0 0 _ rfl; have b1 := hd.c0 1 _ rfl; have b2 := hd.c0 2 _ rfl; have b3 := hd.c0 3 _ rfl; have b4 := hd.c0 4 _ rfl; have b5 := hd.c0 5 _ rfl; simp at b0 b1 b2 b3 b4 b5; have Hb4 := Lib.hid hb4; clear hb4 hd))
  go_ret
  refine ⟨rfl, ?_⟩
  have h1 := Hb1.out.size
  have h2 := Hb2.out.size
  have h3 := grown_size Hg3.out
  have h4 := Hb4.out.size
  simp at h1 h2 h3 h4
  exact (((((((below_box _).trans (Hb1.out.mono (by simp))).trans (Hb2.out.mono (by omega))).alloc (by omega) _).trans (Hg3.out.below (by simp; omega))).alloc (by omega) _).trans (Hb4.out.mono (by simp; omega))).trans (Hg5.out.below (by omega))

set_option maxRecDepth 100000 in
set_option maxHeartbeats 1000000 in
theorem kinds3n (w : World) (m1 m2 m3 m4 m5 : Int) (mt : Bs) (rk ro ra rb : Int) (rt : Bs) (d c : Nat) (hd : d < 256) (hc : c < 256) (hmt : mt.length ≤ maxLen)
    (hm : ∀ wx, Calls Try.prog 21 #[.agg #[.int .u8 rk, .int .u8 ro, .int .u16 ra, .int .u16 rb, .string (Str rt)]] wx fun e w' => e = .returned (.agg #[.int .i64 m1, .int .i64 m2, .int .i64 m3, .int .i64 m4, .int .i64 m5, .string (Str mt)]) ∧ Below wx.heap.size wx w')
    (hw : d % 6 = 3) (hk : ¬ m1 = 2) (hg : validE ⟨m1, m2, m3, m4, m5, mt⟩ = true) (hv : validE ⟨m1, m2, (1 + c), m4, m5, mt⟩ = false) :
    Calls Try.prog 9 #[.agg #[.int .u8 rk, .int .u8 ro, .int .u16 ra, .int .u16 rb, .string (Str rt)], .int .u8 d, .int .u8 c] w fun e w' => e = .returned (.bool true) ∧ Below w.heap.size w w' := by
  have hkb : (m1 != 2) = true := by simpa using hk
  have hgo := fun wx => valid_w m1 m2 m3 m4 m5 mt wx hmt
  rw [hg] at hgo
  have hen := fun wx => encode_w m1 m2 (1 + c) m4 m5 mt wx (by exact hmt)
  have hva := fun wx => valid_w m1 m2 (1 + c) m4 m5 mt wx (by exact hmt)
  rw [encE_no hv] at hen
  rw [hv] at hva
  simp only at hen
  have hcc : (d : Int) % 6 = 3 := by omega
  have hc1 : (c : Int) ≤ 255 := by omega
  have Hgo := Lib.hid hgo
  have Hen := Lib.hid hen
  have Hva := Lib.hid hva
  have Hm := Lib.hid hm
  clear hen hva hm hv hw hg hgo
  go_enter Try.func9, Try.ntmps9
  go_wp2_with (first
    | (go_at_call 10; refine (sanity_w _).mono ?_; rintro e w1 ⟨rfl, hb1⟩; have hx := Blk.below (Blk.new w 41 #[.int .u8 rk, .int .u8 ro, .int .u16 ra, .int .u16 rb, .string (Str rt)]) hb1 (by simp); have x0 := hx.c0 0 _ rfl; have x1 := hx.c0 1 _ rfl; have x2 := hx.c0 2 _ rfl; have x3 := hx.c0 3 _ rfl; have x4 := hx.c0 4 _ rfl; simp at x0 x1 x2 x3 x4; have Hb1 := Lib.hid hb1; clear hb1 hx)
    | (go_at_call 21; refine (Hm.out _).mono ?_; rintro e w2 ⟨rfl, hb2⟩; have Hb2 := Lib.hid hb2; clear hb2)
    | (go_at_call_of 17 (Value.int IntKind.i64 m3); refine (Hgo.out _).mono ?_; rintro e w3 ⟨rfl, hg3⟩; have he := Blk.below (Blk.new w2 23 #[.int .i64 m1, .int .i64 m2, .int .i64 m3, .int .i64 m4, .int .i64 m5, .string (Str mt)]) (hg3.below (Nat.le_refl _)) (by simp); have a0 := he.c0 0 _ rfl; have a1 := he.c0 1 _ rfl; have a2 := he.c0 2 _ rfl; have a3 := he.c0 3 _ rfl; have a4 := he.c0 4 _ rfl; have a5 := he.c0 5 _ rfl; simp at a0 a1 a2 a3 a4 a5; have lte := he.lt; have Hg3 := Lib.hid hg3; clear hg3 he)
    | (go_at_call 17; refine (Hva.out _).mono ?_; rintro e w5 ⟨rfl, hg5⟩; have Hg5 := Lib.hid hg5; clear hg5)
    | (go_at_call 13; refine (Hen.out _).mono ?_; rintro e w4 ⟨rfl, hb4⟩; have hd := Blk.below (Blk.new w3 23 #[.int .i64 m1, .int .i64 m2, .int .i64 (1 + c), .int .i64 m4, .int .i64 m5, .string (Str mt)]) hb4 (by simp); have b0 := hd.c0 0 _ rfl; have b1 := hd.c0 1 _ rfl; have b2 := hd.c0 2 _ rfl; have b3 := hd.c0 3 _ rfl; have b4 := hd.c0 4 _ rfl; have b5 := hd.c0 5 _ rfl; simp at b0 b1 b2 b3 b4 b5; have Hb4 := Lib.hid hb4; clear hb4 hd))
  go_ret
  refine ⟨rfl, ?_⟩
  have h1 := Hb1.out.size
  have h2 := Hb2.out.size
  have h3 := grown_size Hg3.out
  have h4 := Hb4.out.size
  simp at h1 h2 h3 h4
  exact (((((((below_box _).trans (Hb1.out.mono (by simp))).trans (Hb2.out.mono (by omega))).alloc (by omega) _).trans (Hg3.out.below (by simp; omega))).alloc (by omega) _).trans (Hb4.out.mono (by simp; omega))).trans (Hg5.out.below (by omega))

set_option maxRecDepth 100000 in
set_option maxHeartbeats 1000000 in
theorem kinds3f (w : World) (m1 m2 m3 m4 m5 : Int) (mt : Bs) (rk ro ra rb : Int) (rt : Bs) (d c : Nat) (hd : d < 256) (hc : c < 256) (hmt : mt.length ≤ maxLen)
    (hm : ∀ wx, Calls Try.prog 21 #[.agg #[.int .u8 rk, .int .u8 ro, .int .u16 ra, .int .u16 rb, .string (Str rt)]] wx fun e w' => e = .returned (.agg #[.int .i64 m1, .int .i64 m2, .int .i64 m3, .int .i64 m4, .int .i64 m5, .string (Str mt)]) ∧ Below wx.heap.size wx w')
    (hw : d % 6 = 3) (hk : m1 = 2) (hg : validE ⟨m1, m2, m3, m4, m5, mt⟩ = true) (hv : validE ⟨2, m2, m3, m4, m5, [UInt8.ofNat c]⟩ = false) :
    Calls Try.prog 9 #[.agg #[.int .u8 rk, .int .u8 ro, .int .u16 ra, .int .u16 rb, .string (Str rt)], .int .u8 d, .int .u8 c] w fun e w' => e = .returned (.bool true) ∧ Below w.heap.size w w' := by
  subst hk
  have hgo := fun wx => valid_w 2 m2 m3 m4 m5 mt wx hmt
  rw [hg] at hgo
  have hen := fun wx => encode_w 2 m2 m3 m4 m5 [UInt8.ofNat c] wx (by unfold maxLen; simp)
  have hva := fun wx => valid_w 2 m2 m3 m4 m5 [UInt8.ofNat c] wx (by unfold maxLen; simp)
  rw [encE_no hv] at hen
  rw [hv] at hva
  simp only at hen
  have hcc : (d : Int) % 6 = 3 := by omega
  have hc1 : (c : Int) ≤ 255 := by omega
  have Hgo := Lib.hid hgo
  have Hen := Lib.hid hen
  have Hva := Lib.hid hva
  have Hm := Lib.hid hm
  clear hen hva hm hv hw hg hgo
  go_enter Try.func9, Try.ntmps9
  go_wp2_with (first
    | (go_at_call 10; refine (sanity_w _).mono ?_; rintro e w1 ⟨rfl, hb1⟩; have hx := Blk.below (Blk.new w 41 #[.int .u8 rk, .int .u8 ro, .int .u16 ra, .int .u16 rb, .string (Str rt)]) hb1 (by simp); have x0 := hx.c0 0 _ rfl; have x1 := hx.c0 1 _ rfl; have x2 := hx.c0 2 _ rfl; have x3 := hx.c0 3 _ rfl; have x4 := hx.c0 4 _ rfl; simp at x0 x1 x2 x3 x4; have Hb1 := Lib.hid hb1; clear hb1 hx)
    | (go_at_call 21; refine (Hm.out _).mono ?_; rintro e w2 ⟨rfl, hb2⟩; have Hb2 := Lib.hid hb2; clear hb2)
    | (go_at_call_of 17 (Value.string (Str mt)); refine (Hgo.out _).mono ?_; rintro e w3 ⟨rfl, hg3⟩; have he := Blk.below (Blk.new w2 23 #[.int .i64 2, .int .i64 m2, .int .i64 m3, .int .i64 m4, .int .i64 m5, .string (Str mt)]) (hg3.below (Nat.le_refl _)) (by simp); have a0 := he.c0 0 _ rfl; have a1 := he.c0 1 _ rfl; have a2 := he.c0 2 _ rfl; have a3 := he.c0 3 _ rfl; have a4 := he.c0 4 _ rfl; have a5 := he.c0 5 _ rfl; simp at a0 a1 a2 a3 a4 a5; have lte := he.lt; have Hg3 := Lib.hid hg3; clear hg3 he)
    | (go_at_call 17; refine (Hva.out _).mono ?_; rintro e w5 ⟨rfl, hg5⟩; have Hg5 := Lib.hid hg5; clear hg5)
    | (go_at_call 13; refine (Hen.out _).mono ?_; rintro e w4 ⟨rfl, hb4⟩; have hd := Blk.below ((Blk.new w3 23 #[.int .i64 2, .int .i64 m2, .int .i64 m3, .int .i64 m4, .int .i64 m5, .string (Str [UInt8.ofNat c])]).alloc (.cells #[.int .u8 c] 5)) hb4 (by simp; omega); have b0 := hd.c0 0 _ rfl; have b1 := hd.c0 1 _ rfl; have b2 := hd.c0 2 _ rfl; have b3 := hd.c0 3 _ rfl; have b4 := hd.c0 4 _ rfl; have b5 := hd.c0 5 _ rfl; simp at b0 b1 b2 b3 b4 b5; have Hb4 := Lib.hid hb4; clear hb4 hd))
  go_ret
  refine ⟨rfl, ?_⟩
  have h1 := Hb1.out.size
  have h2 := Hb2.out.size
  have h3 := grown_size Hg3.out
  have h4 := Hb4.out.size
  simp at h1 h2 h3 h4
  exact ((((((((below_box _).trans (Hb1.out.mono (by simp))).trans (Hb2.out.mono (by omega))).alloc (by omega) _).trans (Hg3.out.below (by simp; omega))).alloc (by omega) _).alloc (by simp; omega) _).trans (Hb4.out.mono (by simp; omega))).trans (Hg5.out.below (by omega))

set_option maxRecDepth 100000 in
set_option maxHeartbeats 1000000 in
theorem kinds4in (w : World) (m1 m2 m3 m4 m5 : Int) (mt : Bs) (rk ro ra rb : Int) (rt : Bs) (d c : Nat) (hd : d < 256) (hc : c < 256) (hmt : mt.length ≤ maxLen)
    (hm : ∀ wx, Calls Try.prog 21 #[.agg #[.int .u8 rk, .int .u8 ro, .int .u16 ra, .int .u16 rb, .string (Str rt)]] wx fun e w' => e = .returned (.agg #[.int .i64 m1, .int .i64 m2, .int .i64 m3, .int .i64 m4, .int .i64 m5, .string (Str mt)]) ∧ Below wx.heap.size wx w')
    (hw : d % 6 = 4) (h1 : 32 ≤ c) (h2 : c ≤ 126) (hg : validE ⟨m1, m2, m3, m4, m5, mt⟩ = true) (hv : validE ⟨3, 0, 0, 0, m5, [97, UInt8.ofNat c, 98]⟩ = true) :
    Calls Try.prog 9 #[.agg #[.int .u8 rk, .int .u8 ro, .int .u16 ra, .int .u16 rb, .string (Str rt)], .int .u8 d, .int .u8 c] w fun e w' => e = .returned (.bool true) ∧ Below w.heap.size w w' := by
  have hgo := fun wx => valid_w m1 m2 m3 m4 m5 mt wx hmt
  rw [hg] at hgo
  have hen := fun wx => encode_w 3 0 0 0 m5 [97, UInt8.ofNat c, 98] wx (by unfold maxLen; simp)
  rw [encE_yes hv] at hen
  simp only at hen
  have hcc : (d : Int) % 6 = 4 := by omega
  have hc1 : (c : Int) ≤ 255 := by omega
  have g1 : 32 ≤ (c : Int) := by omega
  have g2 : (c : Int) ≤ 126 := by omega
  have Hgo := Lib.hid hgo
  have Hen := Lib.hid hen
  have Hm := Lib.hid hm
  clear hen hm hv hw hg hgo
  go_enter Try.func9, Try.ntmps9
  go_wp2_with (first
    | (go_at_call 10; refine (sanity_w _).mono ?_; rintro e w1 ⟨rfl, hb1⟩; have hx := Blk.below (Blk.new w 41 #[.int .u8 rk, .int .u8 ro, .int .u16 ra, .int .u16 rb, .string (Str rt)]) hb1 (by simp); have x0 := hx.c0 0 _ rfl; have x1 := hx.c0 1 _ rfl; have x2 := hx.c0 2 _ rfl; have x3 := hx.c0 3 _ rfl; have x4 := hx.c0 4 _ rfl; simp at x0 x1 x2 x3 x4; have Hb1 := Lib.hid hb1; clear hb1 hx)
    | (go_at_call 21; refine (Hm.out _).mono ?_; rintro e w2 ⟨rfl, hb2⟩; have Hb2 := Lib.hid hb2; clear hb2)
    | (go_at_call 17; refine (Hgo.out _).mono ?_; rintro e w3 ⟨rfl, hg3⟩; have he := Blk.below (Blk.new w2 23 #[.int .i64 m1, .int .i64 m2, .int .i64 m3, .int .i64 m4, .int .i64 m5, .string (Str mt)]) (hg3.below (Nat.le_refl _)) (by simp); have a0 := he.c0 0 _ rfl; have a1 := he.c0 1 _ rfl; have a2 := he.c0 2 _ rfl; have a3 := he.c0 3 _ rfl; have a4 := he.c0 4 _ rfl; have a5 := he.c0 5 _ rfl; simp at a0 a1 a2 a3 a4 a5; have lte := he.lt; have Hg3 := Lib.hid hg3; clear hg3 he)
    | (go_at_call 13; refine (Hen.out _).mono ?_; rintro e w4 ⟨rfl, hb4⟩; have Hb4 := Lib.hid hb4; clear hb4))
  go_ret
  refine ⟨rfl, ?_⟩
  have h1 := Hb1.out.size
  have h2 := Hb2.out.size
  have h3 := grown_size Hg3.out
  have h4 := Hb4.out.size
  simp at h1 h2 h3 h4
  exact (((((((below_box _).trans (Hb1.out.mono (by simp))).trans (Hb2.out.mono (by omega))).alloc (by omega) _).trans (Hg3.out.below (by simp; omega))).alloc (by omega) _).alloc (by simp; omega) _).trans (Hb4.out.mono (by simp; omega))

set_option maxRecDepth 100000 in
set_option maxHeartbeats 1000000 in
theorem kinds4lo (w : World) (m1 m2 m3 m4 m5 : Int) (mt : Bs) (rk ro ra rb : Int) (rt : Bs) (d c : Nat) (hd : d < 256) (hc : c < 256) (hmt : mt.length ≤ maxLen)
    (hm : ∀ wx, Calls Try.prog 21 #[.agg #[.int .u8 rk, .int .u8 ro, .int .u16 ra, .int .u16 rb, .string (Str rt)]] wx fun e w' => e = .returned (.agg #[.int .i64 m1, .int .i64 m2, .int .i64 m3, .int .i64 m4, .int .i64 m5, .string (Str mt)]) ∧ Below wx.heap.size wx w')
    (hw : d % 6 = 4) (h1 : c < 32) (hg : validE ⟨m1, m2, m3, m4, m5, mt⟩ = true) (hv : validE ⟨3, 0, 0, 0, m5, [97, UInt8.ofNat c, 98]⟩ = false) :
    Calls Try.prog 9 #[.agg #[.int .u8 rk, .int .u8 ro, .int .u16 ra, .int .u16 rb, .string (Str rt)], .int .u8 d, .int .u8 c] w fun e w' => e = .returned (.bool true) ∧ Below w.heap.size w w' := by
  have hgo := fun wx => valid_w m1 m2 m3 m4 m5 mt wx hmt
  rw [hg] at hgo
  have hen := fun wx => encode_w 3 0 0 0 m5 [97, UInt8.ofNat c, 98] wx (by unfold maxLen; simp)
  rw [encE_no hv] at hen
  simp only at hen
  have hcc : (d : Int) % 6 = 4 := by omega
  have hc1 : (c : Int) ≤ 255 := by omega
  have g1 : (c : Int) < 32 := by omega
  have g2 : ¬ 32 ≤ (c : Int) := by omega
  have Hgo := Lib.hid hgo
  have Hen := Lib.hid hen
  have Hm := Lib.hid hm
  clear hen hm hv hw hg hgo
  go_enter Try.func9, Try.ntmps9
  go_wp2_with (first
    | (go_at_call 10; refine (sanity_w _).mono ?_; rintro e w1 ⟨rfl, hb1⟩; have hx := Blk.below (Blk.new w 41 #[.int .u8 rk, .int .u8 ro, .int .u16 ra, .int .u16 rb, .string (Str rt)]) hb1 (by simp); have x0 := hx.c0 0 _ rfl; have x1 := hx.c0 1 _ rfl; have x2 := hx.c0 2 _ rfl; have x3 := hx.c0 3 _ rfl; have x4 := hx.c0 4 _ rfl; simp at x0 x1 x2 x3 x4; have Hb1 := Lib.hid hb1; clear hb1 hx)
    | (go_at_call 21; refine (Hm.out _).mono ?_; rintro e w2 ⟨rfl, hb2⟩; have Hb2 := Lib.hid hb2; clear hb2)
    | (go_at_call 17; refine (Hgo.out _).mono ?_; rintro e w3 ⟨rfl, hg3⟩; have he := Blk.below (Blk.new w2 23 #[.int .i64 m1, .int .i64 m2, .int .i64 m3, .int .i64 m4, .int .i64 m5, .string (Str mt)]) (hg3.below (Nat.le_refl _)) (by simp); have a0 := he.c0 0 _ rfl; have a1 := he.c0 1 _ rfl; have a2 := he.c0 2 _ rfl; have a3 := he.c0 3 _ rfl; have a4 := he.c0 4 _ rfl; have a5 := he.c0 5 _ rfl; simp at a0 a1 a2 a3 a4 a5; have lte := he.lt; have Hg3 := Lib.hid hg3; clear hg3 he)
    | (go_at_call 13; refine (Hen.out _).mono ?_; rintro e w4 ⟨rfl, hb4⟩; have Hb4 := Lib.hid hb4; clear hb4))
  go_ret
  refine ⟨rfl, ?_⟩
  have h1 := Hb1.out.size
  have h2 := Hb2.out.size
  have h3 := grown_size Hg3.out
  have h4 := Hb4.out.size
  simp at h1 h2 h3 h4
  exact (((((((below_box _).trans (Hb1.out.mono (by simp))).trans (Hb2.out.mono (by omega))).alloc (by omega) _).trans (Hg3.out.below (by simp; omega))).alloc (by omega) _).alloc (by simp; omega) _).trans (Hb4.out.mono (by simp; omega))

set_option maxRecDepth 100000 in
set_option maxHeartbeats 1000000 in
theorem kinds4hi (w : World) (m1 m2 m3 m4 m5 : Int) (mt : Bs) (rk ro ra rb : Int) (rt : Bs) (d c : Nat) (hd : d < 256) (hc : c < 256) (hmt : mt.length ≤ maxLen)
    (hm : ∀ wx, Calls Try.prog 21 #[.agg #[.int .u8 rk, .int .u8 ro, .int .u16 ra, .int .u16 rb, .string (Str rt)]] wx fun e w' => e = .returned (.agg #[.int .i64 m1, .int .i64 m2, .int .i64 m3, .int .i64 m4, .int .i64 m5, .string (Str mt)]) ∧ Below wx.heap.size wx w')
    (hw : d % 6 = 4) (h1 : 126 < c) (hg : validE ⟨m1, m2, m3, m4, m5, mt⟩ = true) (hv : validE ⟨3, 0, 0, 0, m5, [97, UInt8.ofNat c, 98]⟩ = false) :
    Calls Try.prog 9 #[.agg #[.int .u8 rk, .int .u8 ro, .int .u16 ra, .int .u16 rb, .string (Str rt)], .int .u8 d, .int .u8 c] w fun e w' => e = .returned (.bool true) ∧ Below w.heap.size w w' := by
  have hgo := fun wx => valid_w m1 m2 m3 m4 m5 mt wx hmt
  rw [hg] at hgo
  have hen := fun wx => encode_w 3 0 0 0 m5 [97, UInt8.ofNat c, 98] wx (by unfold maxLen; simp)
  rw [encE_no hv] at hen
  simp only at hen
  have hcc : (d : Int) % 6 = 4 := by omega
  have hc1 : (c : Int) ≤ 255 := by omega
  have g1 : 32 ≤ (c : Int) := by omega
  have g2 : decide ((c : Int) ≤ 126) = false := by simp; omega
  have Hgo := Lib.hid hgo
  have Hen := Lib.hid hen
  have Hm := Lib.hid hm
  clear hen hm hv hw hg hgo
  go_enter Try.func9, Try.ntmps9
  go_wp2_with (first
    | (go_at_call 10; refine (sanity_w _).mono ?_; rintro e w1 ⟨rfl, hb1⟩; have hx := Blk.below (Blk.new w 41 #[.int .u8 rk, .int .u8 ro, .int .u16 ra, .int .u16 rb, .string (Str rt)]) hb1 (by simp); have x0 := hx.c0 0 _ rfl; have x1 := hx.c0 1 _ rfl; have x2 := hx.c0 2 _ rfl; have x3 := hx.c0 3 _ rfl; have x4 := hx.c0 4 _ rfl; simp at x0 x1 x2 x3 x4; have Hb1 := Lib.hid hb1; clear hb1 hx)
    | (go_at_call 21; refine (Hm.out _).mono ?_; rintro e w2 ⟨rfl, hb2⟩; have Hb2 := Lib.hid hb2; clear hb2)
    | (go_at_call 17; refine (Hgo.out _).mono ?_; rintro e w3 ⟨rfl, hg3⟩; have he := Blk.below (Blk.new w2 23 #[.int .i64 m1, .int .i64 m2, .int .i64 m3, .int .i64 m4, .int .i64 m5, .string (Str mt)]) (hg3.below (Nat.le_refl _)) (by simp); have a0 := he.c0 0 _ rfl; have a1 := he.c0 1 _ rfl; have a2 := he.c0 2 _ rfl; have a3 := he.c0 3 _ rfl; have a4 := he.c0 4 _ rfl; have a5 := he.c0 5 _ rfl; simp at a0 a1 a2 a3 a4 a5; have lte := he.lt; have Hg3 := Lib.hid hg3; clear hg3 he)
    | (go_at_call 13; refine (Hen.out _).mono ?_; rintro e w4 ⟨rfl, hb4⟩; have Hb4 := Lib.hid hb4; clear hb4))
  go_ret
  refine ⟨rfl, ?_⟩
  have h1 := Hb1.out.size
  have h2 := Hb2.out.size
  have h3 := grown_size Hg3.out
  have h4 := Hb4.out.size
  simp at h1 h2 h3 h4
  exact (((((((below_box _).trans (Hb1.out.mono (by simp))).trans (Hb2.out.mono (by omega))).alloc (by omega) _).trans (Hg3.out.below (by simp; omega))).alloc (by omega) _).alloc (by simp; omega) _).trans (Hb4.out.mono (by simp; omega))

end Go.Proofs.Ytachicdkgkiiiaa
