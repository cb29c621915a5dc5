/-
  The walk of the law EntryLimits.
-/
import Derived.Test.YtachicdkgkiiiaaEWD
namespace Go.Proofs.Ytachicdkgkiiiaa
open Go.RowKit Go.Sort
set_option linter.unusedVariables false

theorem encE_yes {e : Ent} (h : validE e = true) : encE e = (valueE e, 0) := by unfold encE; rw [if_pos h]
theorem encE_no {e : Ent} (h : validE e = false) : encE e = ([], 30) := by unfold encE; rw [if_neg (by rw [h]; simp)]

set_option maxRecDepth 100000 in
set_option maxHeartbeats 1000000 in
theorem limits0in (w : World) (m1 m2 m3 m4 m5 n : Int) (mt : Bs) (rk ro ra rb : Int) (rt : Bs) (c : Nat) (hc : c < 256) (hn2 : -2147483648 ≤ n) (hn3 : n ≤ 2147483647) (hmt : mt.length ≤ maxLen)
    (hm : ∀ wx, Calls Try.prog 21 #[.agg #[.int .u8 rk, .int .u8 ro, .int .u16 ra, .int .u16 rb, .string (Str rt)]] wx fun e w' => e = .returned (.agg #[.int .i64 m1, .int .i64 m2, .int .i64 m3, .int .i64 m4, .int .i64 m5, .string (Str mt)]) ∧ Below wx.heap.size wx w')
    (hw : c % 4 = 0) (hn0 : 0 ≤ n) (hn1 : n ≤ 255) (hv : validE ⟨m1, m2, m3, m4, n, mt⟩ = true) :
    Calls Try.prog 8 #[.agg #[.int .u8 rk, .int .u8 ro, .int .u16 ra, .int .u16 rb, .string (Str rt)], .int .i32 n, .int .u8 c] w fun e w' => e = .returned (.bool true) ∧ Below w.heap.size w w' := by
  have hen := fun wx => encode_w m1 m2 m3 m4 n mt wx (by exact hmt)
  have hva := fun wx => valid_w m1 m2 m3 m4 n mt wx (by exact hmt)
  rw [encE_yes hv] at hen
  rw [hv] at hva
  simp only at hen
  have hcc : (c : Int) % 4 = 0 := by omega
  have Hen := Lib.hid hen
  have Hva := Lib.hid hva
  have Hm := Lib.hid hm
  clear hen hva hm hv hw
  go_enter Try.func8, Try.ntmps8
  go_wp2_with (first
    | (go_at_call 10; refine (sanity_w _).mono ?_; rintro e w1 ⟨rfl, hb1⟩; have hx := Blk.below (Blk.new w 41 #[.int .u8 rk, .int .u8 ro, .int .u16 ra, .int .u16 rb, .string (Str rt)]) hb1 (by simp); have x0 := hx.c0 0 _ rfl; have x1 := hx.c0 1 _ rfl; have x2 := hx.c0 2 _ rfl; have x3 := hx.c0 3 _ rfl; have x4 := hx.c0 4 _ rfl; simp at x0 x1 x2 x3 x4; have Hb1 := Lib.hid hb1; clear hb1 hx)
    | (go_at_call 21; refine (Hm.out _).mono ?_; rintro e w2 ⟨rfl, hb2⟩; have Hb2 := Lib.hid hb2; clear hb2)
    | (go_at_call 13; refine (Hen.out _).mono ?_; rintro e w3 ⟨rfl, hb3⟩; have hd := Blk.below (Blk.new w2 23 #[.int .i64 m1, .int .i64 m2, .int .i64 m3, .int .i64 m4, .int .i64 n, .string (Str mt)]) hb3 (by simp); have c0 := hd.c0 0 _ rfl; have c1 := hd.c0 1 _ rfl; have c2 := hd.c0 2 _ rfl; have c3 := hd.c0 3 _ rfl; have c4 := hd.c0 4 _ rfl; have c5 := hd.c0 5 _ rfl; simp at c0 c1 c2 c3 c4 c5; have Hb3 := Lib.hid hb3; clear hb3 hd)
    | (go_at_call 17; refine (Hva.out _).mono ?_; rintro e w4 ⟨rfl, hg4⟩; have Hg4 := Lib.hid hg4; clear hg4))
  go_ret
  refine ⟨rfl, ?_⟩
  have h1 := Hb1.out.size
  have h2 := Hb2.out.size
  have h3 := Hb3.out.size
  simp at h1 h2 h3
  exact (((((below_box _).trans (Hb1.out.mono (by simp))).trans (Hb2.out.mono (by omega))).alloc (by omega) _).trans (Hb3.out.mono (by simp; omega))).trans (Hg4.out.below (by omega))

set_option maxRecDepth 100000 in
set_option maxHeartbeats 1000000 in
theorem limits0lo (w : World) (m1 m2 m3 m4 m5 n : Int) (mt : Bs) (rk ro ra rb : Int) (rt : Bs) (c : Nat) (hc : c < 256) (hn2 : -2147483648 ≤ n) (hn3 : n ≤ 2147483647) (hmt : mt.length ≤ maxLen)
    (hm : ∀ wx, Calls Try.prog 21 #[.agg #[.int .u8 rk, .int .u8 ro, .int .u16 ra, .int .u16 rb, .string (Str rt)]] wx fun e w' => e = .returned (.agg #[.int .i64 m1, .int .i64 m2, .int .i64 m3, .int .i64 m4, .int .i64 m5, .string (Str mt)]) ∧ Below wx.heap.size wx w')
    (hw : c % 4 = 0) (hn0 : n < 0) (hv : validE ⟨m1, m2, m3, m4, n, mt⟩ = false) :
    Calls Try.prog 8 #[.agg #[.int .u8 rk, .int .u8 ro, .int .u16 ra, .int .u16 rb, .string (Str rt)], .int .i32 n, .int .u8 c] w fun e w' => e = .returned (.bool true) ∧ Below w.heap.size w w' := by
  have hen := fun wx => encode_w m1 m2 m3 m4 n mt wx (by exact hmt)
  have hva := fun wx => valid_w m1 m2 m3 m4 n mt wx (by exact hmt)
  rw [encE_no hv] at hen
  rw [hv] at hva
  simp only at hen
  have hcc : (c : Int) % 4 = 0 := by omega
  have Hen := Lib.hid hen
  have Hva := Lib.hid hva
  have Hm := Lib.hid hm
  clear hen hva hm hv hw
  go_enter Try.func8, Try.ntmps8
  go_wp2_with (first
    | (go_at_call 10; refine (sanity_w _).mono ?_; rintro e w1 ⟨rfl, hb1⟩; have hx := Blk.below (Blk.new w 41 #[.int .u8 rk, .int .u8 ro, .int .u16 ra, .int .u16 rb, .string (Str rt)]) hb1 (by simp); have x0 := hx.c0 0 _ rfl; have x1 := hx.c0 1 _ rfl; have x2 := hx.c0 2 _ rfl; have x3 := hx.c0 3 _ rfl; have x4 := hx.c0 4 _ rfl; simp at x0 x1 x2 x3 x4; have Hb1 := Lib.hid hb1; clear hb1 hx)
    | (go_at_call 21; refine (Hm.out _).mono ?_; rintro e w2 ⟨rfl, hb2⟩; have Hb2 := Lib.hid hb2; clear hb2)
    | (go_at_call 13; refine (Hen.out _).mono ?_; rintro e w3 ⟨rfl, hb3⟩; have hd := Blk.below (Blk.new w2 23 #[.int .i64 m1, .int .i64 m2, .int .i64 m3, .int .i64 m4, .int .i64 n, .string (Str mt)]) hb3 (by simp); have c0 := hd.c0 0 _ rfl; have c1 := hd.c0 1 _ rfl; have c2 := hd.c0 2 _ rfl; have c3 := hd.c0 3 _ rfl; have c4 := hd.c0 4 _ rfl; have c5 := hd.c0 5 _ rfl; simp at c0 c1 c2 c3 c4 c5; have Hb3 := Lib.hid hb3; clear hb3 hd)
    | (go_at_call 17; refine (Hva.out _).mono ?_; rintro e w4 ⟨rfl, hg4⟩; have Hg4 := Lib.hid hg4; clear hg4))
  go_ret
  refine ⟨rfl, ?_⟩
  have h1 := Hb1.out.size
  have h2 := Hb2.out.size
  have h3 := Hb3.out.size
  simp at h1 h2 h3
  exact (((((below_box _).trans (Hb1.out.mono (by simp))).trans (Hb2.out.mono (by omega))).alloc (by omega) _).trans (Hb3.out.mono (by simp; omega))).trans (Hg4.out.below (by omega))

set_option maxRecDepth 100000 in
set_option maxHeartbeats 1000000 in
theorem limits0hi (w : World) (m1 m2 m3 m4 m5 n : Int) (mt : Bs) (rk ro ra rb : Int) (rt : Bs) (c : Nat) (hc : c < 256) (hn2 : -2147483648 ≤ n) (hn3 : n ≤ 2147483647) (hmt : mt.length ≤ maxLen)
    (hm : ∀ wx, Calls Try.prog 21 #[.agg #[.int .u8 rk, .int .u8 ro, .int .u16 ra, .int .u16 rb, .string (Str rt)]] wx fun e w' => e = .returned (.agg #[.int .i64 m1, .int .i64 m2, .int .i64 m3, .int .i64 m4, .int .i64 m5, .string (Str mt)]) ∧ Below wx.heap.size wx w')
    (hw : c % 4 = 0) (hn0 : 0 ≤ n) (hn1 : 255 < n) (hv : validE ⟨m1, m2, m3, m4, n, mt⟩ = false) :
    Calls Try.prog 8 #[.agg #[.int .u8 rk, .int .u8 ro, .int .u16 ra, .int .u16 rb, .string (Str rt)], .int .i32 n, .int .u8 c] w fun e w' => e = .returned (.bool true) ∧ Below w.heap.size w w' := by
  have hen := fun wx => encode_w m1 m2 m3 m4 n mt wx (by exact hmt)
  have hva := fun wx => valid_w m1 m2 m3 m4 n mt wx (by exact hmt)
  rw [encE_no hv] at hen
  rw [hv] at hva
  simp only at hen
  have hcc : (c : Int) % 4 = 0 := by omega
  have hdn : decide (n ≤ 255) = false := by simp; omega
  have Hen := Lib.hid hen
  have Hva := Lib.hid hva
  have Hm := Lib.hid hm
  clear hen hva hm hv hw
  go_enter Try.func8, Try.ntmps8
  go_wp2_with (first
    | (go_at_call 10; refine (sanity_w _).mono ?_; rintro e w1 ⟨rfl, hb1⟩; have hx := Blk.below (Blk.new w 41 #[.int .u8 rk, .int .u8 ro, .int .u16 ra, .int .u16 rb, .string (Str rt)]) hb1 (by simp); have x0 := hx.c0 0 _ rfl; have x1 := hx.c0 1 _ rfl; have x2 := hx.c0 2 _ rfl; have x3 := hx.c0 3 _ rfl; have x4 := hx.c0 4 _ rfl; simp at x0 x1 x2 x3 x4; have Hb1 := Lib.hid hb1; clear hb1 hx)
    | (go_at_call 21; refine (Hm.out _).mono ?_; rintro e w2 ⟨rfl, hb2⟩; have Hb2 := Lib.hid hb2; clear hb2)
    | (go_at_call 13; refine (Hen.out _).mono ?_; rintro e w3 ⟨rfl, hb3⟩; have hd := Blk.below (Blk.new w2 23 #[.int .i64 m1, .int .i64 m2, .int .i64 m3, .int .i64 m4, .int .i64 n, .string (Str mt)]) hb3 (by simp); have c0 := hd.c0 0 _ rfl; have c1 := hd.c0 1 _ rfl; have c2 := hd.c0 2 _ rfl; have c3 := hd.c0 3 _ rfl; have c4 := hd.c0 4 _ rfl; have c5 := hd.c0 5 _ rfl; simp at c0 c1 c2 c3 c4 c5; have Hb3 := Lib.hid hb3; clear hb3 hd)
    | (go_at_call 17; refine (Hva.out _).mono ?_; rintro e w4 ⟨rfl, hg4⟩; have Hg4 := Lib.hid hg4; clear hg4))
  go_ret
  refine ⟨rfl, ?_⟩
  have h1 := Hb1.out.size
  have h2 := Hb2.out.size
  have h3 := Hb3.out.size
  simp at h1 h2 h3
  exact (((((below_box _).trans (Hb1.out.mono (by simp))).trans (Hb2.out.mono (by omega))).alloc (by omega) _).trans (Hb3.out.mono (by simp; omega))).trans (Hg4.out.below (by omega))

set_option maxRecDepth 100000 in
set_option maxHeartbeats 1000000 in
theorem limits1in (w : World) (m1 m2 m3 m4 m5 n : Int) (mt : Bs) (rk ro ra rb : Int) (rt : Bs) (c : Nat) (hc : c < 256) (hn2 : -2147483648 ≤ n) (hn3 : n ≤ 2147483647) (hmt : mt.length ≤ maxLen)
    (hm : ∀ wx, Calls Try.prog 21 #[.agg #[.int .u8 rk, .int .u8 ro, .int .u16 ra, .int .u16 rb, .string (Str rt)]] wx fun e w' => e = .returned (.agg #[.int .i64 m1, .int .i64 m2, .int .i64 m3, .int .i64 m4, .int .i64 m5, .string (Str mt)]) ∧ Below wx.heap.size wx w')
    (hw : c % 4 = 1) (hn0 : 0 ≤ n) (hn1 : n ≤ 60000) (hv : validE ⟨2, n, 1, 0, 0, []⟩ = true) :
    Calls Try.prog 8 #[.agg #[.int .u8 rk, .int .u8 ro, .int .u16 ra, .int .u16 rb, .string (Str rt)], .int .i32 n, .int .u8 c] w fun e w' => e = .returned (.bool true) ∧ Below w.heap.size w w' := by
  have hen := fun wx => encode_w 2 n 1 0 0 [] wx (by unfold maxLen; simp)
  have hva := fun wx => valid_w 2 n 1 0 0 [] wx (by unfold maxLen; simp)
  rw [encE_yes hv] at hen
  rw [hv] at hva
  simp only at hen
  have hcc : (c : Int) % 4 = 1 := by omega
  have Hen := Lib.hid hen
  have Hva := Lib.hid hva
  have Hm := Lib.hid hm
  clear hen hva hm hv hw
  go_enter Try.func8, Try.ntmps8
  go_wp2_with (first
    | (go_at_call 10; refine (sanity_w _).mono ?_; rintro e w1 ⟨rfl, hb1⟩; have hx := Blk.below (Blk.new w 41 #[.int .u8 rk, .int .u8 ro, .int .u16 ra, .int .u16 rb, .string (Str rt)]) hb1 (by simp); have x0 := hx.c0 0 _ rfl; have x1 := hx.c0 1 _ rfl; have x2 := hx.c0 2 _ rfl; have x3 := hx.c0 3 _ rfl; have x4 := hx.c0 4 _ rfl; simp at x0 x1 x2 x3 x4; have Hb1 := Lib.hid hb1; clear hb1 hx)
    | (go_at_call 21; refine (Hm.out _).mono ?_; rintro e w2 ⟨rfl, hb2⟩; have Hb2 := Lib.hid hb2; clear hb2)
    | (go_at_call 13; refine (Hen.out _).mono ?_; rintro e w3 ⟨rfl, hb3⟩; have hd := Blk.below (Blk.new w2 23 #[.int .i64 2, .int .i64 n, .int .i64 1, .int .i64 0, .int .i64 0, .string ⟨#[]⟩]) hb3 (by simp); have c0 := hd.c0 0 _ rfl; have c1 := hd.c0 1 _ rfl; have c2 := hd.c0 2 _ rfl; have c3 := hd.c0 3 _ rfl; have c4 := hd.c0 4 _ rfl; have c5 := hd.c0 5 _ rfl; simp at c0 c1 c2 c3 c4 c5; have Hb3 := Lib.hid hb3; clear hb3 hd)
    | (go_at_call 17; refine (Hva.out _).mono ?_; rintro e w4 ⟨rfl, hg4⟩; have Hg4 := Lib.hid hg4; clear hg4))
  go_ret
  refine ⟨rfl, ?_⟩
  have h1 := Hb1.out.size
  have h2 := Hb2.out.size
  have h3 := Hb3.out.size
  simp at h1 h2 h3
  exact (((((below_box _).trans (Hb1.out.mono (by simp))).trans (Hb2.out.mono (by omega))).alloc (by omega) _).trans (Hb3.out.mono (by simp; omega))).trans (Hg4.out.below (by omega))

set_option maxRecDepth 100000 in
set_option maxHeartbeats 1000000 in
theorem limits1lo (w : World) (m1 m2 m3 m4 m5 n : Int) (mt : Bs) (rk ro ra rb : Int) (rt : Bs) (c : Nat) (hc : c < 256) (hn2 : -2147483648 ≤ n) (hn3 : n ≤ 2147483647) (hmt : mt.length ≤ maxLen)
    (hm : ∀ wx, Calls Try.prog 21 #[.agg #[.int .u8 rk, .int .u8 ro, .int .u16 ra, .int .u16 rb, .string (Str rt)]] wx fun e w' => e = .returned (.agg #[.int .i64 m1, .int .i64 m2, .int .i64 m3, .int .i64 m4, .int .i64 m5, .string (Str mt)]) ∧ Below wx.heap.size wx w')
    (hw : c % 4 = 1) (hn0 : n < 0) (hv : validE ⟨2, n, 1, 0, 0, []⟩ = false) :
    Calls Try.prog 8 #[.agg #[.int .u8 rk, .int .u8 ro, .int .u16 ra, .int .u16 rb, .string (Str rt)], .int .i32 n, .int .u8 c] w fun e w' => e = .returned (.bool true) ∧ Below w.heap.size w w' := by
  have hen := fun wx => encode_w 2 n 1 0 0 [] wx (by unfold maxLen; simp)
  have hva := fun wx => valid_w 2 n 1 0 0 [] wx (by unfold maxLen; simp)
  rw [encE_no hv] at hen
  rw [hv] at hva
  simp only at hen
  have hcc : (c : Int) % 4 = 1 := by omega
  have Hen := Lib.hid hen
  have Hva := Lib.hid hva
  have Hm := Lib.hid hm
  clear hen hva hm hv hw
  go_enter Try.func8, Try.ntmps8
  go_wp2_with (first
    | (go_at_call 10; refine (sanity_w _).mono ?_; rintro e w1 ⟨rfl, hb1⟩; have hx := Blk.below (Blk.new w 41 #[.int .u8 rk, .int .u8 ro, .int .u16 ra, .int .u16 rb, .string (Str rt)]) hb1 (by simp); have x0 := hx.c0 0 _ rfl; have x1 := hx.c0 1 _ rfl; have x2 := hx.c0 2 _ rfl; have x3 := hx.c0 3 _ rfl; have x4 := hx.c0 4 _ rfl; simp at x0 x1 x2 x3 x4; have Hb1 := Lib.hid hb1; clear hb1 hx)
    | (go_at_call 21; refine (Hm.out _).mono ?_; rintro e w2 ⟨rfl, hb2⟩; have Hb2 := Lib.hid hb2; clear hb2)
    | (go_at_call 13; refine (Hen.out _).mono ?_; rintro e w3 ⟨rfl, hb3⟩; have hd := Blk.below (Blk.new w2 23 #[.int .i64 2, .int .i64 n, .int .i64 1, .int .i64 0, .int .i64 0, .string ⟨#[]⟩]) hb3 (by simp); have c0 := hd.c0 0 _ rfl; have c1 := hd.c0 1 _ rfl; have c2 := hd.c0 2 _ rfl; have c3 := hd.c0 3 _ rfl; have c4 := hd.c0 4 _ rfl; have c5 := hd.c0 5 _ rfl; simp at c0 c1 c2 c3 c4 c5; have Hb3 := Lib.hid hb3; clear hb3 hd)
    | (go_at_call 17; refine (Hva.out _).mono ?_; rintro e w4 ⟨rfl, hg4⟩; have Hg4 := Lib.hid hg4; clear hg4))
  go_ret
  refine ⟨rfl, ?_⟩
  have h1 := Hb1.out.size
  have h2 := Hb2.out.size
  have h3 := Hb3.out.size
  simp at h1 h2 h3
  exact (((((below_box _).trans (Hb1.out.mono (by simp))).trans (Hb2.out.mono (by omega))).alloc (by omega) _).trans (Hb3.out.mono (by simp; omega))).trans (Hg4.out.below (by omega))

set_option maxRecDepth 100000 in
set_option maxHeartbeats 1000000 in
theorem limits1hi (w : World) (m1 m2 m3 m4 m5 n : Int) (mt : Bs) (rk ro ra rb : Int) (rt : Bs) (c : Nat) (hc : c < 256) (hn2 : -2147483648 ≤ n) (hn3 : n ≤ 2147483647) (hmt : mt.length ≤ maxLen)
    (hm : ∀ wx, Calls Try.prog 21 #[.agg #[.int .u8 rk, .int .u8 ro, .int .u16 ra, .int .u16 rb, .string (Str rt)]] wx fun e w' => e = .returned (.agg #[.int .i64 m1, .int .i64 m2, .int .i64 m3, .int .i64 m4, .int .i64 m5, .string (Str mt)]) ∧ Below wx.heap.size wx w')
    (hw : c % 4 = 1) (hn0 : 0 ≤ n) (hn1 : 60000 < n) (hv : validE ⟨2, n, 1, 0, 0, []⟩ = false) :
    Calls Try.prog 8 #[.agg #[.int .u8 rk, .int .u8 ro, .int .u16 ra, .int .u16 rb, .string (Str rt)], .int .i32 n, .int .u8 c] w fun e w' => e = .returned (.bool true) ∧ Below w.heap.size w w' := by
  have hen := fun wx => encode_w 2 n 1 0 0 [] wx (by unfold maxLen; simp)
  have hva := fun wx => valid_w 2 n 1 0 0 [] wx (by unfold maxLen; simp)
  rw [encE_no hv] at hen
  rw [hv] at hva
  simp only at hen
  have hcc : (c : Int) % 4 = 1 := by omega
  have hdn : decide (n ≤ 60000) = false := by simp; omega
  have Hen := Lib.hid hen
  have Hva := Lib.hid hva
  have Hm := Lib.hid hm
  clear hen hva hm hv hw
  go_enter Try.func8, Try.ntmps8
  go_wp2_with (first
    | (go_at_call 10; refine (sanity_w _).mono ?_; rintro e w1 ⟨rfl, hb1⟩; have hx := Blk.below (Blk.new w 41 #[.int .u8 rk, .int .u8 ro, .int .u16 ra, .int .u16 rb, .string (Str rt)]) hb1 (by simp); have x0 := hx.c0 0 _ rfl; have x1 := hx.c0 1 _ rfl; have x2 := hx.c0 2 _ rfl; have x3 := hx.c0 3 _ rfl; have x4 := hx.c0 4 _ rfl; simp at x0 x1 x2 x3 x4; have Hb1 := Lib.hid hb1; clear hb1 hx)
    | (go_at_call 21; refine (Hm.out _).mono ?_; rintro e w2 ⟨rfl, hb2⟩; have Hb2 := Lib.hid hb2; clear hb2)
    | (go_at_call 13; refine (Hen.out _).mono ?_; rintro e w3 ⟨rfl, hb3⟩; have hd := Blk.below (Blk.new w2 23 #[.int .i64 2, .int .i64 n, .int .i64 1, .int .i64 0, .int .i64 0, .string ⟨#[]⟩]) hb3 (by simp); have c0 := hd.c0 0 _ rfl; have c1 := hd.c0 1 _ rfl; have c2 := hd.c0 2 _ rfl; have c3 := hd.c0 3 _ rfl; have c4 := hd.c0 4 _ rfl; have c5 := hd.c0 5 _ rfl; simp at c0 c1 c2 c3 c4 c5; have Hb3 := Lib.hid hb3; clear hb3 hd)
    | (go_at_call 17; refine (Hva.out _).mono ?_; rintro e w4 ⟨rfl, hg4⟩; have Hg4 := Lib.hid hg4; clear hg4))
  go_ret
  refine ⟨rfl, ?_⟩
  have h1 := Hb1.out.size
  have h2 := Hb2.out.size
  have h3 := Hb3.out.size
  simp at h1 h2 h3
  exact (((((below_box _).trans (Hb1.out.mono (by simp))).trans (Hb2.out.mono (by omega))).alloc (by omega) _).trans (Hb3.out.mono (by simp; omega))).trans (Hg4.out.below (by omega))

set_option maxRecDepth 100000 in
set_option maxHeartbeats 1000000 in
theorem limits2in (w : World) (m1 m2 m3 m4 m5 n : Int) (mt : Bs) (rk ro ra rb : Int) (rt : Bs) (c : Nat) (hc : c < 256) (hn2 : -2147483648 ≤ n) (hn3 : n ≤ 2147483647) (hmt : mt.length ≤ maxLen)
    (hm : ∀ wx, Calls Try.prog 21 #[.agg #[.int .u8 rk, .int .u8 ro, .int .u16 ra, .int .u16 rb, .string (Str rt)]] wx fun e w' => e = .returned (.agg #[.int .i64 m1, .int .i64 m2, .int .i64 m3, .int .i64 m4, .int .i64 m5, .string (Str mt)]) ∧ Below wx.heap.size wx w')
    (hw : c % 4 = 2) (hn0 : 0 ≤ n) (hn1 : n ≤ 1000) (hv : validE ⟨2, 0, n, 0, 3, []⟩ = true) :
    Calls Try.prog 8 #[.agg #[.int .u8 rk, .int .u8 ro, .int .u16 ra, .int .u16 rb, .string (Str rt)], .int .i32 n, .int .u8 c] w fun e w' => e = .returned (.bool true) ∧ Below w.heap.size w w' := by
  have hen := fun wx => encode_w 2 0 n 0 3 [] wx (by unfold maxLen; simp)
  have hva := fun wx => valid_w 2 0 n 0 3 [] wx (by unfold maxLen; simp)
  rw [encE_yes hv] at hen
  rw [hv] at hva
  simp only at hen
  have hcc : (c : Int) % 4 = 2 := by omega
  have Hen := Lib.hid hen
  have Hva := Lib.hid hva
  have Hm := Lib.hid hm
  clear hen hva hm hv hw
  go_enter Try.func8, Try.ntmps8
  go_wp2_with (first
    | (go_at_call 10; refine (sanity_w _).mono ?_; rintro e w1 ⟨rfl, hb1⟩; have hx := Blk.below (Blk.new w 41 #[.int .u8 rk, .int .u8 ro, .int .u16 ra, .int .u16 rb, .string (Str rt)]) hb1 (by simp); have x0 := hx.c0 0 _ rfl; have x1 := hx.c0 1 _ rfl; have x2 := hx.c0 2 _ rfl; have x3 := hx.c0 3 _ rfl; have x4 := hx.c0 4 _ rfl; simp at x0 x1 x2 x3 x4; have Hb1 := Lib.hid hb1; clear hb1 hx)
    | (go_at_call 21; refine (Hm.out _).mono ?_; rintro e w2 ⟨rfl, hb2⟩; have Hb2 := Lib.hid hb2; clear hb2)
    | (go_at_call 13; refine (Hen.out _).mono ?_; rintro e w3 ⟨rfl, hb3⟩; have hd := Blk.below (Blk.new w2 23 #[.int .i64 2, .int .i64 0, .int .i64 n, .int .i64 0, .int .i64 3, .string ⟨#[]⟩]) hb3 (by simp); have c0 := hd.c0 0 _ rfl; have c1 := hd.c0 1 _ rfl; have c2 := hd.c0 2 _ rfl; have c3 := hd.c0 3 _ rfl; have c4 := hd.c0 4 _ rfl; have c5 := hd.c0 5 _ rfl; simp at c0 c1 c2 c3 c4 c5; have Hb3 := Lib.hid hb3; clear hb3 hd)
    | (go_at_call 17; refine (Hva.out _).mono ?_; rintro e w4 ⟨rfl, hg4⟩; have Hg4 := Lib.hid hg4; clear hg4))
  go_ret
  refine ⟨rfl, ?_⟩
  have h1 := Hb1.out.size
  have h2 := Hb2.out.size
  have h3 := Hb3.out.size
  simp at h1 h2 h3
  exact (((((below_box _).trans (Hb1.out.mono (by simp))).trans (Hb2.out.mono (by omega))).alloc (by omega) _).trans (Hb3.out.mono (by simp; omega))).trans (Hg4.out.below (by omega))

set_option maxRecDepth 100000 in
set_option maxHeartbeats 1000000 in
theorem limits2lo (w : World) (m1 m2 m3 m4 m5 n : Int) (mt : Bs) (rk ro ra rb : Int) (rt : Bs) (c : Nat) (hc : c < 256) (hn2 : -2147483648 ≤ n) (hn3 : n ≤ 2147483647) (hmt : mt.length ≤ maxLen)
    (hm : ∀ wx, Calls Try.prog 21 #[.agg #[.int .u8 rk, .int .u8 ro, .int .u16 ra, .int .u16 rb, .string (Str rt)]] wx fun e w' => e = .returned (.agg #[.int .i64 m1, .int .i64 m2, .int .i64 m3, .int .i64 m4, .int .i64 m5, .string (Str mt)]) ∧ Below wx.heap.size wx w')
    (hw : c % 4 = 2) (hn0 : n < 0) (hv : validE ⟨2, 0, n, 0, 3, []⟩ = false) :
    Calls Try.prog 8 #[.agg #[.int .u8 rk, .int .u8 ro, .int .u16 ra, .int .u16 rb, .string (Str rt)], .int .i32 n, .int .u8 c] w fun e w' => e = .returned (.bool true) ∧ Below w.heap.size w w' := by
  have hen := fun wx => encode_w 2 0 n 0 3 [] wx (by unfold maxLen; simp)
  have hva := fun wx => valid_w 2 0 n 0 3 [] wx (by unfold maxLen; simp)
  rw [encE_no hv] at hen
  rw [hv] at hva
  simp only at hen
  have hcc : (c : Int) % 4 = 2 := by omega
  have Hen := Lib.hid hen
  have Hva := Lib.hid hva
  have Hm := Lib.hid hm
  clear hen hva hm hv hw
  go_enter Try.func8, Try.ntmps8
  go_wp2_with (first
    | (go_at_call 10; refine (sanity_w _).mono ?_; rintro e w1 ⟨rfl, hb1⟩; have hx := Blk.below (Blk.new w 41 #[.int .u8 rk, .int .u8 ro, .int .u16 ra, .int .u16 rb, .string (Str rt)]) hb1 (by simp); have x0 := hx.c0 0 _ rfl; have x1 := hx.c0 1 _ rfl; have x2 := hx.c0 2 _ rfl; have x3 := hx.c0 3 _ rfl; have x4 := hx.c0 4 _ rfl; simp at x0 x1 x2 x3 x4; have Hb1 := Lib.hid hb1; clear hb1 hx)
    | (go_at_call 21; refine (Hm.out _).mono ?_; rintro e w2 ⟨rfl, hb2⟩; have Hb2 := Lib.hid hb2; clear hb2)
    | (go_at_call 13; refine (Hen.out _).mono ?_; rintro e w3 ⟨rfl, hb3⟩; have hd := Blk.below (Blk.new w2 23 #[.int .i64 2, .int .i64 0, .int .i64 n, .int .i64 0, .int .i64 3, .string ⟨#[]⟩]) hb3 (by simp); have c0 := hd.c0 0 _ rfl; have c1 := hd.c0 1 _ rfl; have c2 := hd.c0 2 _ rfl; have c3 := hd.c0 3 _ rfl; have c4 := hd.c0 4 _ rfl; have c5 := hd.c0 5 _ rfl; simp at c0 c1 c2 c3 c4 c5; have Hb3 := Lib.hid hb3; clear hb3 hd)
    | (go_at_call 17; refine (Hva.out _).mono ?_; rintro e w4 ⟨rfl, hg4⟩; have Hg4 := Lib.hid hg4; clear hg4))
  go_ret
  refine ⟨rfl, ?_⟩
  have h1 := Hb1.out.size
  have h2 := Hb2.out.size
  have h3 := Hb3.out.size
  simp at h1 h2 h3
  exact (((((below_box _).trans (Hb1.out.mono (by simp))).trans (Hb2.out.mono (by omega))).alloc (by omega) _).trans (Hb3.out.mono (by simp; omega))).trans (Hg4.out.below (by omega))

set_option maxRecDepth 100000 in
set_option maxHeartbeats 1000000 in
theorem limits2hi (w : World) (m1 m2 m3 m4 m5 n : Int) (mt : Bs) (rk ro ra rb : Int) (rt : Bs) (c : Nat) (hc : c < 256) (hn2 : -2147483648 ≤ n) (hn3 : n ≤ 2147483647) (hmt : mt.length ≤ maxLen)
    (hm : ∀ wx, Calls Try.prog 21 #[.agg #[.int .u8 rk, .int .u8 ro, .int .u16 ra, .int .u16 rb, .string (Str rt)]] wx fun e w' => e = .returned (.agg #[.int .i64 m1, .int .i64 m2, .int .i64 m3, .int .i64 m4, .int .i64 m5, .string (Str mt)]) ∧ Below wx.heap.size wx w')
    (hw : c % 4 = 2) (hn0 : 0 ≤ n) (hn1 : 1000 < n) (hv : validE ⟨2, 0, n, 0, 3, []⟩ = false) :
    Calls Try.prog 8 #[.agg #[.int .u8 rk, .int .u8 ro, .int .u16 ra, .int .u16 rb, .string (Str rt)], .int .i32 n, .int .u8 c] w fun e w' => e = .returned (.bool true) ∧ Below w.heap.size w w' := by
  have hen := fun wx => encode_w 2 0 n 0 3 [] wx (by unfold maxLen; simp)
  have hva := fun wx => valid_w 2 0 n 0 3 [] wx (by unfold maxLen; simp)
  rw [encE_no hv] at hen
  rw [hv] at hva
  simp only at hen
  have hcc : (c : Int) % 4 = 2 := by omega
  have hdn : decide (n ≤ 1000) = false := by simp; omega
  have Hen := Lib.hid hen
  have Hva := Lib.hid hva
  have Hm := Lib.hid hm
  clear hen hva hm hv hw
  go_enter Try.func8, Try.ntmps8
  go_wp2_with (first
    | (go_at_call 10; refine (sanity_w _).mono ?_; rintro e w1 ⟨rfl, hb1⟩; have hx := Blk.below (Blk.new w 41 #[.int .u8 rk, .int .u8 ro, .int .u16 ra, .int .u16 rb, .string (Str rt)]) hb1 (by simp); have x0 := hx.c0 0 _ rfl; have x1 := hx.c0 1 _ rfl; have x2 := hx.c0 2 _ rfl; have x3 := hx.c0 3 _ rfl; have x4 := hx.c0 4 _ rfl; simp at x0 x1 x2 x3 x4; have Hb1 := Lib.hid hb1; clear hb1 hx)
    | (go_at_call 21; refine (Hm.out _).mono ?_; rintro e w2 ⟨rfl, hb2⟩; have Hb2 := Lib.hid hb2; clear hb2)
    | (go_at_call 13; refine (Hen.out _).mono ?_; rintro e w3 ⟨rfl, hb3⟩; have hd := Blk.below (Blk.new w2 23 #[.int .i64 2, .int .i64 0, .int .i64 n, .int .i64 0, .int .i64 3, .string ⟨#[]⟩]) hb3 (by simp); have c0 := hd.c0 0 _ rfl; have c1 := hd.c0 1 _ rfl; have c2 := hd.c0 2 _ rfl; have c3 := hd.c0 3 _ rfl; have c4 := hd.c0 4 _ rfl; have c5 := hd.c0 5 _ rfl; simp at c0 c1 c2 c3 c4 c5; have Hb3 := Lib.hid hb3; clear hb3 hd)
    | (go_at_call 17; refine (Hva.out _).mono ?_; rintro e w4 ⟨rfl, hg4⟩; have Hg4 := Lib.hid hg4; clear hg4))
  go_ret
  refine ⟨rfl, ?_⟩
  have h1 := Hb1.out.size
  have h2 := Hb2.out.size
  have h3 := Hb3.out.size
  simp at h1 h2 h3
  exact (((((below_box _).trans (Hb1.out.mono (by simp))).trans (Hb2.out.mono (by omega))).alloc (by omega) _).trans (Hb3.out.mono (by simp; omega))).trans (Hg4.out.below (by omega))

set_option maxRecDepth 100000 in
set_option maxHeartbeats 1000000 in
theorem limits3in (w : World) (m1 m2 m3 m4 m5 n : Int) (mt : Bs) (rk ro ra rb : Int) (rt : Bs) (c : Nat) (hc : c < 256) (hn2 : -2147483648 ≤ n) (hn3 : n ≤ 2147483647) (hmt : mt.length ≤ maxLen)
    (hm : ∀ wx, Calls Try.prog 21 #[.agg #[.int .u8 rk, .int .u8 ro, .int .u16 ra, .int .u16 rb, .string (Str rt)]] wx fun e w' => e = .returned (.agg #[.int .i64 m1, .int .i64 m2, .int .i64 m3, .int .i64 m4, .int .i64 m5, .string (Str mt)]) ∧ Below wx.heap.size wx w')
    (hw : c % 4 = 3) (hn0 : 0 ≤ n) (hn1 : n ≤ 2147483647) (hv : validE ⟨4, 0, 0, n, 0, []⟩ = true) :
    Calls Try.prog 8 #[.agg #[.int .u8 rk, .int .u8 ro, .int .u16 ra, .int .u16 rb, .string (Str rt)], .int .i32 n, .int .u8 c] w fun e w' => e = .returned (.bool true) ∧ Below w.heap.size w w' := by
  have hen := fun wx => encode_w 4 0 0 n 0 [] wx (by unfold maxLen; simp)
  have hva := fun wx => valid_w 4 0 0 n 0 [] wx (by unfold maxLen; simp)
  rw [encE_yes hv] at hen
  rw [hv] at hva
  simp only at hen
  have hcc : (c : Int) % 4 = 3 := by omega
  have Hen := Lib.hid hen
  have Hva := Lib.hid hva
  have Hm := Lib.hid hm
  clear hen hva hm hv hw
  go_enter Try.func8, Try.ntmps8
  go_wp2_with (first
    | (go_at_call 10; refine (sanity_w _).mono ?_; rintro e w1 ⟨rfl, hb1⟩; have hx := Blk.below (Blk.new w 41 #[.int .u8 rk, .int .u8 ro, .int .u16 ra, .int .u16 rb, .string (Str rt)]) hb1 (by simp); have x0 := hx.c0 0 _ rfl; have x1 := hx.c0 1 _ rfl; have x2 := hx.c0 2 _ rfl; have x3 := hx.c0 3 _ rfl; have x4 := hx.c0 4 _ rfl; simp at x0 x1 x2 x3 x4; have Hb1 := Lib.hid hb1; clear hb1 hx)
    | (go_at_call 21; refine (Hm.out _).mono ?_; rintro e w2 ⟨rfl, hb2⟩; have Hb2 := Lib.hid hb2; clear hb2)
    | (go_at_call 13; refine (Hen.out _).mono ?_; rintro e w3 ⟨rfl, hb3⟩; have hd := Blk.below (Blk.new w2 23 #[.int .i64 4, .int .i64 0, .int .i64 0, .int .i64 n, .int .i64 0, .string ⟨#[]⟩]) hb3 (by simp); have c0 := hd.c0 0 _ rfl; have c1 := hd.c0 1 _ rfl; have c2 := hd.c0 2 _ rfl; have c3 := hd.c0 3 _ rfl; have c4 := hd.c0 4 _ rfl; have c5 := hd.c0 5 _ rfl; simp at c0 c1 c2 c3 c4 c5; have Hb3 := Lib.hid hb3; clear hb3 hd)
    | (go_at_call 17; refine (Hva.out _).mono ?_; rintro e w4 ⟨rfl, hg4⟩; have Hg4 := Lib.hid hg4; clear hg4))
  go_ret
  refine ⟨rfl, ?_⟩
  have h1 := Hb1.out.size
  have h2 := Hb2.out.size
  have h3 := Hb3.out.size
  simp at h1 h2 h3
  exact (((((below_box _).trans (Hb1.out.mono (by simp))).trans (Hb2.out.mono (by omega))).alloc (by omega) _).trans (Hb3.out.mono (by simp; omega))).trans (Hg4.out.below (by omega))

set_option maxRecDepth 100000 in
set_option maxHeartbeats 1000000 in
theorem limits3lo (w : World) (m1 m2 m3 m4 m5 n : Int) (mt : Bs) (rk ro ra rb : Int) (rt : Bs) (c : Nat) (hc : c < 256) (hn2 : -2147483648 ≤ n) (hn3 : n ≤ 2147483647) (hmt : mt.length ≤ maxLen)
    (hm : ∀ wx, Calls Try.prog 21 #[.agg #[.int .u8 rk, .int .u8 ro, .int .u16 ra, .int .u16 rb, .string (Str rt)]] wx fun e w' => e = .returned (.agg #[.int .i64 m1, .int .i64 m2, .int .i64 m3, .int .i64 m4, .int .i64 m5, .string (Str mt)]) ∧ Below wx.heap.size wx w')
    (hw : c % 4 = 3) (hn0 : n < 0) (hv : validE ⟨4, 0, 0, n, 0, []⟩ = false) :
    Calls Try.prog 8 #[.agg #[.int .u8 rk, .int .u8 ro, .int .u16 ra, .int .u16 rb, .string (Str rt)], .int .i32 n, .int .u8 c] w fun e w' => e = .returned (.bool true) ∧ Below w.heap.size w w' := by
  have hen := fun wx => encode_w 4 0 0 n 0 [] wx (by unfold maxLen; simp)
  have hva := fun wx => valid_w 4 0 0 n 0 [] wx (by unfold maxLen; simp)
  rw [encE_no hv] at hen
  rw [hv] at hva
  simp only at hen
  have hcc : (c : Int) % 4 = 3 := by omega
  have Hen := Lib.hid hen
  have Hva := Lib.hid hva
  have Hm := Lib.hid hm
  clear hen hva hm hv hw
  go_enter Try.func8, Try.ntmps8
  go_wp2_with (first
    | (go_at_call 10; refine (sanity_w _).mono ?_; rintro e w1 ⟨rfl, hb1⟩; have hx := Blk.below (Blk.new w 41 #[.int .u8 rk, .int .u8 ro, .int .u16 ra, .int .u16 rb, .string (Str rt)]) hb1 (by simp); have x0 := hx.c0 0 _ rfl; have x1 := hx.c0 1 _ rfl; have x2 := hx.c0 2 _ rfl; have x3 := hx.c0 3 _ rfl; have x4 := hx.c0 4 _ rfl; simp at x0 x1 x2 x3 x4; have Hb1 := Lib.hid hb1; clear hb1 hx)
    | (go_at_call 21; refine (Hm.out _).mono ?_; rintro e w2 ⟨rfl, hb2⟩; have Hb2 := Lib.hid hb2; clear hb2)
    | (go_at_call 13; refine (Hen.out _).mono ?_; rintro e w3 ⟨rfl, hb3⟩; have hd := Blk.below (Blk.new w2 23 #[.int .i64 4, .int .i64 0, .int .i64 0, .int .i64 n, .int .i64 0, .string ⟨#[]⟩]) hb3 (by simp); have c0 := hd.c0 0 _ rfl; have c1 := hd.c0 1 _ rfl; have c2 := hd.c0 2 _ rfl; have c3 := hd.c0 3 _ rfl; have c4 := hd.c0 4 _ rfl; have c5 := hd.c0 5 _ rfl; simp at c0 c1 c2 c3 c4 c5; have Hb3 := Lib.hid hb3; clear hb3 hd)
    | (go_at_call 17; refine (Hva.out _).mono ?_; rintro e w4 ⟨rfl, hg4⟩; have Hg4 := Lib.hid hg4; clear hg4))
  go_ret
  refine ⟨rfl, ?_⟩
  have h1 := Hb1.out.size
  have h2 := Hb2.out.size
  have h3 := Hb3.out.size
  simp at h1 h2 h3
  exact (((((below_box _).trans (Hb1.out.mono (by simp))).trans (Hb2.out.mono (by omega))).alloc (by omega) _).trans (Hb3.out.mono (by simp; omega))).trans (Hg4.out.below (by omega))

theorem madeE_len (k o a b : Nat) (t : Bs) : (madeE k o a b t).text.length ≤ 50 := by
  unfold madeE
  split
  · simp
  · split
    · exact (madeT_len t).2
    · split <;> simp

theorem entryLimits_walk (w : World) (v0 : Value) (x : RawE) (h0 : IsRawE w v0 x) (v1 : Value) (n : Int) (h1 : IsI32 w v1 n) (v2 : Value) (c : Nat) (h2 : IsU8 w v2 c) :
    Calls Try.prog 8 #[v0, v1, v2] w fun e w' => e = .returned (.bool true) ∧ Below w.heap.size w w' := by
  obtain ⟨rk, ro, ra, rb, rt⟩ := x
  obtain ⟨rfl, hk, ho, ha, hb, ht⟩ := h0
  obtain ⟨rfl, hn2, hn3⟩ := h1
  obtain ⟨rfl, hc⟩ := h2
  simp only at hk ho ha hb ht
  have hm := fun wx => made_w rk ro ra rb rt wx hk ho ha hb ht
  have hv := madeE_valid rk ro ra rb rt ho ha
  have hl := madeE_len rk ro ra rb rt
  generalize madeE rk ro ra rb rt = m at *
  obtain ⟨m1, m2, m3, m4, m5, mt⟩ := m
  simp only at hm hl
  have hmt : mt.length ≤ maxLen := by unfold maxLen; omega
  by_cases c0 : c % 4 = 0
  · have hf : fieldsB ⟨m1, m2, m3, m4, n, mt⟩ = true := by
      have h : fieldsB ⟨m1, m2, m3, m4, m5, mt⟩ = true := by unfold validE at hv; simp only [Bool.and_eq_true] at hv; exact hv.2
      exact h
    by_cases a : n < 0
    · exact limits0lo w m1 m2 m3 m4 m5 n mt rk ro ra rb rt c hc hn2 hn3 hmt hm c0 a (by unfold validE inB; simp; omega)
    · by_cases b : 255 < n
      · exact limits0hi w m1 m2 m3 m4 m5 n mt rk ro ra rb rt c hc hn2 hn3 hmt hm c0 (by omega) b (by unfold validE inB; simp; omega)
      · exact limits0in w m1 m2 m3 m4 m5 n mt rk ro ra rb rt c hc hn2 hn3 hmt hm c0 (by omega) (by omega) (by unfold validE inB; simp [hf]; omega)
  · by_cases c1 : c % 4 = 1
    · by_cases a : n < 0
      · exact limits1lo w m1 m2 m3 m4 m5 n mt rk ro ra rb rt c hc hn2 hn3 hmt hm c1 a (by simp [validE, fieldsB, fileB, inB]; omega)
      · by_cases b : 60000 < n
        · exact limits1hi w m1 m2 m3 m4 m5 n mt rk ro ra rb rt c hc hn2 hn3 hmt hm c1 (by omega) b (by simp [validE, fieldsB, fileB, inB]; omega)
        · exact limits1in w m1 m2 m3 m4 m5 n mt rk ro ra rb rt c hc hn2 hn3 hmt hm c1 (by omega) (by omega) (by simp [validE, fieldsB, fileB, inB]; omega)
    · by_cases c2 : c % 4 = 2
      · by_cases a : n < 0
        · exact limits2lo w m1 m2 m3 m4 m5 n mt rk ro ra rb rt c hc hn2 hn3 hmt hm c2 a (by simp [validE, fieldsB, fileB, inB]; omega)
        · by_cases b : 1000 < n
          · exact limits2hi w m1 m2 m3 m4 m5 n mt rk ro ra rb rt c hc hn2 hn3 hmt hm c2 (by omega) b (by simp [validE, fieldsB, fileB, inB]; omega)
          · exact limits2in w m1 m2 m3 m4 m5 n mt rk ro ra rb rt c hc hn2 hn3 hmt hm c2 (by omega) (by omega) (by simp [validE, fieldsB, fileB, inB]; omega)
      · by_cases a : n < 0
        · exact limits3lo w m1 m2 m3 m4 m5 n mt rk ro ra rb rt c hc hn2 hn3 hmt hm (by omega) a (by simp [validE, fieldsB, linkB, inB]; omega)
        · exact limits3in w m1 m2 m3 m4 m5 n mt rk ro ra rb rt c hc hn2 hn3 hmt hm (by omega) (by omega) (by omega) (by simp [validE, fieldsB, linkB, inB]; omega)

end Go.Proofs.Ytachicdkgkiiiaa
