/-
  The walk of the law EntryValues.
-/
import Derived.Test.YtachicdkgkiiiaaES4
namespace Go.Proofs.Ytachicdkgkiiiaa
open Go.RowKit Go.Sort
set_option linter.unusedVariables false

set_option maxHeartbeats 400000 in
theorem neq_ent (k s l i o : Int) (t : ByteArray) (k' s' l' i' o' : Int) (t' : ByteArray) (w : World) :
    (binOp .neq 23 (.agg #[.int .i64 k, .int .i64 s, .int .i64 l, .int .i64 i, .int .i64 o, .string t]) (.agg #[.int .i64 k', .int .i64 s', .int .i64 l', .int .i64 i', .int .i64 o', .string t'])).run Try.prog w =
      .ok (.bool (!entQ k s l i o t.toList k' s' l' i' o' t'.toList)) w := by
  have h := eql_ent k s l i o t k' s' l' i' o' t' w
  simp only [binOp] at h ⊢
  simp only [Op.equal, Op.maxDepth, Sem.run_bind] at h ⊢
  generalize Sem.run Try.prog (Op.equalIn 10000 23 _ _) w = x at h ⊢
  cases x with
  | ok a w' =>
    simp at h
    obtain ⟨rfl, rfl⟩ := h
    simp
  | halt x w' => simp [Result.andThen] at h

set_option maxRecDepth 100000 in
set_option maxHeartbeats 2000000 in
theorem values00 (w : World) (x0 : UInt8) (r : Bs) (m2 m3 m4 m5 n1 n2 n3 n4 n5 : Int) (mt nt W : Bs) (q : Bool) (rk ro ra rb sk so sa sb : Int) (rt st : Bs) (mo : Nat) (hmo : mo < 256) (hmt : mt.length ≤ maxLen) (hnt : nt.length ≤ maxLen) 
    (hm : ∀ wx, Calls Try.prog 21 #[.agg #[.int .u8 rk, .int .u8 ro, .int .u16 ra, .int .u16 rb, .string (Str rt)]] wx fun e w' => e = .returned (.agg #[.int .i64 x0.toNat, .int .i64 m2, .int .i64 m3, .int .i64 m4, .int .i64 m5, .string (Str mt)]) ∧ Below wx.heap.size wx w')
    (hn : ∀ wx, Calls Try.prog 21 #[.agg #[.int .u8 sk, .int .u8 so, .int .u16 sa, .int .u16 sb, .string (Str st)]] wx fun e w' => e = .returned (.agg #[.int .i64 n1, .int .i64 n2, .int .i64 n3, .int .i64 n4, .int .i64 n5, .string (Str nt)]) ∧ Below wx.heap.size wx w')
    (ha : ∀ wx, Calls Try.prog 13 #[.agg #[.int .i64 x0.toNat, .int .i64 m2, .int .i64 m3, .int .i64 m4, .int .i64 m5, .string (Str mt)]] wx fun e w' => e = .returned (.tuple #[.string (Str (x0 :: r)), .int .i64 0]) ∧ Below wx.heap.size wx w')
    (hb : ∀ wx, Calls Try.prog 13 #[.agg #[.int .i64 n1, .int .i64 n2, .int .i64 n3, .int .i64 n4, .int .i64 n5, .string (Str nt)]] wx fun e w' => e = .returned (.tuple #[.string (Str W), .int .i64 0]) ∧ Below wx.heap.size wx w')
    (hc : ∀ wx, Calls Try.prog 15 #[.string (Str (x0 :: r))] wx fun e w' => e = .returned (.tuple #[.agg #[.int .i64 x0.toNat, .int .i64 m2, .int .i64 m3, .int .i64 m4, .int .i64 m5, .string (Str mt)], .int .i64 0]) ∧ Below wx.heap.size wx w')
    (hd : ∀ wx, Calls Try.prog 15 #[.string (Str (x0 :: (r ++ [UInt8.ofNat mo])))] wx fun e w' => e = .returned (.tuple #[.agg #[.int .i64 0, .int .i64 0, .int .i64 0, .int .i64 0, .int .i64 0, .string (Str [])], .int .i64 30]) ∧ Below wx.heap.size wx w')
    (hl : ∀ wx, Calls Try.prog 15 #[.string (Str ((x0 :: r).take r.length))] wx fun e w' => e = .returned (.tuple #[.agg #[.int .i64 0, .int .i64 0, .int .i64 0, .int .i64 0, .int .i64 0, .string (Str [])], .int .i64 30]) ∧ Below wx.heap.size wx w')
    (hq1 : ((x0 :: r) == W) = q) (hq2 : entQ x0.toNat m2 m3 m4 m5 mt n1 n2 n3 n4 n5 nt = q) (hr1 : 1 ≤ r.length) (hr2 : r.length ≤ 51) :
    Calls Try.prog 4 #[.agg #[.int .u8 rk, .int .u8 ro, .int .u16 ra, .int .u16 rb, .string (Str rt)], .agg #[.int .u8 sk, .int .u8 so, .int .u16 sa, .int .u16 sb, .string (Str st)], .int .u8 mo] w fun e w' => e = .returned (.bool true) ∧ Below w.heap.size w w' := by
  have heq := eql_ent
  have hself : entQ x0.toNat m2 m3 m4 m5 mt x0.toNat m2 m3 m4 m5 mt = true := by simp [entQ]
  have hmo' : (mo : Int) ≤ 255 := by omega
  have hx1 : (x0.toNat : Int) ≤ 255 := by have := x0.toNat_lt; omega
  have hr1' : 1 ≤ (r.length : Int) := by omega
  have hr2' : (r.length : Int) ≤ 51 := by omega
  have Hm := Lib.hid hm
  have Hn := Lib.hid hn
  have Ha := Lib.hid ha
  have Hb := Lib.hid hb
  have Hc := Lib.hid hc
  have Hd := Lib.hid hd
  have Hl := Lib.hid hl
  clear hm hn ha hb hc hd hl
  go_enter Try.func4, Try.ntmps4
  go_wp2_with (first
    | (go_at_call 10; refine (sanity_w _).mono ?_; rintro e w1 ⟨rfl, hb1⟩; have hx := Blk.below ((Blk.new w 41 #[.int .u8 rk, .int .u8 ro, .int .u16 ra, .int .u16 rb, .string (Str rt)]).alloc (.cells #[.int .u8 sk, .int .u8 so, .int .u16 sa, .int .u16 sb, .string (Str st)] 41)) hb1 (by simp; omega); have p0 := hx.c0 0 _ rfl; have p1 := hx.c0 1 _ rfl; have p2 := hx.c0 2 _ rfl; have p3 := hx.c0 3 _ rfl; have p4 := hx.c0 4 _ rfl; simp at p0 p1 p2 p3 p4; have hy := Blk.below (Blk.new' (n := w.heap.size + 1) (w.alloc (.cells #[.int .u8 rk, .int .u8 ro, .int .u16 ra, .int .u16 rb, .string (Str rt)] 41)) 41 #[.int .u8 sk, .int .u8 so, .int .u16 sa, .int .u16 sb, .string (Str st)] (by simp)) hb1 (by simp); have y0 := hy.c0 0 _ rfl; have y1 := hy.c0 1 _ rfl; have y2 := hy.c0 2 _ rfl; have y3 := hy.c0 3 _ rfl; have y4 := hy.c0 4 _ rfl; simp at y0 y1 y2 y3 y4; have Hy1 := Lib.hid hy; have Hb1 := Lib.hid hb1; clear hb1 hx hy)
    | (go_at_call_of 21 (Value.int IntKind.u8 rk); refine (Hm.out _).mono ?_; rintro e w2 ⟨rfl, hb2⟩; have hy := Blk.below Hy1.out hb2 Hy1.out.lt; have z0 := hy.c0 0 _ rfl; have z1 := hy.c0 1 _ rfl; have z2 := hy.c0 2 _ rfl; have z3 := hy.c0 3 _ rfl; have z4 := hy.c0 4 _ rfl; simp at z0 z1 z2 z3 z4; have hlty := hy.lt; have Hb2 := Lib.hid hb2; clear hb2 hy)
    | (go_at_call 21; refine (Hn.out _).mono ?_; rintro e w3 ⟨rfl, hb3⟩; have hA := Blk.below (Blk.new w2 23 #[.int .i64 x0.toNat, .int .i64 m2, .int .i64 m3, .int .i64 m4, .int .i64 m5, .string (Str mt)]) hb3 (by simp); have a0 := hA.c0 0 _ rfl; have a1 := hA.c0 1 _ rfl; have a2 := hA.c0 2 _ rfl; have a3 := hA.c0 3 _ rfl; have a4 := hA.c0 4 _ rfl; have a5 := hA.c0 5 _ rfl; simp at a0 a1 a2 a3 a4 a5; have HA3 := Lib.hid hA; have hltA := hA.lt; have Hb3 := Lib.hid hb3; clear hb3 hA)
    | (go_at_call_of 13 (Value.string (Str mt)); refine (Ha.out _).mono ?_; rintro e w4 ⟨rfl, hb4⟩; have hA := Blk.below (HA3.out.alloc (.cells #[.int .i64 n1, .int .i64 n2, .int .i64 n3, .int .i64 n4, .int .i64 n5, .string (Str nt)] 23)) hb4 (HA3.out.alloc _).lt; have b0 := hA.c0 0 _ rfl; have b1 := hA.c0 1 _ rfl; have b2 := hA.c0 2 _ rfl; have b3 := hA.c0 3 _ rfl; have b4 := hA.c0 4 _ rfl; have b5 := hA.c0 5 _ rfl; simp at b0 b1 b2 b3 b4 b5; have hB := Blk.below (Blk.new w3 23 #[.int .i64 n1, .int .i64 n2, .int .i64 n3, .int .i64 n4, .int .i64 n5, .string (Str nt)]) hb4 (by simp); have c0 := hB.c0 0 _ rfl; have c1 := hB.c0 1 _ rfl; have c2 := hB.c0 2 _ rfl; have c3 := hB.c0 3 _ rfl; have c4 := hB.c0 4 _ rfl; have c5 := hB.c0 5 _ rfl; simp at c0 c1 c2 c3 c4 c5; have HA4 := Lib.hid hA; have HB4 := Lib.hid hB; have Hb4 := Lib.hid hb4; clear hb4 hA hB)
    | (go_at_call 13; refine (Hb.out _).mono ?_; rintro e w5 ⟨rfl, hb5⟩; have hA := Blk.below HA4.out hb5 HA4.out.lt; have hB := Blk.below HB4.out hb5 HB4.out.lt; have HA5 := Lib.hid hA; have HB5 := Lib.hid hB; have Hb5 := Lib.hid hb5; clear hb5 hA hB)
    | (go_at_call_of 15 (Value.string (Str (x0 :: r))); refine (Hc.out _).mono ?_; rintro e w6 ⟨rfl, hb6⟩; have hA := Blk.below HA5.out hb6 HA5.out.lt; have f0 := hA.c0 0 _ rfl; have f1 := hA.c0 1 _ rfl; have f2 := hA.c0 2 _ rfl; have f3 := hA.c0 3 _ rfl; have f4 := hA.c0 4 _ rfl; have f5 := hA.c0 5 _ rfl; simp at f0 f1 f2 f3 f4 f5; have hB := Blk.below HB5.out hb6 HB5.out.lt; have g0 := hB.c0 0 _ rfl; have g1 := hB.c0 1 _ rfl; have g2 := hB.c0 2 _ rfl; have g3 := hB.c0 3 _ rfl; have g4 := hB.c0 4 _ rfl; have g5 := hB.c0 5 _ rfl; simp at g0 g1 g2 g3 g4 g5; have hltA6 := hA.lt; have hltB6 := hB.lt; have HA6 := Lib.hid hA; have HB6 := Lib.hid hB; have Hb6 := Lib.hid hb6; clear hb6 hA hB))
  have hC := Blk.new w6 23 #[.int .i64 x0.toNat, .int .i64 m2, .int .i64 m3, .int .i64 m4, .int .i64 m5, .string (Str mt)]
  have hA := HA6.out.alloc (.cells #[.int .i64 x0.toNat, .int .i64 m2, .int .i64 m3, .int .i64 m4, .int .i64 m5, .string (Str mt)] 23)
  have hB := HB6.out.alloc (.cells #[.int .i64 x0.toNat, .int .i64 m2, .int .i64 m3, .int .i64 m4, .int .i64 m5, .string (Str mt)] 23)
  have HG6 : Hid (Below w.heap.size w (w6.alloc (.cells #[.int .i64 x0.toNat, .int .i64 m2, .int .i64 m3, .int .i64 m4, .int .i64 m5, .string (Str mt)] 23))) := Lib.hid (by
    have h1 := Hb1.out.size
    have h2 := Hb2.out.size
    have h3 := Hb3.out.size
    have h4 := Hb4.out.size
    have h5 := Hb5.out.size
    have h6 := Hb6.out.size
    simp at h1 h2 h3 h4 h5 h6
    exact ((((((((((below_box _).alloc (by simp) _).trans (Hb1.out.mono (by simp; omega))).trans (Hb2.out.mono (by omega))).alloc (by omega) _).trans (Hb3.out.mono (by simp; omega))).alloc (by omega) _).trans (Hb4.out.mono (by simp; omega))).trans (Hb5.out.mono (by omega))).trans (Hb6.out.mono (by omega))).alloc (by omega) _)
  have hsz6 : (w6.alloc (.cells #[.int .i64 x0.toNat, .int .i64 m2, .int .i64 m3, .int .i64 m4, .int .i64 m5, .string (Str mt)] 23)).heap.size = w6.heap.size + 1 := by simp
  generalize w6.alloc (.cells #[.int .i64 x0.toNat, .int .i64 m2, .int .i64 m3, .int .i64 m4, .int .i64 m5, .string (Str mt)] 23) = wx at *
  clear f0 f1 f2 f3 f4 f5 g0 g1 g2 g3 g4 g5
  have f0 := hA.c0 0 _ rfl; have f1 := hA.c0 1 _ rfl; have f2 := hA.c0 2 _ rfl; have f3 := hA.c0 3 _ rfl; have f4 := hA.c0 4 _ rfl; have f5 := hA.c0 5 _ rfl; simp at f0 f1 f2 f3 f4 f5
  have g0 := hB.c0 0 _ rfl; have g1 := hB.c0 1 _ rfl; have g2 := hB.c0 2 _ rfl; have g3 := hB.c0 3 _ rfl; have g4 := hB.c0 4 _ rfl; have g5 := hB.c0 5 _ rfl; simp at g0 g1 g2 g3 g4 g5
  have h0 := hC.c0 0 _ rfl; have h1 := hC.c0 1 _ rfl; have h2 := hC.c0 2 _ rfl; have h3 := hC.c0 3 _ rfl; have h4 := hC.c0 4 _ rfl; have h5 := hC.c0 5 _ rfl; simp at h0 h1 h2 h3 h4 h5
  have HA7 := Lib.hid hA
  have neq := neq_ent
  have hwr : IntKind.i64.wrap (x0.toNat : Int) = (x0.toNat : Int) := by rw [IntKind.wrap_i64]; omega
  have k1 : decide ((r.length : Int) + 1 < 2) = false := by simp; omega
  have k2 : decide (52 < (r.length : Int) + 1) = false := by simp; omega
  clear hA hB hC
  go_quiet (fail)
  go_wp2_with fail
  refine (Hd.out _).mono ?_
  rintro e w7 ⟨rfl, hb7⟩
  have hA := Blk.below ((HA7.out.drewN nq).alloc (.cells #[.int .u8 mo] 5)) hb7 ((HA7.out.drewN nq).alloc _).lt
  clear f0 f1 f2 f3 f4 f5 g0 g1 g2 g3 g4 g5 h0 h1 h2 h3 h4 h5
  have f0 := hA.c0 0 _ rfl; have f1 := hA.c0 1 _ rfl; have f2 := hA.c0 2 _ rfl; have f3 := hA.c0 3 _ rfl; have f4 := hA.c0 4 _ rfl; have f5 := hA.c0 5 _ rfl; simp at f0 f1 f2 f3 f4 f5
  have hltA7 := hA.lt
  have HA8 := Lib.hid hA
  have Hb7 := Lib.hid hb7
  clear hb7 hA
  go_wp2_with fail
  
  refine (Hl.out _).mono ?_
  rintro e w8 ⟨rfl, hb8⟩
  have hA := Blk.below (HA8.out.alloc (.cells #[.int .i64 0, .int .i64 0, .int .i64 0, .int .i64 0, .int .i64 0, .string (Str [])] 23)) hb8 (HA8.out.alloc (.cells #[.int .i64 0, .int .i64 0, .int .i64 0, .int .i64 0, .int .i64 0, .string (Str [])] 23)).lt
  clear f0 f1 f2 f3 f4 f5
  have f0 := hA.c0 0 _ rfl; have f1 := hA.c0 1 _ rfl; have f2 := hA.c0 2 _ rfl; have f3 := hA.c0 3 _ rfl; have f4 := hA.c0 4 _ rfl; have f5 := hA.c0 5 _ rfl; simp at f0 f1 f2 f3 f4 f5
  have hltA8 := hA.lt
  have Hb8 := Lib.hid hb8
  clear hb8 hA
  go_wp2_with fail
  go_ret
  have e1 : Below w.heap.size w (wx.drewN nq) := HG6.out.trans (below_drewN _ nq)
  have e2 := e1.alloc e1.size (.cells #[.int .u8 mo] 5)
  have e3 := e2.trans (Hb7.out.mono e2.size)
  have e4 := e3
  have e5 := e4.alloc e4.size (.cells #[.int .i64 0, .int .i64 0, .int .i64 0, .int .i64 0, .int .i64 0, .string (Str [])] 23)
  
  have e6 := e5.trans (Hb8.out.mono e5.size)
  exact ⟨rfl, e6.alloc e6.size _⟩

set_option maxRecDepth 100000 in
set_option maxHeartbeats 2000000 in
theorem values01 (w : World) (x0 : UInt8) (r : Bs) (m2 m3 m4 m5 n1 n2 n3 n4 n5 : Int) (mt nt W : Bs) (q : Bool) (rk ro ra rb sk so sa sb : Int) (rt st : Bs) (mo : Nat) (hmo : mo < 256) (hmt : mt.length ≤ maxLen) (hnt : nt.length ≤ maxLen) (hy3 : (x0.toNat : Int) = 3) (hm1 : 1 < (mt.length : Int)) (l1 l2 l3 l4 l5 : Int) (lt : Bs) 
    (hm : ∀ wx, Calls Try.prog 21 #[.agg #[.int .u8 rk, .int .u8 ro, .int .u16 ra, .int .u16 rb, .string (Str rt)]] wx fun e w' => e = .returned (.agg #[.int .i64 x0.toNat, .int .i64 m2, .int .i64 m3, .int .i64 m4, .int .i64 m5, .string (Str mt)]) ∧ Below wx.heap.size wx w')
    (hn : ∀ wx, Calls Try.prog 21 #[.agg #[.int .u8 sk, .int .u8 so, .int .u16 sa, .int .u16 sb, .string (Str st)]] wx fun e w' => e = .returned (.agg #[.int .i64 n1, .int .i64 n2, .int .i64 n3, .int .i64 n4, .int .i64 n5, .string (Str nt)]) ∧ Below wx.heap.size wx w')
    (ha : ∀ wx, Calls Try.prog 13 #[.agg #[.int .i64 x0.toNat, .int .i64 m2, .int .i64 m3, .int .i64 m4, .int .i64 m5, .string (Str mt)]] wx fun e w' => e = .returned (.tuple #[.string (Str (x0 :: r)), .int .i64 0]) ∧ Below wx.heap.size wx w')
    (hb : ∀ wx, Calls Try.prog 13 #[.agg #[.int .i64 n1, .int .i64 n2, .int .i64 n3, .int .i64 n4, .int .i64 n5, .string (Str nt)]] wx fun e w' => e = .returned (.tuple #[.string (Str W), .int .i64 0]) ∧ Below wx.heap.size wx w')
    (hc : ∀ wx, Calls Try.prog 15 #[.string (Str (x0 :: r))] wx fun e w' => e = .returned (.tuple #[.agg #[.int .i64 x0.toNat, .int .i64 m2, .int .i64 m3, .int .i64 m4, .int .i64 m5, .string (Str mt)], .int .i64 0]) ∧ Below wx.heap.size wx w')
    (hd : ∀ wx, Calls Try.prog 15 #[.string (Str (x0 :: (r ++ [UInt8.ofNat mo])))] wx fun e w' => e = .returned (.tuple #[.agg #[.int .i64 0, .int .i64 0, .int .i64 0, .int .i64 0, .int .i64 0, .string (Str [])], .int .i64 30]) ∧ Below wx.heap.size wx w')
    (hl : ∀ wx, Calls Try.prog 15 #[.string (Str ((x0 :: r).take r.length))] wx fun e w' => e = .returned (.tuple #[.agg #[.int .i64 l1, .int .i64 l2, .int .i64 l3, .int .i64 l4, .int .i64 l5, .string (Str lt)], .int .i64 0]) ∧ Below wx.heap.size wx w')
    (hq1 : ((x0 :: r) == W) = q) (hq2 : entQ x0.toNat m2 m3 m4 m5 mt n1 n2 n3 n4 n5 nt = q) (hr1 : 1 ≤ r.length) (hr2 : r.length ≤ 51) :
    Calls Try.prog 4 #[.agg #[.int .u8 rk, .int .u8 ro, .int .u16 ra, .int .u16 rb, .string (Str rt)], .agg #[.int .u8 sk, .int .u8 so, .int .u16 sa, .int .u16 sb, .string (Str st)], .int .u8 mo] w fun e w' => e = .returned (.bool true) ∧ Below w.heap.size w w' := by
  have hyb : ((x0.toNat : Int) == 3) = true := by rw [hy3]; rfl
  clear hy3
  have heq := eql_ent
  have hself : entQ x0.toNat m2 m3 m4 m5 mt x0.toNat m2 m3 m4 m5 mt = true := by simp [entQ]
  have hmo' : (mo : Int) ≤ 255 := by omega
  have hx1 : (x0.toNat : Int) ≤ 255 := by have := x0.toNat_lt; omega
  have hr1' : 1 ≤ (r.length : Int) := by omega
  have hr2' : (r.length : Int) ≤ 51 := by omega
  have Hm := Lib.hid hm
  have Hn := Lib.hid hn
  have Ha := Lib.hid ha
  have Hb := Lib.hid hb
  have Hc := Lib.hid hc
  have Hd := Lib.hid hd
  have Hl := Lib.hid hl
  clear hm hn ha hb hc hd hl
  go_enter Try.func4, Try.ntmps4
  go_wp2_with (first
    | (go_at_call 10; refine (sanity_w _).mono ?_; rintro e w1 ⟨rfl, hb1⟩; have hx := Blk.below ((Blk.new w 41 #[.int .u8 rk, .int .u8 ro, .int .u16 ra, .int .u16 rb, .string (Str rt)]).alloc (.cells #[.int .u8 sk, .int .u8 so, .int .u16 sa, .int .u16 sb, .string (Str st)] 41)) hb1 (by simp; omega); have p0 := hx.c0 0 _ rfl; have p1 := hx.c0 1 _ rfl; have p2 := hx.c0 2 _ rfl; have p3 := hx.c0 3 _ rfl; have p4 := hx.c0 4 _ rfl; simp at p0 p1 p2 p3 p4; have hy := Blk.below (Blk.new' (n := w.heap.size + 1) (w.alloc (.cells #[.int .u8 rk, .int .u8 ro, .int .u16 ra, .int .u16 rb, .string (Str rt)] 41)) 41 #[.int .u8 sk, .int .u8 so, .int .u16 sa, .int .u16 sb, .string (Str st)] (by simp)) hb1 (by simp); have y0 := hy.c0 0 _ rfl; have y1 := hy.c0 1 _ rfl; have y2 := hy.c0 2 _ rfl; have y3 := hy.c0 3 _ rfl; have y4 := hy.c0 4 _ rfl; simp at y0 y1 y2 y3 y4; have Hy1 := Lib.hid hy; have Hb1 := Lib.hid hb1; clear hb1 hx hy)
    | (go_at_call_of 21 (Value.int IntKind.u8 rk); refine (Hm.out _).mono ?_; rintro e w2 ⟨rfl, hb2⟩; have hy := Blk.below Hy1.out hb2 Hy1.out.lt; have z0 := hy.c0 0 _ rfl; have z1 := hy.c0 1 _ rfl; have z2 := hy.c0 2 _ rfl; have z3 := hy.c0 3 _ rfl; have z4 := hy.c0 4 _ rfl; simp at z0 z1 z2 z3 z4; have hlty := hy.lt; have Hb2 := Lib.hid hb2; clear hb2 hy)
    | (go_at_call 21; refine (Hn.out _).mono ?_; rintro e w3 ⟨rfl, hb3⟩; have hA := Blk.below (Blk.new w2 23 #[.int .i64 x0.toNat, .int .i64 m2, .int .i64 m3, .int .i64 m4, .int .i64 m5, .string (Str mt)]) hb3 (by simp); have a0 := hA.c0 0 _ rfl; have a1 := hA.c0 1 _ rfl; have a2 := hA.c0 2 _ rfl; have a3 := hA.c0 3 _ rfl; have a4 := hA.c0 4 _ rfl; have a5 := hA.c0 5 _ rfl; simp at a0 a1 a2 a3 a4 a5; have HA3 := Lib.hid hA; have hltA := hA.lt; have Hb3 := Lib.hid hb3; clear hb3 hA)
    | (go_at_call_of 13 (Value.string (Str mt)); refine (Ha.out _).mono ?_; rintro e w4 ⟨rfl, hb4⟩; have hA := Blk.below (HA3.out.alloc (.cells #[.int .i64 n1, .int .i64 n2, .int .i64 n3, .int .i64 n4, .int .i64 n5, .string (Str nt)] 23)) hb4 (HA3.out.alloc _).lt; have b0 := hA.c0 0 _ rfl; have b1 := hA.c0 1 _ rfl; have b2 := hA.c0 2 _ rfl; have b3 := hA.c0 3 _ rfl; have b4 := hA.c0 4 _ rfl; have b5 := hA.c0 5 _ rfl; simp at b0 b1 b2 b3 b4 b5; have hB := Blk.below (Blk.new w3 23 #[.int .i64 n1, .int .i64 n2, .int .i64 n3, .int .i64 n4, .int .i64 n5, .string (Str nt)]) hb4 (by simp); have c0 := hB.c0 0 _ rfl; have c1 := hB.c0 1 _ rfl; have c2 := hB.c0 2 _ rfl; have c3 := hB.c0 3 _ rfl; have c4 := hB.c0 4 _ rfl; have c5 := hB.c0 5 _ rfl; simp at c0 c1 c2 c3 c4 c5; have HA4 := Lib.hid hA; have HB4 := Lib.hid hB; have Hb4 := Lib.hid hb4; clear hb4 hA hB)
    | (go_at_call 13; refine (Hb.out _).mono ?_; rintro e w5 ⟨rfl, hb5⟩; have hA := Blk.below HA4.out hb5 HA4.out.lt; have hB := Blk.below HB4.out hb5 HB4.out.lt; have HA5 := Lib.hid hA; have HB5 := Lib.hid hB; have Hb5 := Lib.hid hb5; clear hb5 hA hB)
    | (go_at_call_of 15 (Value.string (Str (x0 :: r))); refine (Hc.out _).mono ?_; rintro e w6 ⟨rfl, hb6⟩; have hA := Blk.below HA5.out hb6 HA5.out.lt; have f0 := hA.c0 0 _ rfl; have f1 := hA.c0 1 _ rfl; have f2 := hA.c0 2 _ rfl; have f3 := hA.c0 3 _ rfl; have f4 := hA.c0 4 _ rfl; have f5 := hA.c0 5 _ rfl; simp at f0 f1 f2 f3 f4 f5; have hB := Blk.below HB5.out hb6 HB5.out.lt; have g0 := hB.c0 0 _ rfl; have g1 := hB.c0 1 _ rfl; have g2 := hB.c0 2 _ rfl; have g3 := hB.c0 3 _ rfl; have g4 := hB.c0 4 _ rfl; have g5 := hB.c0 5 _ rfl; simp at g0 g1 g2 g3 g4 g5; have hltA6 := hA.lt; have hltB6 := hB.lt; have HA6 := Lib.hid hA; have HB6 := Lib.hid hB; have Hb6 := Lib.hid hb6; clear hb6 hA hB))
  have hC := Blk.new w6 23 #[.int .i64 x0.toNat, .int .i64 m2, .int .i64 m3, .int .i64 m4, .int .i64 m5, .string (Str mt)]
  have hA := HA6.out.alloc (.cells #[.int .i64 x0.toNat, .int .i64 m2, .int .i64 m3, .int .i64 m4, .int .i64 m5, .string (Str mt)] 23)
  have hB := HB6.out.alloc (.cells #[.int .i64 x0.toNat, .int .i64 m2, .int .i64 m3, .int .i64 m4, .int .i64 m5, .string (Str mt)] 23)
  have HG6 : Hid (Below w.heap.size w (w6.alloc (.cells #[.int .i64 x0.toNat, .int .i64 m2, .int .i64 m3, .int .i64 m4, .int .i64 m5, .string (Str mt)] 23))) := Lib.hid (by
    have h1 := Hb1.out.size
    have h2 := Hb2.out.size
    have h3 := Hb3.out.size
    have h4 := Hb4.out.size
    have h5 := Hb5.out.size
    have h6 := Hb6.out.size
    simp at h1 h2 h3 h4 h5 h6
    exact ((((((((((below_box _).alloc (by simp) _).trans (Hb1.out.mono (by simp; omega))).trans (Hb2.out.mono (by omega))).alloc (by omega) _).trans (Hb3.out.mono (by simp; omega))).alloc (by omega) _).trans (Hb4.out.mono (by simp; omega))).trans (Hb5.out.mono (by omega))).trans (Hb6.out.mono (by omega))).alloc (by omega) _)
  have hsz6 : (w6.alloc (.cells #[.int .i64 x0.toNat, .int .i64 m2, .int .i64 m3, .int .i64 m4, .int .i64 m5, .string (Str mt)] 23)).heap.size = w6.heap.size + 1 := by simp
  generalize w6.alloc (.cells #[.int .i64 x0.toNat, .int .i64 m2, .int .i64 m3, .int .i64 m4, .int .i64 m5, .string (Str mt)] 23) = wx at *
  clear f0 f1 f2 f3 f4 f5 g0 g1 g2 g3 g4 g5
  have f0 := hA.c0 0 _ rfl; have f1 := hA.c0 1 _ rfl; have f2 := hA.c0 2 _ rfl; have f3 := hA.c0 3 _ rfl; have f4 := hA.c0 4 _ rfl; have f5 := hA.c0 5 _ rfl; simp at f0 f1 f2 f3 f4 f5
  have g0 := hB.c0 0 _ rfl; have g1 := hB.c0 1 _ rfl; have g2 := hB.c0 2 _ rfl; have g3 := hB.c0 3 _ rfl; have g4 := hB.c0 4 _ rfl; have g5 := hB.c0 5 _ rfl; simp at g0 g1 g2 g3 g4 g5
  have h0 := hC.c0 0 _ rfl; have h1 := hC.c0 1 _ rfl; have h2 := hC.c0 2 _ rfl; have h3 := hC.c0 3 _ rfl; have h4 := hC.c0 4 _ rfl; have h5 := hC.c0 5 _ rfl; simp at h0 h1 h2 h3 h4 h5
  have HA7 := Lib.hid hA
  have neq := neq_ent
  have hwr : IntKind.i64.wrap (x0.toNat : Int) = (x0.toNat : Int) := by rw [IntKind.wrap_i64]; omega
  have k1 : decide ((r.length : Int) + 1 < 2) = false := by simp; omega
  have k2 : decide (52 < (r.length : Int) + 1) = false := by simp; omega
  clear hA hB hC
  go_quiet (fail)
  go_wp2_with fail
  refine (Hd.out _).mono ?_
  rintro e w7 ⟨rfl, hb7⟩
  have hA := Blk.below ((HA7.out.drewN nq).alloc (.cells #[.int .u8 mo] 5)) hb7 ((HA7.out.drewN nq).alloc _).lt
  clear f0 f1 f2 f3 f4 f5 g0 g1 g2 g3 g4 g5 h0 h1 h2 h3 h4 h5
  have f0 := hA.c0 0 _ rfl; have f1 := hA.c0 1 _ rfl; have f2 := hA.c0 2 _ rfl; have f3 := hA.c0 3 _ rfl; have f4 := hA.c0 4 _ rfl; have f5 := hA.c0 5 _ rfl; simp at f0 f1 f2 f3 f4 f5
  have hltA7 := hA.lt
  have HA8 := Lib.hid hA
  have Hb7 := Lib.hid hb7
  clear hb7 hA
  go_wp2_with fail
  
  refine (Hl.out _).mono ?_
  rintro e w8 ⟨rfl, hb8⟩
  have hA := Blk.below (HA8.out.alloc (.cells #[.int .i64 0, .int .i64 0, .int .i64 0, .int .i64 0, .int .i64 0, .string (Str [])] 23)) hb8 (HA8.out.alloc (.cells #[.int .i64 0, .int .i64 0, .int .i64 0, .int .i64 0, .int .i64 0, .string (Str [])] 23)).lt
  clear f0 f1 f2 f3 f4 f5
  have f0 := hA.c0 0 _ rfl; have f1 := hA.c0 1 _ rfl; have f2 := hA.c0 2 _ rfl; have f3 := hA.c0 3 _ rfl; have f4 := hA.c0 4 _ rfl; have f5 := hA.c0 5 _ rfl; simp at f0 f1 f2 f3 f4 f5
  have hltA8 := hA.lt
  have Hb8 := Lib.hid hb8
  clear hb8 hA
  go_wp2_with fail
  go_ret
  have e1 : Below w.heap.size w (wx.drewN nq) := HG6.out.trans (below_drewN _ nq)
  have e2 := e1.alloc e1.size (.cells #[.int .u8 mo] 5)
  have e3 := e2.trans (Hb7.out.mono e2.size)
  have e4 := e3
  have e5 := e4.alloc e4.size (.cells #[.int .i64 0, .int .i64 0, .int .i64 0, .int .i64 0, .int .i64 0, .string (Str [])] 23)
  
  have e6 := e5.trans (Hb8.out.mono e5.size)
  exact ⟨rfl, e6.alloc e6.size _⟩

set_option maxRecDepth 100000 in
set_option maxHeartbeats 2000000 in
theorem values10 (w : World) (x0 : UInt8) (r : Bs) (m2 m3 m4 m5 n1 n2 n3 n4 n5 : Int) (mt nt W : Bs) (q : Bool) (rk ro ra rb sk so sa sb : Int) (rt st : Bs) (mo : Nat) (hmo : mo < 256) (hmt : mt.length ≤ maxLen) (hnt : nt.length ≤ maxLen) (hx3 : (x0.toNat : Int) = 3) (dn : mt.length ≤ 50) (d1 d2 d3 d4 d5 : Int) 
    (hm : ∀ wx, Calls Try.prog 21 #[.agg #[.int .u8 rk, .int .u8 ro, .int .u16 ra, .int .u16 rb, .string (Str rt)]] wx fun e w' => e = .returned (.agg #[.int .i64 x0.toNat, .int .i64 m2, .int .i64 m3, .int .i64 m4, .int .i64 m5, .string (Str mt)]) ∧ Below wx.heap.size wx w')
    (hn : ∀ wx, Calls Try.prog 21 #[.agg #[.int .u8 sk, .int .u8 so, .int .u16 sa, .int .u16 sb, .string (Str st)]] wx fun e w' => e = .returned (.agg #[.int .i64 n1, .int .i64 n2, .int .i64 n3, .int .i64 n4, .int .i64 n5, .string (Str nt)]) ∧ Below wx.heap.size wx w')
    (ha : ∀ wx, Calls Try.prog 13 #[.agg #[.int .i64 x0.toNat, .int .i64 m2, .int .i64 m3, .int .i64 m4, .int .i64 m5, .string (Str mt)]] wx fun e w' => e = .returned (.tuple #[.string (Str (x0 :: r)), .int .i64 0]) ∧ Below wx.heap.size wx w')
    (hb : ∀ wx, Calls Try.prog 13 #[.agg #[.int .i64 n1, .int .i64 n2, .int .i64 n3, .int .i64 n4, .int .i64 n5, .string (Str nt)]] wx fun e w' => e = .returned (.tuple #[.string (Str W), .int .i64 0]) ∧ Below wx.heap.size wx w')
    (hc : ∀ wx, Calls Try.prog 15 #[.string (Str (x0 :: r))] wx fun e w' => e = .returned (.tuple #[.agg #[.int .i64 x0.toNat, .int .i64 m2, .int .i64 m3, .int .i64 m4, .int .i64 m5, .string (Str mt)], .int .i64 0]) ∧ Below wx.heap.size wx w')
    (hd : ∀ wx, Calls Try.prog 15 #[.string (Str (x0 :: (r ++ [UInt8.ofNat mo])))] wx fun e w' => e = .returned (.tuple #[.agg #[.int .i64 d1, .int .i64 d2, .int .i64 d3, .int .i64 d4, .int .i64 d5, .string (Str (mt ++ [UInt8.ofNat mo]))], .int .i64 0]) ∧ Below wx.heap.size wx w')
    (hl : ∀ wx, Calls Try.prog 15 #[.string (Str ((x0 :: r).take r.length))] wx fun e w' => e = .returned (.tuple #[.agg #[.int .i64 0, .int .i64 0, .int .i64 0, .int .i64 0, .int .i64 0, .string (Str [])], .int .i64 30]) ∧ Below wx.heap.size wx w')
    (hq1 : ((x0 :: r) == W) = q) (hq2 : entQ x0.toNat m2 m3 m4 m5 mt n1 n2 n3 n4 n5 nt = q) (hr1 : 1 ≤ r.length) (hr2 : r.length ≤ 51) :
    Calls Try.prog 4 #[.agg #[.int .u8 rk, .int .u8 ro, .int .u16 ra, .int .u16 rb, .string (Str rt)], .agg #[.int .u8 sk, .int .u8 so, .int .u16 sa, .int .u16 sb, .string (Str st)], .int .u8 mo] w fun e w' => e = .returned (.bool true) ∧ Below w.heap.size w w' := by
  have hxb : ((x0.toNat : Int) != 3) = false := by rw [hx3]; rfl
  clear hx3
  have heq := eql_ent
  have hself : entQ x0.toNat m2 m3 m4 m5 mt x0.toNat m2 m3 m4 m5 mt = true := by simp [entQ]
  have hmo' : (mo : Int) ≤ 255 := by omega
  have hx1 : (x0.toNat : Int) ≤ 255 := by have := x0.toNat_lt; omega
  have hr1' : 1 ≤ (r.length : Int) := by omega
  have hr2' : (r.length : Int) ≤ 51 := by omega
  have Hm := Lib.hid hm
  have Hn := Lib.hid hn
  have Ha := Lib.hid ha
  have Hb := Lib.hid hb
  have Hc := Lib.hid hc
  have Hd := Lib.hid hd
  have Hl := Lib.hid hl
  clear hm hn ha hb hc hd hl
  go_enter Try.func4, Try.ntmps4
  go_wp2_with (first
    | (go_at_call 10; refine (sanity_w _).mono ?_; rintro e w1 ⟨rfl, hb1⟩; have hx := Blk.below ((Blk.new w 41 #[.int .u8 rk, .int .u8 ro, .int .u16 ra, .int .u16 rb, .string (Str rt)]).alloc (.cells #[.int .u8 sk, .int .u8 so, .int .u16 sa, .int .u16 sb, .string (Str st)] 41)) hb1 (by simp; omega); have p0 := hx.c0 0 _ rfl; have p1 := hx.c0 1 _ rfl; have p2 := hx.c0 2 _ rfl; have p3 := hx.c0 3 _ rfl; have p4 := hx.c0 4 _ rfl; simp at p0 p1 p2 p3 p4; have hy := Blk.below (Blk.new' (n := w.heap.size + 1) (w.alloc (.cells #[.int .u8 rk, .int .u8 ro, .int .u16 ra, .int .u16 rb, .string (Str rt)] 41)) 41 #[.int .u8 sk, .int .u8 so, .int .u16 sa, .int .u16 sb, .string (Str st)] (by simp)) hb1 (by simp); have y0 := hy.c0 0 _ rfl; have y1 := hy.c0 1 _ rfl; have y2 := hy.c0 2 _ rfl; have y3 := hy.c0 3 _ rfl; have y4 := hy.c0 4 _ rfl; simp at y0 y1 y2 y3 y4; have Hy1 := Lib.hid hy; have Hb1 := Lib.hid hb1; clear hb1 hx hy)
    | (go_at_call_of 21 (Value.int IntKind.u8 rk); refine (Hm.out _).mono ?_; rintro e w2 ⟨rfl, hb2⟩; have hy := Blk.below Hy1.out hb2 Hy1.out.lt; have z0 := hy.c0 0 _ rfl; have z1 := hy.c0 1 _ rfl; have z2 := hy.c0 2 _ rfl; have z3 := hy.c0 3 _ rfl; have z4 := hy.c0 4 _ rfl; simp at z0 z1 z2 z3 z4; have hlty := hy.lt; have Hb2 := Lib.hid hb2; clear hb2 hy)
    | (go_at_call 21; refine (Hn.out _).mono ?_; rintro e w3 ⟨rfl, hb3⟩; have hA := Blk.below (Blk.new w2 23 #[.int .i64 x0.toNat, .int .i64 m2, .int .i64 m3, .int .i64 m4, .int .i64 m5, .string (Str mt)]) hb3 (by simp); have a0 := hA.c0 0 _ rfl; have a1 := hA.c0 1 _ rfl; have a2 := hA.c0 2 _ rfl; have a3 := hA.c0 3 _ rfl; have a4 := hA.c0 4 _ rfl; have a5 := hA.c0 5 _ rfl; simp at a0 a1 a2 a3 a4 a5; have HA3 := Lib.hid hA; have hltA := hA.lt; have Hb3 := Lib.hid hb3; clear hb3 hA)
    | (go_at_call_of 13 (Value.string (Str mt)); refine (Ha.out _).mono ?_; rintro e w4 ⟨rfl, hb4⟩; have hA := Blk.below (HA3.out.alloc (.cells #[.int .i64 n1, .int .i64 n2, .int .i64 n3, .int .i64 n4, .int .i64 n5, .string (Str nt)] 23)) hb4 (HA3.out.alloc _).lt; have b0 := hA.c0 0 _ rfl; have b1 := hA.c0 1 _ rfl; have b2 := hA.c0 2 _ rfl; have b3 := hA.c0 3 _ rfl; have b4 := hA.c0 4 _ rfl; have b5 := hA.c0 5 _ rfl; simp at b0 b1 b2 b3 b4 b5; have hB := Blk.below (Blk.new w3 23 #[.int .i64 n1, .int .i64 n2, .int .i64 n3, .int .i64 n4, .int .i64 n5, .string (Str nt)]) hb4 (by simp); have c0 := hB.c0 0 _ rfl; have c1 := hB.c0 1 _ rfl; have c2 := hB.c0 2 _ rfl; have c3 := hB.c0 3 _ rfl; have c4 := hB.c0 4 _ rfl; have c5 := hB.c0 5 _ rfl; simp at c0 c1 c2 c3 c4 c5; have HA4 := Lib.hid hA; have HB4 := Lib.hid hB; have Hb4 := Lib.hid hb4; clear hb4 hA hB)
    | (go_at_call 13; refine (Hb.out _).mono ?_; rintro e w5 ⟨rfl, hb5⟩; have hA := Blk.below HA4.out hb5 HA4.out.lt; have hB := Blk.below HB4.out hb5 HB4.out.lt; have HA5 := Lib.hid hA; have HB5 := Lib.hid hB; have Hb5 := Lib.hid hb5; clear hb5 hA hB)
    | (go_at_call_of 15 (Value.string (Str (x0 :: r))); refine (Hc.out _).mono ?_; rintro e w6 ⟨rfl, hb6⟩; have hA := Blk.below HA5.out hb6 HA5.out.lt; have f0 := hA.c0 0 _ rfl; have f1 := hA.c0 1 _ rfl; have f2 := hA.c0 2 _ rfl; have f3 := hA.c0 3 _ rfl; have f4 := hA.c0 4 _ rfl; have f5 := hA.c0 5 _ rfl; simp at f0 f1 f2 f3 f4 f5; have hB := Blk.below HB5.out hb6 HB5.out.lt; have g0 := hB.c0 0 _ rfl; have g1 := hB.c0 1 _ rfl; have g2 := hB.c0 2 _ rfl; have g3 := hB.c0 3 _ rfl; have g4 := hB.c0 4 _ rfl; have g5 := hB.c0 5 _ rfl; simp at g0 g1 g2 g3 g4 g5; have hltA6 := hA.lt; have hltB6 := hB.lt; have HA6 := Lib.hid hA; have HB6 := Lib.hid hB; have Hb6 := Lib.hid hb6; clear hb6 hA hB))
  have hC := Blk.new w6 23 #[.int .i64 x0.toNat, .int .i64 m2, .int .i64 m3, .int .i64 m4, .int .i64 m5, .string (Str mt)]
  have hA := HA6.out.alloc (.cells #[.int .i64 x0.toNat, .int .i64 m2, .int .i64 m3, .int .i64 m4, .int .i64 m5, .string (Str mt)] 23)
  have hB := HB6.out.alloc (.cells #[.int .i64 x0.toNat, .int .i64 m2, .int .i64 m3, .int .i64 m4, .int .i64 m5, .string (Str mt)] 23)
  have HG6 : Hid (Below w.heap.size w (w6.alloc (.cells #[.int .i64 x0.toNat, .int .i64 m2, .int .i64 m3, .int .i64 m4, .int .i64 m5, .string (Str mt)] 23))) := Lib.hid (by
    have h1 := Hb1.out.size
    have h2 := Hb2.out.size
    have h3 := Hb3.out.size
    have h4 := Hb4.out.size
    have h5 := Hb5.out.size
    have h6 := Hb6.out.size
    simp at h1 h2 h3 h4 h5 h6
    exact ((((((((((below_box _).alloc (by simp) _).trans (Hb1.out.mono (by simp; omega))).trans (Hb2.out.mono (by omega))).alloc (by omega) _).trans (Hb3.out.mono (by simp; omega))).alloc (by omega) _).trans (Hb4.out.mono (by simp; omega))).trans (Hb5.out.mono (by omega))).trans (Hb6.out.mono (by omega))).alloc (by omega) _)
  have hsz6 : (w6.alloc (.cells #[.int .i64 x0.toNat, .int .i64 m2, .int .i64 m3, .int .i64 m4, .int .i64 m5, .string (Str mt)] 23)).heap.size = w6.heap.size + 1 := by simp
  generalize w6.alloc (.cells #[.int .i64 x0.toNat, .int .i64 m2, .int .i64 m3, .int .i64 m4, .int .i64 m5, .string (Str mt)] 23) = wx at *
  clear f0 f1 f2 f3 f4 f5 g0 g1 g2 g3 g4 g5
  have f0 := hA.c0 0 _ rfl; have f1 := hA.c0 1 _ rfl; have f2 := hA.c0 2 _ rfl; have f3 := hA.c0 3 _ rfl; have f4 := hA.c0 4 _ rfl; have f5 := hA.c0 5 _ rfl; simp at f0 f1 f2 f3 f4 f5
  have g0 := hB.c0 0 _ rfl; have g1 := hB.c0 1 _ rfl; have g2 := hB.c0 2 _ rfl; have g3 := hB.c0 3 _ rfl; have g4 := hB.c0 4 _ rfl; have g5 := hB.c0 5 _ rfl; simp at g0 g1 g2 g3 g4 g5
  have h0 := hC.c0 0 _ rfl; have h1 := hC.c0 1 _ rfl; have h2 := hC.c0 2 _ rfl; have h3 := hC.c0 3 _ rfl; have h4 := hC.c0 4 _ rfl; have h5 := hC.c0 5 _ rfl; simp at h0 h1 h2 h3 h4 h5
  have HA7 := Lib.hid hA
  have neq := neq_ent
  have hwr : IntKind.i64.wrap (x0.toNat : Int) = (x0.toNat : Int) := by rw [IntKind.wrap_i64]; omega
  have k1 : decide ((r.length : Int) + 1 < 2) = false := by simp; omega
  have k2 : decide (52 < (r.length : Int) + 1) = false := by simp; omega
  clear hA hB hC
  go_quiet (fail)
  go_wp2_with fail
  refine (Hd.out _).mono ?_
  rintro e w7 ⟨rfl, hb7⟩
  have hA := Blk.below ((HA7.out.drewN nq).alloc (.cells #[.int .u8 mo] 5)) hb7 ((HA7.out.drewN nq).alloc _).lt
  clear f0 f1 f2 f3 f4 f5 g0 g1 g2 g3 g4 g5 h0 h1 h2 h3 h4 h5
  have f0 := hA.c0 0 _ rfl; have f1 := hA.c0 1 _ rfl; have f2 := hA.c0 2 _ rfl; have f3 := hA.c0 3 _ rfl; have f4 := hA.c0 4 _ rfl; have f5 := hA.c0 5 _ rfl; simp at f0 f1 f2 f3 f4 f5
  have hltA7 := hA.lt
  have HA8 := Lib.hid hA
  have Hb7 := Lib.hid hb7
  clear hb7 hA
  go_wp2_with fail
  
  refine (Hl.out _).mono ?_
  rintro e w8 ⟨rfl, hb8⟩
  have hA := Blk.below ((HA8.out.alloc (.cells #[.int .i64 d1, .int .i64 d2, .int .i64 d3, .int .i64 d4, .int .i64 d5, .string (Str (mt ++ [UInt8.ofNat mo]))] 23)).alloc (.cells #[.int .u8 mo] 5)) hb8 ((HA8.out.alloc (.cells #[.int .i64 d1, .int .i64 d2, .int .i64 d3, .int .i64 d4, .int .i64 d5, .string (Str (mt ++ [UInt8.ofNat mo]))] 23)).alloc (.cells #[.int .u8 mo] 5)).lt
  clear f0 f1 f2 f3 f4 f5
  have f0 := hA.c0 0 _ rfl; have f1 := hA.c0 1 _ rfl; have f2 := hA.c0 2 _ rfl; have f3 := hA.c0 3 _ rfl; have f4 := hA.c0 4 _ rfl; have f5 := hA.c0 5 _ rfl; simp at f0 f1 f2 f3 f4 f5
  have hltA8 := hA.lt
  have Hb8 := Lib.hid hb8
  clear hb8 hA
  go_wp2_with fail
  go_ret
  have e1 : Below w.heap.size w (wx.drewN nq) := HG6.out.trans (below_drewN _ nq)
  have e2 := e1.alloc e1.size (.cells #[.int .u8 mo] 5)
  have e3 := e2.trans (Hb7.out.mono e2.size)
  have e4 := e3
  have e5 := e4.alloc e4.size (.cells #[.int .i64 d1, .int .i64 d2, .int .i64 d3, .int .i64 d4, .int .i64 d5, .string (Str (mt ++ [UInt8.ofNat mo]))] 23)
  replace e5 := e5.alloc e5.size (.cells #[.int .u8 mo] 5)
  have e6 := e5.trans (Hb8.out.mono e5.size)
  exact ⟨rfl, e6.alloc e6.size _⟩

set_option maxRecDepth 100000 in
set_option maxHeartbeats 2000000 in
theorem values11 (w : World) (x0 : UInt8) (r : Bs) (m2 m3 m4 m5 n1 n2 n3 n4 n5 : Int) (mt nt W : Bs) (q : Bool) (rk ro ra rb sk so sa sb : Int) (rt st : Bs) (mo : Nat) (hmo : mo < 256) (hmt : mt.length ≤ maxLen) (hnt : nt.length ≤ maxLen) (hx3 : (x0.toNat : Int) = 3) (dn : mt.length ≤ 50) (d1 d2 d3 d4 d5 : Int) (hy3 : (x0.toNat : Int) = 3) (hm1 : 1 < (mt.length : Int)) (l1 l2 l3 l4 l5 : Int) (lt : Bs) 
    (hm : ∀ wx, Calls Try.prog 21 #[.agg #[.int .u8 rk, .int .u8 ro, .int .u16 ra, .int .u16 rb, .string (Str rt)]] wx fun e w' => e = .returned (.agg #[.int .i64 x0.toNat, .int .i64 m2, .int .i64 m3, .int .i64 m4, .int .i64 m5, .string (Str mt)]) ∧ Below wx.heap.size wx w')
    (hn : ∀ wx, Calls Try.prog 21 #[.agg #[.int .u8 sk, .int .u8 so, .int .u16 sa, .int .u16 sb, .string (Str st)]] wx fun e w' => e = .returned (.agg #[.int .i64 n1, .int .i64 n2, .int .i64 n3, .int .i64 n4, .int .i64 n5, .string (Str nt)]) ∧ Below wx.heap.size wx w')
    (ha : ∀ wx, Calls Try.prog 13 #[.agg #[.int .i64 x0.toNat, .int .i64 m2, .int .i64 m3, .int .i64 m4, .int .i64 m5, .string (Str mt)]] wx fun e w' => e = .returned (.tuple #[.string (Str (x0 :: r)), .int .i64 0]) ∧ Below wx.heap.size wx w')
    (hb : ∀ wx, Calls Try.prog 13 #[.agg #[.int .i64 n1, .int .i64 n2, .int .i64 n3, .int .i64 n4, .int .i64 n5, .string (Str nt)]] wx fun e w' => e = .returned (.tuple #[.string (Str W), .int .i64 0]) ∧ Below wx.heap.size wx w')
    (hc : ∀ wx, Calls Try.prog 15 #[.string (Str (x0 :: r))] wx fun e w' => e = .returned (.tuple #[.agg #[.int .i64 x0.toNat, .int .i64 m2, .int .i64 m3, .int .i64 m4, .int .i64 m5, .string (Str mt)], .int .i64 0]) ∧ Below wx.heap.size wx w')
    (hd : ∀ wx, Calls Try.prog 15 #[.string (Str (x0 :: (r ++ [UInt8.ofNat mo])))] wx fun e w' => e = .returned (.tuple #[.agg #[.int .i64 d1, .int .i64 d2, .int .i64 d3, .int .i64 d4, .int .i64 d5, .string (Str (mt ++ [UInt8.ofNat mo]))], .int .i64 0]) ∧ Below wx.heap.size wx w')
    (hl : ∀ wx, Calls Try.prog 15 #[.string (Str ((x0 :: r).take r.length))] wx fun e w' => e = .returned (.tuple #[.agg #[.int .i64 l1, .int .i64 l2, .int .i64 l3, .int .i64 l4, .int .i64 l5, .string (Str lt)], .int .i64 0]) ∧ Below wx.heap.size wx w')
    (hq1 : ((x0 :: r) == W) = q) (hq2 : entQ x0.toNat m2 m3 m4 m5 mt n1 n2 n3 n4 n5 nt = q) (hr1 : 1 ≤ r.length) (hr2 : r.length ≤ 51) :
    Calls Try.prog 4 #[.agg #[.int .u8 rk, .int .u8 ro, .int .u16 ra, .int .u16 rb, .string (Str rt)], .agg #[.int .u8 sk, .int .u8 so, .int .u16 sa, .int .u16 sb, .string (Str st)], .int .u8 mo] w fun e w' => e = .returned (.bool true) ∧ Below w.heap.size w w' := by
  have hxb : ((x0.toNat : Int) != 3) = false := by rw [hx3]; rfl
  clear hx3
  have hyb : ((x0.toNat : Int) == 3) = true := by rw [hy3]; rfl
  clear hy3
  have heq := eql_ent
  have hself : entQ x0.toNat m2 m3 m4 m5 mt x0.toNat m2 m3 m4 m5 mt = true := by simp [entQ]
  have hmo' : (mo : Int) ≤ 255 := by omega
  have hx1 : (x0.toNat : Int) ≤ 255 := by have := x0.toNat_lt; omega
  have hr1' : 1 ≤ (r.length : Int) := by omega
  have hr2' : (r.length : Int) ≤ 51 := by omega
  have Hm := Lib.hid hm
  have Hn := Lib.hid hn
  have Ha := Lib.hid ha
  have Hb := Lib.hid hb
  have Hc := Lib.hid hc
  have Hd := Lib.hid hd
  have Hl := Lib.hid hl
  clear hm hn ha hb hc hd hl
  go_enter Try.func4, Try.ntmps4
  go_wp2_with (first
    | (go_at_call 10; refine (sanity_w _).mono ?_; rintro e w1 ⟨rfl, hb1⟩; have hx := Blk.below ((Blk.new w 41 #[.int .u8 rk, .int .u8 ro, .int .u16 ra, .int .u16 rb, .string (Str rt)]).alloc (.cells #[.int .u8 sk, .int .u8 so, .int .u16 sa, .int .u16 sb, .string (Str st)] 41)) hb1 (by simp; omega); have p0 := hx.c0 0 _ rfl; have p1 := hx.c0 1 _ rfl; have p2 := hx.c0 2 _ rfl; have p3 := hx.c0 3 _ rfl; have p4 := hx.c0 4 _ rfl; simp at p0 p1 p2 p3 p4; have hy := Blk.below (Blk.new' (n := w.heap.size + 1) (w.alloc (.cells #[.int .u8 rk, .int .u8 ro, .int .u16 ra, .int .u16 rb, .string (Str rt)] 41)) 41 #[.int .u8 sk, .int .u8 so, .int .u16 sa, .int .u16 sb, .string (Str st)] (by simp)) hb1 (by simp); have y0 := hy.c0 0 _ rfl; have y1 := hy.c0 1 _ rfl; have y2 := hy.c0 2 _ rfl; have y3 := hy.c0 3 _ rfl; have y4 := hy.c0 4 _ rfl; simp at y0 y1 y2 y3 y4; have Hy1 := Lib.hid hy; have Hb1 := Lib.hid hb1; clear hb1 hx hy)
    | (go_at_call_of 21 (Value.int IntKind.u8 rk); refine (Hm.out _).mono ?_; rintro e w2 ⟨rfl, hb2⟩; have hy := Blk.below Hy1.out hb2 Hy1.out.lt; have z0 := hy.c0 0 _ rfl; have z1 := hy.c0 1 _ rfl; have z2 := hy.c0 2 _ rfl; have z3 := hy.c0 3 _ rfl; have z4 := hy.c0 4 _ rfl; simp at z0 z1 z2 z3 z4; have hlty := hy.lt; have Hb2 := Lib.hid hb2; clear hb2 hy)
    | (go_at_call 21; refine (Hn.out _).mono ?_; rintro e w3 ⟨rfl, hb3⟩; have hA := Blk.below (Blk.new w2 23 #[.int .i64 x0.toNat, .int .i64 m2, .int .i64 m3, .int .i64 m4, .int .i64 m5, .string (Str mt)]) hb3 (by simp); have a0 := hA.c0 0 _ rfl; have a1 := hA.c0 1 _ rfl; have a2 := hA.c0 2 _ rfl; have a3 := hA.c0 3 _ rfl; have a4 := hA.c0 4 _ rfl; have a5 := hA.c0 5 _ rfl; simp at a0 a1 a2 a3 a4 a5; have HA3 := Lib.hid hA; have hltA := hA.lt; have Hb3 := Lib.hid hb3; clear hb3 hA)
    | (go_at_call_of 13 (Value.string (Str mt)); refine (Ha.out _).mono ?_; rintro e w4 ⟨rfl, hb4⟩; have hA := Blk.below (HA3.out.alloc (.cells #[.int .i64 n1, .int .i64 n2, .int .i64 n3, .int .i64 n4, .int .i64 n5, .string (Str nt)] 23)) hb4 (HA3.out.alloc _).lt; have b0 := hA.c0 0 _ rfl; have b1 := hA.c0 1 _ rfl; have b2 := hA.c0 2 _ rfl; have b3 := hA.c0 3 _ rfl; have b4 := hA.c0 4 _ rfl; have b5 := hA.c0 5 _ rfl; simp at b0 b1 b2 b3 b4 b5; have hB := Blk.below (Blk.new w3 23 #[.int .i64 n1, .int .i64 n2, .int .i64 n3, .int .i64 n4, .int .i64 n5, .string (Str nt)]) hb4 (by simp); have c0 := hB.c0 0 _ rfl; have c1 := hB.c0 1 _ rfl; have c2 := hB.c0 2 _ rfl; have c3 := hB.c0 3 _ rfl; have c4 := hB.c0 4 _ rfl; have c5 := hB.c0 5 _ rfl; simp at c0 c1 c2 c3 c4 c5; have HA4 := Lib.hid hA; have HB4 := Lib.hid hB; have Hb4 := Lib.hid hb4; clear hb4 hA hB)
    | (go_at_call 13; refine (Hb.out _).mono ?_; rintro e w5 ⟨rfl, hb5⟩; have hA := Blk.below HA4.out hb5 HA4.out.lt; have hB := Blk.below HB4.out hb5 HB4.out.lt; have HA5 := Lib.hid hA; have HB5 := Lib.hid hB; have Hb5 := Lib.hid hb5; clear hb5 hA hB)
    | (go_at_call_of 15 (Value.string (Str (x0 :: r))); refine (Hc.out _).mono ?_; rintro e w6 ⟨rfl, hb6⟩; have hA := Blk.below HA5.out hb6 HA5.out.lt; have f0 := hA.c0 0 _ rfl; have f1 := hA.c0 1 _ rfl; have f2 := hA.c0 2 _ rfl; have f3 := hA.c0 3 _ rfl; have f4 := hA.c0 4 _ rfl; have f5 := hA.c0 5 _ rfl; simp at f0 f1 f2 f3 f4 f5; have hB := Blk.below HB5.out hb6 HB5.out.lt; have g0 := hB.c0 0 _ rfl; have g1 := hB.c0 1 _ rfl; have g2 := hB.c0 2 _ rfl; have g3 := hB.c0 3 _ rfl; have g4 := hB.c0 4 _ rfl; have g5 := hB.c0 5 _ rfl; simp at g0 g1 g2 g3 g4 g5; have hltA6 := hA.lt; have hltB6 := hB.lt; have HA6 := Lib.hid hA; have HB6 := Lib.hid hB; have Hb6 := Lib.hid hb6; clear hb6 hA hB))
  have hC := Blk.new w6 23 #[.int .i64 x0.toNat, .int .i64 m2, .int .i64 m3, .int .i64 m4, .int .i64 m5, .string (Str mt)]
  have hA := HA6.out.alloc (.cells #[.int .i64 x0.toNat, .int .i64 m2, .int .i64 m3, .int .i64 m4, .int .i64 m5, .string (Str mt)] 23)
  have hB := HB6.out.alloc (.cells #[.int .i64 x0.toNat, .int .i64 m2, .int .i64 m3, .int .i64 m4, .int .i64 m5, .string (Str mt)] 23)
  have HG6 : Hid (Below w.heap.size w (w6.alloc (.cells #[.int .i64 x0.toNat, .int .i64 m2, .int .i64 m3, .int .i64 m4, .int .i64 m5, .string (Str mt)] 23))) := Lib.hid (by
    have h1 := Hb1.out.size
    have h2 := Hb2.out.size
    have h3 := Hb3.out.size
    have h4 := Hb4.out.size
    have h5 := Hb5.out.size
    have h6 := Hb6.out.size
    simp at h1 h2 h3 h4 h5 h6
    exact ((((((((((below_box _).alloc (by simp) _).trans (Hb1.out.mono (by simp; omega))).trans (Hb2.out.mono (by omega))).alloc (by omega) _).trans (Hb3.out.mono (by simp; omega))).alloc (by omega) _).trans (Hb4.out.mono (by simp; omega))).trans (Hb5.out.mono (by omega))).trans (Hb6.out.mono (by omega))).alloc (by omega) _)
  have hsz6 : (w6.alloc (.cells #[.int .i64 x0.toNat, .int .i64 m2, .int .i64 m3, .int .i64 m4, .int .i64 m5, .string (Str mt)] 23)).heap.size = w6.heap.size + 1 := by simp
  generalize w6.alloc (.cells #[.int .i64 x0.toNat, .int .i64 m2, .int .i64 m3, .int .i64 m4, .int .i64 m5, .string (Str mt)] 23) = wx at *
  clear f0 f1 f2 f3 f4 f5 g0 g1 g2 g3 g4 g5
  have f0 := hA.c0 0 _ rfl; have f1 := hA.c0 1 _ rfl; have f2 := hA.c0 2 _ rfl; have f3 := hA.c0 3 _ rfl; have f4 := hA.c0 4 _ rfl; have f5 := hA.c0 5 _ rfl; simp at f0 f1 f2 f3 f4 f5
  have g0 := hB.c0 0 _ rfl; have g1 := hB.c0 1 _ rfl; have g2 := hB.c0 2 _ rfl; have g3 := hB.c0 3 _ rfl; have g4 := hB.c0 4 _ rfl; have g5 := hB.c0 5 _ rfl; simp at g0 g1 g2 g3 g4 g5
  have h0 := hC.c0 0 _ rfl; have h1 := hC.c0 1 _ rfl; have h2 := hC.c0 2 _ rfl; have h3 := hC.c0 3 _ rfl; have h4 := hC.c0 4 _ rfl; have h5 := hC.c0 5 _ rfl; simp at h0 h1 h2 h3 h4 h5
  have HA7 := Lib.hid hA
  have neq := neq_ent
  have hwr : IntKind.i64.wrap (x0.toNat : Int) = (x0.toNat : Int) := by rw [IntKind.wrap_i64]; omega
  have k1 : decide ((r.length : Int) + 1 < 2) = false := by simp; omega
  have k2 : decide (52 < (r.length : Int) + 1) = false := by simp; omega
  clear hA hB hC
  go_quiet (fail)
  go_wp2_with fail
  refine (Hd.out _).mono ?_
  rintro e w7 ⟨rfl, hb7⟩
  have hA := Blk.below ((HA7.out.drewN nq).alloc (.cells #[.int .u8 mo] 5)) hb7 ((HA7.out.drewN nq).alloc _).lt
  clear f0 f1 f2 f3 f4 f5 g0 g1 g2 g3 g4 g5 h0 h1 h2 h3 h4 h5
  have f0 := hA.c0 0 _ rfl; have f1 := hA.c0 1 _ rfl; have f2 := hA.c0 2 _ rfl; have f3 := hA.c0 3 _ rfl; have f4 := hA.c0 4 _ rfl; have f5 := hA.c0 5 _ rfl; simp at f0 f1 f2 f3 f4 f5
  have hltA7 := hA.lt
  have HA8 := Lib.hid hA
  have Hb7 := Lib.hid hb7
  clear hb7 hA
  go_wp2_with fail
  
  refine (Hl.out _).mono ?_
  rintro e w8 ⟨rfl, hb8⟩
  have hA := Blk.below ((HA8.out.alloc (.cells #[.int .i64 d1, .int .i64 d2, .int .i64 d3, .int .i64 d4, .int .i64 d5, .string (Str (mt ++ [UInt8.ofNat mo]))] 23)).alloc (.cells #[.int .u8 mo] 5)) hb8 ((HA8.out.alloc (.cells #[.int .i64 d1, .int .i64 d2, .int .i64 d3, .int .i64 d4, .int .i64 d5, .string (Str (mt ++ [UInt8.ofNat mo]))] 23)).alloc (.cells #[.int .u8 mo] 5)).lt
  clear f0 f1 f2 f3 f4 f5
  have f0 := hA.c0 0 _ rfl; have f1 := hA.c0 1 _ rfl; have f2 := hA.c0 2 _ rfl; have f3 := hA.c0 3 _ rfl; have f4 := hA.c0 4 _ rfl; have f5 := hA.c0 5 _ rfl; simp at f0 f1 f2 f3 f4 f5
  have hltA8 := hA.lt
  have Hb8 := Lib.hid hb8
  clear hb8 hA
  go_wp2_with fail
  go_ret
  have e1 : Below w.heap.size w (wx.drewN nq) := HG6.out.trans (below_drewN _ nq)
  have e2 := e1.alloc e1.size (.cells #[.int .u8 mo] 5)
  have e3 := e2.trans (Hb7.out.mono e2.size)
  have e4 := e3
  have e5 := e4.alloc e4.size (.cells #[.int .i64 d1, .int .i64 d2, .int .i64 d3, .int .i64 d4, .int .i64 d5, .string (Str (mt ++ [UInt8.ofNat mo]))] 23)
  replace e5 := e5.alloc e5.size (.cells #[.int .u8 mo] 5)
  have e6 := e5.trans (Hb8.out.mono e5.size)
  exact ⟨rfl, e6.alloc e6.size _⟩

end Go.Proofs.Ytachicdkgkiiiaa
