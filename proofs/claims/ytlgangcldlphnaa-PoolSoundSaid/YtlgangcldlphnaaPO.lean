/-
  Walks: reference 11: what compares equal things.
-/
import Derived.Test.YtlgangcldlphnaaPI
namespace Go.Proofs.Ytlgangcldlphnaa
open Go.RowKit Go.Sort
set_option linter.unusedVariables false
set_option maxRecDepth 100000

/-- Lists that are equal compare so. -/
theorem ints_w (u v : Value) (l : List Int) (w : World) (h : IsInts w u l) (k : IsInts w v l) :
    Calls Try.prog 25 #[u, v] w fun e w' => e = .returned (.bool true) ∧ Below w.heap.size w w' := by
  have mixed := mixedA
  have H := Lib.hid h
  have K := Lib.hid k
  obtain ⟨a, ca, rfl, hla, hma⟩ := h.slice
  obtain ⟨b, cb, rfl, hlb, hmb⟩ := k.slice
  have hne : ((l.length : Int) != (l.length : Int)) = false := by simp
  clear h k
  go_enter Try.func25, Try.ntmps25
  go_wp2
  go_loopw [5] (fun i wr => ∃ k n : Nat, k ≤ l.length ∧ i = .int .i64 k ∧ wr = w.drewN n) (fun i _ => l.length - (intOf i).toNat)
  case atStart => exact ⟨0, 0, Nat.zero_le _, rfl, rfl⟩
  case round =>
    obtain ⟨k, n, hk, rfl, rfl⟩ := hrel
    by_cases hlt : k < l.length
    · obtain ⟨b5, off5, cap5, he, hbl5, hlz5, y0⟩ := at_int H.out k hlt
      injection he with he1 he2 he3
      subst he1 he3
      clear he2
      obtain ⟨b6, off6, cap6, he, hbl6, hlz6, z0⟩ := at_int K.out k hlt
      injection he with he1 he2 he3
      subst he1 he3
      clear he2
      have hltz : (k : Int) < (l.length : Int) := by omega
      generalize l[k] = x at *
      have y0 := fun n => (show (w.drewN n).cell? ⟨b5, off5 + k, none⟩ = some (.int .i64 x) from y0)
      have z0 := fun n => (show (w.drewN n).cell? ⟨b6, off6 + k, none⟩ = some (.int .i64 x) from z0)
      have hx : (x != x) = false := by simp
      go_wp2_with fail
      go_quiet (fail)
      go_wp2
      go_roundw
      case rel => exact ⟨k + 1, _, by omega, by go_num, rfl⟩
      case measure => simp [intOf]; omega
    · obtain rfl : k = l.length := by omega
      go_wp2
      go_ret
      exact ⟨rfl, below_drewN w n⟩

/-- Two pairs are equal. -/
def prQ (k x : Bs) (t : Int) (k' x' : Bs) (t' : Int) : Bool := decide (k = k' ∧ x = x' ∧ t = t')
theorem prQ_iff (k x : Bs) (t : Int) (k' x' : Bs) (t' : Int) : prQ k x t k' x' t' = true ↔ (k, x, t) = (k', x', t') := by unfold prQ; simp
set_option maxHeartbeats 400000 in
theorem neq_pair (k x : Bs) (t : Int) (k' x' : Bs) (t' : Int) (w : World) :
    (binOp .neq 78 (.agg #[.string (Str k), .string (Str x), .int .i64 t]) (.agg #[.string (Str k'), .string (Str x'), .int .i64 t'])).run Try.prog w = .ok (.bool (!prQ k x t k' x' t')) w := by
  by_cases h1 : k = k'
  · by_cases h2 : x = x'
    · by_cases h3 : t = t'
      · have e : prQ k x t k' x' t' = true := by simp [prQ, h1, h2, h3]
        rw [e]; go_simp
      · have e : prQ k x t k' x' t' = false := by simp [prQ, h3]
        rw [e]; go_simp
    · have e : prQ k x t k' x' t' = false := by simp [prQ, h2]
      rw [e]; go_simp
  · have e : prQ k x t k' x' t' = false := by simp [prQ, h1]
    rw [e]; go_simp
set_option maxHeartbeats 400000 in
theorem eql_pair (k x : Bs) (t : Int) (k' x' : Bs) (t' : Int) (w : World) :
    (binOp .eql 78 (.agg #[.string (Str k), .string (Str x), .int .i64 t]) (.agg #[.string (Str k'), .string (Str x'), .int .i64 t'])).run Try.prog w = .ok (.bool (prQ k x t k' x' t')) w := by
  by_cases h1 : k = k'
  · by_cases h2 : x = x'
    · by_cases h3 : t = t'
      · have e : prQ k x t k' x' t' = true := by simp [prQ, h1, h2, h3]
        rw [e]; go_simp
      · have e : prQ k x t k' x' t' = false := by simp [prQ, h3]
        rw [e]; go_simp
    · have e : prQ k x t k' x' t' = false := by simp [prQ, h2]
      rw [e]; go_simp
  · have e : prQ k x t k' x' t' = false := by simp [prQ, h1]
    rw [e]; go_simp
set_option maxRecDepth 100000 in
set_option maxHeartbeats 2000000 in
theorem rsame_w (v0 v1 : Value) (a b : List Pr) (w : World) (h0 : IsPairs w v0 a) (h1 : IsPairs w v1 b) :
    Calls Try.prog 41 #[v0, v1] w fun e w' => e = .returned (.bool (decide (a = b))) ∧ ∃ n, w' = w.drewN n := by
  have mixed := mixedA
  obtain ⟨g0, o0, cap0, p0, rfl, hl0, hm0, hp0, hc0⟩ := h0.form
  obtain ⟨g1, o1, cap1, p1, rfl, hl1, hm1, hp1, hc1⟩ := h1.form
  unfold maxLen at hm0 hm1
  have HC0 := Lib.hid hc0
  have HC1 := Lib.hid hc1
  clear h0 h1 hp0 hp1 hc0 hc1
  by_cases hlen : a.length = b.length
  · have hlb : ((a.length : Int) != (b.length : Int)) = false := by rw [hlen]; simp
    have Hlen := Lib.hid hlen
    clear hlen
    go_enter Try.func41, Try.ntmps41
    go_wp2
    go_loopw [5] (fun i wr => ∃ k n : Nat, k ≤ a.length ∧ i = .int .i64 k ∧ Hid (a.take k = b.take k) ∧ wr = w.drewN n) (fun i _ => a.length - (intOf i).toNat)
    case atStart => exact ⟨0, 0, Nat.zero_le _, rfl, Lib.hid rfl, rfl⟩
    case round =>
      obtain ⟨k, n, hk, rfl, htake, rfl⟩ := hrel
      by_cases hlt : k < a.length
      · have hltb : k < b.length := by have := Hlen.out; omega
        have hlz : (k : Int) < (b.length : Int) := by omega
        have hlza : (k : Int) < (a.length : Int) := by omega
        obtain ⟨rfl, c0, c1, c2⟩ := HC0.out k hlt
        obtain ⟨rfl, d0, d1, d2⟩ := HC1.out k hltb
        have Ha := Lib.hid (show a.take (k + 1) = a.take k ++ [a[k]] from by rw [List.take_add_one, List.getElem?_eq_getElem hlt]; rfl)
        have Hb := Lib.hid (show b.take (k + 1) = b.take k ++ [b[k]] from by rw [List.take_add_one, List.getElem?_eq_getElem hltb]; rfl)
        have Hne : Hid (a[k] ≠ b[k] → a ≠ b) := Lib.hid (fun h e => h (by subst e; rfl))
        generalize a[k] = x at *
        generalize b[k] = y at *
        obtain ⟨xk, xv, xt⟩ := x
        obtain ⟨yk, yv, yt⟩ := y
        simp only at c0 c1 c2 d0 d1 d2
        have c0 := fun n => (show (w.drewN n).cell? ⟨g0, o0 + k * 3, none⟩ = some (.string (Str xk)) from c0)
        have c1 := fun n => (show (w.drewN n).cell? ⟨g0, o0 + k * 3 + 1, none⟩ = some (.string (Str xv)) from c1)
        have c2 := fun n => (show (w.drewN n).cell? ⟨g0, o0 + k * 3 + 2, none⟩ = some (.int .i64 xt) from c2)
        have d0 := fun n => (show (w.drewN n).cell? ⟨g1, o1 + k * 3, none⟩ = some (.string (Str yk)) from d0)
        have d1 := fun n => (show (w.drewN n).cell? ⟨g1, o1 + k * 3 + 1, none⟩ = some (.string (Str yv)) from d1)
        have d2 := fun n => (show (w.drewN n).cell? ⟨g1, o1 + k * 3 + 2, none⟩ = some (.int .i64 yt) from d2)
        have heq := neq_pair xk xv xt yk yv yt
        cases hq : prQ xk xv xt yk yv yt with
        | true =>
          rw [hq] at heq
          have He := Lib.hid ((prQ_iff _ _ _ _ _ _).1 hq)
          clear hq Hne
          go_wp2_with fail
          go_quiet (fail)
          go_wp2
          go_roundw
          case rel => exact ⟨k + 1, n + nq, by omega, by go_num, Lib.hid (by rw [Ha.out, Hb.out, htake.out, He.out]), rfl⟩
          case measure => simp [intOf]; omega
        | false =>
          rw [hq] at heq
          have He := Lib.hid (Hne.out (fun e => by rw [(prQ_iff _ _ _ _ _ _).2 e] at hq; cases hq))
          clear hq Hne
          go_wp2_with fail
          go_quiet (fail)
          go_wp2
          go_ret
          exact ⟨ret_bool (by have := He.out; simp [this]), n + nq, World.drewN_drewN _ _ _⟩
      · obtain rfl : k = a.length := by omega
        have He : Hid (a = b) := Lib.hid (by
          have := htake.out
          rw [List.take_length, Hlen.out, List.take_length] at this
          exact this)
        clear htake
        go_wp2
        go_ret
        exact ⟨ret_bool (by simp [He.out]), n, rfl⟩
  · have hlb : ((a.length : Int) != (b.length : Int)) = true := by simp; omega
    have He : Hid (a ≠ b) := Lib.hid (fun e => hlen (by rw [e]))
    clear hlen
    go_enter Try.func41, Try.ntmps41
    go_wp2
    go_ret
    exact ⟨ret_bool (by have := He.out; simp [this]), 0, rfl⟩

set_option maxHeartbeats 1000000 in
theorem samemsgs0_w (a a' : Option Addr) (c c' : Nat) (w : World) : Calls Try.prog 42 #[.slice a 0 c, .slice a' 0 c'] w fun e w' => e = .returned (.bool true) ∧ w = w' := by
  go_enter Try.func42, Try.ntmps42
  go_wp2
  go_loop [5] (fun i => i = .int .i64 0) (fun i => 0)
  case atStart => rfl
  case round =>
    subst hrel
    go_wp2
    go_ret
    exact ⟨rfl, rfl⟩
/-- A node of pairs and kids alone. -/
structure Bare (n : Nd) : Prop where
  pivots : n.pivots = []
  sums : n.sums = []
  buf : n.buf = []
theorem bare_zero : Bare zNd := ⟨rfl, rfl, rfl⟩
set_option maxHeartbeats 2000000 in
theorem samenode_w (u v : Value) (n : Nd) (w : World) (h : IsNode w u n) (k : IsNode w v n) (hb : Bare n) :
    Calls Try.prog 23 #[u, v] w fun e w' => e = .returned (.bool true) ∧ Below w.heap.size w w' := by
  have mixed := mixedA
  obtain ⟨z1, z3, z4⟩ := hb
  obtain ⟨a0, a1, a2, a3, a4, rfl, h0, h1, h2, h3, h4⟩ := h
  obtain ⟨b0, b1, b2, b3, b4, rfl, k0, k1, k2, k3, k4⟩ := k
  rw [z1] at h1 k1
  rw [z3] at h3 k3
  rw [z4] at h4 k4
  obtain ⟨a1, e1, rfl, -⟩ := h1
  obtain ⟨a3, e3, rfl, -⟩ := h3
  obtain ⟨a4, e4, rfl, -⟩ := h4
  obtain ⟨b1, f1, rfl, -⟩ := k1
  obtain ⟨b3, f3, rfl, -⟩ := k3
  obtain ⟨b4, f4, rfl, -⟩ := k4
  simp only [List.length_nil]
  clear z1 z3 z4
  obtain ⟨W1, hW1⟩ : ∃ W1, W1 = (w.alloc (.cells #[a0, .slice a1 0 e1, a2, .slice a3 0 e3, .slice a4 0 e4] 39)).alloc (.cells #[b0, .slice b1 0 f1, b2, .slice b3 0 f3, .slice b4 0 f4] 39) := ⟨_, rfl⟩
  have HB1 : Hid (Below w.heap.size w W1) := Lib.hid (by rw [hW1]; exact (((Grown.refl w).alloc _).alloc _).below (Nat.le_refl _))
  have HA : Hid (Blk W1 w.heap.size 39 #[a0, .slice a1 0 e1, a2, .slice a3 0 e3, .slice a4 0 e4]) := Lib.hid (by rw [hW1]; exact (Blk.new _ _ _).alloc _)
  have HB : Hid (Blk W1 (w.heap.size + 1) 39 #[b0, .slice b1 0 f1, b2, .slice b3 0 f3, .slice b4 0 f4]) := Lib.hid (by rw [hW1]; exact Blk.new' _ _ _ (by simp))
  have HW1 := Lib.hid hW1
  have HS := Lib.hid (rsame_w a0 b0 n.pairs n.pairs W1 (h0.below HB1.out) (k0.below HB1.out))
  have HI := Lib.hid (fun wx (hx : Below w.heap.size w wx) => ints_w a2 b2 n.kids wx (h2.below hx) (k2.below hx))
  have HM := Lib.hid (samemsgs0_w a4 b4 e4 f4)
  have hd : decide (n.pairs = n.pairs) = true := by simp
  rw [hd] at HS
  obtain ⟨p0, q0, rfl, -⟩ := h0
  obtain ⟨p1, q1, rfl, -⟩ := k0
  obtain ⟨p2, q2, rfl, -⟩ := h2
  obtain ⟨p3, q3, rfl, -⟩ := k2
  clear hW1 hd
  go_enter Try.func23, Try.ntmps23
  go_upto_region 1 with fail
  rw [← HW1.out]
  obtain ⟨c0, c1, c2, c3, c4, -⟩ := p5_ok HA.out
  obtain ⟨d0, d1, d2, d3, d4, -⟩ := p5_ok HB.out
  go_wp2_with (first
    | (go_at_call 41; refine HS.out.mono ?_; rintro e w2 ⟨rfl, n2, hw2⟩; have hb2 : Below W1.heap.size W1 w2 := hw2 ▸ below_drewN W1 n2; have HB2 := Lib.hid hb2; clear c0 c1 c2 c3 c4 d0 d1 d2 d3 d4 hw2; obtain ⟨c0, c1, c2, c3, c4, -⟩ := p5_ok (HA.out.below hb2 HA.out.lt); obtain ⟨d0, d1, d2, d3, d4, -⟩ := p5_ok (HB.out.below hb2 HB.out.lt); clear hb2)
    | (go_at_call 25; refine (HI.out _ (Below.next HB1.out (Nat.le_refl _) HB2.out)).mono ?_; rintro e w3 ⟨rfl, hb3⟩; have HB3 := Lib.hid (HB2.out.trans (hb3.mono HB2.out.size)); clear c0 c1 c2 c3 c4 d0 d1 d2 d3 d4; obtain ⟨c0, c1, c2, c3, c4, -⟩ := p5_ok (HA.out.below HB3.out HA.out.lt); obtain ⟨d0, d1, d2, d3, d4, -⟩ := p5_ok (HB.out.below HB3.out HB.out.lt); clear hb3)
    | (go_at_call 42; refine (HM.out _).mono ?_; rintro e w4 ⟨rfl, rfl⟩))
  go_loop [5] (fun i => i = .int .i64 0) (fun i => 0)
  case atStart => rfl
  case round =>
    subst hrel
    go_wp2
    go_loop [6] (fun i => i = .int .i64 0) (fun i => 0)
    case atStart => rfl
    case round =>
      subst hrel
      go_wp2
      go_ret
      exact ⟨rfl, Below.next HB1.out (Nat.le_refl _) HB3.out⟩

theorem keepQ {W wx : World} {b : Nat} (h : Below W.heap.size W wx) (i : Nat) (hb : W.heap.size ≤ b) (v : Value) : Below W.heap.size W (wx.setCell ⟨b, i, none⟩ v) := h.setCell hb v
theorem vAt_all {w : World} {b o : Nat} {s : Sv} (h : VAt w b o s) (hl : b < w.heap.size) :
  (∀ wx, Below w.heap.size w wx → wx.cell? ⟨b, o, none⟩ = some (.bool s.used)) ∧ (∀ wx, Below w.heap.size w wx → wx.cell? ⟨b, o + 1, none⟩ = some (.bool s.lost)) ∧ (∀ wx, Below w.heap.size w wx → wx.cell? ⟨b, o + 2, none⟩ = some (.int .i64 s.refs)) ∧ (∀ wx, Below w.heap.size w wx → wx.cell? ⟨b, o + 3, none⟩ = some (slv s.a)) ∧
  (∀ wx, Below w.heap.size w wx → wx.cell? ⟨b, o + 4, none⟩ = some (slv s.b)) ∧ (∀ wx, Below w.heap.size w wx → wx.cell? ⟨b, o + 5, none⟩ = some (slv s.c)) ∧ (∀ wx, Below w.heap.size w wx → wx.cell? ⟨b, o + 6, none⟩ = some (slv s.d)) ∧ (∀ wx, Below w.heap.size w wx → wx.cell? ⟨b, o + 7, none⟩ = some (slv s.e)) := by
  obtain ⟨h0, h1, h2, h3, h4, h5, h6, h7⟩ := h
  exact ⟨cell_all h0, cell_all h1, cell_all h2, cell_all h3, cell_all h4, cell_all h5, cell_all h6, cell_all h7⟩
set_option maxHeartbeats 4000000 in
theorem same_w (u v : Value) (P : List Sl) (w : World) (h : IsSlots w u P) (k : IsSlots w v P) (hb : ∀ i, Bare (atP P i).node) :
    Calls Try.prog 24 #[poolV u, poolV v] w fun e w' => e = .returned (.bool true) ∧ Below w.heap.size w w' := by
  have mixed := mixedA
  have H := Lib.hid h
  have K := Lib.hid k
  have HBA := Lib.hid hb
  obtain ⟨a, cap, rfl, hle, hcm, hpm⟩ := h.slice
  obtain ⟨a', cap', rfl, hle', hcm', -⟩ := k.slice
  obtain ⟨W1, hW1⟩ : ∃ W1, W1 = (w.alloc (.cells #[.slice a P.length cap] 29)).alloc (.cells #[.slice a' P.length cap'] 29) := ⟨_, rfl⟩
  have HB1 : Hid (Below w.heap.size w W1) := Lib.hid (by rw [hW1]; exact (((Grown.refl w).alloc _).alloc _).below (Nat.le_refl _))
  have HA : Hid (Blk W1 w.heap.size 29 #[.slice a P.length cap]) := Lib.hid (by rw [hW1]; exact (Blk.new _ _ _).alloc _)
  have HB : Hid (Blk W1 (w.heap.size + 1) 29 #[.slice a' P.length cap']) := Lib.hid (by rw [hW1]; exact Blk.new' _ _ _ (by simp))
  have HW1 := Lib.hid hW1
  have hne : ((P.length : Int) != (P.length : Int)) = false := by simp
  clear hW1 h k hb
  go_enter Try.func24, Try.ntmps24
  go_upto_region 1 with fail
  rw [← HW1.out]
  have c0 : W1.cell? ⟨w.heap.size, 0, none⟩ = some (.slice a P.length cap) := HA.out.c0 0 _ rfl
  have d0 : W1.cell? ⟨w.heap.size + 1, 0, none⟩ = some (.slice a' P.length cap') := HB.out.c0 0 _ rfl
  go_wp2_with fail
  clear c0 d0
  go_loopw [5] (fun i wr => ∃ k : Nat, k ≤ P.length ∧ i = .int .i64 k ∧ Hid (Below W1.heap.size W1 wr)) (fun i _ => P.length - (intOf i).toNat)
  case atStart => exact ⟨0, Nat.zero_le _, rfl, Lib.hid (Below.refl _ _)⟩
  case round =>
    obtain ⟨k, hk, rfl, HBr⟩ := hrel
    have c0 : wr.cell? ⟨w.heap.size, 0, none⟩ = some (.slice a P.length cap) := (HA.out.below HBr.out HA.out.lt).c0 0 _ rfl
    have d0 : wr.cell? ⟨w.heap.size + 1, 0, none⟩ = some (.slice a' P.length cap') := (HB.out.below HBr.out HB.out.lt).c0 0 _ rfl
    have HBw : Hid (Below w.heap.size w wr) := Lib.hid (HB1.out.trans (HBr.out.mono HB1.out.size))
    by_cases hlt : k < P.length
    · have hltz : (k : Int) < (P.length : Int) := by omega
      obtain ⟨bb, off, cap1, s, he, hbl, hlz, hs, x0, x1, x2, x3, x4, x5, x6, x7⟩ := slot_at (H.out.below HBw.out) k hlt
      injection he with he1 he2 he3
      subst he1 he3
      clear he2
      obtain ⟨bb2, off2, cap2, t, he, hbl2, hlz2, ht, y0, y1, y2, y3, y4, y5, y6, y7⟩ := slot_at (K.out.below HBw.out) k hlt
      injection he with he1 he2 he3
      subst he1 he3
      clear he2
      have hn1 := hs.node
      have hn2 := ht.node
      have HE0 : Hid (t.used = s.used) := Lib.hid (by rw [hs.used, ht.used])
      have HE1 : Hid (t.lost = s.lost) := Lib.hid (by rw [hs.lost, ht.lost])
      have HE2 : Hid (t.refs = s.refs) := Lib.hid (by rw [hs.refs, ht.refs])
      have HSN := Lib.hid (fun wx (hx : Below wr.heap.size wr wx) => samenode_w (nodeV s) (nodeV t) (atP P k).node wx (hn1.below hx) (hn2.below hx) (HBA.out k))
      have HL0 : Hid (Below wr.heap.size wr wr) := Lib.hid (Below.refl _ _)
      obtain ⟨x0, x1, x2, x3, x4, x5, x6, x7⟩ := vAt_all (s := s) ⟨x0, x1, x2, x3, x4, x5, x6, x7⟩ hbl
      obtain ⟨y0, y1, y2, y3, y4, y5, y6, y7⟩ := vAt_all (s := t) ⟨y0, y1, y2, y3, y4, y5, y6, y7⟩ hbl2
      have c0 := cell_all c0
      have d0 := cell_all d0
      clear hs ht hn1 hn2
      go_wp2_with fail
      go_cut [6, 7] (fun s6 s7 wx => ∃ p q, s6 = .pointer (some ⟨p, 0, none⟩) ∧ s7 = .pointer (some ⟨q, 0, none⟩) ∧ Hid (Blk wx p 61 (encV s).toArray) ∧ Hid (Blk wx q 61 (encV t).toArray) ∧ Hid (Below wr.heap.size wr wx))
      case first =>
        go_region_held3 (fun wx => Below wr.heap.size wr wx) (repeat (first | with_reducible assumption | with_reducible exact HL0.out | with_reducible refine Below.drew ?_ | with_reducible refine keepP ?_ _ | with_reducible refine keepQ ?_ _ (by simp) _)) (fail)
        · go_wp2
          go_meet
          exact ⟨_, _, rfl, rfl, Lib.hid ((Blk.new wr _ _).alloc _), Lib.hid (Blk.new' (n := wr.heap.size + 1) _ _ _ (by simp)), Lib.hid (keepP (keepP (Below.refl wr.heap.size wr) _) _).drew⟩
        · go_wp2
          go_meet
          exact ⟨_, _, rfl, rfl, Lib.hid (Blk.new' (n := wr.heap.size + 1) _ _ _ (by simp)), Lib.hid ((Blk.new wr _ _).alloc _), Lib.hid (keepP (keepP (Below.refl wr.heap.size wr) _) _).drew⟩
      case rest =>
        obtain ⟨p, q, rfl, rfl, HP, HQ, HBc⟩ := hcut
        have p0 : wc.cell? ⟨p, 0, none⟩ = some (.bool s.used) := HP.out.c0 0 _ rfl
        have p1 : wc.cell? ⟨p, 1, none⟩ = some (.bool s.lost) := HP.out.c0 1 _ rfl
        have p2 : wc.cell? ⟨p, 2, none⟩ = some (.int .i64 s.refs) := HP.out.c0 2 _ rfl
        have p3 : wc.cell? ⟨p, 3, none⟩ = some (slv s.a) := HP.out.c0 3 _ rfl
        have p4 : wc.cell? ⟨p, 4, none⟩ = some (slv s.b) := HP.out.c0 4 _ rfl
        have p5 : wc.cell? ⟨p, 5, none⟩ = some (slv s.c) := HP.out.c0 5 _ rfl
        have p6 : wc.cell? ⟨p, 6, none⟩ = some (slv s.d) := HP.out.c0 6 _ rfl
        have p7 : wc.cell? ⟨p, 7, none⟩ = some (slv s.e) := HP.out.c0 7 _ rfl
        have q0 : wc.cell? ⟨q, 0, none⟩ = some (.bool s.used) := by rw [← HE0.out]; exact HQ.out.c0 0 _ rfl
        have q1 : wc.cell? ⟨q, 1, none⟩ = some (.bool s.lost) := by rw [← HE1.out]; exact HQ.out.c0 1 _ rfl
        have q2 : wc.cell? ⟨q, 2, none⟩ = some (.int .i64 s.refs) := by rw [← HE2.out]; exact HQ.out.c0 2 _ rfl
        have q3 : wc.cell? ⟨q, 3, none⟩ = some (slv t.a) := HQ.out.c0 3 _ rfl
        have q4 : wc.cell? ⟨q, 4, none⟩ = some (slv t.b) := HQ.out.c0 4 _ rfl
        have q5 : wc.cell? ⟨q, 5, none⟩ = some (slv t.c) := HQ.out.c0 5 _ rfl
        have q6 : wc.cell? ⟨q, 6, none⟩ = some (slv t.d) := HQ.out.c0 6 _ rfl
        have q7 : wc.cell? ⟨q, 7, none⟩ = some (slv t.e) := HQ.out.c0 7 _ rfl
        clear c0 d0 x0 x1 x2 x3 x4 x5 x6 x7 y0 y1 y2 y3 y4 y5 y6 y7
        go_wp2_with (go_at_call 23; refine (HSN.out _ HBc.out).mono ?_; rintro e w5 ⟨rfl, hb5⟩; have HB5 := Lib.hid hb5; clear hb5)
        go_roundw
        case rel => exact ⟨k + 1, by omega, by go_num, Lib.hid (HBr.out.trans ((HBc.out.trans (HB5.out.mono HBc.out.size)).mono HBr.out.size))⟩
        case measure => simp [intOf]; omega
    · obtain rfl : k = P.length := by omega
      go_wp2
      go_ret
      exact ⟨rfl, HBw.out⟩

end Go.Proofs.Ytlgangcldlphnaa
