/-
  Walks of the references 02, 04 and 05: which lists are the same; spans that are drawn.
-/
import Derived.Test.YtmbfghbhajmpiaaGreatGC
import Derived.Test.YtmbfghbhajmpiaaGreatRBA
import Derived.Test.YtmbfghbhajmpiaaGreatMT
namespace Go.Proofs.YtmbfghbhajmpiaaGreat
namespace T4
open Go.RowKit Go.Sort
set_option linter.unusedVariables false

/-- Where Span stands: its two bytes, its result, its span. -/
structure SpSt (w : World) (a b n : Nat) (x y : Bs) (wx : World) : Prop where
  lt : w.heap.size + 1 < n
  s : Blk wx n 41 #[.string (Str x), .string (Str y)]
  k : Blk wx w.heap.size 43 #[.int .u8 a, .int .u8 b]
  r : Blk wx (w.heap.size + 1) 41 #[.string ⟨#[]⟩, .string ⟨#[]⟩]
  b : Below w.heap.size w wx
theorem SpSt.two {w wx : World} {a b n : Nat} {x y : Value} (p q : Bs) (lt : w.heap.size + 1 < n) (hz : Blk wx n 41 #[x, y]) (hA : Blk wx w.heap.size 43 #[.int .u8 a, .int .u8 b] ∧ Blk wx (w.heap.size + 1) 41 #[.string ⟨#[]⟩, .string ⟨#[]⟩] ∧ Below w.heap.size w wx) :
    SpSt w a b n p q ((wx.setCell ⟨n, 0, none⟩ (.string (Str p))).setCell ⟨n, 1, none⟩ (.string (Str q))) where
  lt := lt
  s := (hz.setCell 0 _).setCell 1 _
  k := (hA.1.setCell_other (by omega) _ _).setCell_other (by omega) _ _
  r := (hA.2.1.setCell_other (by omega) _ _).setCell_other (by omega) _ _
  b := (hA.2.2.setCell (by show _ ≤ n; omega) _).setCell (by show _ ≤ n; omega) _
theorem SpSt.new {w wx : World} {a b : Nat} (p q : Bs) (lt : w.heap.size + 1 < wx.heap.size) (hA : Blk wx w.heap.size 43 #[.int .u8 a, .int .u8 b] ∧ Blk wx (w.heap.size + 1) 41 #[.string ⟨#[]⟩, .string ⟨#[]⟩] ∧ Below w.heap.size w wx) :
    SpSt w a b wx.heap.size p q (wx.alloc (.cells #[.string (Str p), .string (Str q)] 41)) where
  lt := lt
  s := Blk.new _ _ _
  k := hA.1.alloc _
  r := hA.2.1.alloc _
  b := hA.2.2.alloc hA.2.2.size _
theorem SpSt.below {w wx wy : World} {a b n : Nat} {x y : Bs} (h : SpSt w a b n x y wx) (hb : Below wx.heap.size wx wy) : SpSt w a b n x y wy where
  lt := h.lt
  s := h.s.below hb h.s.lt
  k := h.k.below hb h.k.lt
  r := h.r.below hb h.r.lt
  b := h.b.trans (hb.mono h.b.size)
theorem SpSt.lo {w wx : World} {a b n : Nat} {x y : Bs} (h : SpSt w a b n x y wx) (p : Bs) : SpSt w a b n p y (wx.setCell ⟨n, 0, none⟩ (.string (Str p))) where
  lt := h.lt
  s := h.s.setCell 0 _
  k := h.k.setCell_other (by have := h.lt; omega) _ _
  r := h.r.setCell_other (by have := h.lt; omega) _ _
  b := h.b.setCell (by have := h.lt; show _ ≤ n; omega) _
theorem SpSt.hi {w wx : World} {a b n : Nat} {x y : Bs} (h : SpSt w a b n x y wx) (p : Bs) : SpSt w a b n x p (wx.setCell ⟨n, 1, none⟩ (.string (Str p))) where
  lt := h.lt
  s := h.s.setCell 1 _
  k := h.k.setCell_other (by have := h.lt; omega) _ _
  r := h.r.setCell_other (by have := h.lt; omega) _ _
  b := h.b.setCell (by have := h.lt; show _ ≤ n; omega) _

end T4
open Go.RowKit Go.Sort
set_option linter.unusedVariables false

set_option maxRecDepth 100000 in
set_option maxHeartbeats 1000000 in
theorem samebytes_w (v0 v1 : Value) (a b : Bs) (w : World) (h0 : IsBytes w v0 a) (h1 : IsBytes w v1 b) : Calls Tryz.prog 22 #[v0, v1] w fun e w' => e = .returned (.bool (decide (a = b))) ∧ w = w' := by
  have h0 := conv_bytes h0
  have h1 := conv_bytes h1
  have Hd : Hid (True) := Lib.hid trivial
  go_enter Tryz.func22, Tryz.ntmps22
  go_wp2
  go_ret
  exact ⟨ret_bool (by rw [Bool.eq_iff_iff]; simp), rfl⟩
set_option maxRecDepth 100000 in
set_option maxHeartbeats 2000000 in
theorem samemsgs_w (v0 v1 : Value) (a b : List Ms) (w : World) (h0 : IsMsgs w v0 a) (h1 : IsMsgs w v1 b) :
    Calls Tryz.prog 54 #[v0, v1] w fun e w' => e = .returned (.bool (decide (a = b))) ∧ ∃ n, w' = w.drewN n := by
  have mixed := mixedA
  obtain ⟨g0, o0, cap0, p0, rfl, hl0, hm0, hp0, hc0⟩ := h0.form
  obtain ⟨g1, o1, cap1, p1, rfl, hl1, hm1, hp1, hc1⟩ := h1.form
  unfold maxLen at hm0 hm1
  have HC0 := Lib.hid hc0
  have HC1 := Lib.hid hc1
  clear h0 h1 hp0 hp1 hc0 hc1
  by_cases hlen : a.length = b.length
  · have hlb : ((a.length : Int) != (b.length : Int)) = false := by rw [hlen]; simp
    have Hlen := Lib.hid hlen
    clear hlen
    go_enter Tryz.func54, Tryz.ntmps54
    go_wp2
    go_loopw [5] (fun i wr => ∃ k n : Nat, k ≤ a.length ∧ i = .int .i64 k ∧ Hid (a.take k = b.take k) ∧ wr = w.drewN n) (fun i _ => a.length - (intOf i).toNat)
    case atStart => exact ⟨0, 0, Nat.zero_le _, rfl, Lib.hid rfl, rfl⟩
    case round =>
      obtain ⟨k, n, hk, rfl, htake, rfl⟩ := hrel
      by_cases hlt : k < a.length
      · have hltb : k < b.length := by have := Hlen.out; omega
        have hlz : (k : Int) < (b.length : Int) := by omega
        have hlza : (k : Int) < (a.length : Int) := by omega
        obtain ⟨rfl, c0, c1, c2, c3, c4, c5, c6, c7⟩ := HC0.out k hlt
        obtain ⟨rfl, d0, d1, d2, d3, d4, d5, d6, d7⟩ := HC1.out k hltb
        have Ha := Lib.hid (show a.take (k + 1) = a.take k ++ [a[k]] from by rw [List.take_add_one, List.getElem?_eq_getElem hlt]; rfl)
        have Hb := Lib.hid (show b.take (k + 1) = b.take k ++ [b[k]] from by rw [List.take_add_one, List.getElem?_eq_getElem hltb]; rfl)
        have Hne : Hid (a[k] ≠ b[k] → a ≠ b) := Lib.hid (fun h e => h (by subst e; rfl))
        generalize a[k] = x at *
        generalize b[k] = y at *
        have HQ := Lib.hid (fun wx => neq_msg x y wx)
        have HG := Lib.hid (fun o p wx => guard_msg .neq o p (encM x) (encM y) wx)
        have Hxy : Hid (decide (x = y) = true ↔ x = y) := Lib.hid (by simp)
        obtain ⟨x0, x1, x2, x3, x4, x5, x6, x7⟩ := x
        obtain ⟨y0, y1, y2, y3, y4, y5, y6, y7⟩ := y
        have c0 := fun n => (show (w.drewN n).cell? ⟨g0, o0 + k * 8, none⟩ = some (.int .i64 x0) from c0)
        have c1 := fun n => (show (w.drewN n).cell? ⟨g0, o0 + k * 8 + 1, none⟩ = some (.string (Str x1)) from c1)
        have c2 := fun n => (show (w.drewN n).cell? ⟨g0, o0 + k * 8 + 2, none⟩ = some (.string (Str x2)) from c2)
        have c3 := fun n => (show (w.drewN n).cell? ⟨g0, o0 + k * 8 + 3, none⟩ = some (.string (Str x3)) from c3)
        have c4 := fun n => (show (w.drewN n).cell? ⟨g0, o0 + k * 8 + 4, none⟩ = some (.string (Str x4)) from c4)
        have c5 := fun n => (show (w.drewN n).cell? ⟨g0, o0 + k * 8 + 5, none⟩ = some (.string (Str x5)) from c5)
        have c6 := fun n => (show (w.drewN n).cell? ⟨g0, o0 + k * 8 + 6, none⟩ = some (.string (Str x6)) from c6)
        have c7 := fun n => (show (w.drewN n).cell? ⟨g0, o0 + k * 8 + 7, none⟩ = some (.int .i64 x7) from c7)
        have d0 := fun n => (show (w.drewN n).cell? ⟨g1, o1 + k * 8, none⟩ = some (.int .i64 y0) from d0)
        have d1 := fun n => (show (w.drewN n).cell? ⟨g1, o1 + k * 8 + 1, none⟩ = some (.string (Str y1)) from d1)
        have d2 := fun n => (show (w.drewN n).cell? ⟨g1, o1 + k * 8 + 2, none⟩ = some (.string (Str y2)) from d2)
        have d3 := fun n => (show (w.drewN n).cell? ⟨g1, o1 + k * 8 + 3, none⟩ = some (.string (Str y3)) from d3)
        have d4 := fun n => (show (w.drewN n).cell? ⟨g1, o1 + k * 8 + 4, none⟩ = some (.string (Str y4)) from d4)
        have d5 := fun n => (show (w.drewN n).cell? ⟨g1, o1 + k * 8 + 5, none⟩ = some (.string (Str y5)) from d5)
        have d6 := fun n => (show (w.drewN n).cell? ⟨g1, o1 + k * 8 + 6, none⟩ = some (.string (Str y6)) from d6)
        have d7 := fun n => (show (w.drewN n).cell? ⟨g1, o1 + k * 8 + 7, none⟩ = some (.int .i64 y7) from d7)
        have heq := HQ.out
        have hgu := HG.out
        clear HQ HG
        dsimp only [msgV, encM] at heq hgu
        generalize decide ((⟨x0, x1, x2, x3, x4, x5, x6, x7⟩ : Ms) = ⟨y0, y1, y2, y3, y4, y5, y6, y7⟩) = q at *
        cases q with
        | true =>
          have He := Lib.hid (Hxy.out.1 rfl)
          clear Hxy Hne
          go_wp2_with fail
          go_quiet (fail)
          go_wp2
          go_roundw
          case rel => exact ⟨k + 1, n + nq, by omega, by go_num, Lib.hid (by rw [Ha.out, Hb.out, htake.out, He.out]), rfl⟩
          case measure => simp [intOf]; omega
        | false =>
          have He := Lib.hid (Hne.out (fun e => by have := Hxy.out.2 e; cases this))
          clear Hxy Hne
          go_wp2_with fail
          go_quiet (fail)
          go_wp2
          go_ret
          exact ⟨ret_bool (by have := He.out; simp [this]), n + nq, World.drewN_drewN _ _ _⟩
      · obtain rfl : k = a.length := by omega
        have He : Hid (a = b) := Lib.hid (by
          have := htake.out
          rw [List.take_length, Hlen.out, List.take_length] at this
          exact this)
        clear htake
        go_wp2
        go_ret
        exact ⟨ret_bool (by simp [He.out]), n, rfl⟩
  · have hlb : ((a.length : Int) != (b.length : Int)) = true := by simp; omega
    have He : Hid (a ≠ b) := Lib.hid (fun e => hlen (by rw [e]))
    clear hlen
    go_enter Tryz.func54, Tryz.ntmps54
    go_wp2
    go_ret
    exact ⟨ret_bool (by have := He.out; simp [this]), 0, rfl⟩

end Go.Proofs.YtmbfghbhajmpiaaGreat
