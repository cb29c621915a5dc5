/-
  Walks: lists of messages compared; the law's own small functions of package route.
-/
import Derived.Test.YtjncehkldhkobaaGreatRY
namespace Go.Proofs.YtjncehkldhkobaaGreat
open Go.RowKit Go.Sort
set_option linter.unusedVariables false

set_option maxRecDepth 100000 in
set_option maxHeartbeats 2000000 in
theorem samemsgs_w (v0 v1 : Value) (a b : List Ms) (w : World) (h0 : IsMsgs w v0 a) (h1 : IsMsgs w v1 b) :
    Calls Tryz.prog 22 #[v0, v1] w fun e w' => e = .returned (.bool (decide (a = b))) ∧ ∃ n, w' = w.drewN n := by
  have mixed := mixedA
  obtain ⟨g0, o0, cap0, p0, rfl, hl0, hm0, hp0, hc0⟩ := h0.form
  obtain ⟨g1, o1, cap1, p1, rfl, hl1, hm1, hp1, hc1⟩ := h1.form
  unfold maxLen at hm0 hm1
  have HC0 := Lib.hid hc0
  have HC1 := Lib.hid hc1
  clear h0 h1 hp0 hp1 hc0 hc1
  by_cases hlen : a.length = b.length
  · have hlb : ((a.length : Int) != (b.length : Int)) = false := by rw [hlen]; simp
    have Hlen := Lib.hid hlen
    clear hlen
    go_enter Tryz.func22, Tryz.ntmps22
    go_wp2
    go_loopw [5] (fun i wr => ∃ k n : Nat, k ≤ a.length ∧ i = .int .i64 k ∧ Hid (a.take k = b.take k) ∧ wr = w.drewN n) (fun i _ => a.length - (intOf i).toNat)
    case atStart => exact ⟨0, 0, Nat.zero_le _, rfl, Lib.hid rfl, rfl⟩
    case round =>
      obtain ⟨k, n, hk, rfl, htake, rfl⟩ := hrel
      by_cases hlt : k < a.length
      · have hltb : k < b.length := by have := Hlen.out; omega
        have hlz : (k : Int) < (b.length : Int) := by omega
        have hlza : (k : Int) < (a.length : Int) := by omega
        obtain ⟨rfl, c0, c1, c2, c3, c4, c5, c6, c7⟩ := HC0.out k hlt
        obtain ⟨rfl, d0, d1, d2, d3, d4, d5, d6, d7⟩ := HC1.out k hltb
        have Ha := Lib.hid (show a.take (k + 1) = a.take k ++ [a[k]] from by rw [List.take_add_one, List.getElem?_eq_getElem hlt]; rfl)
        have Hb := Lib.hid (show b.take (k + 1) = b.take k ++ [b[k]] from by rw [List.take_add_one, List.getElem?_eq_getElem hltb]; rfl)
        have Hne : Hid (a[k] ≠ b[k] → a ≠ b) := Lib.hid (fun h e => h (by subst e; rfl))
        generalize a[k] = x at *
        generalize b[k] = y at *
        have HQ := Lib.hid (fun wx => neq_msg x y wx)
        have HG := Lib.hid (fun o p wx => guard_msg .neq o p (encM x) (encM y) wx)
        have Hxy : Hid (decide (x = y) = true ↔ x = y) := Lib.hid (by simp)
        obtain ⟨x0, x1, x2, x3, x4, x5, x6, x7⟩ := x
        obtain ⟨y0, y1, y2, y3, y4, y5, y6, y7⟩ := y
        have c0 := fun n => (show (w.drewN n).cell? ⟨g0, o0 + k * 8, none⟩ = some (.int .i64 x0) from c0)
        have c1 := fun n => (show (w.drewN n).cell? ⟨g0, o0 + k * 8 + 1, none⟩ = some (.string (Str x1)) from c1)
        have c2 := fun n => (show (w.drewN n).cell? ⟨g0, o0 + k * 8 + 2, none⟩ = some (.string (Str x2)) from c2)
        have c3 := fun n => (show (w.drewN n).cell? ⟨g0, o0 + k * 8 + 3, none⟩ = some (.string (Str x3)) from c3)
        have c4 := fun n => (show (w.drewN n).cell? ⟨g0, o0 + k * 8 + 4, none⟩ = some (.string (Str x4)) from c4)
        have c5 := fun n => (show (w.drewN n).cell? ⟨g0, o0 + k * 8 + 5, none⟩ = some (.string (Str x5)) from c5)
        have c6 := fun n => (show (w.drewN n).cell? ⟨g0, o0 + k * 8 + 6, none⟩ = some (.string (Str x6)) from c6)
        have c7 := fun n => (show (w.drewN n).cell? ⟨g0, o0 + k * 8 + 7, none⟩ = some (.int .i64 x7) from c7)
        have d0 := fun n => (show (w.drewN n).cell? ⟨g1, o1 + k * 8, none⟩ = some (.int .i64 y0) from d0)
        have d1 := fun n => (show (w.drewN n).cell? ⟨g1, o1 + k * 8 + 1, none⟩ = some (.string (Str y1)) from d1)
        have d2 := fun n => (show (w.drewN n).cell? ⟨g1, o1 + k * 8 + 2, none⟩ = some (.string (Str y2)) from d2)
        have d3 := fun n => (show (w.drewN n).cell? ⟨g1, o1 + k * 8 + 3, none⟩ = some (.string (Str y3)) from d3)
        have d4 := fun n => (show (w.drewN n).cell? ⟨g1, o1 + k * 8 + 4, none⟩ = some (.string (Str y4)) from d4)
        have d5 := fun n => (show (w.drewN n).cell? ⟨g1, o1 + k * 8 + 5, none⟩ = some (.string (Str y5)) from d5)
        have d6 := fun n => (show (w.drewN n).cell? ⟨g1, o1 + k * 8 + 6, none⟩ = some (.string (Str y6)) from d6)
        have d7 := fun n => (show (w.drewN n).cell? ⟨g1, o1 + k * 8 + 7, none⟩ = some (.int .i64 y7) from d7)
        have heq := HQ.out
        have hgu := HG.out
        clear HQ HG
        dsimp only [msgV, encM] at heq hgu
        generalize decide ((⟨x0, x1, x2, x3, x4, x5, x6, x7⟩ : Ms) = ⟨y0, y1, y2, y3, y4, y5, y6, y7⟩) = q at *
        cases q with
        | true =>
          have He := Lib.hid (Hxy.out.1 rfl)
          clear Hxy Hne
          go_wp2_with fail
          go_quiet (fail)
          go_wp2
          go_roundw
          case rel => exact ⟨k + 1, n + nq, by omega, by go_num, Lib.hid (by rw [Ha.out, Hb.out, htake.out, He.out]), rfl⟩
          case measure => simp [intOf]; omega
        | false =>
          have He := Lib.hid (Hne.out (fun e => by have := Hxy.out.2 e; cases this))
          clear Hxy Hne
          go_wp2_with fail
          go_quiet (fail)
          go_wp2
          go_ret
          exact ⟨ret_bool (by have := He.out; simp [this]), n + nq, World.drewN_drewN _ _ _⟩
      · obtain rfl : k = a.length := by omega
        have He : Hid (a = b) := Lib.hid (by
          have := htake.out
          rw [List.take_length, Hlen.out, List.take_length] at this
          exact this)
        clear htake
        go_wp2
        go_ret
        exact ⟨ret_bool (by simp [He.out]), n, rfl⟩
  · have hlb : ((a.length : Int) != (b.length : Int)) = true := by simp; omega
    have He : Hid (a ≠ b) := Lib.hid (fun e => hlen (by rw [e]))
    clear hlen
    go_enter Tryz.func22, Tryz.ntmps22
    go_wp2
    go_ret
    exact ⟨ret_bool (by have := He.out; simp [this]), 0, rfl⟩


/-- What goes and what stays, as the law keeps it. -/
@[reducible] def wayV (v1 v2 : Value) : Value := .agg #[v1, v2, .slice none 0 0]
def WayOut (w : World) (s : Sp) (l : List Ms) (e : Ending) (w' : World) : Prop :=
  ∃ v1 v2, e = .returned (wayV v1 v2) ∧ OwnM w' w.heap.size v1 (readyW s l).1 ∧ OwnM w' w.heap.size v2 (readyW s l).2.1 ∧ Below w.heap.size w w'
set_option maxHeartbeats 2000000 in
theorem lready_w (v vp : Value) (l : List Ms) (ps : List Bs) (i : Nat) (w : World) (hm : IsMsgs w v l) (hp : IsStrs w vp ps) (hz : ∀ m ∈ l, SizeM m) (hf : ∀ m ∈ l, FullM m) (hi : i ≤ ps.length) (hsz : SizeP (kidSp ps i)) (hl : l.length ≤ 60) (hpl : ps.length ≤ 1000) :
    Calls Tryz.prog 18 #[v, vp, .int .i64 i] w (WayOut w (kidSp ps i) l) := by
  have mixed := mixedA
  have hb0 : Blk (w.alloc (.cells #[.slice none 0 0, .slice none 0 0, .slice none 0 0] 34)) w.heap.size 34 #[.slice none 0 0, .slice none 0 0, .slice none 0 0] := Blk.new _ _ _
  have hbx := below_box (w := w) (.cells #[.slice none 0 0, .slice none 0 0, .slice none 0 0] 34)
  have HR := Lib.hid (ready_w v vp l ps i _ (hm.below hbx) (hp.below hbx) hz hf hi hsz hl hpl)
  have HB0 := Lib.hid hb0
  have HBX := Lib.hid hbx
  obtain ⟨a1, c1, rfl, -⟩ := hm
  obtain ⟨a2, c2, rfl, -⟩ := hp
  unfold ReadyOut at HR
  clear hz hf hi hsz hb0 hbx
  generalize kidSp ps i = s at *
  go_enter Tryz.func18, Tryz.ntmps18
  go_wp2_with fail
  refine HR.out.mono ?_
  rintro e w2 ⟨v1, v2, rfl, h1, h2, hb2⟩
  have H1 := Lib.hid h1
  have H2 := Lib.hid h2
  have HB2 := Lib.hid hb2
  obtain ⟨p1, q1, rfl, -⟩ := h1.msgs
  obtain ⟨p2, q2, rfl, -⟩ := h2.msgs
  have hBw := Blk.below HB0.out hb2 HB0.out.lt
  have f0 := hBw.c0 0 _ rfl
  have f1 := hBw.c0 1 _ rfl
  have f2 := hBw.c0 2 _ rfl
  have g0 := hBw.free 0
  have g1 := hBw.free 1
  have g2 := hBw.free 2
  generalize (readyW s l).1.length = n1 at *
  generalize (readyW s l).2.1.length = n2 at *
  clear hb2 h1 h2
  go_wp2
  have hR : Blk (((w2.setCell ⟨w.heap.size, 0, none⟩ (.slice p1 n1 q1)).setCell ⟨w.heap.size, 1, none⟩ (.slice p2 n2 q2)).setCell ⟨w.heap.size, 2, none⟩ (.slice none 0 0)) w.heap.size 34 #[.slice p1 n1 q1, .slice p2 n2 q2, .slice none 0 0] := ((hBw.setCell 0 _).setCell 1 _).setCell 2 _
  have r0 := hR.c0 0 _ rfl
  have r1 := hR.c0 1 _ rfl
  have r2 := hR.c0 2 _ rfl
  have hkeep : ∀ b, w.heap.size + 1 ≤ b → b < w2.heap.size → (((w2.setCell ⟨w.heap.size, 0, none⟩ (.slice p1 n1 q1)).setCell ⟨w.heap.size, 1, none⟩ (.slice p2 n2 q2)).setCell ⟨w.heap.size, 2, none⟩ (.slice none 0 0)).heap[b]? = w2.heap[b]? := fun b hb _ => by
    have hne : b ≠ w.heap.size := by omega
    rw [Below.heap_setCell _ _ _ _ hne, Below.heap_setCell _ _ _ _ hne, Below.heap_setCell _ _ _ _ hne]
  have o1 := owns_lower (owns_keep (owns_lower H1.out (show w.heap.size + 1 ≤ _ by simp)) hkeep) (Nat.le_succ w.heap.size)
  have o2 := owns_lower (owns_keep (owns_lower H2.out (show w.heap.size + 1 ≤ _ by simp)) hkeep) (Nat.le_succ w.heap.size)
  refine bodyPost_ret (v := wayV (.slice p1 n1 q1) (.slice p2 n2 q2)) (by simp [results, Tryz.results18, go_sem, r0, r1, r2]) rfl ⟨_, _, rfl, o1, o2, ?_⟩
  exact ((((HBX.out.trans (HB2.out.mono (by simp))).setCell (Nat.le_refl _) _).setCell (Nat.le_refl _) _).setCell (Nat.le_refl _) _)
set_option maxHeartbeats 2000000 in
theorem lsame_w (a1 a2 a3 b1 b2 b3 : Value) (A1 A2 B1 B2 : List Ms) (w : World) (h1 : IsMsgs w a1 A1) (h2 : IsMsgs w a2 A2) (g1 : IsMsgs w b1 B1) (g2 : IsMsgs w b2 B2) (p3 q3 : Option Addr) (n3 c3 m3 d3 : Nat) (e3 : a3 = .slice p3 n3 c3) (f3 : b3 = .slice q3 m3 d3) :
    Calls Tryz.prog 17 #[.agg #[a1, a2, a3], .agg #[b1, b2, b3]] w fun e w' => e = .returned (.bool (decide (A1 = B1) && decide (A2 = B2))) ∧ Grown w w' := by
  have mixed := mixedA
  subst e3 f3
  have hW := ((Grown.refl w).alloc (.cells #[a1, a2, .slice p3 n3 c3] 34)).alloc (.cells #[b1, b2, .slice q3 m3 d3] 34)
  have x1 : ∀ wx, Grown w wx → _ := fun wx hx => samemsgs_w a1 b1 A1 B1 wx (h1.below (hx.below (Nat.le_refl _))) (g1.below (hx.below (Nat.le_refl _)))
  have x2 : ∀ wx, Grown w wx → _ := fun wx hx => samemsgs_w a2 b2 A2 B2 wx (h2.below (hx.below (Nat.le_refl _))) (g2.below (hx.below (Nat.le_refl _)))
  obtain ⟨p1, c1, rfl, -⟩ := h1
  obtain ⟨p2, c2, rfl, -⟩ := h2
  obtain ⟨r1, d1, rfl, -⟩ := g1
  obtain ⟨r2, d2, rfl, -⟩ := g2
  generalize decide (A1 = B1) = q1 at *
  generalize decide (A2 = B2) = q2 at *
  have HW := Lib.hid hW
  have X1 := Lib.hid x1
  have X2 := Lib.hid x2
  clear hW x1 x2
  have hz : w.heap.size < w.heap.size + 1 := Nat.lt_succ_self _
  cases q1 <;> cases q2
  all_goals
    go_enter Tryz.func17, Tryz.ntmps17
    go_wp2_with (first
      | (go_at_call_of 22 (Value.slice p1 A1.length c1); (refine (X1.out _ HW.out).mono ?_); rintro e w2 ⟨rfl, n, rfl⟩)
      | (go_at_call 22; (refine (X2.out _ (HW.out.trans ⟨n, #[], by rw [grow_empty]⟩)).mono ?_); rintro e w3 ⟨rfl, n', rfl⟩))
    go_ret
    exact ⟨by first | rfl | simp, HW.out.trans ⟨_, #[], by rw [grow_empty]⟩⟩

theorem lput_w (k : Bs) (w : World) : Calls Tryz.prog 43 #[.string (Str k)] w fun e w' => e = .returned (msgV ⟨1, k, [], [], [], [], [], 0⟩) ∧ Below w.heap.size w w' := by
  have hB : Blk (w.alloc (.cells (encM ⟨1, k, [], [], [], [], [], 0⟩) 40)) w.heap.size 40 (encM ⟨1, k, [], [], [], [], [], 0⟩) := Blk.new _ _ _
  have r0 := hB.c0 0 _ rfl
  have r1 := hB.c0 1 _ rfl
  have r2 := hB.c0 2 _ rfl
  have r3 := hB.c0 3 _ rfl
  have r4 := hB.c0 4 _ rfl
  have r5 := hB.c0 5 _ rfl
  have r6 := hB.c0 6 _ rfl
  have r7 := hB.c0 7 _ rfl
  have hbx := below_box (w := w) (.cells (encM ⟨1, k, [], [], [], [], [], 0⟩) 40)
  have HBX := Lib.hid hbx
  clear hbx
  go_enter Tryz.func43, Tryz.ntmps43
  go_wp2
  refine bodyPost_ret (v := msgV ⟨1, k, [], [], [], [], [], 0⟩) (by simp [results, Tryz.results43, go_sem]; rfl) rfl ⟨rfl, HBX.out⟩

theorem dropC_w (a b : Bs) (w : World) : Calls Tryz.prog 41 #[.string (Str a), .string (Str b)] w fun e w' => e = .returned (msgV ⟨3, [], [], a, b, [], [], 0⟩) ∧ Below w.heap.size w w' := by
  have hB : Blk (w.alloc (.cells (encM ⟨3, [], [], a, b, [], [], 0⟩) 40)) w.heap.size 40 (encM ⟨3, [], [], a, b, [], [], 0⟩) := Blk.new _ _ _
  have r0 := hB.c0 0 _ rfl
  have r1 := hB.c0 1 _ rfl
  have r2 := hB.c0 2 _ rfl
  have r3 := hB.c0 3 _ rfl
  have r4 := hB.c0 4 _ rfl
  have r5 := hB.c0 5 _ rfl
  have r6 := hB.c0 6 _ rfl
  have r7 := hB.c0 7 _ rfl
  have hbx := below_box (w := w) (.cells (encM ⟨3, [], [], a, b, [], [], 0⟩) 40)
  have HBX := Lib.hid hbx
  clear hbx
  go_enter Tryz.func41, Tryz.ntmps41
  go_wp2
  refine bodyPost_ret (v := msgV ⟨3, [], [], a, b, [], [], 0⟩) (by simp [results, Tryz.results41, go_sem]; rfl) rfl ⟨rfl, HBX.out⟩

theorem moveC_w (a b : Bs) (w : World) : Calls Tryz.prog 42 #[.string (Str a), .string (Str b)] w fun e w' => e = .returned (msgV ⟨4, [], [], [], [], a, b, 0⟩) ∧ Below w.heap.size w w' := by
  have hB : Blk (w.alloc (.cells (encM ⟨4, [], [], [], [], a, b, 0⟩) 40)) w.heap.size 40 (encM ⟨4, [], [], [], [], a, b, 0⟩) := Blk.new _ _ _
  have r0 := hB.c0 0 _ rfl
  have r1 := hB.c0 1 _ rfl
  have r2 := hB.c0 2 _ rfl
  have r3 := hB.c0 3 _ rfl
  have r4 := hB.c0 4 _ rfl
  have r5 := hB.c0 5 _ rfl
  have r6 := hB.c0 6 _ rfl
  have r7 := hB.c0 7 _ rfl
  have hbx := below_box (w := w) (.cells (encM ⟨4, [], [], [], [], a, b, 0⟩) 40)
  have HBX := Lib.hid hbx
  clear hbx
  go_enter Tryz.func42, Tryz.ntmps42
  go_wp2
  refine bodyPost_ret (v := msgV ⟨4, [], [], [], [], a, b, 0⟩) (by simp [results, Tryz.results42, go_sem]; rfl) rfl ⟨rfl, HBX.out⟩

end Go.Proofs.YtjncehkldhkobaaGreat
