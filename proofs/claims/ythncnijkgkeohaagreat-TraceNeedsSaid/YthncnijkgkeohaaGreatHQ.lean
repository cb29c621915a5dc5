/-
  Walks: what is known of a key, followed back through one message.
-/
import Derived.Test.YthncnijkgkeohaaGreatHP
import Derived.Test.YthncnijkgkeohaaGreatMDH
namespace Go.Proofs.YthncnijkgkeohaaGreat
open Go.RowKit Go.Sort
set_option linter.unusedVariables false

/-- What is known of a key, as a value. -/
@[reducible] def fdV (f : Fd) : Value := .agg #[.bool f.known, .bool f.has, .string (Str f.pair.1), .string (Str f.pair.2.1), .int .i64 f.pair.2.2, .string (Str f.key), .bool f.stamped, .int .i64 f.stamp]
@[reducible] def encF (f : Fd) : Array Value := #[.bool f.known, .bool f.has, .string (Str f.pair.1), .string (Str f.pair.2.1), .int .i64 f.pair.2.2, .string (Str f.key), .bool f.stamped, .int .i64 f.stamp]
set_option maxHeartbeats 1000000 in
theorem endIf_w (b : Bool) (f : Fd) (w : World) : Calls Tryz.prog 86 #[.bool b, fdV f] w fun e w' => e = .returned (fdV (endF b f)) ∧ Grown w w' := by
  obtain ⟨f1, f2, ⟨f3, f4, f5⟩, f6, f7, f8⟩ := f
  cases b
  · go_enter Tryz.func86, Tryz.ntmps86
    go_wp2
    refine bodyPost_ret (v := fdV ⟨f1, f2, (f3, f4, f5), f6, f7, f8⟩) (by simp [results, Tryz.results86, go_sem]; try rfl) rfl ⟨rfl, ?_⟩
    repeat (first | exact Grown.refl _ | refine Grown.setCell ?_ _ _ _ (by simp) | refine Grown.alloc ?_ _)
  · go_enter Tryz.func86, Tryz.ntmps86
    go_wp2
    refine bodyPost_ret (v := fdV ⟨true, false, ([], [], 0), [], false, 0⟩) (by simp [results, Tryz.results86, go_sem]; try rfl) rfl ⟨rfl, ?_⟩
    repeat (first | exact Grown.refl _ | refine Grown.setCell ?_ _ _ _ (by simp) | refine Grown.alloc ?_ _)
set_option maxHeartbeats 1000000 in
theorem pairOf_w (f : Fd) (v : Bs) (n : Int) (w : World) : Calls Tryz.prog 43 #[fdV f, .string (Str v), .int .i64 n] w fun e w' => e = .returned (.agg #[.string (Str (pairF f v n).1), .string (Str (pairF f v n).2.1), .int .i64 (pairF f v n).2.2]) ∧ Grown w w' := by
  obtain ⟨f1, f2, ⟨f3, f4, f5⟩, f6, f7, f8⟩ := f
  cases f7
  · go_enter Tryz.func43, Tryz.ntmps43
    go_wp2
    refine bodyPost_ret (v := .agg #[.string (Str f3), .string (Str v), .int .i64 n]) (by simp [results, Tryz.results43, go_sem]; try rfl) rfl ⟨rfl, ?_⟩
    repeat (first | exact Grown.refl _ | refine Grown.setCell ?_ _ _ _ (by simp) | refine Grown.alloc ?_ _)
  · go_enter Tryz.func43, Tryz.ntmps43
    go_wp2
    refine bodyPost_ret (v := .agg #[.string (Str f3), .string (Str v), .int .i64 f8]) (by simp [results, Tryz.results43, go_sem]; try rfl) rfl ⟨rfl, ?_⟩
    repeat (first | exact Grown.refl _ | refine Grown.setCell ?_ _ _ _ (by simp) | refine Grown.alloc ?_ _)

/-- What a block of three cells, of eight cells offers to a store. -/
theorem Blk.three {w : World} {b : Nat} {T : TypeId} {x0 x1 x2 : Value} (h : Blk w b T #[x0, x1, x2]) :
    w.cell? ⟨b, 0, none⟩ = some x0 ∧ w.cell? ⟨b, 1, none⟩ = some x1 ∧ w.cell? ⟨b, 2, none⟩ = some x2 ∧ w.frozen? ⟨b, 0, none⟩ = false ∧ w.frozen? ⟨b, 1, none⟩ = false ∧ w.frozen? ⟨b, 2, none⟩ = false :=
  ⟨h.c0 0 _ rfl, h.c0 1 _ rfl, h.c0 2 _ rfl, h.free 0, h.free 1, h.free 2⟩
theorem Blk.eightC {w : World} {b : Nat} {T : TypeId} {x0 x1 x2 x3 x4 x5 x6 x7 : Value} (h : Blk w b T #[x0, x1, x2, x3, x4, x5, x6, x7]) :
    w.cell? ⟨b, 0, none⟩ = some x0 ∧ w.cell? ⟨b, 1, none⟩ = some x1 ∧ w.cell? ⟨b, 2, none⟩ = some x2 ∧ w.cell? ⟨b, 3, none⟩ = some x3 ∧ w.cell? ⟨b, 4, none⟩ = some x4 ∧ w.cell? ⟨b, 5, none⟩ = some x5 ∧ w.cell? ⟨b, 6, none⟩ = some x6 ∧ w.cell? ⟨b, 7, none⟩ = some x7 :=
  ⟨h.c0 0 _ rfl, h.c0 1 _ rfl, h.c0 2 _ rfl, h.c0 3 _ rfl, h.c0 4 _ rfl, h.c0 5 _ rfl, h.c0 6 _ rfl, h.c0 7 _ rfl⟩
theorem Blk.eightF {w : World} {b : Nat} {T : TypeId} {cs : Array Value} (h : Blk w b T cs) :
    w.frozen? ⟨b, 0, none⟩ = false ∧ w.frozen? ⟨b, 1, none⟩ = false ∧ w.frozen? ⟨b, 2, none⟩ = false ∧ w.frozen? ⟨b, 3, none⟩ = false ∧ w.frozen? ⟨b, 4, none⟩ = false ∧ w.frozen? ⟨b, 5, none⟩ = false ∧ w.frozen? ⟨b, 6, none⟩ = false ∧ w.frozen? ⟨b, 7, none⟩ = false :=
  ⟨h.free 0, h.free 1, h.free 2, h.free 3, h.free 4, h.free 5, h.free 6, h.free 7⟩

set_option maxHeartbeats 1000000 in
theorem tvalue_w (f : Fd) (p : Pr) (has : Bool) (w : World) : Calls Tryz.prog 15 #[fdV f, .agg #[.string (Str p.1), .string (Str p.2.1), .int .i64 p.2.2], .bool has] w fun e w' =>
    e = .returned (.tuple #[.agg #[.string (Str (valF f p has).1.1), .string (Str (valF f p has).1.2.1), .int .i64 (valF f p has).1.2.2], .bool (valF f p has).2]) ∧ Grown w w' := by
  have HP := Lib.hid (fun wx => pairOf_w f p.2.1 p.2.2 wx)
  obtain ⟨f1, f2, ⟨f3, f4, f5⟩, f6, f7, f8⟩ := f
  obtain ⟨p1, p2, p3⟩ := p
  generalize hq : pairF ⟨f1, f2, (f3, f4, f5), f6, f7, f8⟩ p2 p3 = q at *
  have HQ : Hid (valF ⟨f1, f2, (f3, f4, f5), f6, f7, f8⟩ (p1, p2, p3) has = if f1 then ((f3, f4, f5), f2) else if has then (q, true) else (([], [], 0), false)) := Lib.hid (by unfold valF; rw [hq])
  clear hq
  obtain ⟨q1, q2, q3⟩ := q
  cases f1 with
  | true =>
    rw [if_pos rfl] at HQ
    rw [HQ.out]
    clear HP HQ
    go_enter Tryz.func15, Tryz.ntmps15
    go_wp2
    go_region
    all_goals go_wp2
    all_goals
      refine bodyPost_ret (v := .tuple #[.agg #[.string (Str f3), .string (Str f4), .int .i64 f5], .bool f2]) (by simp [results, Tryz.results15, go_sem]; try rfl) rfl ⟨rfl, ?_⟩
      repeat (first | exact Grown.refl _ | refine Grown.setCell ?_ _ _ _ (by simp) | refine Grown.alloc ?_ _ | refine Grown.draw ?_)
  | false =>
    rw [if_neg (by simp)] at HQ
    cases has with
    | false =>
      rw [if_neg (by simp)] at HQ
      rw [HQ.out]
      clear HP HQ
      go_enter Tryz.func15, Tryz.ntmps15
      go_wp2
      refine bodyPost_ret (v := .tuple #[.agg #[.string (Str []), .string (Str []), .int .i64 0], .bool false]) (by simp [results, Tryz.results15, go_sem]; try rfl) rfl ⟨rfl, ?_⟩
      repeat (first | exact Grown.refl _ | refine Grown.setCell ?_ _ _ _ (by simp) | refine Grown.alloc ?_ _)
    | true =>
      rw [if_pos rfl] at HQ
      rw [HQ.out]
      clear HQ
      go_enter Tryz.func15, Tryz.ntmps15
      go_wp2_with (go_at_call 43; refine (HP.out _).mono ?_; rintro e w2 ⟨rfl, hg⟩; obtain ⟨c0, c1, c2, g0, g1, g2⟩ := (hg.blk (Blk.new' (n := w.heap.size + 1 + 1) _ _ _ (by simp))).three; have HG := Lib.hid hg; clear hg)
      refine bodyPost_ret (v := .tuple #[.agg #[.string (Str q1), .string (Str q2), .int .i64 q3], .bool true]) (by simp [results, Tryz.results15, go_sem, c0, c1, c2]; try rfl) rfl ⟨rfl, ?_⟩
      refine Grown.setCell ?_ _ _ _ (by omega)
      refine Grown.setCell ?_ _ _ _ (by omega)
      refine Grown.setCell ?_ _ _ _ (by omega)
      exact ((((Grown.refl w).alloc _).alloc _).alloc _).trans HG.out
set_option maxHeartbeats 1000000 in
theorem look2_w (m : Ms) (f : Fd) (w : World) :
    Calls Tryz.prog 84 #[msgV m, fdV f] w fun e w' => e = .returned (fdV (if f.key == m.key then ⟨true, true, pairF f m.val m.n, [], false, 0⟩ else f)) ∧ Grown w w' := by
  have HP := Lib.hid (fun wx => pairOf_w f m.val m.n wx)
  obtain ⟨f1, f2, ⟨f3, f4, f5⟩, f6, f7, f8⟩ := f
  obtain ⟨k, m1, m2, m3, m4, m5, m6, m7⟩ := m
  dsimp only at HP ⊢
  generalize hq : pairF ⟨f1, f2, (f3, f4, f5), f6, f7, f8⟩ m2 m7 = q at *
  clear hq
  obtain ⟨q1, q2, q3⟩ := q
  by_cases h : f6 = m1
  · have hb : (f6 == m1) = true := by simpa using h
    rw [if_pos hb]
    clear h
    go_enter Tryz.func84, Tryz.ntmps84
    go_wp2_with (go_at_call 43; refine (HP.out _).mono ?_; rintro e w2 ⟨rfl, hg⟩; obtain ⟨c0, c1, c2, c3, c4, c5, c6, c7⟩ := (hg.blk (Blk.new' (n := w.heap.size + 1 + 1) _ _ _ (by simp))).eightC; obtain ⟨e0, e1, e2, e3, e4, e5, e6, e7⟩ := (hg.blk (Blk.new' (n := w.heap.size + 1 + 1) _ _ _ (by simp))).eightF; have HG := Lib.hid hg; clear hg)
    refine bodyPost_ret (v := fdV ⟨true, true, (q1, q2, q3), [], false, 0⟩) (by simp [results, Tryz.results84, go_sem, c0, c1, c2, c3, c4, c5, c6, c7]; try rfl) rfl ⟨rfl, ?_⟩
    repeat (with_reducible refine Grown.setCell ?_ _ _ _ (by omega))
    exact ((((Grown.refl w).alloc _).alloc _).alloc _).trans HG.out
  · have hb : (f6 == m1) = false := by simpa using h
    rw [if_neg (by rw [hb]; simp)]
    clear h HP
    go_enter Tryz.func84, Tryz.ntmps84
    go_wp2
    refine bodyPost_ret (v := fdV ⟨f1, f2, (f3, f4, f5), f6, f7, f8⟩) (by simp [results, Tryz.results84, go_sem]; try rfl) rfl ⟨rfl, ?_⟩
    repeat (first | exact Grown.refl _ | refine Grown.setCell ?_ _ _ _ (by simp) | refine Grown.alloc ?_ _ | refine Grown.draw ?_)
set_option maxHeartbeats 1000000 in
theorem look3_w (m : Ms) (f : Fd) (w : World) : Calls Tryz.prog 85 #[msgV m, fdV f] w fun e w' => e = .returned (fdV (endF (f.key == m.key) f)) ∧ Grown w w' := by
  have HE := Lib.hid (fun wx => endIf_w (f.key == m.key) f wx)
  generalize endF (f.key == m.key) f = g at *
  obtain ⟨g1, g2, ⟨g3, g4, g5⟩, g6, g7, g8⟩ := g
  obtain ⟨f1, f2, ⟨f3, f4, f5⟩, f6, f7, f8⟩ := f
  obtain ⟨k, m1, m2, m3, m4, m5, m6, m7⟩ := m
  dsimp only at HE ⊢
  go_enter Tryz.func85, Tryz.ntmps85
  go_wp2_with (go_at_call 86; refine (HE.out _).mono ?_; rintro e w2 ⟨rfl, hg⟩; obtain ⟨c0, c1, c2, c3, c4, c5, c6, c7⟩ := (hg.blk (Blk.new' (n := w.heap.size + 1 + 1) _ _ _ (by simp))).eightC; obtain ⟨e0, e1, e2, e3, e4, e5, e6, e7⟩ := (hg.blk (Blk.new' (n := w.heap.size + 1 + 1) _ _ _ (by simp))).eightF; have HG := Lib.hid hg; clear hg)
  refine bodyPost_ret (v := fdV ⟨g1, g2, (g3, g4, g5), g6, g7, g8⟩) (by simp [results, Tryz.results85, go_sem, c0, c1, c2, c3, c4, c5, c6, c7]; try rfl) rfl ⟨rfl, ?_⟩
  repeat (with_reducible refine Grown.setCell ?_ _ _ _ (by omega))
  exact ((((Grown.refl w).alloc _).alloc _).alloc _).trans HG.out

end Go.Proofs.YthncnijkgkeohaaGreat
