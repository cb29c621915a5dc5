/-
  Walks: bounds of package node: sums of ranges, and the changes of ranges. Walks: how a message changes bounds. Walks: how a message changes bounds: which change is handed back.
-/
import Derived.Test.YtmbfghbhajmpiaaGreatY7
import Derived.Test.YtmbfghbhajmpiaaGreatY6
namespace Go.Proofs.YtmbfghbhajmpiaaGreat
open Go.RowKit Go.Sort
set_option linter.unusedVariables false

/-- A bound stays from nothing to the greatest one. -/
def bdN (n : Int) : Int := min (max n 0) 1000000000000000
def plusR (r b : Rg) : Rg := (bdN (r.1 + b.1), bdN (r.2 + b.2))
def fewR (r : Rg) : Rg := (0, r.2)
def unkR : Rg := (0, 1000000000000000)
def okR (r : Rg) : Prop := (-1000000000000000 ≤ r.1 ∧ r.1 ≤ 1000000000000000) ∧ -1000000000000000 ≤ r.2 ∧ r.2 ≤ 1000000000000000
theorem bdN_ok (n : Int) : 0 ≤ bdN n ∧ bdN n ≤ 1000000000000000 := by unfold bdN; omega

set_option maxHeartbeats 1000000 in
theorem bounded_w (n : Int) (w : World) : Calls Tryz.prog 153 #[.int .i64 n] w fun e w' => e = .returned (.int .i64 (bdN n)) ∧ w = w' := by
  go_enter Tryz.func153, Tryz.ntmps153
  go_wp2
  go_ret
  exact ⟨ret_int rfl, rfl⟩
set_option maxRecDepth 100000 in
set_option maxHeartbeats 4000000 in
theorem plus_w (a b c d : Int) (w : World) (h1 : okR (a, b)) (h2 : okR (c, d)) : Calls Tryz.prog 78 #[.agg #[.int .i64 a, .int .i64 b], .agg #[.int .i64 c, .int .i64 d]] w fun e w' => e = .returned (.agg #[.int .i64 (plusR (a, b) (c, d)).1, .int .i64 (plusR (a, b) (c, d)).2]) ∧ Grown w w' := by
  have mixed := mixedA
  obtain ⟨⟨a1, a2⟩, a3, a4⟩ := h1
  obtain ⟨⟨b1, b2⟩, b3, b4⟩ := h2
  simp only at a1 a2 a3 a4 b1 b2 b3 b4
  have H1 : Hid (bdN (a + c) = (plusR (a, b) (c, d)).1) := Lib.hid rfl
  have H2 : Hid (bdN (b + d) = (plusR (a, b) (c, d)).2) := Lib.hid rfl
  generalize (plusR (a, b) (c, d)).1 = r1 at *
  generalize (plusR (a, b) (c, d)).2 = r2 at *
  have hw1 : IntKind.i64.wrap (a + c) = a + c := IntWalk.i64_in _ (by omega)
  have hw2 : IntKind.i64.wrap (b + d) = b + d := IntWalk.i64_in _ (by omega)
  have hb1 : ∀ wx, Calls Tryz.prog 153 #[.int .i64 (a + c)] wx fun e w' => e = .returned (.int .i64 r1) ∧ wx = w' := fun wx => by rw [← H1.out]; exact bounded_w (a + c) wx
  have hb2 : ∀ wx, Calls Tryz.prog 153 #[.int .i64 (b + d)] wx fun e w' => e = .returned (.int .i64 r2) ∧ wx = w' := fun wx => by rw [← H2.out]; exact bounded_w (b + d) wx
  have HB1 := Lib.hid hb1
  have HB2 := Lib.hid hb2
  obtain ⟨W1, hW1⟩ : ∃ W1, W1 = ((w.alloc (.cells #[.int .i64 a, .int .i64 b] 50)).alloc (.cells #[.int .i64 c, .int .i64 d] 50)).alloc (.cells #[.int .i64 0, .int .i64 0] 50) := ⟨_, rfl⟩
  have hA : Blk W1 w.heap.size 50 #[.int .i64 a, .int .i64 b] := by rw [hW1]; exact ((Blk.new _ _ _).alloc _).alloc _
  have hB : Blk W1 (w.heap.size + 1) 50 #[.int .i64 c, .int .i64 d] := by rw [hW1]; exact (Blk.new' _ _ _ (by simp)).alloc _
  have hC : Blk W1 (w.heap.size + 2) 50 #[.int .i64 0, .int .i64 0] := by rw [hW1]; exact Blk.new' _ _ _ (by simp)
  have HG : Hid (Grown w W1) := Lib.hid (by rw [hW1]; exact (((Grown.refl w).alloc _).alloc _).alloc _)
  have p0 : ∀ wr, Below (w.heap.size + 2) W1 wr → wr.cell? ⟨w.heap.size, 0, none⟩ = some (.int .i64 a) := fun wr h => (hA.below h (by omega)).c0 0 _ rfl
  have p1 : ∀ wr, Below (w.heap.size + 2) W1 wr → wr.cell? ⟨w.heap.size, 1, none⟩ = some (.int .i64 b) := fun wr h => (hA.below h (by omega)).c0 1 _ rfl
  have q0 : ∀ wr, Below (w.heap.size + 2) W1 wr → wr.cell? ⟨w.heap.size + 1, 0, none⟩ = some (.int .i64 c) := fun wr h => (hB.below h (by omega)).c0 0 _ rfl
  have q1 : ∀ wr, Below (w.heap.size + 2) W1 wr → wr.cell? ⟨w.heap.size + 1, 1, none⟩ = some (.int .i64 d) := fun wr h => (hB.below h (by omega)).c0 1 _ rfl
  have z0 := hC.c0 0 _ rfl
  have z1 := hC.c0 1 _ rfl
  have f0 := hC.free 0
  have f1 := hC.free 1
  simp at z0 z1
  have HW1 := Lib.hid hW1
  have HBC : Hid (w.heap.size + 2 ≤ w.heap.size + 1 + 1) := Lib.hid (Nat.le_refl _)
  have HS0 : Hid (Below (w.heap.size + 2) W1 W1) := Lib.hid (Below.refl _ _)
  clear hb1 hb2 hW1 hA hB hC H1 H2
  go_enter Tryz.func78, Tryz.ntmps78
  go_wp2_with fail
  rw [← HW1.out]
  go_region_held3 (fun wr => Below (w.heap.size + 2) W1 wr) (repeat (first | with_reducible assumption | with_reducible exact HS0.out | with_reducible refine Below.drew ?_ | with_reducible refine Below.setCell ?_ HBC.out _)) (first | (with_reducible refine (HB1.out _).mono ?_; rintro e w' ⟨rfl, rfl⟩) | (with_reducible refine (HB2.out _).mono ?_; rintro e w' ⟨rfl, rfl⟩))
  all_goals
    go_wp2
    refine bodyPost_ret (v := .agg #[.int .i64 r1, .int .i64 r2]) (by simp [results, Tryz.results78, go_sem, z0, z1]) rfl ⟨rfl, ?_⟩
    repeat (first | with_reducible exact HG.out | refine Grown.setCell ?_ _ _ _ (by omega) | refine Grown.draw ?_)

/-- Twice the greatest bound, nothing the least. -/
def twoR (r : Rg) : Rg := plusR (fewR r) (fewR r)
end Go.Proofs.YtmbfghbhajmpiaaGreat
namespace Go.Proofs.YtmbfghbhajmpiaaGreat
open Go.RowKit Go.Sort
set_option linter.unusedVariables false

@[reducible] def encSA (s : Sm) : Array Value := #[.int .i64 s.1.1, .int .i64 s.1.2, .int .i64 s.2.1, .int .i64 s.2.2]
def okS (s : Sm) : Prop := okR s.1 ∧ okR s.2
theorem sum4 {w : World} {b : Nat} {T : TypeId} {x0 x1 x2 x3 : Value} (h : Blk w b T #[x0, x1, x2, x3]) :
    w.cell? ⟨b, 0, none⟩ = some x0 ∧ w.cell? ⟨b, 1, none⟩ = some x1 ∧ w.cell? ⟨b, 2, none⟩ = some x2 ∧ w.cell? ⟨b, 3, none⟩ = some x3 ∧
    w.frozen? ⟨b, 0, none⟩ = false ∧ w.frozen? ⟨b, 1, none⟩ = false ∧ w.frozen? ⟨b, 2, none⟩ = false ∧ w.frozen? ⟨b, 3, none⟩ = false :=
  ⟨h.c0 0 _ rfl, h.c0 1 _ rfl, h.c0 2 _ rfl, h.c0 3 _ rfl, h.free 0, h.free 1, h.free 2, h.free 3⟩
theorem range2 {w : World} {b : Nat} {T : TypeId} {x0 x1 : Value} (h : Blk w b T #[x0, x1]) : w.cell? ⟨b, 0, none⟩ = some x0 ∧ w.cell? ⟨b, 1, none⟩ = some x1 := ⟨h.c0 0 _ rfl, h.c0 1 _ rfl⟩
def ChOut (b : Nat) (s : Sm) (w : World) (e : Ending) (w' : World) : Prop := e = .returned (.tuple #[]) ∧ Blk w' b 52 (encSA s) ∧ But b w w'
set_option maxRecDepth 100000 in
set_option maxHeartbeats 4000000 in
theorem atIn_w (b c : Nat) (s : Sm) (r : Rg) (w : World) (hb : Blk w b 52 (encSA s)) (hc : Blk w c 50 #[.int .i64 r.1, .int .i64 r.2]) (hs : okS s) (hr : okR r) :
    Calls Tryz.prog 198 #[ptrV b, ptrV c] w (ChOut b (plusR s.1 r, s.2) w) := by
  have mixed := mixedA
  obtain ⟨⟨sa, sb⟩, sc, sd⟩ := s
  obtain ⟨ra, rb⟩ := r
  have hP := fun wx => plus_w sa sb ra rb wx hs.1 hr
  dsimp only at hb hc hP
  dsimp only
  generalize plusR (sa, sb) (ra, rb) = q at *
  have HP := Lib.hid hP
  obtain ⟨x0, x1, x2, x3, f0, f1, f2, f3⟩ := sum4 hb
  obtain ⟨y0, y1⟩ := range2 hc
  have HB := Lib.hid (hb.drewN 1)
  clear hP hb hc hs hr
  go_enter Tryz.func198, Tryz.ntmps198
  go_wp2_with fail
  go_region_with (go_at_call 78; refine (HP.out _).mono ?_; rintro e w2 ⟨rfl, hg⟩; have hb2 := blkG HB.out hg; have z0 := hb2.c0 0 _ rfl; have z1 := hb2.c0 1 _ rfl; have g0 := hb2.free 0; have g1 := hb2.free 1; simp at z0 z1; have HB2 := Lib.hid hb2; have Hg := Lib.hid hg; clear hg hb2)
  all_goals
    go_wp2
    go_end0
    exact ⟨rfl, (HB2.out.setCell 0 (.int .i64 q.1)).setCell 1 (.int .i64 q.2), ((But.of (((Grown.refl w).draw.trans Hg.out).below (Nat.le_refl _))).trans (But.setCell _ _ _ _)).trans (But.setCell _ _ _ _)⟩

set_option maxRecDepth 100000 in
set_option maxHeartbeats 4000000 in
theorem atBy_w (b c : Nat) (s : Sm) (r : Rg) (w : World) (hb : Blk w b 52 (encSA s)) (hc : Blk w c 50 #[.int .i64 r.1, .int .i64 r.2]) (hs : okS s) (hr : okR r) :
    Calls Tryz.prog 199 #[ptrV b, ptrV c] w (ChOut b (s.1, plusR s.2 r) w) := by
  have mixed := mixedA
  obtain ⟨⟨sa, sb⟩, sc, sd⟩ := s
  obtain ⟨ra, rb⟩ := r
  have hP := fun wx => plus_w sc sd ra rb wx hs.2 hr
  dsimp only at hb hc hP
  dsimp only
  generalize plusR (sc, sd) (ra, rb) = q at *
  have HP := Lib.hid hP
  obtain ⟨x0, x1, x2, x3, f0, f1, f2, f3⟩ := sum4 hb
  obtain ⟨y0, y1⟩ := range2 hc
  have HB := Lib.hid (hb.drewN 1)
  clear hP hb hc hs hr
  go_enter Tryz.func199, Tryz.ntmps199
  go_wp2_with fail
  go_region_with (go_at_call 78; refine (HP.out _).mono ?_; rintro e w2 ⟨rfl, hg⟩; have hb2 := blkG HB.out hg; have z0 := hb2.c0 2 _ rfl; have z1 := hb2.c0 3 _ rfl; have g0 := hb2.free 2; have g1 := hb2.free 3; simp at z0 z1; have HB2 := Lib.hid hb2; have Hg := Lib.hid hg; clear hg hb2)
  all_goals
    go_wp2
    go_end0
    exact ⟨rfl, (HB2.out.setCell 2 (.int .i64 q.1)).setCell 3 (.int .i64 q.2), ((But.of (((Grown.refl w).draw.trans Hg.out).below (Nat.le_refl _))).trans (But.setCell _ _ _ _)).trans (But.setCell _ _ _ _)⟩

end Go.Proofs.YtmbfghbhajmpiaaGreat
namespace Go.Proofs.YtmbfghbhajmpiaaGreat
open Go.RowKit Go.Sort
set_option linter.unusedVariables false

/-- A key that stands for an entry. -/
def entryB (k : Bs) : Bool := match P1.placeS k with
  | some x => decide (x.tag = 1)
  | none => false
/-- A change comes back that makes t of s in block b. -/
def ByOut (b : Nat) (s t : Sm) (w : World) (e : Ending) (w' : World) : Prop := Below w.heap.size w w' ∧
  ((∃ (g : FuncId) (c : Nat), e = .returned (.func (.func g) #[] #[ptrV c]) ∧ (∀ (args : Array Value) (wx : World), (callFunc g args).run Tryz.prog wx = .ok (.enter g args) wx) ∧ Calls Tryz.prog g #[ptrV b, ptrV c] w' (ChOut b t w')) ∨ (e = .returned (.func (.func 159) #[] #[]) ∧ t = s))
theorem call_at1 (args : Array Value) (wx : World) : (callFunc 198 args).run Tryz.prog wx = .ok (.enter 198 args) wx := by kernel_rfl
theorem call_at2 (args : Array Value) (wx : World) : (callFunc 199 args).run Tryz.prog wx = .ok (.enter 199 args) wx := by kernel_rfl
set_option maxRecDepth 100000 in
set_option maxHeartbeats 2000000 in
theorem changeAt_w (k : Bs) (ri rb : Rg) (b : Nat) (s : Sm) (w : World) (hk : k.length ≤ maxLen) (hb : Blk w b 52 (encSA s)) (hs : okS s) (hi : okR ri) (hr : okR rb) :
    Calls Tryz.prog 154 #[.string (Str k), .agg #[.int .i64 ri.1, .int .i64 ri.2], .agg #[.int .i64 rb.1, .int .i64 rb.2]] w (ByOut b s (if entryB k then (plusR s.1 ri, s.2) else (s.1, plusR s.2 rb)) w) := by
  have mixed := mixedA
  have hp := fun wx => P1.place_w (Str k) wx (by rw [size_Str]; exact hk)
  simp only [toList_Str] at hp
  obtain ⟨W1, hW1⟩ : ∃ W1, W1 = (w.alloc (.cells #[.int .i64 ri.1, .int .i64 ri.2] 50)).alloc (.cells #[.int .i64 rb.1, .int .i64 rb.2] 50) := ⟨_, rfl⟩
  have HI : Hid (Blk W1 w.heap.size 50 #[.int .i64 ri.1, .int .i64 ri.2]) := Lib.hid (by rw [hW1]; exact (Blk.new _ _ _).alloc _)
  have HR : Hid (Blk W1 (w.heap.size + 1) 50 #[.int .i64 rb.1, .int .i64 rb.2]) := Lib.hid (by rw [hW1]; exact Blk.new' _ _ _ (by simp))
  have HB : Hid (Blk W1 b 52 (encSA s)) := Lib.hid (by rw [hW1]; exact (hb.alloc _).alloc _)
  have HG : Hid (Below w.heap.size w W1) := Lib.hid (by rw [hW1]; exact (below_box _).alloc (by simp) _)
  have HA1 := Lib.hid (fun wx (h1 : Blk wx b 52 (encSA s)) (h2 : Blk wx w.heap.size 50 #[.int .i64 ri.1, .int .i64 ri.2]) => atIn_w b w.heap.size s ri wx h1 h2 hs hi)
  have HA2 := Lib.hid (fun wx (h1 : Blk wx b 52 (encSA s)) (h2 : Blk wx (w.heap.size + 1) 50 #[.int .i64 rb.1, .int .i64 rb.2]) => atBy_w b (w.heap.size + 1) s rb wx h1 h2 hs hr)
  have HW1 := Lib.hid hW1
  obtain ⟨t, ht⟩ : ∃ t, t = (if entryB k then (plusR s.1 ri, s.2) else (s.1, plusR s.2 rb)) := ⟨_, rfl⟩
  rw [← ht]
  clear hW1 hb hs hi hr
  cases hx : P1.placeS k with
  | none =>
    have e : P1.placeR k = .tuple #[.agg #[.string (Str []), .int .i64 0, .int .i64 0, .string (Str [])], .int .i64 12] := by unfold P1.placeR; rw [hx]; rfl
    rw [e] at hp
    have H : Hid (t = (s.1, plusR s.2 rb)) := Lib.hid (by rw [ht]; unfold entryB; rw [hx]; rfl)
    have Hp := Lib.hid hp
    clear hp e hx ht
    go_enter Tryz.func154, Tryz.ntmps154
    go_wp2_with fail
    rw [← HW1.out]
    refine (Hp.out _).mono ?_
    rintro e w2 ⟨rfl, hbel⟩
    have HB2 := Lib.hid ((HB.out.below hbel HB.out.lt).alloc (.cells #[.string (Str []), .int .i64 0, .int .i64 0, .string (Str [])] 195))
    have HR2 := Lib.hid ((HR.out.below hbel HR.out.lt).alloc (.cells #[.string (Str []), .int .i64 0, .int .i64 0, .string (Str [])] 195))
    have HG2 := Lib.hid ((HG.out.trans (hbel.mono HG.out.size)).alloc (Nat.le_trans HG.out.size hbel.size) (.cells #[.string (Str []), .int .i64 0, .int .i64 0, .string (Str [])] 195))
    clear hbel
    go_wp2
    go_ret
    rw [ByOut, H.out]
    exact ⟨HG2.out, .inl ⟨_, _, rfl, call_at2, HA2.out _ HB2.out HR2.out⟩⟩
  | some x =>
    obtain ⟨xr, xp, xt, xn, xm⟩ := x
    have e : P1.placeR k = .tuple #[.agg #[.string (Str xp), .int .i64 xt, .int .i64 xn, .string (Str xm)], .int .i64 0] := by unfold P1.placeR; rw [hx]; rfl
    rw [e] at hp
    have H0 : entryB k = decide (xt = 1) := by unfold entryB; rw [hx]
    have Hp := Lib.hid hp
    clear hp e hx
    by_cases h1 : xt = 1
    · have H : Hid (t = (plusR s.1 ri, s.2)) := Lib.hid (by rw [ht]; rw [H0, decide_eq_true h1]; rfl)
      subst h1
      clear H0 ht
      go_enter Tryz.func154, Tryz.ntmps154
      go_wp2_with fail
      rw [← HW1.out]
      refine (Hp.out _).mono ?_
      rintro e w2 ⟨rfl, hbel⟩
      have HB2 := Lib.hid ((HB.out.below hbel HB.out.lt).alloc (.cells #[.string (Str xp), .int .i64 1, .int .i64 xn, .string (Str xm)] 195))
      have HI2 := Lib.hid ((HI.out.below hbel HI.out.lt).alloc (.cells #[.string (Str xp), .int .i64 1, .int .i64 xn, .string (Str xm)] 195))
      have HG2 := Lib.hid ((HG.out.trans (hbel.mono HG.out.size)).alloc (Nat.le_trans HG.out.size hbel.size) (.cells #[.string (Str xp), .int .i64 1, .int .i64 xn, .string (Str xm)] 195))
      clear hbel
      go_wp2
      go_ret
      rw [ByOut, H.out]
      exact ⟨HG2.out, .inl ⟨_, _, rfl, call_at1, HA1.out _ HB2.out HI2.out⟩⟩
    · have H : Hid (t = (s.1, plusR s.2 rb)) := Lib.hid (by rw [ht]; rw [H0, decide_eq_false h1]; rfl)
      have hne : (xt == 1) = false := by simpa using h1
      clear H0 h1 ht
      go_enter Tryz.func154, Tryz.ntmps154
      go_wp2_with fail
      rw [← HW1.out]
      refine (Hp.out _).mono ?_
      rintro e w2 ⟨rfl, hbel⟩
      have HB2 := Lib.hid ((HB.out.below hbel HB.out.lt).alloc (.cells #[.string (Str xp), .int .i64 xt, .int .i64 xn, .string (Str xm)] 195))
      have HR2 := Lib.hid ((HR.out.below hbel HR.out.lt).alloc (.cells #[.string (Str xp), .int .i64 xt, .int .i64 xn, .string (Str xm)] 195))
      have HG2 := Lib.hid ((HG.out.trans (hbel.mono HG.out.size)).alloc (Nat.le_trans HG.out.size hbel.size) (.cells #[.string (Str xp), .int .i64 xt, .int .i64 xn, .string (Str xm)] 195))
      clear hbel
      go_wp2
      go_ret
      rw [ByOut, H.out]
      exact ⟨HG2.out, .inl ⟨_, _, rfl, call_at2, HA2.out _ HB2.out HR2.out⟩⟩

/-- Texts that are alike. -/
def linkB (p : Bs) : Bool := ([6] : Bs).isPrefixOf p
def nbodyB (p : Bs) : Bool := decide ((P1.keyF p 1 0 []).2 = 0) && !P1.validB p
def alikeB (p q : Bs) : Bool := (P1.validB p && P1.validB q) || ((nbodyB p && nbodyB q) || (linkB p && linkB q))
def changeS (s : Sm) (m : Ms) : Sm :=
  if m.kind = 1 then (if entryB m.key then (plusR s.1 (0, 1), s.2) else (s.1, plusR s.2 (-64, m.val.length)))
  else if m.kind = 2 then (if entryB m.key then (plusR s.1 (-1, 0), s.2) else (s.1, plusR s.2 (-64, 0)))
  else if m.kind = 3 then (fewR s.1, fewR s.2)
  else if m.kind = 4 then (if alikeB m.src m.dst then (fewR s.1, fewR s.2) else (unkR, unkR))
  else if m.kind = 5 then (if alikeB m.src m.dst then (twoR s.1, twoR s.2) else (unkR, unkR))
  else s
/-- What is asked of a message: that its change can be asked for. -/
def MsgCh (m : Ms) : Prop := ∀ (w : World) (b : Nat) (s : Sm), Blk w b 52 (encSA s) → okS s → Calls Tryz.prog 79 #[msgV m] w (ByOut b s (changeS s m) w)
theorem ByOut.box {b : Nat} {s t : Sm} {w w1 : World} (h : Below w.heap.size w w1) (hs : w.heap.size ≤ w1.heap.size) {e : Ending} {w' : World} (k : ByOut b s t w1 e w') : ByOut b s t w e w' := ⟨h.trans (k.1.mono hs), k.2⟩

set_option maxRecDepth 100000 in
set_option maxHeartbeats 2000000 in
theorem ch_put (ky va lo hi sr ds : Bs) (n : Int) (hk : ky.length ≤ 1000000000) (hv : va.length ≤ 1000000000) : MsgCh ⟨1, ky, va, lo, hi, sr, ds, n⟩ := by
  intro w b s hb hs
  have mixed := mixedA
  have HC : Hid (∀ wx, Blk wx b 52 (encSA s) → Calls Tryz.prog 154 #[.string (Str ky), .agg #[.int .i64 0, .int .i64 1], .agg #[.int .i64 (-64), .int .i64 va.length]] wx (ByOut b s (changeS s ⟨1, ky, va, lo, hi, sr, ds, n⟩) wx)) := Lib.hid (fun wx h => changeAt_w ky (0, 1) (-64, va.length) b s wx (by unfold maxLen; omega) h hs ⟨⟨by simp, by simp⟩, by simp, by simp⟩ ⟨⟨by simp, by simp⟩, (show (-1000000000000000 : Int) ≤ (va.length : Int) from by omega), (show (va.length : Int) ≤ 1000000000000000 from by omega)⟩)
  generalize changeS s ⟨1, ky, va, lo, hi, sr, ds, n⟩ = t at *
  have HB := Lib.hid (hb.alloc (.cells (encM ⟨1, ky, va, lo, hi, sr, ds, n⟩) 46))
  clear hb hs hk
  go_enter Tryz.func79, Tryz.ntmps79
  go_wp2_with fail
  refine (HC.out _ HB.out).mono ?_
  rintro e w2 ⟨hbel, h⟩
  have HBe := Lib.hid hbel
  have HD : Hid (Below w.heap.size w w2) := Lib.hid ((below_box _).trans (hbel.mono (by simp)))
  clear hbel
  rcases h with ⟨g, c, rfl, hcall, hc⟩ | ⟨rfl, ht⟩
  · have H1 := Lib.hid hcall
    have H2 := Lib.hid hc
    clear hcall hc
    go_wp2
    go_ret
    exact ⟨HD.out, .inl ⟨g, c, rfl, H1.out, H2.out⟩⟩
  · have H1 := Lib.hid ht
    clear ht
    go_wp2
    go_ret
    exact ⟨HD.out, .inr ⟨rfl, H1.out⟩⟩
end Go.Proofs.YtmbfghbhajmpiaaGreat
