/-
  Walks: Decode of package entry.
-/
import Derived.Test.YticlomakmcjcfaaEW6
namespace Go.Proofs.Yticlomakmcjcfaa
open Go.RowKit Go.Sort
set_option linter.unusedVariables false

/-- What Decode answers. -/
def decV (b : Bool) (k s l i o : Int) (t : Bs) : Value := if b then .tuple #[.agg #[.int .i64 k, .int .i64 s, .int .i64 l, .int .i64 i, .int .i64 o, .string (Str t)], .int .i64 0] else .tuple #[.agg #[.int .i64 0, .int .i64 0, .int .i64 0, .int .i64 0, .int .i64 0, .string (Str [])], .int .i64 30]

/-- A variable of an entry, made by the call. -/
def AtVar (w wr : World) (k s l i o : Int) (t : Bs) (v : Value) : Prop :=
  ∃ p, v = .pointer (some ⟨p, 0, none⟩) ∧ Blk wr p 78 #[.int .i64 k, .int .i64 s, .int .i64 l, .int .i64 i, .int .i64 o, .string (Str t)] ∧ Grown (w.alloc (.cells #[.int .i64 0, .int .i64 0, .int .i64 0, .int .i64 0, .int .i64 0, .string ⟨#[]⟩] 78)) wr

theorem blk_set6 {w : World} {b : Nat} {T : TypeId} {z0 z1 z2 z3 z4 z5 : Value} (h : Blk w b T #[z0, z1, z2, z3, z4, z5]) (a0 a1 a2 a3 a4 a5 : Value) :
    Blk ((((((w.setCell ⟨b, 0, none⟩ a0).setCell ⟨b, 1, none⟩ a1).setCell ⟨b, 2, none⟩ a2).setCell ⟨b, 3, none⟩ a3).setCell ⟨b, 4, none⟩ a4).setCell ⟨b, 5, none⟩ a5) b T #[a0, a1, a2, a3, a4, a5] := by
  have h1 := (((((h.setCell 0 a0).setCell 1 a1).setCell 2 a2).setCell 3 a3).setCell 4 a4).setCell 5 a5
  simpa using h1
theorem grown_set6 {x w : World} (h : Grown x w) (b : Nat) (hb : x.heap.size ≤ b) (a0 a1 a2 a3 a4 a5 : Value) :
    Grown x ((((((w.setCell ⟨b, 0, none⟩ a0).setCell ⟨b, 1, none⟩ a1).setCell ⟨b, 2, none⟩ a2).setCell ⟨b, 3, none⟩ a3).setCell ⟨b, 4, none⟩ a4).setCell ⟨b, 5, none⟩ a5) :=
  (((((h.setCell b 0 a0 hb).setCell b 1 a1 hb).setCell b 2 a2 hb).setCell b 3 a3 hb).setCell b 4 a4 hb).setCell b 5 a5 hb
theorem below_set6 {B : Nat} {x w : World} (h : Below B x w) (b : Nat) (hb : B ≤ b) (a0 a1 a2 a3 a4 a5 : Value) :
    Below B x ((((((w.setCell ⟨b, 0, none⟩ a0).setCell ⟨b, 1, none⟩ a1).setCell ⟨b, 2, none⟩ a2).setCell ⟨b, 3, none⟩ a3).setCell ⟨b, 4, none⟩ a4).setCell ⟨b, 5, none⟩ a5) :=
  (((((h.setCell hb a0).setCell hb a1).setCell hb a2).setCell hb a3).setCell hb a4).setCell hb a5
theorem grown_size {x y : World} (h : Grown x y) : x.heap.size ≤ y.heap.size := (h.below (B := x.heap.size) (Nat.le_refl _)).size

set_option maxRecDepth 100000 in
set_option maxHeartbeats 1000000 in
theorem decode1_w (y : UInt8) (r : Bs) (s l i : Int) (t : Bs) (w : World) (hr : r.length ≤ 140737488355328) (ht : t.length ≤ maxLen)
    (ok vb : Bool) (hread : ∀ wx, Calls Try.prog 145 #[.string (Str r)] wx fun e w' => e = .returned (.tuple #[.agg #[.int .i64 0, .int .i64 s, .int .i64 l, .int .i64 i, .int .i64 0, .string (Str t)], .bool ok]) ∧ Grown wx w') (hv : validE ⟨1, s, l, i, y.toNat, t⟩ = vb) :
    Calls Try.prog 64 #[.string (Str (1 :: y :: r))] w fun e w' => e = .returned (decV (ok && vb) 1 s l i y.toNat t) ∧ Below w.heap.size w w' := by
  have hva := fun wx => evalid_w 1 s l i y.toNat t wx ht
  rw [hv] at hva
  have HV := Lib.hid hva
  have HR := Lib.hid hread
  have HW := Lib.hid (fun wx => withHead_w 0 s l i 0 1 y.toNat t wx)
  have hy1 : (y.toNat : Int) ≤ 255 := by have := y.toNat_lt; omega
  have hy0 : 0 ≤ (y.toNat : Int) := by omega
  have hx : (Str (1 :: y :: r)).extract 2 (r.length + 1 + 1) = Str r := extract_StrN (1 :: y :: r) 2
  clear hva hv ht hread
  go_enter Try.func64, Try.ntmps64
  go_upto_region 6 with (go_at_call 117; refine (kindOf1_w _).mono ?_; rintro e w1 ⟨rfl, hg1⟩; have Hg1 := Lib.hid hg1; clear hg1)
  have KB : Blk (w1.alloc (.cells #[.func (Fn.func 143) #[] #[], .func (Fn.func 144) #[] #[], .func (Fn.func 145) #[] #[]] 143)) w1.heap.size 143 #[.func (Fn.func 143) #[] #[], .func (Fn.func 144) #[] #[], .func (Fn.func 145) #[] #[]] := Blk.new w1 143 #[.func (Fn.func 143) #[] #[], .func (Fn.func 144) #[] #[], .func (Fn.func 145) #[] #[]]
  have HG0 : Hid (Grown (w.alloc (.cells #[.int .i64 0, .int .i64 0, .int .i64 0, .int .i64 0, .int .i64 0, .string ⟨#[]⟩] 78)) (w1.alloc (.cells #[.func (Fn.func 143) #[] #[], .func (Fn.func 144) #[] #[], .func (Fn.func 145) #[] #[]] 143))) := Lib.hid (Hg1.out.alloc _)
  generalize w1.alloc (.cells #[.func (Fn.func 143) #[] #[], .func (Fn.func 144) #[] #[], .func (Fn.func 145) #[] #[]] 143) = wa at *
  have hb0 : wa.cell? ⟨w1.heap.size, 2, none⟩ = some (.func (Fn.func 145) #[] #[]) := KB.c0 2 _ rfl
  have HK := Lib.hid KB
  have hne : wa.heap.size ≠ w1.heap.size := Nat.ne_of_gt KB.lt
  clear KB
  go_cut [5, 6] (fun s5 s6 wr => s5 = .bool ok ∧ AtVar w wr 0 s l i 0 t s6)
  case first =>
    go_region_held3 (fun wr => wr.cell? ⟨w1.heap.size, 2, none⟩ = some (.func (Fn.func 145) #[] #[])) (go_keep)
      (first
        | (go_at_call 145; refine (HR.out _).mono ?_; rintro e w2 ⟨rfl, hg2⟩; have hb2 : w2.cell? ⟨w1.heap.size, 2, none⟩ = some (.func (Fn.func 145) #[] #[]) := (Blk.below (show Blk wa.drew _ _ _ from HK.out) (hg2.below (Nat.le_refl _)) HK.out.lt).c0 2 _ rfl; have Hg2 : Hid (Grown wa.drew w2) := Lib.hid hg2; clear hg2)
        | (go_at_call 145; refine (HR.out _).mono ?_; rintro e w2 ⟨rfl, hg2⟩; have hb2 : w2.cell? ⟨w1.heap.size, 2, none⟩ = some (.func (Fn.func 145) #[] #[]) := (Blk.below (show Blk (wa.alloc _).drew _ _ _ from HK.out.alloc _) (hg2.below (Nat.le_refl _)) (HK.out.alloc _).lt).c0 2 _ rfl; have hz := Blk.below (show Blk (wa.alloc (.cells #[.int .i64 0, .int .i64 0, .int .i64 0, .int .i64 0, .int .i64 0, .string ⟨#[]⟩] 78)).drew wa.heap.size 78 #[.int .i64 0, .int .i64 0, .int .i64 0, .int .i64 0, .int .i64 0, .string ⟨#[]⟩] from Blk.new wa 78 #[.int .i64 0, .int .i64 0, .int .i64 0, .int .i64 0, .int .i64 0, .string ⟨#[]⟩]) (hg2.below (Nat.le_refl _)) (Blk.new wa 78 #[.int .i64 0, .int .i64 0, .int .i64 0, .int .i64 0, .int .i64 0, .string ⟨#[]⟩]).lt; have z0 := hz.c0 0 _ rfl; have z1 := hz.c0 1 _ rfl; have z2 := hz.c0 2 _ rfl; have z3 := hz.c0 3 _ rfl; have z4 := hz.c0 4 _ rfl; have z5 := hz.c0 5 _ rfl; have y0 := hz.free 0; have y1 := hz.free 1; have y2 := hz.free 2; have y3 := hz.free 3; have y4 := hz.free 4; have y5 := hz.free 5; simp at z0 z1 z2 z3 z4 z5; have Hz := Lib.hid hz; have Hg2 : Hid (Grown (wa.alloc (.cells #[.int .i64 0, .int .i64 0, .int .i64 0, .int .i64 0, .int .i64 0, .string ⟨#[]⟩] 78)).drew w2) := Lib.hid hg2; clear hg2 hz))
    all_goals
      go_wp2_with fail
      go_meet
      first
        | (have hz := Hz.out
           exact ⟨rfl, wa.heap.size, rfl, blk_set6 hz _ _ _ _ _ _, grown_set6 (((HG0.out.alloc _).draw).trans Hg2.out) _ (grown_size HG0.out) _ _ _ _ _ _⟩)
        | exact ⟨rfl, w2.heap.size, rfl, Blk.new _ _ _, (HG0.out.draw.trans Hg2.out).alloc _⟩
  case rest =>
    obtain ⟨rfl, p, rfl, hblk, hG⟩ := hcut
    clear hb0 hne HK HG0 HR
    have Hblk := Lib.hid hblk
    have HG0 := Lib.hid hG
    have a0 := hblk.c0 0 _ rfl
    have a1 := hblk.c0 1 _ rfl
    have a2 := hblk.c0 2 _ rfl
    have a3 := hblk.c0 3 _ rfl
    have a4 := hblk.c0 4 _ rfl
    have a5 := hblk.c0 5 _ rfl
    simp at a0 a1 a2 a3 a4 a5
    clear hblk hG
    have hne : wc.heap.size ≠ p := Nat.ne_of_gt Hblk.out.lt
    have hwr : IntKind.i64.wrap (y.toNat : Int) = (y.toNat : Int) := by rw [IntKind.wrap_i64]; omega
    go_upto_region 7 with fail
    go_cut [7] (fun s7 wr => AtVar w wr 1 s l i y.toNat t s7)
    case first =>
      go_region_held3 (fun wr => wr.cell? ⟨p, 0, none⟩ = some (.int .i64 0) ∧ wr.cell? ⟨p, 1, none⟩ = some (.int .i64 s) ∧ wr.cell? ⟨p, 2, none⟩ = some (.int .i64 l) ∧ wr.cell? ⟨p, 3, none⟩ = some (.int .i64 i) ∧ wr.cell? ⟨p, 4, none⟩ = some (.int .i64 0) ∧ wr.cell? ⟨p, 5, none⟩ = some (.string (Str t))) (go_keep)
        (first
          | (go_at_call 119; refine (HW.out _).mono ?_; rintro e w2 ⟨rfl, hg2⟩; have hb2 := Blk.below (show Blk wc.drew _ _ _ from Hblk.out) (hg2.below (Nat.le_refl _)) Hblk.out.lt; have b0 := hb2.c0 0 _ rfl; have b1 := hb2.c0 1 _ rfl; have b2 := hb2.c0 2 _ rfl; have b3 := hb2.c0 3 _ rfl; have b4 := hb2.c0 4 _ rfl; have b5 := hb2.c0 5 _ rfl; simp at b0 b1 b2 b3 b4 b5; have Hg2 : Hid (Grown wc.drew w2) := Lib.hid hg2; clear hg2 hb2)
          | (go_at_call 119; refine (HW.out _).mono ?_; rintro e w2 ⟨rfl, hg2⟩; have hb2 := Blk.below (show Blk (wc.alloc _).drew _ _ _ from Hblk.out.alloc _) (hg2.below (Nat.le_refl _)) (Hblk.out.alloc _).lt; have b0 := hb2.c0 0 _ rfl; have b1 := hb2.c0 1 _ rfl; have b2 := hb2.c0 2 _ rfl; have b3 := hb2.c0 3 _ rfl; have b4 := hb2.c0 4 _ rfl; have b5 := hb2.c0 5 _ rfl; simp at b0 b1 b2 b3 b4 b5; have hz := Blk.below (show Blk (wc.alloc (.cells #[.int .i64 0, .int .i64 0, .int .i64 0, .int .i64 0, .int .i64 0, .string ⟨#[]⟩] 78)).drew wc.heap.size 78 #[.int .i64 0, .int .i64 0, .int .i64 0, .int .i64 0, .int .i64 0, .string ⟨#[]⟩] from Blk.new wc 78 #[.int .i64 0, .int .i64 0, .int .i64 0, .int .i64 0, .int .i64 0, .string ⟨#[]⟩]) (hg2.below (Nat.le_refl _)) (Blk.new wc 78 #[.int .i64 0, .int .i64 0, .int .i64 0, .int .i64 0, .int .i64 0, .string ⟨#[]⟩]).lt; have z0 := hz.c0 0 _ rfl; have z1 := hz.c0 1 _ rfl; have z2 := hz.c0 2 _ rfl; have z3 := hz.c0 3 _ rfl; have z4 := hz.c0 4 _ rfl; have z5 := hz.c0 5 _ rfl; simp at z0 z1 z2 z3 z4 z5; have y0 := hz.free 0; have y1 := hz.free 1; have y2 := hz.free 2; have y3 := hz.free 3; have y4 := hz.free 4; have y5 := hz.free 5; have Hz := Lib.hid hz; have Hg2 : Hid (Grown (wc.alloc (.cells #[.int .i64 0, .int .i64 0, .int .i64 0, .int .i64 0, .int .i64 0, .string ⟨#[]⟩] 78)).drew w2) := Lib.hid hg2; clear hg2 hz hb2))
      all_goals
        go_wp2_with fail
        go_meet
        first
          | (have hz := Hz.out
             exact ⟨wc.heap.size, rfl, blk_set6 hz _ _ _ _ _ _, grown_set6 (((HG0.out.alloc _).draw).trans Hg2.out) _ (grown_size HG0.out) _ _ _ _ _ _⟩)
          | exact ⟨w2.heap.size, rfl, Blk.new _ _ _, (HG0.out.draw.trans Hg2.out).alloc _⟩
    case rest =>
      obtain ⟨q, rfl, hblk, hG⟩ := hcut
      clear a0 a1 a2 a3 a4 a5 hne Hblk HG0 HW hwr
      have hrb := Blk.below (Blk.new w 78 #[.int .i64 0, .int .i64 0, .int .i64 0, .int .i64 0, .int .i64 0, .string ⟨#[]⟩]) (hG.below (Nat.le_refl _)) (Blk.new w 78 #[.int .i64 0, .int .i64 0, .int .i64 0, .int .i64 0, .int .i64 0, .string ⟨#[]⟩]).lt
      have a0 := hblk.c0 0 _ rfl; have a1 := hblk.c0 1 _ rfl; have a2 := hblk.c0 2 _ rfl; have a3 := hblk.c0 3 _ rfl; have a4 := hblk.c0 4 _ rfl; have a5 := hblk.c0 5 _ rfl; simp at a0 a1 a2 a3 a4 a5
      have Hq := Lib.hid hblk
      have Hr := Lib.hid hrb
      have HG0 := Lib.hid hG
      clear hblk hrb hG
      cases ok with
      | true =>
        cases vb with
        | true =>
          go_wp2_with (go_at_call 66; refine (HV.out _).mono ?_; rintro e w3 ⟨rfl, hg3⟩; have hq3 := Blk.below Hq.out (hg3.below (Nat.le_refl _)) Hq.out.lt; have c0 := hq3.c0 0 _ rfl; have c1 := hq3.c0 1 _ rfl; have c2 := hq3.c0 2 _ rfl; have c3 := hq3.c0 3 _ rfl; have c4 := hq3.c0 4 _ rfl; have c5 := hq3.c0 5 _ rfl; simp at c0 c1 c2 c3 c4 c5; have hr3 := Blk.below Hr.out (hg3.below (Nat.le_refl _)) Hr.out.lt; have d0 := hr3.c0 0 _ rfl; have d1 := hr3.c0 1 _ rfl; have d2 := hr3.c0 2 _ rfl; have d3 := hr3.c0 3 _ rfl; have d4 := hr3.c0 4 _ rfl; have d5 := hr3.c0 5 _ rfl; simp at d0 d1 d2 d3 d4 d5; have f0 := hr3.free 0; have f1 := hr3.free 1; have f2 := hr3.free 2; have f3 := hr3.free 3; have f4 := hr3.free 4; have f5 := hr3.free 5; have Hr3 := Lib.hid hr3; have HG3 := Lib.hid (HG0.out.trans hg3); clear hq3 hr3 hg3)
          have hfin := (blk_set6 Hr3.out (.int .i64 1) (.int .i64 s) (.int .i64 l) (.int .i64 i) (.int .i64 y.toNat) (.string (Str t)))
          have g0 := hfin.c0 0 _ rfl
          have g1 := hfin.c0 1 _ rfl
          have g2 := hfin.c0 2 _ rfl
          have g3 := hfin.c0 3 _ rfl
          have g4 := hfin.c0 4 _ rfl
          have g5 := hfin.c0 5 _ rfl
          exact bodyPost_ret (v := .tuple #[.agg #[.int .i64 1, .int .i64 s, .int .i64 l, .int .i64 i, .int .i64 y.toNat, .string (Str t)], .int .i64 0]) (by simp [results, Try.results64, go_sem, d0, d1, d2, d3, d4, d5]) rfl ⟨rfl, below_set6 (Below.trans (below_box _) (HG3.out.below (by simp))) _ (Nat.le_refl _) _ _ _ _ _ _⟩
        | false =>
          go_wp2_with (go_at_call 66; refine (HV.out _).mono ?_; rintro e w3 ⟨rfl, hg3⟩; have hq3 := Blk.below Hq.out (hg3.below (Nat.le_refl _)) Hq.out.lt; have c0 := hq3.c0 0 _ rfl; have c1 := hq3.c0 1 _ rfl; have c2 := hq3.c0 2 _ rfl; have c3 := hq3.c0 3 _ rfl; have c4 := hq3.c0 4 _ rfl; have c5 := hq3.c0 5 _ rfl; simp at c0 c1 c2 c3 c4 c5; have hr3 := Blk.below Hr.out (hg3.below (Nat.le_refl _)) Hr.out.lt; have d0 := hr3.c0 0 _ rfl; have d1 := hr3.c0 1 _ rfl; have d2 := hr3.c0 2 _ rfl; have d3 := hr3.c0 3 _ rfl; have d4 := hr3.c0 4 _ rfl; have d5 := hr3.c0 5 _ rfl; simp at d0 d1 d2 d3 d4 d5; have f0 := hr3.free 0; have f1 := hr3.free 1; have f2 := hr3.free 2; have f3 := hr3.free 3; have f4 := hr3.free 4; have f5 := hr3.free 5; have Hr3 := Lib.hid hr3; have HG3 := Lib.hid (HG0.out.trans hg3); clear hq3 hr3 hg3)
          exact bodyPost_ret (v := .tuple #[.agg #[.int .i64 0, .int .i64 0, .int .i64 0, .int .i64 0, .int .i64 0, .string (Str [])], .int .i64 30]) (by simp [results, Try.results64, go_sem, d0, d1, d2, d3, d4, d5]; rfl) rfl ⟨rfl, below_set6 (Below.trans (below_box _) (HG3.out.below (by simp))) _ (Nat.le_refl _) _ _ _ _ _ _⟩
      | false =>
        have hr3 := Hr.out
        have d0 := hr3.c0 0 _ rfl; have d1 := hr3.c0 1 _ rfl; have d2 := hr3.c0 2 _ rfl; have d3 := hr3.c0 3 _ rfl; have d4 := hr3.c0 4 _ rfl; have d5 := hr3.c0 5 _ rfl; simp at d0 d1 d2 d3 d4 d5; have f0 := hr3.free 0; have f1 := hr3.free 1; have f2 := hr3.free 2; have f3 := hr3.free 3; have f4 := hr3.free 4; have f5 := hr3.free 5
        clear hr3
        go_wp2_with fail
        exact bodyPost_ret (v := .tuple #[.agg #[.int .i64 0, .int .i64 0, .int .i64 0, .int .i64 0, .int .i64 0, .string (Str [])], .int .i64 30]) (by simp [results, Try.results64, go_sem, d0, d1, d2, d3, d4, d5]; rfl) rfl ⟨rfl, below_set6 (Below.trans (below_box _) (HG0.out.below (by simp))) _ (Nat.le_refl _) _ _ _ _ _ _⟩

set_option maxRecDepth 100000 in
set_option maxHeartbeats 1000000 in
theorem decode2_w (y : UInt8) (r : Bs) (s l i : Int) (t : Bs) (w : World) (hr : r.length ≤ 140737488355328) (ht : t.length ≤ maxLen)
    (ok vb : Bool) (hread : ∀ wx, Calls Try.prog 148 #[.string (Str r)] wx fun e w' => e = .returned (.tuple #[.agg #[.int .i64 0, .int .i64 s, .int .i64 l, .int .i64 i, .int .i64 0, .string (Str t)], .bool ok]) ∧ Grown wx w') (hv : validE ⟨2, s, l, i, y.toNat, t⟩ = vb) :
    Calls Try.prog 64 #[.string (Str (2 :: y :: r))] w fun e w' => e = .returned (decV (ok && vb) 2 s l i y.toNat t) ∧ Below w.heap.size w w' := by
  have hva := fun wx => evalid_w 2 s l i y.toNat t wx ht
  rw [hv] at hva
  have HV := Lib.hid hva
  have HR := Lib.hid hread
  have HW := Lib.hid (fun wx => withHead_w 0 s l i 0 2 y.toNat t wx)
  have hy1 : (y.toNat : Int) ≤ 255 := by have := y.toNat_lt; omega
  have hy0 : 0 ≤ (y.toNat : Int) := by omega
  have hx : (Str (2 :: y :: r)).extract 2 (r.length + 1 + 1) = Str r := extract_StrN (2 :: y :: r) 2
  clear hva hv ht hread
  go_enter Try.func64, Try.ntmps64
  go_upto_region 6 with (go_at_call 117; refine (kindOf2_w _).mono ?_; rintro e w1 ⟨rfl, hg1⟩; have Hg1 := Lib.hid hg1; clear hg1)
  have KB : Blk (w1.alloc (.cells #[.func (Fn.func 146) #[] #[], .func (Fn.func 147) #[] #[], .func (Fn.func 148) #[] #[]] 143)) w1.heap.size 143 #[.func (Fn.func 146) #[] #[], .func (Fn.func 147) #[] #[], .func (Fn.func 148) #[] #[]] := Blk.new w1 143 #[.func (Fn.func 146) #[] #[], .func (Fn.func 147) #[] #[], .func (Fn.func 148) #[] #[]]
  have HG0 : Hid (Grown (w.alloc (.cells #[.int .i64 0, .int .i64 0, .int .i64 0, .int .i64 0, .int .i64 0, .string ⟨#[]⟩] 78)) (w1.alloc (.cells #[.func (Fn.func 146) #[] #[], .func (Fn.func 147) #[] #[], .func (Fn.func 148) #[] #[]] 143))) := Lib.hid (Hg1.out.alloc _)
  generalize w1.alloc (.cells #[.func (Fn.func 146) #[] #[], .func (Fn.func 147) #[] #[], .func (Fn.func 148) #[] #[]] 143) = wa at *
  have hb0 : wa.cell? ⟨w1.heap.size, 2, none⟩ = some (.func (Fn.func 148) #[] #[]) := KB.c0 2 _ rfl
  have HK := Lib.hid KB
  have hne : wa.heap.size ≠ w1.heap.size := Nat.ne_of_gt KB.lt
  clear KB
  go_cut [5, 6] (fun s5 s6 wr => s5 = .bool ok ∧ AtVar w wr 0 s l i 0 t s6)
  case first =>
    go_region_held3 (fun wr => wr.cell? ⟨w1.heap.size, 2, none⟩ = some (.func (Fn.func 148) #[] #[])) (go_keep)
      (first
        | (go_at_call 148; refine (HR.out _).mono ?_; rintro e w2 ⟨rfl, hg2⟩; have hb2 : w2.cell? ⟨w1.heap.size, 2, none⟩ = some (.func (Fn.func 148) #[] #[]) := (Blk.below (show Blk wa.drew _ _ _ from HK.out) (hg2.below (Nat.le_refl _)) HK.out.lt).c0 2 _ rfl; have Hg2 : Hid (Grown wa.drew w2) := Lib.hid hg2; clear hg2)
        | (go_at_call 148; refine (HR.out _).mono ?_; rintro e w2 ⟨rfl, hg2⟩; have hb2 : w2.cell? ⟨w1.heap.size, 2, none⟩ = some (.func (Fn.func 148) #[] #[]) := (Blk.below (show Blk (wa.alloc _).drew _ _ _ from HK.out.alloc _) (hg2.below (Nat.le_refl _)) (HK.out.alloc _).lt).c0 2 _ rfl; have hz := Blk.below (show Blk (wa.alloc (.cells #[.int .i64 0, .int .i64 0, .int .i64 0, .int .i64 0, .int .i64 0, .string ⟨#[]⟩] 78)).drew wa.heap.size 78 #[.int .i64 0, .int .i64 0, .int .i64 0, .int .i64 0, .int .i64 0, .string ⟨#[]⟩] from Blk.new wa 78 #[.int .i64 0, .int .i64 0, .int .i64 0, .int .i64 0, .int .i64 0, .string ⟨#[]⟩]) (hg2.below (Nat.le_refl _)) (Blk.new wa 78 #[.int .i64 0, .int .i64 0, .int .i64 0, .int .i64 0, .int .i64 0, .string ⟨#[]⟩]).lt; have z0 := hz.c0 0 _ rfl; have z1 := hz.c0 1 _ rfl; have z2 := hz.c0 2 _ rfl; have z3 := hz.c0 3 _ rfl; have z4 := hz.c0 4 _ rfl; have z5 := hz.c0 5 _ rfl; have y0 := hz.free 0; have y1 := hz.free 1; have y2 := hz.free 2; have y3 := hz.free 3; have y4 := hz.free 4; have y5 := hz.free 5; simp at z0 z1 z2 z3 z4 z5; have Hz := Lib.hid hz; have Hg2 : Hid (Grown (wa.alloc (.cells #[.int .i64 0, .int .i64 0, .int .i64 0, .int .i64 0, .int .i64 0, .string ⟨#[]⟩] 78)).drew w2) := Lib.hid hg2; clear hg2 hz))
    all_goals
      go_wp2_with fail
      go_meet
      first
        | (have hz := Hz.out
           exact ⟨rfl, wa.heap.size, rfl, blk_set6 hz _ _ _ _ _ _, grown_set6 (((HG0.out.alloc _).draw).trans Hg2.out) _ (grown_size HG0.out) _ _ _ _ _ _⟩)
        | exact ⟨rfl, w2.heap.size, rfl, Blk.new _ _ _, (HG0.out.draw.trans Hg2.out).alloc _⟩
  case rest =>
    obtain ⟨rfl, p, rfl, hblk, hG⟩ := hcut
    clear hb0 hne HK HG0 HR
    have Hblk := Lib.hid hblk
    have HG0 := Lib.hid hG
    have a0 := hblk.c0 0 _ rfl
    have a1 := hblk.c0 1 _ rfl
    have a2 := hblk.c0 2 _ rfl
    have a3 := hblk.c0 3 _ rfl
    have a4 := hblk.c0 4 _ rfl
    have a5 := hblk.c0 5 _ rfl
    simp at a0 a1 a2 a3 a4 a5
    clear hblk hG
    have hne : wc.heap.size ≠ p := Nat.ne_of_gt Hblk.out.lt
    have hwr : IntKind.i64.wrap (y.toNat : Int) = (y.toNat : Int) := by rw [IntKind.wrap_i64]; omega
    go_upto_region 7 with fail
    go_cut [7] (fun s7 wr => AtVar w wr 2 s l i y.toNat t s7)
    case first =>
      go_region_held3 (fun wr => wr.cell? ⟨p, 0, none⟩ = some (.int .i64 0) ∧ wr.cell? ⟨p, 1, none⟩ = some (.int .i64 s) ∧ wr.cell? ⟨p, 2, none⟩ = some (.int .i64 l) ∧ wr.cell? ⟨p, 3, none⟩ = some (.int .i64 i) ∧ wr.cell? ⟨p, 4, none⟩ = some (.int .i64 0) ∧ wr.cell? ⟨p, 5, none⟩ = some (.string (Str t))) (go_keep)
        (first
          | (go_at_call 119; refine (HW.out _).mono ?_; rintro e w2 ⟨rfl, hg2⟩; have hb2 := Blk.below (show Blk wc.drew _ _ _ from Hblk.out) (hg2.below (Nat.le_refl _)) Hblk.out.lt; have b0 := hb2.c0 0 _ rfl; have b1 := hb2.c0 1 _ rfl; have b2 := hb2.c0 2 _ rfl; have b3 := hb2.c0 3 _ rfl; have b4 := hb2.c0 4 _ rfl; have b5 := hb2.c0 5 _ rfl; simp at b0 b1 b2 b3 b4 b5; have Hg2 : Hid (Grown wc.drew w2) := Lib.hid hg2; clear hg2 hb2)
          | (go_at_call 119; refine (HW.out _).mono ?_; rintro e w2 ⟨rfl, hg2⟩; have hb2 := Blk.below (show Blk (wc.alloc _).drew _ _ _ from Hblk.out.alloc _) (hg2.below (Nat.le_refl _)) (Hblk.out.alloc _).lt; have b0 := hb2.c0 0 _ rfl; have b1 := hb2.c0 1 _ rfl; have b2 := hb2.c0 2 _ rfl; have b3 := hb2.c0 3 _ rfl; have b4 := hb2.c0 4 _ rfl; have b5 := hb2.c0 5 _ rfl; simp at b0 b1 b2 b3 b4 b5; have hz := Blk.below (show Blk (wc.alloc (.cells #[.int .i64 0, .int .i64 0, .int .i64 0, .int .i64 0, .int .i64 0, .string ⟨#[]⟩] 78)).drew wc.heap.size 78 #[.int .i64 0, .int .i64 0, .int .i64 0, .int .i64 0, .int .i64 0, .string ⟨#[]⟩] from Blk.new wc 78 #[.int .i64 0, .int .i64 0, .int .i64 0, .int .i64 0, .int .i64 0, .string ⟨#[]⟩]) (hg2.below (Nat.le_refl _)) (Blk.new wc 78 #[.int .i64 0, .int .i64 0, .int .i64 0, .int .i64 0, .int .i64 0, .string ⟨#[]⟩]).lt; have z0 := hz.c0 0 _ rfl; have z1 := hz.c0 1 _ rfl; have z2 := hz.c0 2 _ rfl; have z3 := hz.c0 3 _ rfl; have z4 := hz.c0 4 _ rfl; have z5 := hz.c0 5 _ rfl; simp at z0 z1 z2 z3 z4 z5; have y0 := hz.free 0; have y1 := hz.free 1; have y2 := hz.free 2; have y3 := hz.free 3; have y4 := hz.free 4; have y5 := hz.free 5; have Hz := Lib.hid hz; have Hg2 : Hid (Grown (wc.alloc (.cells #[.int .i64 0, .int .i64 0, .int .i64 0, .int .i64 0, .int .i64 0, .string ⟨#[]⟩] 78)).drew w2) := Lib.hid hg2; clear hg2 hz hb2))
      all_goals
        go_wp2_with fail
        go_meet
        first
          | (have hz := Hz.out
             exact ⟨wc.heap.size, rfl, blk_set6 hz _ _ _ _ _ _, grown_set6 (((HG0.out.alloc _).draw).trans Hg2.out) _ (grown_size HG0.out) _ _ _ _ _ _⟩)
          | exact ⟨w2.heap.size, rfl, Blk.new _ _ _, (HG0.out.draw.trans Hg2.out).alloc _⟩
    case rest =>
      obtain ⟨q, rfl, hblk, hG⟩ := hcut
      clear a0 a1 a2 a3 a4 a5 hne Hblk HG0 HW hwr
      have hrb := Blk.below (Blk.new w 78 #[.int .i64 0, .int .i64 0, .int .i64 0, .int .i64 0, .int .i64 0, .string ⟨#[]⟩]) (hG.below (Nat.le_refl _)) (Blk.new w 78 #[.int .i64 0, .int .i64 0, .int .i64 0, .int .i64 0, .int .i64 0, .string ⟨#[]⟩]).lt
      have a0 := hblk.c0 0 _ rfl; have a1 := hblk.c0 1 _ rfl; have a2 := hblk.c0 2 _ rfl; have a3 := hblk.c0 3 _ rfl; have a4 := hblk.c0 4 _ rfl; have a5 := hblk.c0 5 _ rfl; simp at a0 a1 a2 a3 a4 a5
      have Hq := Lib.hid hblk
      have Hr := Lib.hid hrb
      have HG0 := Lib.hid hG
      clear hblk hrb hG
      cases ok with
      | true =>
        cases vb with
        | true =>
          go_wp2_with (go_at_call 66; refine (HV.out _).mono ?_; rintro e w3 ⟨rfl, hg3⟩; have hq3 := Blk.below Hq.out (hg3.below (Nat.le_refl _)) Hq.out.lt; have c0 := hq3.c0 0 _ rfl; have c1 := hq3.c0 1 _ rfl; have c2 := hq3.c0 2 _ rfl; have c3 := hq3.c0 3 _ rfl; have c4 := hq3.c0 4 _ rfl; have c5 := hq3.c0 5 _ rfl; simp at c0 c1 c2 c3 c4 c5; have hr3 := Blk.below Hr.out (hg3.below (Nat.le_refl _)) Hr.out.lt; have d0 := hr3.c0 0 _ rfl; have d1 := hr3.c0 1 _ rfl; have d2 := hr3.c0 2 _ rfl; have d3 := hr3.c0 3 _ rfl; have d4 := hr3.c0 4 _ rfl; have d5 := hr3.c0 5 _ rfl; simp at d0 d1 d2 d3 d4 d5; have f0 := hr3.free 0; have f1 := hr3.free 1; have f2 := hr3.free 2; have f3 := hr3.free 3; have f4 := hr3.free 4; have f5 := hr3.free 5; have Hr3 := Lib.hid hr3; have HG3 := Lib.hid (HG0.out.trans hg3); clear hq3 hr3 hg3)
          have hfin := (blk_set6 Hr3.out (.int .i64 2) (.int .i64 s) (.int .i64 l) (.int .i64 i) (.int .i64 y.toNat) (.string (Str t)))
          have g0 := hfin.c0 0 _ rfl
          have g1 := hfin.c0 1 _ rfl
          have g2 := hfin.c0 2 _ rfl
          have g3 := hfin.c0 3 _ rfl
          have g4 := hfin.c0 4 _ rfl
          have g5 := hfin.c0 5 _ rfl
          exact bodyPost_ret (v := .tuple #[.agg #[.int .i64 2, .int .i64 s, .int .i64 l, .int .i64 i, .int .i64 y.toNat, .string (Str t)], .int .i64 0]) (by simp [results, Try.results64, go_sem, d0, d1, d2, d3, d4, d5]) rfl ⟨rfl, below_set6 (Below.trans (below_box _) (HG3.out.below (by simp))) _ (Nat.le_refl _) _ _ _ _ _ _⟩
        | false =>
          go_wp2_with (go_at_call 66; refine (HV.out _).mono ?_; rintro e w3 ⟨rfl, hg3⟩; have hq3 := Blk.below Hq.out (hg3.below (Nat.le_refl _)) Hq.out.lt; have c0 := hq3.c0 0 _ rfl; have c1 := hq3.c0 1 _ rfl; have c2 := hq3.c0 2 _ rfl; have c3 := hq3.c0 3 _ rfl; have c4 := hq3.c0 4 _ rfl; have c5 := hq3.c0 5 _ rfl; simp at c0 c1 c2 c3 c4 c5; have hr3 := Blk.below Hr.out (hg3.below (Nat.le_refl _)) Hr.out.lt; have d0 := hr3.c0 0 _ rfl; have d1 := hr3.c0 1 _ rfl; have d2 := hr3.c0 2 _ rfl; have d3 := hr3.c0 3 _ rfl; have d4 := hr3.c0 4 _ rfl; have d5 := hr3.c0 5 _ rfl; simp at d0 d1 d2 d3 d4 d5; have f0 := hr3.free 0; have f1 := hr3.free 1; have f2 := hr3.free 2; have f3 := hr3.free 3; have f4 := hr3.free 4; have f5 := hr3.free 5; have Hr3 := Lib.hid hr3; have HG3 := Lib.hid (HG0.out.trans hg3); clear hq3 hr3 hg3)
          exact bodyPost_ret (v := .tuple #[.agg #[.int .i64 0, .int .i64 0, .int .i64 0, .int .i64 0, .int .i64 0, .string (Str [])], .int .i64 30]) (by simp [results, Try.results64, go_sem, d0, d1, d2, d3, d4, d5]; rfl) rfl ⟨rfl, below_set6 (Below.trans (below_box _) (HG3.out.below (by simp))) _ (Nat.le_refl _) _ _ _ _ _ _⟩
      | false =>
        have hr3 := Hr.out
        have d0 := hr3.c0 0 _ rfl; have d1 := hr3.c0 1 _ rfl; have d2 := hr3.c0 2 _ rfl; have d3 := hr3.c0 3 _ rfl; have d4 := hr3.c0 4 _ rfl; have d5 := hr3.c0 5 _ rfl; simp at d0 d1 d2 d3 d4 d5; have f0 := hr3.free 0; have f1 := hr3.free 1; have f2 := hr3.free 2; have f3 := hr3.free 3; have f4 := hr3.free 4; have f5 := hr3.free 5
        clear hr3
        go_wp2_with fail
        exact bodyPost_ret (v := .tuple #[.agg #[.int .i64 0, .int .i64 0, .int .i64 0, .int .i64 0, .int .i64 0, .string (Str [])], .int .i64 30]) (by simp [results, Try.results64, go_sem, d0, d1, d2, d3, d4, d5]; rfl) rfl ⟨rfl, below_set6 (Below.trans (below_box _) (HG0.out.below (by simp))) _ (Nat.le_refl _) _ _ _ _ _ _⟩

set_option maxRecDepth 100000 in
set_option maxHeartbeats 1000000 in
theorem decode3_w (y : UInt8) (r : Bs) (s l i : Int) (t : Bs) (w : World) (hr : r.length ≤ 140737488355328) (ht : t.length ≤ maxLen)
    (ok vb : Bool) (hread : ∀ wx, Calls Try.prog 152 #[.string (Str r)] wx fun e w' => e = .returned (.tuple #[.agg #[.int .i64 0, .int .i64 s, .int .i64 l, .int .i64 i, .int .i64 0, .string (Str t)], .bool ok]) ∧ Grown wx w') (hv : validE ⟨3, s, l, i, y.toNat, t⟩ = vb) :
    Calls Try.prog 64 #[.string (Str (3 :: y :: r))] w fun e w' => e = .returned (decV (ok && vb) 3 s l i y.toNat t) ∧ Below w.heap.size w w' := by
  have hva := fun wx => evalid_w 3 s l i y.toNat t wx ht
  rw [hv] at hva
  have HV := Lib.hid hva
  have HR := Lib.hid hread
  have HW := Lib.hid (fun wx => withHead_w 0 s l i 0 3 y.toNat t wx)
  have hy1 : (y.toNat : Int) ≤ 255 := by have := y.toNat_lt; omega
  have hy0 : 0 ≤ (y.toNat : Int) := by omega
  have hx : (Str (3 :: y :: r)).extract 2 (r.length + 1 + 1) = Str r := extract_StrN (3 :: y :: r) 2
  clear hva hv ht hread
  go_enter Try.func64, Try.ntmps64
  go_upto_region 6 with (go_at_call 117; refine (kindOf3_w _).mono ?_; rintro e w1 ⟨rfl, hg1⟩; have Hg1 := Lib.hid hg1; clear hg1)
  have KB : Blk (w1.alloc (.cells #[.func (Fn.func 149) #[] #[], .func (Fn.func 151) #[] #[], .func (Fn.func 152) #[] #[]] 143)) w1.heap.size 143 #[.func (Fn.func 149) #[] #[], .func (Fn.func 151) #[] #[], .func (Fn.func 152) #[] #[]] := Blk.new w1 143 #[.func (Fn.func 149) #[] #[], .func (Fn.func 151) #[] #[], .func (Fn.func 152) #[] #[]]
  have HG0 : Hid (Grown (w.alloc (.cells #[.int .i64 0, .int .i64 0, .int .i64 0, .int .i64 0, .int .i64 0, .string ⟨#[]⟩] 78)) (w1.alloc (.cells #[.func (Fn.func 149) #[] #[], .func (Fn.func 151) #[] #[], .func (Fn.func 152) #[] #[]] 143))) := Lib.hid (Hg1.out.alloc _)
  generalize w1.alloc (.cells #[.func (Fn.func 149) #[] #[], .func (Fn.func 151) #[] #[], .func (Fn.func 152) #[] #[]] 143) = wa at *
  have hb0 : wa.cell? ⟨w1.heap.size, 2, none⟩ = some (.func (Fn.func 152) #[] #[]) := KB.c0 2 _ rfl
  have HK := Lib.hid KB
  have hne : wa.heap.size ≠ w1.heap.size := Nat.ne_of_gt KB.lt
  clear KB
  go_cut [5, 6] (fun s5 s6 wr => s5 = .bool ok ∧ AtVar w wr 0 s l i 0 t s6)
  case first =>
    go_region_held3 (fun wr => wr.cell? ⟨w1.heap.size, 2, none⟩ = some (.func (Fn.func 152) #[] #[])) (go_keep)
      (first
        | (go_at_call 152; refine (HR.out _).mono ?_; rintro e w2 ⟨rfl, hg2⟩; have hb2 : w2.cell? ⟨w1.heap.size, 2, none⟩ = some (.func (Fn.func 152) #[] #[]) := (Blk.below (show Blk wa.drew _ _ _ from HK.out) (hg2.below (Nat.le_refl _)) HK.out.lt).c0 2 _ rfl; have Hg2 : Hid (Grown wa.drew w2) := Lib.hid hg2; clear hg2)
        | (go_at_call 152; refine (HR.out _).mono ?_; rintro e w2 ⟨rfl, hg2⟩; have hb2 : w2.cell? ⟨w1.heap.size, 2, none⟩ = some (.func (Fn.func 152) #[] #[]) := (Blk.below (show Blk (wa.alloc _).drew _ _ _ from HK.out.alloc _) (hg2.below (Nat.le_refl _)) (HK.out.alloc _).lt).c0 2 _ rfl; have hz := Blk.below (show Blk (wa.alloc (.cells #[.int .i64 0, .int .i64 0, .int .i64 0, .int .i64 0, .int .i64 0, .string ⟨#[]⟩] 78)).drew wa.heap.size 78 #[.int .i64 0, .int .i64 0, .int .i64 0, .int .i64 0, .int .i64 0, .string ⟨#[]⟩] from Blk.new wa 78 #[.int .i64 0, .int .i64 0, .int .i64 0, .int .i64 0, .int .i64 0, .string ⟨#[]⟩]) (hg2.below (Nat.le_refl _)) (Blk.new wa 78 #[.int .i64 0, .int .i64 0, .int .i64 0, .int .i64 0, .int .i64 0, .string ⟨#[]⟩]).lt; have z0 := hz.c0 0 _ rfl; have z1 := hz.c0 1 _ rfl; have z2 := hz.c0 2 _ rfl; have z3 := hz.c0 3 _ rfl; have z4 := hz.c0 4 _ rfl; have z5 := hz.c0 5 _ rfl; have y0 := hz.free 0; have y1 := hz.free 1; have y2 := hz.free 2; have y3 := hz.free 3; have y4 := hz.free 4; have y5 := hz.free 5; simp at z0 z1 z2 z3 z4 z5; have Hz := Lib.hid hz; have Hg2 : Hid (Grown (wa.alloc (.cells #[.int .i64 0, .int .i64 0, .int .i64 0, .int .i64 0, .int .i64 0, .string ⟨#[]⟩] 78)).drew w2) := Lib.hid hg2; clear hg2 hz))
    all_goals
      go_wp2_with fail
      go_meet
      first
        | (have hz := Hz.out
           exact ⟨rfl, wa.heap.size, rfl, blk_set6 hz _ _ _ _ _ _, grown_set6 (((HG0.out.alloc _).draw).trans Hg2.out) _ (grown_size HG0.out) _ _ _ _ _ _⟩)
        | exact ⟨rfl, w2.heap.size, rfl, Blk.new _ _ _, (HG0.out.draw.trans Hg2.out).alloc _⟩
  case rest =>
    obtain ⟨rfl, p, rfl, hblk, hG⟩ := hcut
    clear hb0 hne HK HG0 HR
    have Hblk := Lib.hid hblk
    have HG0 := Lib.hid hG
    have a0 := hblk.c0 0 _ rfl
    have a1 := hblk.c0 1 _ rfl
    have a2 := hblk.c0 2 _ rfl
    have a3 := hblk.c0 3 _ rfl
    have a4 := hblk.c0 4 _ rfl
    have a5 := hblk.c0 5 _ rfl
    simp at a0 a1 a2 a3 a4 a5
    clear hblk hG
    have hne : wc.heap.size ≠ p := Nat.ne_of_gt Hblk.out.lt
    have hwr : IntKind.i64.wrap (y.toNat : Int) = (y.toNat : Int) := by rw [IntKind.wrap_i64]; omega
    go_upto_region 7 with fail
    go_cut [7] (fun s7 wr => AtVar w wr 3 s l i y.toNat t s7)
    case first =>
      go_region_held3 (fun wr => wr.cell? ⟨p, 0, none⟩ = some (.int .i64 0) ∧ wr.cell? ⟨p, 1, none⟩ = some (.int .i64 s) ∧ wr.cell? ⟨p, 2, none⟩ = some (.int .i64 l) ∧ wr.cell? ⟨p, 3, none⟩ = some (.int .i64 i) ∧ wr.cell? ⟨p, 4, none⟩ = some (.int .i64 0) ∧ wr.cell? ⟨p, 5, none⟩ = some (.string (Str t))) (go_keep)
        (first
          | (go_at_call 119; refine (HW.out _).mono ?_; rintro e w2 ⟨rfl, hg2⟩; have hb2 := Blk.below (show Blk wc.drew _ _ _ from Hblk.out) (hg2.below (Nat.le_refl _)) Hblk.out.lt; have b0 := hb2.c0 0 _ rfl; have b1 := hb2.c0 1 _ rfl; have b2 := hb2.c0 2 _ rfl; have b3 := hb2.c0 3 _ rfl; have b4 := hb2.c0 4 _ rfl; have b5 := hb2.c0 5 _ rfl; simp at b0 b1 b2 b3 b4 b5; have Hg2 : Hid (Grown wc.drew w2) := Lib.hid hg2; clear hg2 hb2)
          | (go_at_call 119; refine (HW.out _).mono ?_; rintro e w2 ⟨rfl, hg2⟩; have hb2 := Blk.below (show Blk (wc.alloc _).drew _ _ _ from Hblk.out.alloc _) (hg2.below (Nat.le_refl _)) (Hblk.out.alloc _).lt; have b0 := hb2.c0 0 _ rfl; have b1 := hb2.c0 1 _ rfl; have b2 := hb2.c0 2 _ rfl; have b3 := hb2.c0 3 _ rfl; have b4 := hb2.c0 4 _ rfl; have b5 := hb2.c0 5 _ rfl; simp at b0 b1 b2 b3 b4 b5; have hz := Blk.below (show Blk (wc.alloc (.cells #[.int .i64 0, .int .i64 0, .int .i64 0, .int .i64 0, .int .i64 0, .string ⟨#[]⟩] 78)).drew wc.heap.size 78 #[.int .i64 0, .int .i64 0, .int .i64 0, .int .i64 0, .int .i64 0, .string ⟨#[]⟩] from Blk.new wc 78 #[.int .i64 0, .int .i64 0, .int .i64 0, .int .i64 0, .int .i64 0, .string ⟨#[]⟩]) (hg2.below (Nat.le_refl _)) (Blk.new wc 78 #[.int .i64 0, .int .i64 0, .int .i64 0, .int .i64 0, .int .i64 0, .string ⟨#[]⟩]).lt; have z0 := hz.c0 0 _ rfl; have z1 := hz.c0 1 _ rfl; have z2 := hz.c0 2 _ rfl; have z3 := hz.c0 3 _ rfl; have z4 := hz.c0 4 _ rfl; have z5 := hz.c0 5 _ rfl; simp at z0 z1 z2 z3 z4 z5; have y0 := hz.free 0; have y1 := hz.free 1; have y2 := hz.free 2; have y3 := hz.free 3; have y4 := hz.free 4; have y5 := hz.free 5; have Hz := Lib.hid hz; have Hg2 : Hid (Grown (wc.alloc (.cells #[.int .i64 0, .int .i64 0, .int .i64 0, .int .i64 0, .int .i64 0, .string ⟨#[]⟩] 78)).drew w2) := Lib.hid hg2; clear hg2 hz hb2))
      all_goals
        go_wp2_with fail
        go_meet
        first
          | (have hz := Hz.out
             exact ⟨wc.heap.size, rfl, blk_set6 hz _ _ _ _ _ _, grown_set6 (((HG0.out.alloc _).draw).trans Hg2.out) _ (grown_size HG0.out) _ _ _ _ _ _⟩)
          | exact ⟨w2.heap.size, rfl, Blk.new _ _ _, (HG0.out.draw.trans Hg2.out).alloc _⟩
    case rest =>
      obtain ⟨q, rfl, hblk, hG⟩ := hcut
      clear a0 a1 a2 a3 a4 a5 hne Hblk HG0 HW hwr
      have hrb := Blk.below (Blk.new w 78 #[.int .i64 0, .int .i64 0, .int .i64 0, .int .i64 0, .int .i64 0, .string ⟨#[]⟩]) (hG.below (Nat.le_refl _)) (Blk.new w 78 #[.int .i64 0, .int .i64 0, .int .i64 0, .int .i64 0, .int .i64 0, .string ⟨#[]⟩]).lt
      have a0 := hblk.c0 0 _ rfl; have a1 := hblk.c0 1 _ rfl; have a2 := hblk.c0 2 _ rfl; have a3 := hblk.c0 3 _ rfl; have a4 := hblk.c0 4 _ rfl; have a5 := hblk.c0 5 _ rfl; simp at a0 a1 a2 a3 a4 a5
      have Hq := Lib.hid hblk
      have Hr := Lib.hid hrb
      have HG0 := Lib.hid hG
      clear hblk hrb hG
      cases ok with
      | true =>
        cases vb with
        | true =>
          go_wp2_with (go_at_call 66; refine (HV.out _).mono ?_; rintro e w3 ⟨rfl, hg3⟩; have hq3 := Blk.below Hq.out (hg3.below (Nat.le_refl _)) Hq.out.lt; have c0 := hq3.c0 0 _ rfl; have c1 := hq3.c0 1 _ rfl; have c2 := hq3.c0 2 _ rfl; have c3 := hq3.c0 3 _ rfl; have c4 := hq3.c0 4 _ rfl; have c5 := hq3.c0 5 _ rfl; simp at c0 c1 c2 c3 c4 c5; have hr3 := Blk.below Hr.out (hg3.below (Nat.le_refl _)) Hr.out.lt; have d0 := hr3.c0 0 _ rfl; have d1 := hr3.c0 1 _ rfl; have d2 := hr3.c0 2 _ rfl; have d3 := hr3.c0 3 _ rfl; have d4 := hr3.c0 4 _ rfl; have d5 := hr3.c0 5 _ rfl; simp at d0 d1 d2 d3 d4 d5; have f0 := hr3.free 0; have f1 := hr3.free 1; have f2 := hr3.free 2; have f3 := hr3.free 3; have f4 := hr3.free 4; have f5 := hr3.free 5; have Hr3 := Lib.hid hr3; have HG3 := Lib.hid (HG0.out.trans hg3); clear hq3 hr3 hg3)
          have hfin := (blk_set6 Hr3.out (.int .i64 3) (.int .i64 s) (.int .i64 l) (.int .i64 i) (.int .i64 y.toNat) (.string (Str t)))
          have g0 := hfin.c0 0 _ rfl
          have g1 := hfin.c0 1 _ rfl
          have g2 := hfin.c0 2 _ rfl
          have g3 := hfin.c0 3 _ rfl
          have g4 := hfin.c0 4 _ rfl
          have g5 := hfin.c0 5 _ rfl
          exact bodyPost_ret (v := .tuple #[.agg #[.int .i64 3, .int .i64 s, .int .i64 l, .int .i64 i, .int .i64 y.toNat, .string (Str t)], .int .i64 0]) (by simp [results, Try.results64, go_sem, d0, d1, d2, d3, d4, d5]) rfl ⟨rfl, below_set6 (Below.trans (below_box _) (HG3.out.below (by simp))) _ (Nat.le_refl _) _ _ _ _ _ _⟩
        | false =>
          go_wp2_with (go_at_call 66; refine (HV.out _).mono ?_; rintro e w3 ⟨rfl, hg3⟩; have hq3 := Blk.below Hq.out (hg3.below (Nat.le_refl _)) Hq.out.lt; have c0 := hq3.c0 0 _ rfl; have c1 := hq3.c0 1 _ rfl; have c2 := hq3.c0 2 _ rfl; have c3 := hq3.c0 3 _ rfl; have c4 := hq3.c0 4 _ rfl; have c5 := hq3.c0 5 _ rfl; simp at c0 c1 c2 c3 c4 c5; have hr3 := Blk.below Hr.out (hg3.below (Nat.le_refl _)) Hr.out.lt; have d0 := hr3.c0 0 _ rfl; have d1 := hr3.c0 1 _ rfl; have d2 := hr3.c0 2 _ rfl; have d3 := hr3.c0 3 _ rfl; have d4 := hr3.c0 4 _ rfl; have d5 := hr3.c0 5 _ rfl; simp at d0 d1 d2 d3 d4 d5; have f0 := hr3.free 0; have f1 := hr3.free 1; have f2 := hr3.free 2; have f3 := hr3.free 3; have f4 := hr3.free 4; have f5 := hr3.free 5; have Hr3 := Lib.hid hr3; have HG3 := Lib.hid (HG0.out.trans hg3); clear hq3 hr3 hg3)
          exact bodyPost_ret (v := .tuple #[.agg #[.int .i64 0, .int .i64 0, .int .i64 0, .int .i64 0, .int .i64 0, .string (Str [])], .int .i64 30]) (by simp [results, Try.results64, go_sem, d0, d1, d2, d3, d4, d5]; rfl) rfl ⟨rfl, below_set6 (Below.trans (below_box _) (HG3.out.below (by simp))) _ (Nat.le_refl _) _ _ _ _ _ _⟩
      | false =>
        have hr3 := Hr.out
        have d0 := hr3.c0 0 _ rfl; have d1 := hr3.c0 1 _ rfl; have d2 := hr3.c0 2 _ rfl; have d3 := hr3.c0 3 _ rfl; have d4 := hr3.c0 4 _ rfl; have d5 := hr3.c0 5 _ rfl; simp at d0 d1 d2 d3 d4 d5; have f0 := hr3.free 0; have f1 := hr3.free 1; have f2 := hr3.free 2; have f3 := hr3.free 3; have f4 := hr3.free 4; have f5 := hr3.free 5
        clear hr3
        go_wp2_with fail
        exact bodyPost_ret (v := .tuple #[.agg #[.int .i64 0, .int .i64 0, .int .i64 0, .int .i64 0, .int .i64 0, .string (Str [])], .int .i64 30]) (by simp [results, Try.results64, go_sem, d0, d1, d2, d3, d4, d5]; rfl) rfl ⟨rfl, below_set6 (Below.trans (below_box _) (HG0.out.below (by simp))) _ (Nat.le_refl _) _ _ _ _ _ _⟩

set_option maxRecDepth 100000 in
set_option maxHeartbeats 1000000 in
theorem decode4_w (y : UInt8) (r : Bs) (s l i : Int) (t : Bs) (w : World) (hr : r.length ≤ 140737488355328) (ht : t.length ≤ maxLen)
    (ok vb : Bool) (hread : ∀ wx, Calls Try.prog 156 #[.string (Str r)] wx fun e w' => e = .returned (.tuple #[.agg #[.int .i64 0, .int .i64 s, .int .i64 l, .int .i64 i, .int .i64 0, .string (Str t)], .bool ok]) ∧ Grown wx w') (hv : validE ⟨4, s, l, i, y.toNat, t⟩ = vb) :
    Calls Try.prog 64 #[.string (Str (4 :: y :: r))] w fun e w' => e = .returned (decV (ok && vb) 4 s l i y.toNat t) ∧ Below w.heap.size w w' := by
  have hva := fun wx => evalid_w 4 s l i y.toNat t wx ht
  rw [hv] at hva
  have HV := Lib.hid hva
  have HR := Lib.hid hread
  have HW := Lib.hid (fun wx => withHead_w 0 s l i 0 4 y.toNat t wx)
  have hy1 : (y.toNat : Int) ≤ 255 := by have := y.toNat_lt; omega
  have hy0 : 0 ≤ (y.toNat : Int) := by omega
  have hx : (Str (4 :: y :: r)).extract 2 (r.length + 1 + 1) = Str r := extract_StrN (4 :: y :: r) 2
  clear hva hv ht hread
  go_enter Try.func64, Try.ntmps64
  go_upto_region 6 with (go_at_call 117; refine (kindOf4_w _).mono ?_; rintro e w1 ⟨rfl, hg1⟩; have Hg1 := Lib.hid hg1; clear hg1)
  have KB : Blk (w1.alloc (.cells #[.func (Fn.func 153) #[] #[], .func (Fn.func 154) #[] #[], .func (Fn.func 156) #[] #[]] 143)) w1.heap.size 143 #[.func (Fn.func 153) #[] #[], .func (Fn.func 154) #[] #[], .func (Fn.func 156) #[] #[]] := Blk.new w1 143 #[.func (Fn.func 153) #[] #[], .func (Fn.func 154) #[] #[], .func (Fn.func 156) #[] #[]]
  have HG0 : Hid (Grown (w.alloc (.cells #[.int .i64 0, .int .i64 0, .int .i64 0, .int .i64 0, .int .i64 0, .string ⟨#[]⟩] 78)) (w1.alloc (.cells #[.func (Fn.func 153) #[] #[], .func (Fn.func 154) #[] #[], .func (Fn.func 156) #[] #[]] 143))) := Lib.hid (Hg1.out.alloc _)
  generalize w1.alloc (.cells #[.func (Fn.func 153) #[] #[], .func (Fn.func 154) #[] #[], .func (Fn.func 156) #[] #[]] 143) = wa at *
  have hb0 : wa.cell? ⟨w1.heap.size, 2, none⟩ = some (.func (Fn.func 156) #[] #[]) := KB.c0 2 _ rfl
  have HK := Lib.hid KB
  have hne : wa.heap.size ≠ w1.heap.size := Nat.ne_of_gt KB.lt
  clear KB
  go_cut [5, 6] (fun s5 s6 wr => s5 = .bool ok ∧ AtVar w wr 0 s l i 0 t s6)
  case first =>
    go_region_held3 (fun wr => wr.cell? ⟨w1.heap.size, 2, none⟩ = some (.func (Fn.func 156) #[] #[])) (go_keep)
      (first
        | (go_at_call 156; refine (HR.out _).mono ?_; rintro e w2 ⟨rfl, hg2⟩; have hb2 : w2.cell? ⟨w1.heap.size, 2, none⟩ = some (.func (Fn.func 156) #[] #[]) := (Blk.below (show Blk wa.drew _ _ _ from HK.out) (hg2.below (Nat.le_refl _)) HK.out.lt).c0 2 _ rfl; have Hg2 : Hid (Grown wa.drew w2) := Lib.hid hg2; clear hg2)
        | (go_at_call 156; refine (HR.out _).mono ?_; rintro e w2 ⟨rfl, hg2⟩; have hb2 : w2.cell? ⟨w1.heap.size, 2, none⟩ = some (.func (Fn.func 156) #[] #[]) := (Blk.below (show Blk (wa.alloc _).drew _ _ _ from HK.out.alloc _) (hg2.below (Nat.le_refl _)) (HK.out.alloc _).lt).c0 2 _ rfl; have hz := Blk.below (show Blk (wa.alloc (.cells #[.int .i64 0, .int .i64 0, .int .i64 0, .int .i64 0, .int .i64 0, .string ⟨#[]⟩] 78)).drew wa.heap.size 78 #[.int .i64 0, .int .i64 0, .int .i64 0, .int .i64 0, .int .i64 0, .string ⟨#[]⟩] from Blk.new wa 78 #[.int .i64 0, .int .i64 0, .int .i64 0, .int .i64 0, .int .i64 0, .string ⟨#[]⟩]) (hg2.below (Nat.le_refl _)) (Blk.new wa 78 #[.int .i64 0, .int .i64 0, .int .i64 0, .int .i64 0, .int .i64 0, .string ⟨#[]⟩]).lt; have z0 := hz.c0 0 _ rfl; have z1 := hz.c0 1 _ rfl; have z2 := hz.c0 2 _ rfl; have z3 := hz.c0 3 _ rfl; have z4 := hz.c0 4 _ rfl; have z5 := hz.c0 5 _ rfl; have y0 := hz.free 0; have y1 := hz.free 1; have y2 := hz.free 2; have y3 := hz.free 3; have y4 := hz.free 4; have y5 := hz.free 5; simp at z0 z1 z2 z3 z4 z5; have Hz := Lib.hid hz; have Hg2 : Hid (Grown (wa.alloc (.cells #[.int .i64 0, .int .i64 0, .int .i64 0, .int .i64 0, .int .i64 0, .string ⟨#[]⟩] 78)).drew w2) := Lib.hid hg2; clear hg2 hz))
    all_goals
      go_wp2_with fail
      go_meet
      first
        | (have hz := Hz.out
           exact ⟨rfl, wa.heap.size, rfl, blk_set6 hz _ _ _ _ _ _, grown_set6 (((HG0.out.alloc _).draw).trans Hg2.out) _ (grown_size HG0.out) _ _ _ _ _ _⟩)
        | exact ⟨rfl, w2.heap.size, rfl, Blk.new _ _ _, (HG0.out.draw.trans Hg2.out).alloc _⟩
  case rest =>
    obtain ⟨rfl, p, rfl, hblk, hG⟩ := hcut
    clear hb0 hne HK HG0 HR
    have Hblk := Lib.hid hblk
    have HG0 := Lib.hid hG
    have a0 := hblk.c0 0 _ rfl
    have a1 := hblk.c0 1 _ rfl
    have a2 := hblk.c0 2 _ rfl
    have a3 := hblk.c0 3 _ rfl
    have a4 := hblk.c0 4 _ rfl
    have a5 := hblk.c0 5 _ rfl
    simp at a0 a1 a2 a3 a4 a5
    clear hblk hG
    have hne : wc.heap.size ≠ p := Nat.ne_of_gt Hblk.out.lt
    have hwr : IntKind.i64.wrap (y.toNat : Int) = (y.toNat : Int) := by rw [IntKind.wrap_i64]; omega
    go_upto_region 7 with fail
    go_cut [7] (fun s7 wr => AtVar w wr 4 s l i y.toNat t s7)
    case first =>
      go_region_held3 (fun wr => wr.cell? ⟨p, 0, none⟩ = some (.int .i64 0) ∧ wr.cell? ⟨p, 1, none⟩ = some (.int .i64 s) ∧ wr.cell? ⟨p, 2, none⟩ = some (.int .i64 l) ∧ wr.cell? ⟨p, 3, none⟩ = some (.int .i64 i) ∧ wr.cell? ⟨p, 4, none⟩ = some (.int .i64 0) ∧ wr.cell? ⟨p, 5, none⟩ = some (.string (Str t))) (go_keep)
        (first
          | (go_at_call 119; refine (HW.out _).mono ?_; rintro e w2 ⟨rfl, hg2⟩; have hb2 := Blk.below (show Blk wc.drew _ _ _ from Hblk.out) (hg2.below (Nat.le_refl _)) Hblk.out.lt; have b0 := hb2.c0 0 _ rfl; have b1 := hb2.c0 1 _ rfl; have b2 := hb2.c0 2 _ rfl; have b3 := hb2.c0 3 _ rfl; have b4 := hb2.c0 4 _ rfl; have b5 := hb2.c0 5 _ rfl; simp at b0 b1 b2 b3 b4 b5; have Hg2 : Hid (Grown wc.drew w2) := Lib.hid hg2; clear hg2 hb2)
          | (go_at_call 119; refine (HW.out _).mono ?_; rintro e w2 ⟨rfl, hg2⟩; have hb2 := Blk.below (show Blk (wc.alloc _).drew _ _ _ from Hblk.out.alloc _) (hg2.below (Nat.le_refl _)) (Hblk.out.alloc _).lt; have b0 := hb2.c0 0 _ rfl; have b1 := hb2.c0 1 _ rfl; have b2 := hb2.c0 2 _ rfl; have b3 := hb2.c0 3 _ rfl; have b4 := hb2.c0 4 _ rfl; have b5 := hb2.c0 5 _ rfl; simp at b0 b1 b2 b3 b4 b5; have hz := Blk.below (show Blk (wc.alloc (.cells #[.int .i64 0, .int .i64 0, .int .i64 0, .int .i64 0, .int .i64 0, .string ⟨#[]⟩] 78)).drew wc.heap.size 78 #[.int .i64 0, .int .i64 0, .int .i64 0, .int .i64 0, .int .i64 0, .string ⟨#[]⟩] from Blk.new wc 78 #[.int .i64 0, .int .i64 0, .int .i64 0, .int .i64 0, .int .i64 0, .string ⟨#[]⟩]) (hg2.below (Nat.le_refl _)) (Blk.new wc 78 #[.int .i64 0, .int .i64 0, .int .i64 0, .int .i64 0, .int .i64 0, .string ⟨#[]⟩]).lt; have z0 := hz.c0 0 _ rfl; have z1 := hz.c0 1 _ rfl; have z2 := hz.c0 2 _ rfl; have z3 := hz.c0 3 _ rfl; have z4 := hz.c0 4 _ rfl; have z5 := hz.c0 5 _ rfl; simp at z0 z1 z2 z3 z4 z5; have y0 := hz.free 0; have y1 := hz.free 1; have y2 := hz.free 2; have y3 := hz.free 3; have y4 := hz.free 4; have y5 := hz.free 5; have Hz := Lib.hid hz; have Hg2 : Hid (Grown (wc.alloc (.cells #[.int .i64 0, .int .i64 0, .int .i64 0, .int .i64 0, .int .i64 0, .string ⟨#[]⟩] 78)).drew w2) := Lib.hid hg2; clear hg2 hz hb2))
      all_goals
        go_wp2_with fail
        go_meet
        first
          | (have hz := Hz.out
             exact ⟨wc.heap.size, rfl, blk_set6 hz _ _ _ _ _ _, grown_set6 (((HG0.out.alloc _).draw).trans Hg2.out) _ (grown_size HG0.out) _ _ _ _ _ _⟩)
          | exact ⟨w2.heap.size, rfl, Blk.new _ _ _, (HG0.out.draw.trans Hg2.out).alloc _⟩
    case rest =>
      obtain ⟨q, rfl, hblk, hG⟩ := hcut
      clear a0 a1 a2 a3 a4 a5 hne Hblk HG0 HW hwr
      have hrb := Blk.below (Blk.new w 78 #[.int .i64 0, .int .i64 0, .int .i64 0, .int .i64 0, .int .i64 0, .string ⟨#[]⟩]) (hG.below (Nat.le_refl _)) (Blk.new w 78 #[.int .i64 0, .int .i64 0, .int .i64 0, .int .i64 0, .int .i64 0, .string ⟨#[]⟩]).lt
      have a0 := hblk.c0 0 _ rfl; have a1 := hblk.c0 1 _ rfl; have a2 := hblk.c0 2 _ rfl; have a3 := hblk.c0 3 _ rfl; have a4 := hblk.c0 4 _ rfl; have a5 := hblk.c0 5 _ rfl; simp at a0 a1 a2 a3 a4 a5
      have Hq := Lib.hid hblk
      have Hr := Lib.hid hrb
      have HG0 := Lib.hid hG
      clear hblk hrb hG
      cases ok with
      | true =>
        cases vb with
        | true =>
          go_wp2_with (go_at_call 66; refine (HV.out _).mono ?_; rintro e w3 ⟨rfl, hg3⟩; have hq3 := Blk.below Hq.out (hg3.below (Nat.le_refl _)) Hq.out.lt; have c0 := hq3.c0 0 _ rfl; have c1 := hq3.c0 1 _ rfl; have c2 := hq3.c0 2 _ rfl; have c3 := hq3.c0 3 _ rfl; have c4 := hq3.c0 4 _ rfl; have c5 := hq3.c0 5 _ rfl; simp at c0 c1 c2 c3 c4 c5; have hr3 := Blk.below Hr.out (hg3.below (Nat.le_refl _)) Hr.out.lt; have d0 := hr3.c0 0 _ rfl; have d1 := hr3.c0 1 _ rfl; have d2 := hr3.c0 2 _ rfl; have d3 := hr3.c0 3 _ rfl; have d4 := hr3.c0 4 _ rfl; have d5 := hr3.c0 5 _ rfl; simp at d0 d1 d2 d3 d4 d5; have f0 := hr3.free 0; have f1 := hr3.free 1; have f2 := hr3.free 2; have f3 := hr3.free 3; have f4 := hr3.free 4; have f5 := hr3.free 5; have Hr3 := Lib.hid hr3; have HG3 := Lib.hid (HG0.out.trans hg3); clear hq3 hr3 hg3)
          have hfin := (blk_set6 Hr3.out (.int .i64 4) (.int .i64 s) (.int .i64 l) (.int .i64 i) (.int .i64 y.toNat) (.string (Str t)))
          have g0 := hfin.c0 0 _ rfl
          have g1 := hfin.c0 1 _ rfl
          have g2 := hfin.c0 2 _ rfl
          have g3 := hfin.c0 3 _ rfl
          have g4 := hfin.c0 4 _ rfl
          have g5 := hfin.c0 5 _ rfl
          exact bodyPost_ret (v := .tuple #[.agg #[.int .i64 4, .int .i64 s, .int .i64 l, .int .i64 i, .int .i64 y.toNat, .string (Str t)], .int .i64 0]) (by simp [results, Try.results64, go_sem, d0, d1, d2, d3, d4, d5]) rfl ⟨rfl, below_set6 (Below.trans (below_box _) (HG3.out.below (by simp))) _ (Nat.le_refl _) _ _ _ _ _ _⟩
        | false =>
          go_wp2_with (go_at_call 66; refine (HV.out _).mono ?_; rintro e w3 ⟨rfl, hg3⟩; have hq3 := Blk.below Hq.out (hg3.below (Nat.le_refl _)) Hq.out.lt; have c0 := hq3.c0 0 _ rfl; have c1 := hq3.c0 1 _ rfl; have c2 := hq3.c0 2 _ rfl; have c3 := hq3.c0 3 _ rfl; have c4 := hq3.c0 4 _ rfl; have c5 := hq3.c0 5 _ rfl; simp at c0 c1 c2 c3 c4 c5; have hr3 := Blk.below Hr.out (hg3.below (Nat.le_refl _)) Hr.out.lt; have d0 := hr3.c0 0 _ rfl; have d1 := hr3.c0 1 _ rfl; have d2 := hr3.c0 2 _ rfl; have d3 := hr3.c0 3 _ rfl; have d4 := hr3.c0 4 _ rfl; have d5 := hr3.c0 5 _ rfl; simp at d0 d1 d2 d3 d4 d5; have f0 := hr3.free 0; have f1 := hr3.free 1; have f2 := hr3.free 2; have f3 := hr3.free 3; have f4 := hr3.free 4; have f5 := hr3.free 5; have Hr3 := Lib.hid hr3; have HG3 := Lib.hid (HG0.out.trans hg3); clear hq3 hr3 hg3)
          exact bodyPost_ret (v := .tuple #[.agg #[.int .i64 0, .int .i64 0, .int .i64 0, .int .i64 0, .int .i64 0, .string (Str [])], .int .i64 30]) (by simp [results, Try.results64, go_sem, d0, d1, d2, d3, d4, d5]; rfl) rfl ⟨rfl, below_set6 (Below.trans (below_box _) (HG3.out.below (by simp))) _ (Nat.le_refl _) _ _ _ _ _ _⟩
      | false =>
        have hr3 := Hr.out
        have d0 := hr3.c0 0 _ rfl; have d1 := hr3.c0 1 _ rfl; have d2 := hr3.c0 2 _ rfl; have d3 := hr3.c0 3 _ rfl; have d4 := hr3.c0 4 _ rfl; have d5 := hr3.c0 5 _ rfl; simp at d0 d1 d2 d3 d4 d5; have f0 := hr3.free 0; have f1 := hr3.free 1; have f2 := hr3.free 2; have f3 := hr3.free 3; have f4 := hr3.free 4; have f5 := hr3.free 5
        clear hr3
        go_wp2_with fail
        exact bodyPost_ret (v := .tuple #[.agg #[.int .i64 0, .int .i64 0, .int .i64 0, .int .i64 0, .int .i64 0, .string (Str [])], .int .i64 30]) (by simp [results, Try.results64, go_sem, d0, d1, d2, d3, d4, d5]; rfl) rfl ⟨rfl, below_set6 (Below.trans (below_box _) (HG0.out.below (by simp))) _ (Nat.le_refl _) _ _ _ _ _ _⟩

end Go.Proofs.Yticlomakmcjcfaa
