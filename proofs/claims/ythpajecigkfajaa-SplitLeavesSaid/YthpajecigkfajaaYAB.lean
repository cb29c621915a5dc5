/-
  Walks: reference 10's Same.
-/
import Derived.Test.YthpajecigkfajaaY6
import Derived.Test.YthpajecigkfajaaYAA
namespace Go.Proofs.Ythpajecigkfajaa
open Go.RowKit Go.Sort
set_option linter.unusedVariables false

theorem neq_sum (a b : Sm) (w : World) : (binOp .neq 72 (.agg #[.int .i64 a.1.1, .int .i64 a.1.2, .int .i64 a.2.1, .int .i64 a.2.2]) (.agg #[.int .i64 b.1.1, .int .i64 b.1.2, .int .i64 b.2.1, .int .i64 b.2.2])).run Try.prog w = .ok (.bool (!decide (a = b))) w := by
  obtain ⟨⟨a0, a1⟩, a2, a3⟩ := a
  obtain ⟨⟨b0, b1⟩, b2, b3⟩ := b
  have hS : Try.prog.underlying 72 = some (.struct (Try.prog.fieldsOf 72)) := by kernel_rfl
  have hp : Try.prog.stoodInHeld 72 = false := by kernel_rfl
  rw [run_neq_struct, show (10000 : Nat) = 9999 + 1 from rfl, run_equalIn_agg w 9999 72 _ _ hS hp]
  simp only [Program.fieldsOf, Try.underlying72]
  go_simp
  by_cases h0 : a0 = b0 <;> by_cases h1 : a1 = b1 <;> by_cases h2 : a2 = b2 <;> by_cases h3 : a3 = b3 <;> simp [h0, h1, h2, h3]
theorem eql_sum (a b : Sm) (w : World) : (binOp .eql 72 (.agg #[.int .i64 a.1.1, .int .i64 a.1.2, .int .i64 a.2.1, .int .i64 a.2.2]) (.agg #[.int .i64 b.1.1, .int .i64 b.1.2, .int .i64 b.2.1, .int .i64 b.2.2])).run Try.prog w = .ok (.bool (decide (a = b))) w := by
  obtain ⟨⟨a0, a1⟩, a2, a3⟩ := a
  obtain ⟨⟨b0, b1⟩, b2, b3⟩ := b
  have hS : Try.prog.underlying 72 = some (.struct (Try.prog.fieldsOf 72)) := by kernel_rfl
  have hp : Try.prog.stoodInHeld 72 = false := by kernel_rfl
  rw [run_eql_struct, show (10000 : Nat) = 9999 + 1 from rfl, run_equalIn_agg w 9999 72 _ _ hS hp]
  simp only [Program.fieldsOf, Try.underlying72]
  go_simp
  by_cases h0 : a0 = b0 <;> by_cases h1 : a1 = b1 <;> by_cases h2 : a2 = b2 <;> by_cases h3 : a3 = b3 <;> simp [h0, h1, h2, h3]
theorem guard_sum (op : BinOp) (x y : Operand) (xs ys : Array Value) (w : World) : (eqGuard op 72 x y (.agg xs) (.agg ys)).run Try.prog w = .ok () w := run_eqGuard_agg w op 72 x y xs ys (by kernel_rfl)
def sameN (a b : Nd) : Bool := decide (a.pairs = b.pairs ∧ a.buf = b.buf ∧ a.pivots = b.pivots ∧ a.kids = b.kids ∧ a.sums = b.sums)
theorem sameN_iff (a b : Nd) : sameN a b = true ↔ a = b := by
  unfold sameN
  rw [decide_eq_true_eq]
  constructor
  · rintro ⟨h1, h2, h3, h4, h5⟩
    cases a; cases b
    simp only at h1 h2 h3 h4 h5
    rw [h1, h2, h3, h4, h5]
  · rintro rfl; exact ⟨rfl, rfl, rfl, rfl, rfl⟩
theorem take_next {α : Type} (a : List α) (k : Nat) (h : k < a.length) : a.take (k + 1) = a.take k ++ [a[k]] := by rw [List.take_add_one, List.getElem?_eq_getElem h]; rfl

set_option maxRecDepth 100000 in
set_option maxHeartbeats 8000000 in
theorem rsame10_w (va vb : Value) (x y : Nd) (w : World) (ha : IsNode w va x) (hb : IsNode w vb y) : Calls Try.prog 15 #[va, vb] w fun e w' => e = .returned (.bool (sameN x y)) ∧ Grown w w' := by
  have mixed := mixedA
  obtain ⟨a0, a1, a2, a3, a4, rfl, hP, hI, hK, hS, hM⟩ := ha
  obtain ⟨b0, b1, b2, b3, b4, rfl, gP, gI, gK, gS, gM⟩ := hb
  obtain ⟨xp, xi, xk, xs, xm⟩ := x
  obtain ⟨yp, yi, yk, ys, ym⟩ := y
  dsimp only at *
  have HF : Hid (sameN ⟨xp, xi, xk, xs, xm⟩ ⟨yp, yi, yk, ys, ym⟩ = decide (xp = yp ∧ xm = ym ∧ xi = yi ∧ xk = yk ∧ xs = ys)) := Lib.hid rfl
  generalize sameN ⟨xp, xi, xk, xs, xm⟩ ⟨yp, yi, yk, ys, ym⟩ = R at *
  have HP := Lib.hid (fun wx (hx : Grown w wx) => T4.same_w a0 b0 xp yp wx (hP.below (hx.below (Nat.le_refl _))) (gP.below (hx.below (Nat.le_refl _))))
  have HM := Lib.hid (fun wx (hx : Grown w wx) => samemsgs_w a4 b4 xm ym wx (hM.below (hx.below (Nat.le_refl _))) (gM.below (hx.below (Nat.le_refl _))))
  have HI := Lib.hid hI
  have GI := Lib.hid gI
  have HK := Lib.hid hK
  have GK := Lib.hid gK
  have HS := Lib.hid hS
  have GS := Lib.hid gS
  obtain ⟨p1, c1, rfl, l1, m1, -⟩ := hI
  obtain ⟨q1, d1, rfl, k1, n1, -⟩ := gI
  obtain ⟨p2, c2, rfl, l2, m2, -⟩ := hK
  obtain ⟨q2, d2, rfl, k2, n2, -⟩ := gK
  obtain ⟨p3, c3, rfl, l3, m3, -⟩ := hS
  obtain ⟨q3, d3, rfl, k3, n3, -⟩ := gS
  unfold maxLen at m1 n1 m2 n2 m3 n3
  obtain ⟨W1, hW1⟩ : ∃ W1, W1 = (w.alloc (.cells #[a0, .slice p1 xi.length c1, .slice p2 xk.length c2, .slice p3 xs.length c3, a4] 43)).alloc (.cells #[b0, .slice q1 yi.length d1, .slice q2 yk.length d2, .slice q3 ys.length d3, b4] 43) := ⟨_, rfl⟩
  have HA : Hid (Blk W1 w.heap.size 43 #[a0, .slice p1 xi.length c1, .slice p2 xk.length c2, .slice p3 xs.length c3, a4]) := Lib.hid (by rw [hW1]; exact (Blk.new _ _ _).alloc _)
  have HB : Hid (Blk W1 (w.heap.size + 1) 43 #[b0, .slice q1 yi.length d1, .slice q2 yk.length d2, .slice q3 ys.length d3, b4]) := Lib.hid (by rw [hW1]; exact Blk.new' _ _ _ (by simp))
  have HG : Hid (Grown w W1) := Lib.hid (by rw [hW1]; exact ((Grown.refl w).alloc _).alloc _)
  have HW1 := Lib.hid hW1
  have e0 : ∀ n, (W1.drewN n).cell? ⟨w.heap.size, 0, none⟩ = some (a0) := fun n => HA.out.c0 0 _ rfl
  have f0 : ∀ n, (W1.drewN n).cell? ⟨w.heap.size + 1, 0, none⟩ = some (b0) := fun n => HB.out.c0 0 _ rfl
  have e1 : ∀ n, (W1.drewN n).cell? ⟨w.heap.size, 1, none⟩ = some (.slice p1 xi.length c1) := fun n => HA.out.c0 1 _ rfl
  have f1 : ∀ n, (W1.drewN n).cell? ⟨w.heap.size + 1, 1, none⟩ = some (.slice q1 yi.length d1) := fun n => HB.out.c0 1 _ rfl
  have e2 : ∀ n, (W1.drewN n).cell? ⟨w.heap.size, 2, none⟩ = some (.slice p2 xk.length c2) := fun n => HA.out.c0 2 _ rfl
  have f2 : ∀ n, (W1.drewN n).cell? ⟨w.heap.size + 1, 2, none⟩ = some (.slice q2 yk.length d2) := fun n => HB.out.c0 2 _ rfl
  have e3 : ∀ n, (W1.drewN n).cell? ⟨w.heap.size, 3, none⟩ = some (.slice p3 xs.length c3) := fun n => HA.out.c0 3 _ rfl
  have f3 : ∀ n, (W1.drewN n).cell? ⟨w.heap.size + 1, 3, none⟩ = some (.slice q3 ys.length d3) := fun n => HB.out.c0 3 _ rfl
  have e4 : ∀ n, (W1.drewN n).cell? ⟨w.heap.size, 4, none⟩ = some (a4) := fun n => HA.out.c0 4 _ rfl
  have f4 : ∀ n, (W1.drewN n).cell? ⟨w.heap.size + 1, 4, none⟩ = some (b4) := fun n => HB.out.c0 4 _ rfl
  have e00 := e0 0
  have f00 := f0 0
  have hz : W1.drewN 0 = W1 := rfl
  rw [hz] at e00 f00
  clear hP hM gP gM hW1 hz
  go_enter Try.func15, Try.ntmps15
  go_wp2_with fail
  rw [← HW1.out]
  refine (HP.out _ HG.out).mono ?_
  rintro e w2 ⟨rfl, n2', rfl⟩
  by_cases hp : xp = yp
  rotate_left
  · have HR : Hid (R = false) := Lib.hid (by rw [HF.out]; simp [hp])
    have hd : decide (xp = yp) = false := decide_eq_false hp
    clear hp HF
    go_wp2
    go_ret
    exact ⟨ret_bool (by rw [HR.out]), HG.out.trans (Grown.drewN _ _)⟩
  have HFp : Hid (R = decide (xm = ym ∧ xi = yi ∧ xk = yk ∧ xs = ys)) := Lib.hid (by rw [HF.out]; simp [hp])
  have hd : decide (xp = yp) = true := decide_eq_true hp
  clear hp HF e00 f00
  go_wp2_with fail
  refine (HM.out _ (HG.out.trans (Grown.drewN _ _))).mono ?_
  rintro e w3 ⟨rfl, n3', rfl⟩
  rw [World.drewN_drewN]
  by_cases hm : xm = ym
  rotate_left
  · have HR : Hid (R = false) := Lib.hid (by rw [HFp.out]; simp [hm])
    have hd2 : decide (xm = ym) = false := decide_eq_false hm
    clear hm HFp
    go_wp2
    go_ret
    exact ⟨ret_bool (by rw [HR.out]), HG.out.trans (Grown.drewN _ _)⟩
  have HFm : Hid (R = decide (xi = yi ∧ xk = yk ∧ xs = ys)) := Lib.hid (by rw [HFp.out]; simp [hm])
  have hd2 : decide (xm = ym) = true := decide_eq_true hm
  clear hm HFp
  by_cases hli : xi.length = yi.length
  rotate_left
  · have HR : Hid (R = false) := Lib.hid (by rw [HFm.out]; simp only [decide_eq_false_iff_not]; rintro ⟨h1, h2, h3⟩; exact hli (by first | rw [h1] | rw [h2] | rw [h3]))
    have hbi : ((xi.length : Int) != (yi.length : Int)) = true := by simp; omega
    clear hli HFm
    go_wp2
    go_ret
    exact ⟨ret_bool (by rw [HR.out]), HG.out.trans (Grown.drewN _ _)⟩
  have hbi : ((xi.length : Int) != (yi.length : Int)) = false := by simp; omega
  have Hli := Lib.hid hli
  clear hli
  by_cases hlk : xk.length = yk.length
  rotate_left
  · have HR : Hid (R = false) := Lib.hid (by rw [HFm.out]; simp only [decide_eq_false_iff_not]; rintro ⟨h1, h2, h3⟩; exact hlk (by first | rw [h1] | rw [h2] | rw [h3]))
    have hbk : ((xk.length : Int) != (yk.length : Int)) = true := by simp; omega
    clear hlk HFm
    go_wp2
    go_ret
    exact ⟨ret_bool (by rw [HR.out]), HG.out.trans (Grown.drewN _ _)⟩
  have hbk : ((xk.length : Int) != (yk.length : Int)) = false := by simp; omega
  have Hlk := Lib.hid hlk
  clear hlk
  by_cases hls : xs.length = ys.length
  rotate_left
  · have HR : Hid (R = false) := Lib.hid (by rw [HFm.out]; simp only [decide_eq_false_iff_not]; rintro ⟨h1, h2, h3⟩; exact hls (by first | rw [h1] | rw [h2] | rw [h3]))
    have hbs : ((xs.length : Int) != (ys.length : Int)) = true := by simp; omega
    clear hls HFm
    go_wp2
    go_ret
    exact ⟨ret_bool (by rw [HR.out]), HG.out.trans (Grown.drewN _ _)⟩
  have hbs : ((xs.length : Int) != (ys.length : Int)) = false := by simp; omega
  have Hls := Lib.hid hls
  clear hls
  go_wp2
  go_loopw [5] (fun i wr => ∃ k n : Nat, k ≤ xi.length ∧ i = .int .i64 k ∧ Hid (xi.take k = yi.take k) ∧ wr = W1.drewN n) (fun i _ => xi.length - (intOf i).toNat)
  case atStart => exact ⟨0, n2' + n3', Nat.zero_le _, rfl, Lib.hid rfl, rfl⟩
  case round =>
    obtain ⟨k, ni, hki, rfl, htake, rfl⟩ := hrel
    by_cases hlt : k < xi.length
    · have hltb : k < yi.length := by have := Hli.out; omega
      have hlz : (k : Int) < (xi.length : Int) := by omega
      have hly : (k : Int) < (yi.length : Int) := by omega
      obtain ⟨bb, off, cap1, he, hbl, -, u0⟩ := at_str (HI.out.below (HG.out.below (Nat.le_refl _))) k hlt
      injection he with he1 he2 he3
      subst he1 he3
      clear he2
      obtain ⟨cc, oft, cap2, he, hcl, -, v0⟩ := at_str (GI.out.below (HG.out.below (Nat.le_refl _))) k hltb
      injection he with he1 he2 he3
      subst he1 he3
      clear he2
      have Ha := Lib.hid (take_next xi k hlt)
      have Hb := Lib.hid (take_next yi k hltb)
      have Hne : Hid (xi[k] ≠ yi[k] → xi ≠ yi) := Lib.hid (fun h e => h (by subst e; rfl))
      generalize xi[k] = z at *
      generalize yi[k] = t at *
      skip
      have u0 := fun n => (show (W1.drewN n).cell? _ = _ from u0)
      have v0 := fun n => (show (W1.drewN n).cell? _ = _ from v0)
      by_cases hzt : z = t
      · have hq : (z == t) = true := by simp [hzt]
        have He := Lib.hid hzt
        clear hzt Hne
        go_wp2_with fail
        go_quiet (fail)
        go_wp2
        go_roundw
        case rel => exact ⟨k + 1, ni + nq, by omega, by go_num, Lib.hid (by rw [Ha.out, Hb.out, htake.out, He.out]), by first | rfl | rw [World.drewN_drewN]⟩
        case measure => simp [intOf]; omega
      · have HR : Hid (R = false) := Lib.hid (by rw [HFm.out]; simp only [decide_eq_false_iff_not]; rintro ⟨h1, h2, h3⟩; exact Hne.out hzt (by first | exact h1 | exact h2 | exact h3))
        have hq : (z == t) = false := by simp [hzt]
        clear hzt Hne
        go_wp2_with fail
        go_quiet (fail)
        go_wp2
        go_ret
        exact ⟨ret_bool (by rw [HR.out]), by first | exact (HG.out.trans (Grown.drewN _ _)).trans (Grown.drewN _ _) | exact HG.out.trans (Grown.drewN _ _)⟩
    · obtain rfl : k = xi.length := by omega
      have Hei : Hid (xi = yi) := Lib.hid (by have := htake.out; rw [List.take_length, Hli.out, List.take_length] at this; exact this)
      clear htake hlt
      go_wp2
      go_loopw [6] (fun i wr => ∃ k n : Nat, k ≤ xk.length ∧ i = .int .i64 k ∧ Hid (xk.take k = yk.take k) ∧ wr = W1.drewN n) (fun i _ => xk.length - (intOf i).toNat)
      case atStart => exact ⟨0, ni, Nat.zero_le _, rfl, Lib.hid rfl, rfl⟩
      case round =>
        obtain ⟨k, nk, hkk, rfl, htake, rfl⟩ := hrel
        by_cases hlt : k < xk.length
        · have hltb : k < yk.length := by have := Hlk.out; omega
          have hlz : (k : Int) < (xk.length : Int) := by omega
          have hly : (k : Int) < (yk.length : Int) := by omega
          obtain ⟨bb, off, cap1, he, hbl, -, u0⟩ := at_int (HK.out.below (HG.out.below (Nat.le_refl _))) k hlt
          injection he with he1 he2 he3
          subst he1 he3
          clear he2
          obtain ⟨cc, oft, cap2, he, hcl, -, v0⟩ := at_int (GK.out.below (HG.out.below (Nat.le_refl _))) k hltb
          injection he with he1 he2 he3
          subst he1 he3
          clear he2
          have Ha := Lib.hid (take_next xk k hlt)
          have Hb := Lib.hid (take_next yk k hltb)
          have Hne : Hid (xk[k] ≠ yk[k] → xk ≠ yk) := Lib.hid (fun h e => h (by subst e; rfl))
          generalize xk[k] = z at *
          generalize yk[k] = t at *
          skip
          have u0 := fun n => (show (W1.drewN n).cell? _ = _ from u0)
          have v0 := fun n => (show (W1.drewN n).cell? _ = _ from v0)
          by_cases hzt : z = t
          · have hq : (z != t) = false := by simp [hzt]
            have hq2 : (z == t) = true := by simp [hzt]
            have He := Lib.hid hzt
            clear hzt Hne
            go_wp2_with fail
            go_quiet (fail)
            go_wp2
            go_roundw
            case rel => exact ⟨k + 1, nk + nq, by omega, by go_num, Lib.hid (by rw [Ha.out, Hb.out, htake.out, He.out]), by first | rfl | rw [World.drewN_drewN]⟩
            case measure => simp [intOf]; omega
          · have HR : Hid (R = false) := Lib.hid (by rw [HFm.out]; simp only [decide_eq_false_iff_not]; rintro ⟨h1, h2, h3⟩; exact Hne.out hzt (by first | exact h1 | exact h2 | exact h3))
            have hq : (z != t) = true := by simp [hzt]
            have hq2 : (z == t) = false := by simp [hzt]
            clear hzt Hne
            go_wp2_with fail
            go_quiet (fail)
            go_wp2
            go_ret
            exact ⟨ret_bool (by rw [HR.out]), by first | exact (HG.out.trans (Grown.drewN _ _)).trans (Grown.drewN _ _) | exact HG.out.trans (Grown.drewN _ _)⟩
        · obtain rfl : k = xk.length := by omega
          have Hek : Hid (xk = yk) := Lib.hid (by have := htake.out; rw [List.take_length, Hlk.out, List.take_length] at this; exact this)
          clear htake hlt
          go_wp2
          go_loopw [7] (fun i wr => ∃ k n : Nat, k ≤ xs.length ∧ i = .int .i64 k ∧ Hid (xs.take k = ys.take k) ∧ wr = W1.drewN n) (fun i _ => xs.length - (intOf i).toNat)
          case atStart => exact ⟨0, nk, Nat.zero_le _, rfl, Lib.hid rfl, rfl⟩
          case round =>
            obtain ⟨k, ns, hks, rfl, htake, rfl⟩ := hrel
            by_cases hlt : k < xs.length
            · have hltb : k < ys.length := by have := Hls.out; omega
              have hlz : (k : Int) < (xs.length : Int) := by omega
              have hly : (k : Int) < (ys.length : Int) := by omega
              obtain ⟨bb, off, cap1, he, hbl, -, u0, u1, u2, u3⟩ := at_sum (HS.out.below (HG.out.below (Nat.le_refl _))) k hlt
              injection he with he1 he2 he3
              subst he1 he3
              clear he2
              obtain ⟨cc, oft, cap2, he, hcl, -, v0, v1, v2, v3⟩ := at_sum (GS.out.below (HG.out.below (Nat.le_refl _))) k hltb
              injection he with he1 he2 he3
              subst he1 he3
              clear he2
              have Ha := Lib.hid (take_next xs k hlt)
              have Hb := Lib.hid (take_next ys k hltb)
              have Hne : Hid (xs[k] ≠ ys[k] → xs ≠ ys) := Lib.hid (fun h e => h (by subst e; rfl))
              generalize xs[k] = z at *
              generalize ys[k] = t at *
              have hgu := fun o p wx => guard_sum .neq o p #[.int .i64 z.1.1, .int .i64 z.1.2, .int .i64 z.2.1, .int .i64 z.2.2] #[.int .i64 t.1.1, .int .i64 t.1.2, .int .i64 t.2.1, .int .i64 t.2.2] wx
              have u0 := fun n => (show (W1.drewN n).cell? _ = _ from u0)
              have v0 := fun n => (show (W1.drewN n).cell? _ = _ from v0)
              have u1 := fun n => (show (W1.drewN n).cell? _ = _ from u1)
              have v1 := fun n => (show (W1.drewN n).cell? _ = _ from v1)
              have u2 := fun n => (show (W1.drewN n).cell? _ = _ from u2)
              have v2 := fun n => (show (W1.drewN n).cell? _ = _ from v2)
              have u3 := fun n => (show (W1.drewN n).cell? _ = _ from u3)
              have v3 := fun n => (show (W1.drewN n).cell? _ = _ from v3)
              by_cases hzt : z = t
              · have heq := fun wx => neq_sum z t wx
                rw [decide_eq_true hzt] at heq
                have He := Lib.hid hzt
                clear hzt Hne
                go_wp2_with fail
                go_quiet (fail)
                go_wp2
                go_roundw
                case rel => exact ⟨k + 1, ns + nq, by omega, by go_num, Lib.hid (by rw [Ha.out, Hb.out, htake.out, He.out]), by first | rfl | rw [World.drewN_drewN]⟩
                case measure => simp [intOf]; omega
              · have HR : Hid (R = false) := Lib.hid (by rw [HFm.out]; simp only [decide_eq_false_iff_not]; rintro ⟨h1, h2, h3⟩; exact Hne.out hzt (by first | exact h1 | exact h2 | exact h3))
                have heq := fun wx => neq_sum z t wx
                rw [decide_eq_false hzt] at heq
                clear hzt Hne
                go_wp2_with fail
                go_quiet (fail)
                go_wp2
                go_ret
                exact ⟨ret_bool (by rw [HR.out]), by first | exact (HG.out.trans (Grown.drewN _ _)).trans (Grown.drewN _ _) | exact HG.out.trans (Grown.drewN _ _)⟩
            · obtain rfl : k = xs.length := by omega
              have Hes : Hid (xs = ys) := Lib.hid (by have := htake.out; rw [List.take_length, Hls.out, List.take_length] at this; exact this)
              clear htake hlt
              have HR : Hid (R = true) := Lib.hid (by rw [HFm.out, decide_eq_true]; exact ⟨Hei.out, Hek.out, Hes.out⟩)
              go_wp2
              go_ret
              exact ⟨ret_bool (by rw [HR.out]), HG.out.trans (Grown.drewN _ _)⟩

end Go.Proofs.Ythpajecigkfajaa
