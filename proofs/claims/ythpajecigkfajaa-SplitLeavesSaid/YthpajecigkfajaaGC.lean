/-
  Walks: the reference of package table chooses tables, and compares them.
-/
import Derived.Test.YthpajecigkfajaaNO
import Derived.Test.YthpajecigkfajaaNQJ
import Derived.Test.YthpajecigkfajaaTX
namespace Go.Proofs.Ythpajecigkfajaa
namespace T4
open Go.RowKit Go.Sort
set_option linter.unusedVariables false
/-- Two pairs are equal. -/
def prQ (k x : Bs) (t : Int) (k' x' : Bs) (t' : Int) : Bool := decide (k = k' ∧ x = x' ∧ t = t')
theorem prQ_iff (k x : Bs) (t : Int) (k' x' : Bs) (t' : Int) : prQ k x t k' x' t' = true ↔ (k, x, t) = (k', x', t') := by unfold prQ; simp
set_option maxHeartbeats 400000 in
theorem neq_pair (k x : Bs) (t : Int) (k' x' : Bs) (t' : Int) (w : World) :
    (binOp .neq 45 (.agg #[.string (Str k), .string (Str x), .int .i64 t]) (.agg #[.string (Str k'), .string (Str x'), .int .i64 t'])).run Try.prog w = .ok (.bool (!prQ k x t k' x' t')) w := by
  by_cases h1 : k = k'
  · by_cases h2 : x = x'
    · by_cases h3 : t = t'
      · have e : prQ k x t k' x' t' = true := by simp [prQ, h1, h2, h3]
        rw [e]; go_simp
      · have e : prQ k x t k' x' t' = false := by simp [prQ, h3]
        rw [e]; go_simp
    · have e : prQ k x t k' x' t' = false := by simp [prQ, h2]
      rw [e]; go_simp
  · have e : prQ k x t k' x' t' = false := by simp [prQ, h1]
    rw [e]; go_simp
set_option maxHeartbeats 400000 in
theorem eql_pair (k x : Bs) (t : Int) (k' x' : Bs) (t' : Int) (w : World) :
    (binOp .eql 45 (.agg #[.string (Str k), .string (Str x), .int .i64 t]) (.agg #[.string (Str k'), .string (Str x'), .int .i64 t'])).run Try.prog w = .ok (.bool (prQ k x t k' x' t')) w := by
  by_cases h1 : k = k'
  · by_cases h2 : x = x'
    · by_cases h3 : t = t'
      · have e : prQ k x t k' x' t' = true := by simp [prQ, h1, h2, h3]
        rw [e]; go_simp
      · have e : prQ k x t k' x' t' = false := by simp [prQ, h3]
        rw [e]; go_simp
    · have e : prQ k x t k' x' t' = false := by simp [prQ, h2]
      rw [e]; go_simp
  · have e : prQ k x t k' x' t' = false := by simp [prQ, h1]
    rw [e]; go_simp
set_option maxRecDepth 100000 in
set_option maxHeartbeats 2000000 in
theorem same_w (v0 v1 : Value) (a b : List Pr) (w : World) (h0 : IsPairs w v0 a) (h1 : IsPairs w v1 b) :
    Calls Try.prog 9 #[v0, v1] w fun e w' => e = .returned (.bool (decide (a = b))) ∧ ∃ n, w' = w.drewN n := by
  have mixed := mixedA
  obtain ⟨g0, o0, cap0, p0, rfl, hl0, hm0, hp0, hc0⟩ := h0.form
  obtain ⟨g1, o1, cap1, p1, rfl, hl1, hm1, hp1, hc1⟩ := h1.form
  unfold maxLen at hm0 hm1
  have HC0 := Lib.hid hc0
  have HC1 := Lib.hid hc1
  clear h0 h1 hp0 hp1 hc0 hc1
  by_cases hlen : a.length = b.length
  · have hlb : ((a.length : Int) != (b.length : Int)) = false := by rw [hlen]; simp
    have Hlen := Lib.hid hlen
    clear hlen
    go_enter Try.func9, Try.ntmps9
    go_wp2
    go_loopw [5] (fun i wr => ∃ k n : Nat, k ≤ a.length ∧ i = .int .i64 k ∧ Hid (a.take k = b.take k) ∧ wr = w.drewN n) (fun i _ => a.length - (intOf i).toNat)
    case atStart => exact ⟨0, 0, Nat.zero_le _, rfl, Lib.hid rfl, rfl⟩
    case round =>
      obtain ⟨k, n, hk, rfl, htake, rfl⟩ := hrel
      by_cases hlt : k < a.length
      · have hltb : k < b.length := by have := Hlen.out; omega
        have hlz : (k : Int) < (b.length : Int) := by omega
        have hlza : (k : Int) < (a.length : Int) := by omega
        obtain ⟨rfl, c0, c1, c2⟩ := HC0.out k hlt
        obtain ⟨rfl, d0, d1, d2⟩ := HC1.out k hltb
        have Ha := Lib.hid (show a.take (k + 1) = a.take k ++ [a[k]] from by rw [List.take_add_one, List.getElem?_eq_getElem hlt]; rfl)
        have Hb := Lib.hid (show b.take (k + 1) = b.take k ++ [b[k]] from by rw [List.take_add_one, List.getElem?_eq_getElem hltb]; rfl)
        have Hne : Hid (a[k] ≠ b[k] → a ≠ b) := Lib.hid (fun h e => h (by subst e; rfl))
        generalize a[k] = x at *
        generalize b[k] = y at *
        obtain ⟨xk, xv, xt⟩ := x
        obtain ⟨yk, yv, yt⟩ := y
        simp only at c0 c1 c2 d0 d1 d2
        have c0 := fun n => (show (w.drewN n).cell? ⟨g0, o0 + k * 3, none⟩ = some (.string (Str xk)) from c0)
        have c1 := fun n => (show (w.drewN n).cell? ⟨g0, o0 + k * 3 + 1, none⟩ = some (.string (Str xv)) from c1)
        have c2 := fun n => (show (w.drewN n).cell? ⟨g0, o0 + k * 3 + 2, none⟩ = some (.int .i64 xt) from c2)
        have d0 := fun n => (show (w.drewN n).cell? ⟨g1, o1 + k * 3, none⟩ = some (.string (Str yk)) from d0)
        have d1 := fun n => (show (w.drewN n).cell? ⟨g1, o1 + k * 3 + 1, none⟩ = some (.string (Str yv)) from d1)
        have d2 := fun n => (show (w.drewN n).cell? ⟨g1, o1 + k * 3 + 2, none⟩ = some (.int .i64 yt) from d2)
        have heq := neq_pair xk xv xt yk yv yt
        cases hq : prQ xk xv xt yk yv yt with
        | true =>
          rw [hq] at heq
          have He := Lib.hid ((prQ_iff _ _ _ _ _ _).1 hq)
          clear hq Hne
          go_wp2_with fail
          go_quiet (fail)
          go_wp2
          go_roundw
          case rel => exact ⟨k + 1, n + nq, by omega, by go_num, Lib.hid (by rw [Ha.out, Hb.out, htake.out, He.out]), rfl⟩
          case measure => simp [intOf]; omega
        | false =>
          rw [hq] at heq
          have He := Lib.hid (Hne.out (fun e => by rw [(prQ_iff _ _ _ _ _ _).2 e] at hq; cases hq))
          clear hq Hne
          go_wp2_with fail
          go_quiet (fail)
          go_wp2
          go_ret
          exact ⟨ret_bool (by have := He.out; simp [this]), n + nq, World.drewN_drewN _ _ _⟩
      · obtain rfl : k = a.length := by omega
        have He : Hid (a = b) := Lib.hid (by
          have := htake.out
          rw [List.take_length, Hlen.out, List.take_length] at this
          exact this)
        clear htake
        go_wp2
        go_ret
        exact ⟨ret_bool (by simp [He.out]), n, rfl⟩
  · have hlb : ((a.length : Int) != (b.length : Int)) = true := by simp; omega
    have He : Hid (a ≠ b) := Lib.hid (fun e => hlen (by rw [e]))
    clear hlen
    go_enter Try.func9, Try.ntmps9
    go_wp2
    go_ret
    exact ⟨ret_bool (by have := He.out; simp [this]), 0, rfl⟩
theorem cells_in {w w' : World} {B b o : Nat} {x : Pr} (hb : Below B w w') (hl : b < B) (h : w.cell? ⟨b, o, none⟩ = some (.string (Str x.1)) ∧ w.cell? ⟨b, o + 1, none⟩ = some (.string (Str x.2.1)) ∧ w.cell? ⟨b, o + 2, none⟩ = some (.int .i64 x.2.2)) :
    w'.cell? ⟨b, o, none⟩ = some (.string (Str x.1)) ∧ w'.cell? ⟨b, o + 1, none⟩ = some (.string (Str x.2.1)) ∧ w'.cell? ⟨b, o + 2, none⟩ = some (.int .i64 x.2.2) :=
  ⟨(hb.cell (p := ⟨b, o, none⟩) hl).trans h.1, (hb.cell (p := ⟨b, o + 1, none⟩) hl).trans h.2.1, (hb.cell (p := ⟨b, o + 2, none⟩) hl).trans h.2.2⟩
theorem putR_step (p : Pr) (d : Bool) (l : List Pr) (j : Nat) (h : j < l.length) : putR p d (l.drop j) = (if !d && !Op.bytesLess l[j].1 p.1 then [p] else []) ++ (if l[j].1 == p.1 then [] else [l[j]]) ++ putR p (d || !Op.bytesLess l[j].1 p.1) (l.drop (j + 1)) := by
  rw [List.drop_eq_getElem_cons h, putR]
theorem drewN_cell (w : World) (n : Nat) (a : Addr) : (w.drewN n).cell? a = w.cell? a := rfl
set_option maxRecDepth 100000 in
set_option maxHeartbeats 4000000 in
theorem rput_w (v : Value) (l : List Pr) (pk pv : Bs) (pt : Int) (w : World) (h : IsPairs w v l) (hs : Srt l) (hl : l.length ≤ 500000000) (hps : pk.length ≤ maxLen ∧ pv.length ≤ maxLen) :
    Calls Try.prog 17 #[v, .agg #[.string (Str pk), .string (Str pv), .int .i64 pt]] w (OwnOut w.heap.size w (putS (pk, pv, pt) l)) := by
  have mixed := mixedA
  have Hsm : Hid (∀ x ∈ putS (pk, pv, pt) l, x.1.length ≤ maxLen ∧ x.2.1.length ≤ maxLen) := Lib.hid (fun x hx => by
    rcases (mem_put _ _ _).1 hx with rfl | ⟨h1, -⟩
    · exact hps
    · exact h.small x h1)
  rw [← putR_eq (pk, pv, pt) hs] at Hsm ⊢
  have Hps := Lib.hid hps
  obtain ⟨b, off, cap, p, rfl, hlc, hcm, hpp, hcc⟩ := h.form
  unfold maxLen at hcm
  have HP := Lib.hid hpp
  have HC := Lib.hid hcc
  have Hls := Lib.hid h.small
  clear h hpp hcc hs hps
  let W1 := w.alloc (.cells #[.string (Str pk), .string (Str pv), .int .i64 pt] 45)
  have HS : Hid (Blk W1 w.heap.size 45 #[.string (Str pk), .string (Str pv), .int .i64 pt]) := Lib.hid (Blk.new _ _ _)
  have Hown0 := Lib.hid (own_empty W1 (w.heap.size + 1) (by simp [W1]))
  have hW1 : W1.heap.size = w.heap.size + 1 := by simp [W1]
  have HW1 := Lib.hid hW1
  clear hW1
  go_enter Try.func17, Try.ntmps17
  go_wp2
  go_loopw [5, 6, 7] (fun o sd i wr => ∃ (j : Nat) (left : List Pr) (d : Bool), j ≤ l.length ∧ i = .int .i64 j ∧ sd = .bool d ∧ wr.ownsRow (w.heap.size + 1) 45 3 o left.length (left.flatMap encP) ∧ left.length ≤ j + 1 ∧ (d = false → left.length ≤ j) ∧
      Below (w.heap.size + 1) W1 wr ∧ Hid (left ++ putR (pk, pv, pt) d (l.drop j) = putR (pk, pv, pt) false l)) (fun _ _ i _ => l.length - (intOf i).toNat)
  case atStart => exact ⟨0, [], false, Nat.zero_le _, rfl, rfl, by have h := Hown0.out; rw [HW1.out] at h; exact h, by simp, by simp, (Below.refl _ _).alloc (by rw [HW1.out]; exact Nat.le_refl _) _, Lib.hid (by simp)⟩
  case round =>
    clear Hown0
    obtain ⟨j, left, d, hj, rfl, rfl, hown, hll, hld, hbel, hp⟩ := hrel
    have hsz := hbel.size
    rw [HW1.out] at hsz
    have Hown := Lib.hid hown
    have Hbel := Lib.hid hbel
    have hbw : Below w.heap.size w wr := (below_box _).trans (hbel.mono (by omega))
    have Hbw := Lib.hid hbw
    have hbk := HS.out.below hbel (by omega)
    have Hbk := Lib.hid hbk
    have y0 := hbk.c0 0 _ rfl
    have y1 := hbk.c0 1 _ rfl
    have y2 := hbk.c0 2 _ rfl
    clear hown hbk
    by_cases hlt : j < l.length
    · have hcj := HC.out j hlt
      obtain ⟨rfl, c0⟩ := hcj
      have hgl := (HP.out (by rintro rfl; simp at hlt)).2
      have hltz : (j : Int) < (l.length : Int) := by omega
      have hcc := fun (wx : World) (hb : Below (w.heap.size + 1) W1 wx) => cells_in (x := l[j]) ((below_box (w := w) _).trans (hb.mono (by omega))) hgl c0
      obtain ⟨x0, x1, x2⟩ := hcc wr hbel
      have hbb := fun (wx : World) (hb : Below (w.heap.size + 1) W1 wx) => HS.out.below hb (by omega)
      have Hcc := Lib.hid hcc
      have Hbb := Lib.hid hbb
      have hxs := Lib.hid (Hls.out l[j] (List.getElem_mem hlt))
      have hgw : b < wr.heap.size := by omega
      have Hst := Lib.hid (putR_step (pk, pv, pt) d l j hlt)
      clear hbel hbw c0 hcc hbb
      generalize l[j] = x at *
      obtain ⟨xk, xv, xt⟩ := x
      simp only at x0 x1 x2 Hst
      have a0 : ∀ n, (wr.drewN n).cell? ⟨b, off + j * 3, none⟩ = some (.string (Str xk)) := fun n => x0
      have b0 : ∀ n, (wr.drewN n).cell? ⟨w.heap.size, 0, none⟩ = some (.string (Str pk)) := fun n => y0
      clear x0 x1 x2 y0 y1 y2
      cases d with
      | true =>
        by_cases he : xk = pk
        · have hq : (xk == pk) = true := by simpa using he
          have Hn : Hid ((left) ++ putR (pk, pv, pt) true (l.drop (j + 1)) = putR (pk, pv, pt) false l) := Lib.hid (by rw [← hp.out, Hst.out]; simp [he])
          clear Hst hp he
          go_wp2_with fail
          go_quiet (fail)
          go_wp2_with fail
          go_quiet (fail)
          go_wp2
          go_roundw
          case rel => exact ⟨j + 1, left, true, by omega, by go_num, rfl, (owns_below Hown.out (below_drewN _ _)), by first | omega | (simp only [List.length_append, List.length_cons, List.length_nil]; omega), (fun h => by cases h), (Hbel.out.trans (below_drewN _ _)), Hn⟩
          case measure => simp [intOf]; omega
        · have hq : (xk == pk) = false := by simpa using he
          have Hn : Hid ((left ++ [(xk, xv, xt)]) ++ putR (pk, pv, pt) true (l.drop (j + 1)) = putR (pk, pv, pt) false l) := Lib.hid (by rw [← hp.out, Hst.out]; simp [he])
          clear Hst hp he
          go_wp2_with fail
          go_quiet (fail)
          go_wp2_with fail
          go_quiet (fail)
          have e0 := (Hcc.out wr Hbel.out).1
          have e1 := (Hcc.out wr Hbel.out).2.1
          have e2 := (Hcc.out wr Hbel.out).2.2
          go_wp2_with (at_builtin; refine append_pairs rfl _ _ rfl (w.heap.size + 1) _ (left) rfl (World.ownsRow.alloc (owns_below Hown.out (below_drewN _ _)) _) _ [(xk, xv, xt)] rfl (one_pairs (xk, xv, xt) hxs.out) (by simp only [List.length_cons, List.length_nil]; omega) (by simp; omega) ?_; intro v1 w1 hown hbel)
          have Ho1 := Lib.hid hown
          have Hb1 : Hid (Below (w.heap.size + 1) W1 w1) := Lib.hid ((Below.alloc (Hbel.out.trans (below_drewN _ _)) (by first | omega | (simp; omega)) _).trans hbel)
          have hs1 := Hb1.out.size
          rw [HW1.out] at hs1
          clear hown hbel
          go_wp2
          go_roundw
          case rel => exact ⟨j + 1, left ++ [(xk, xv, xt)], true, by omega, by go_num, rfl, Ho1.out, by first | omega | (simp only [List.length_append, List.length_cons, List.length_nil]; omega), (fun h => by cases h), Hb1.out, Hn⟩
          case measure => simp [intOf]; omega
      | false =>
        cases hge : Op.bytesLess xk pk with
        | true =>
          have he : xk ≠ pk := less_ne hge
          have hq : (xk == pk) = false := by simpa using he
          have Hn : Hid ((left ++ [(xk, xv, xt)]) ++ putR (pk, pv, pt) false (l.drop (j + 1)) = putR (pk, pv, pt) false l) := Lib.hid (by rw [← hp.out, Hst.out]; simp [hge, he])
          clear Hst hp he
          have hl2 := hld rfl
          go_wp2_with fail
          go_quiet (fail)
          go_wp2_with fail
          go_quiet (fail)
          have e0 := (Hcc.out wr Hbel.out).1
          have e1 := (Hcc.out wr Hbel.out).2.1
          have e2 := (Hcc.out wr Hbel.out).2.2
          go_wp2_with (at_builtin; refine append_pairs rfl _ _ rfl (w.heap.size + 1) _ (left) rfl (World.ownsRow.alloc (owns_below Hown.out (below_drewN _ _)) _) _ [(xk, xv, xt)] rfl (one_pairs (xk, xv, xt) hxs.out) (by simp only [List.length_cons, List.length_nil]; omega) (by simp; omega) ?_; intro v1 w1 hown hbel)
          have Ho1 := Lib.hid hown
          have Hb1 : Hid (Below (w.heap.size + 1) W1 w1) := Lib.hid ((Below.alloc (Hbel.out.trans (below_drewN _ _)) (by first | omega | (simp; omega)) _).trans hbel)
          have hs1 := Hb1.out.size
          rw [HW1.out] at hs1
          clear hown hbel
          go_wp2
          go_roundw
          case rel => exact ⟨j + 1, left ++ [(xk, xv, xt)], false, by omega, by go_num, rfl, Ho1.out, by first | omega | (simp only [List.length_append, List.length_cons, List.length_nil]; omega), (fun _ => by simp only [List.length_append, List.length_cons, List.length_nil]; omega), Hb1.out, Hn⟩
          case measure => simp [intOf]; omega
        | false =>
          by_cases he : xk = pk
          · have hq : (xk == pk) = true := by simpa using he
            have Hn : Hid ((left ++ [(pk, pv, pt)]) ++ putR (pk, pv, pt) true (l.drop (j + 1)) = putR (pk, pv, pt) false l) := Lib.hid (by rw [← hp.out, Hst.out]; simp [he, less_irrefl])
            clear Hst hp he
            have hl2 := hld rfl
            go_wp2_with fail
            go_quiet (fail)
            have y0 := (Hbb.out _ (Hbel.out.trans (below_drewN wr nq))).c0 0 _ rfl
            have y1 := (Hbb.out _ (Hbel.out.trans (below_drewN wr nq))).c0 1 _ rfl
            have y2 := (Hbb.out _ (Hbel.out.trans (below_drewN wr nq))).c0 2 _ rfl
            go_wp2_with (at_builtin; refine append_pairs rfl _ _ rfl (w.heap.size + 1) _ (left) rfl (World.ownsRow.alloc (owns_below Hown.out (below_drewN _ _)) _) _ [(pk, pv, pt)] rfl (one_pairs (pk, pv, pt) Hps.out) (by simp only [List.length_cons, List.length_nil]; omega) (by simp; omega) ?_; intro v1 w1 hown hbel)
            have Ho1 := Lib.hid hown
            have Hb1 : Hid (Below (w.heap.size + 1) W1 w1) := Lib.hid ((Below.alloc (Hbel.out.trans (below_drewN _ _)) (by first | omega | (simp; omega)) _).trans hbel)
            have hs1 := Hb1.out.size
            rw [HW1.out] at hs1
            clear hown hbel
            obtain ⟨e0, e1, e2⟩ := Hcc.out _ Hb1.out
            have f0 := (Hbb.out _ Hb1.out).c0 0 _ rfl
            have a1 : ∀ n, (w1.drewN n).cell? ⟨b, off + j * 3, none⟩ = some (.string (Str xk)) := fun n => e0
            have b1 : ∀ n, (w1.drewN n).cell? ⟨w.heap.size, 0, none⟩ = some (.string (Str pk)) := fun n => f0
            clear e0 e1 e2 f0 y0 y1 y2
            go_wp2_with fail
            go_quiet (fail)
            go_wp2
            go_roundw
            case rel => exact ⟨j + 1, left ++ [(pk, pv, pt)], true, by omega, by go_num, rfl, (owns_below Ho1.out (below_drewN _ _)), by first | omega | (simp only [List.length_append, List.length_cons, List.length_nil]; omega), (fun h => by cases h), (Hb1.out.trans (below_drewN _ _)), Hn⟩
            case measure => simp [intOf]; omega
          · have hq : (xk == pk) = false := by simpa using he
            have Hn : Hid ((left ++ [(pk, pv, pt)] ++ [(xk, xv, xt)]) ++ putR (pk, pv, pt) true (l.drop (j + 1)) = putR (pk, pv, pt) false l) := Lib.hid (by rw [← hp.out, Hst.out]; simp [hge, he])
            clear Hst hp he
            have hl2 := hld rfl
            go_wp2_with fail
            go_quiet (fail)
            have y0 := (Hbb.out _ (Hbel.out.trans (below_drewN wr nq))).c0 0 _ rfl
            have y1 := (Hbb.out _ (Hbel.out.trans (below_drewN wr nq))).c0 1 _ rfl
            have y2 := (Hbb.out _ (Hbel.out.trans (below_drewN wr nq))).c0 2 _ rfl
            go_wp2_with (at_builtin; refine append_pairs rfl _ _ rfl (w.heap.size + 1) _ (left) rfl (World.ownsRow.alloc (owns_below Hown.out (below_drewN _ _)) _) _ [(pk, pv, pt)] rfl (one_pairs (pk, pv, pt) Hps.out) (by simp only [List.length_cons, List.length_nil]; omega) (by simp; omega) ?_; intro v1 w1 hown hbel)
            have Ho1 := Lib.hid hown
            have Hb1 : Hid (Below (w.heap.size + 1) W1 w1) := Lib.hid ((Below.alloc (Hbel.out.trans (below_drewN _ _)) (by first | omega | (simp; omega)) _).trans hbel)
            have hs1 := Hb1.out.size
            rw [HW1.out] at hs1
            clear hown hbel
            obtain ⟨e0, e1, e2⟩ := Hcc.out _ Hb1.out
            have f0 := (Hbb.out _ Hb1.out).c0 0 _ rfl
            have a1 : ∀ n, (w1.drewN n).cell? ⟨b, off + j * 3, none⟩ = some (.string (Str xk)) := fun n => e0
            have b1 : ∀ n, (w1.drewN n).cell? ⟨w.heap.size, 0, none⟩ = some (.string (Str pk)) := fun n => f0
            clear e0 e1 e2 f0 y0 y1 y2
            go_wp2_with fail
            go_quiet (fail)
            have e0 := (Hcc.out w1 Hb1.out).1
            have e1 := (Hcc.out w1 Hb1.out).2.1
            have e2 := (Hcc.out w1 Hb1.out).2.2
            go_wp2_with (at_builtin; refine append_pairs rfl _ _ rfl (w.heap.size + 1) _ (left ++ [(pk, pv, pt)]) rfl (World.ownsRow.alloc (owns_below Ho1.out (below_drewN _ _)) _) _ [(xk, xv, xt)] rfl (one_pairs (xk, xv, xt) hxs.out) (by simp only [List.length_append, List.length_cons, List.length_nil]; omega) (by simp; omega) ?_; intro v2 w2 hown hbel)
            have Ho2 := Lib.hid hown
            have Hb2 : Hid (Below (w.heap.size + 1) W1 w2) := Lib.hid ((Below.alloc (Hb1.out.trans (below_drewN _ _)) (by first | omega | (simp; omega)) _).trans hbel)
            have hs2 := Hb2.out.size
            rw [HW1.out] at hs2
            clear hown hbel
            go_wp2
            go_roundw
            case rel => exact ⟨j + 1, left ++ [(pk, pv, pt)] ++ [(xk, xv, xt)], true, by omega, by go_num, rfl, Ho2.out, by first | omega | (simp only [List.length_append, List.length_cons, List.length_nil]; omega), (fun h => by cases h), Hb2.out, Hn⟩
            case measure => simp [intOf]; omega
    · obtain rfl : j = l.length := by omega
      rw [List.drop_length] at hp
      cases d with
      | true =>
        have Hn : Hid (left = putR (pk, pv, pt) false l) := Lib.hid (by rw [← hp.out]; simp [putR])
        clear hp hbel hbw
        go_wp2
        go_ret
        rw [← Hn.out] at Hsm ⊢
        exact ⟨_, rfl, owns_lower Hown.out (Nat.le_succ _), IsPairs.owned Hown.out Hsm.out, Hbw.out⟩
      | false =>
        have Hn : Hid (left ++ [(pk, pv, pt)] = putR (pk, pv, pt) false l) := Lib.hid (by rw [← hp.out]; simp [putR])
        clear hp hbel hbw
        go_wp2_with (at_builtin; refine append_pairs rfl _ _ rfl (w.heap.size + 1) _ (left) rfl (World.ownsRow.alloc Hown.out _) _ [(pk, pv, pt)] rfl (one_pairs (pk, pv, pt) Hps.out) (by simp only [List.length_cons, List.length_nil]; omega) (by simp; omega) ?_; intro v1 w1 hown hbel)
        have Ho1 := Lib.hid hown
        have Hb1 : Hid (Below (w.heap.size + 1) W1 w1) := Lib.hid ((Below.alloc Hbel.out (by first | omega | (simp; omega)) _).trans hbel)
        have hs1 := Hb1.out.size
        rw [HW1.out] at hs1
        clear hown hbel
        have hbw1 := Lib.hid ((below_box (w := w) (.cells #[.string (Str pk), .string (Str pv), .int .i64 pt] 45)).trans (Hb1.out.mono (by omega)))
        go_wp2
        go_ret
        rw [← Hn.out] at Hsm ⊢
        exact ⟨_, rfl, owns_lower Ho1.out (Nat.le_succ _), IsPairs.owned Ho1.out Hsm.out, hbw1.out⟩
def pathL : List Bs := [[97, 47], [98, 47], [97, 47, 98, 47], [99, 47]]
def endL : List Bs := [[1], [2, 0, 0], [2, 0, 1], [2, 0, 2], [3, 120]]
def otherL : List Bs := [[1], [5, 48, 48, 48, 48, 48, 48, 48, 49, 47, 1], [6, 97, 47, 1], [97, 47, 98, 47, 99, 47, 1]]
def keyS (n : Nat) : Bs := if n % 24 < 20 then pathL.getD (n % 24 / 5) [] ++ endL.getD (n % 24 % 5) [] else otherL.getD (n % 24 - 20) []
theorem keyS_len (n : Nat) : (keyS n).length ≤ 20 := by
  have h : ∀ m < 24, (keyS m).length ≤ 20 := by decide +kernel
  have e : keyS n = keyS (n % 24) := by unfold keyS; rw [Nat.mod_mod]
  rw [e]; exact h _ (Nat.mod_lt _ (by omega))
def valL : List Bs := [[], [118], [119, 120], [120, 121, 122]]
def pairS (a b c : Nat) : Pr := (keyS a, valL.getD (b % 4) [], (c % 4 : Nat))
def preL : List Bs := [[], [97, 47], [98, 47], [97, 47, 98, 47], [97, 47, 2], [99, 47]]
def prefS (n : Nat) : Bs := preL.getD (n % 6) []
theorem strs_cell {W : World} {n : Nat} (L : List Bs) (T : TypeId) (i : Nat) (hi : i < L.length) (hn : n = W.heap.size) : (W.alloc (.cells (L.map fun s => Value.string (Str s)).toArray T)).cell? ⟨n, i, none⟩ = some (.string (Str (L.getD i []))) := by
  subst hn
  rw [World.cell?_alloc_new]
  simp [hi, List.getD_eq_getElem?_getD]
theorem getD_len {L : List Bs} {b : Nat} (h : ∀ x ∈ L, x.length ≤ b) (i : Nat) : (L.getD i []).length ≤ b := by
  rw [List.getD_eq_getElem?_getD]
  cases e : L[i]? with
  | none => simp
  | some x => exact h x (List.mem_of_getElem? e)
set_option maxRecDepth 100000 in
set_option maxHeartbeats 2000000 in
theorem key_w (n : Nat) (w : World) (hn : n < 256) : Calls Try.prog 21 #[.int .u8 n] w fun e w' => e = .returned (.string (Str (keyS n))) ∧ Below w.heap.size w w' := by
  have mixed := mixedA
  have hz : (n : Int) % 24 = ((n % 24 : Nat) : Int) := by omega
  have hm : n % 24 < 24 := Nat.mod_lt _ (by omega)
  by_cases hlt : n % 24 < 20
  · have Hp : Hid (keyS n = pathL.getD (n % 24 / 5) [] ++ endL.getD (n % 24 % 5) []) := Lib.hid (by unfold keyS; rw [if_pos hlt])
    have h1 : ((w.alloc (.cells #[.string ⟨#[97, 47]⟩, .string ⟨#[98, 47]⟩, .string ⟨#[97, 47, 98, 47]⟩, .string ⟨#[99, 47]⟩] 9)).alloc (.cells #[.string ⟨#[1]⟩, .string ⟨#[2, 0, 0]⟩, .string ⟨#[2, 0, 1]⟩, .string ⟨#[2, 0, 2]⟩, .string ⟨#[3, 120]⟩] 9)).cell? ⟨w.heap.size, n % 24 / 5, none⟩ = _ := (World.cell?_alloc_lt _ _ _ (by simp)).trans (strs_cell pathL 9 (n % 24 / 5) (by show _ < 4; omega) rfl)
    have h2 : ((w.alloc (.cells #[.string ⟨#[97, 47]⟩, .string ⟨#[98, 47]⟩, .string ⟨#[97, 47, 98, 47]⟩, .string ⟨#[99, 47]⟩] 9)).alloc (.cells #[.string ⟨#[1]⟩, .string ⟨#[2, 0, 0]⟩, .string ⟨#[2, 0, 1]⟩, .string ⟨#[2, 0, 2]⟩, .string ⟨#[3, 120]⟩] 9)).cell? ⟨w.heap.size + 1, n % 24 % 5, none⟩ = _ := strs_cell endL 9 (n % 24 % 5) (Nat.mod_lt _ (by decide)) (by simp)
    have l1 := getD_len (L := pathL) (b := 10) (by decide) (n % 24 / 5)
    have l2 := getD_len (L := endL) (b := 10) (by decide) (n % 24 % 5)
    have hq : ((n % 24 : Nat) : Int) / 5 = ((n % 24 / 5 : Nat) : Int) := by omega
    have hr : ((n % 24 : Nat) : Int) % 5 = ((n % 24 % 5 : Nat) : Int) := by omega
    have hq4 : n % 24 / 5 < 4 := by omega
    have hr5 : n % 24 % 5 < 5 := Nat.mod_lt _ (by omega)
    generalize pathL.getD (n % 24 / 5) [] = pa at *
    generalize endL.getD (n % 24 % 5) [] = pe at *
    generalize n % 24 / 5 = q at *
    generalize n % 24 % 5 = r at *
    generalize n % 24 = m at *
    have h1' := fun k => (drewN_cell _ k _).trans h1
    have h2' := fun k => (drewN_cell _ k _).trans h2
    have hn' : (n : Int) < 256 := by omega
    have hm' : (m : Int) < 20 := by omega
    have hm0 : (0 : Int) ≤ (m : Int) := by omega
    have hqz : (q : Int) < 4 := by omega
    have hrz : (r : Int) < 5 := by omega
    have hq0 : (0 : Int) ≤ (q : Int) := by omega
    have hr0 : (0 : Int) ≤ (r : Int) := by omega
    have hsum : ¬ 9223372036854775807 < pa.length + pe.length := by omega
    clear hn h1 h2
    go_enter Try.func21, Try.ntmps21
    go_wp2_with fail
    go_quiet (fail)
    go_wp2
    go_ret
    exact ⟨by rw [Hp.out, ← Str_add]; rfl, ((below_box _).alloc (by simp) _).trans (below_drewN _ _)⟩
  · have Hp : Hid (keyS n = otherL.getD (n % 24 - 20) []) := Lib.hid (by unfold keyS; rw [if_neg hlt])
    have h1 : (((w.alloc (.cells #[.string ⟨#[97, 47]⟩, .string ⟨#[98, 47]⟩, .string ⟨#[97, 47, 98, 47]⟩, .string ⟨#[99, 47]⟩] 9)).alloc (.cells #[.string ⟨#[1]⟩, .string ⟨#[2, 0, 0]⟩, .string ⟨#[2, 0, 1]⟩, .string ⟨#[2, 0, 2]⟩, .string ⟨#[3, 120]⟩] 9)).alloc (.cells #[.string ⟨#[1]⟩, .string ⟨#[5, 48, 48, 48, 48, 48, 48, 48, 49, 47, 1]⟩, .string ⟨#[6, 97, 47, 1]⟩, .string ⟨#[97, 47, 98, 47, 99, 47, 1]⟩] 9)).cell? ⟨w.heap.size + 1 + 1, n % 24 - 20, none⟩ = _ := strs_cell otherL 9 (n % 24 - 20) (by show _ < 4; omega) (by simp)
    have hq : ((n % 24 : Nat) : Int) - 20 = ((n % 24 - 20 : Nat) : Int) := by omega
    have hq4 : n % 24 - 20 < 4 := by omega
    generalize otherL.getD (n % 24 - 20) [] = po at *
    generalize n % 24 - 20 = q at *
    generalize n % 24 = m at *
    have hn' : (n : Int) < 256 := by omega
    have hm' : 20 ≤ (m : Int) := by omega
    have hm24 : (m : Int) < 24 := by omega
    have hqz : (q : Int) < 4 := by omega
    have hq0 : (0 : Int) ≤ (q : Int) := by omega
    clear hn
    go_enter Try.func21, Try.ntmps21
    go_wp2
    go_ret
    exact ⟨by rw [Hp.out]; rfl, ((below_box _).alloc (by simp) _).alloc (by simp; omega) _⟩
set_option maxRecDepth 100000 in
set_option maxHeartbeats 4000000 in
set_option warningAsError false in
theorem pair_w (a b c : Nat) (w : World) (ha : a < 256) (hb : b < 256) (hc : c < 256) :
    Calls Try.prog 18 #[.agg #[.int .u8 a, .int .u8 b, .int .u8 c]] w fun e w' => e = .returned (.agg #[.string (Str (keyS a)), .string (Str (valL.getD (b % 4) [])), .int .i64 (c % 4 : Nat)]) ∧ Below w.heap.size w w' := by
  have hv : ∀ W : World, (W.alloc (.cells #[.string ⟨#[]⟩, .string ⟨#[118]⟩, .string ⟨#[119, 120]⟩, .string ⟨#[120, 121, 122]⟩] 9)).cell? ⟨W.heap.size, b % 4, none⟩ = some (.string (Str (valL.getD (b % 4) []))) := fun W => strs_cell valL 9 (b % 4) (Nat.mod_lt _ (by decide)) rfl
  have hk := Lib.hid (fun wx => key_w a wx ha)
  have hzb : (b : Int) % 4 = ((b % 4 : Nat) : Int) := by omega
  have hzc : (c : Int) % 4 = ((c % 4 : Nat) : Int) := by omega
  have hm4 : b % 4 < 4 := Nat.mod_lt _ (by decide)
  have hc4 : c % 4 < 4 := Nat.mod_lt _ (by decide)
  generalize valL.getD (b % 4) [] = rv at *
  generalize b % 4 = m at *
  generalize c % 4 = q at *
  generalize keyS a = rk at *
  obtain ⟨wa, hwa⟩ : ∃ wa, wa = (w.alloc (.cells #[.int .u8 a, .int .u8 b, .int .u8 c] 63)).alloc (.cells #[.string ⟨#[]⟩, .string ⟨#[]⟩, .int .i64 0] 45) := ⟨_, rfl⟩
  have HK : Hid (Blk wa w.heap.size 63 #[.int .u8 a, .int .u8 b, .int .u8 c]) := Lib.hid (by rw [hwa]; exact (Blk.new _ _ _).alloc _)
  have HR : Hid (Blk wa (w.heap.size + 1) 45 #[.string ⟨#[]⟩, .string ⟨#[]⟩, .int .i64 0]) := Lib.hid (by rw [hwa]; exact Blk.new' _ _ _ (by simp))
  have Hb0 : Hid (Below w.heap.size w wa) := Lib.hid (by rw [hwa]; exact (below_box _).alloc (by simp) _)
  have hsz : wa.heap.size = w.heap.size + 1 + 1 := by rw [hwa]; simp
  have hza : (a : Int) < 256 := by omega
  have hzb' : (b : Int) < 256 := by omega
  have hzc' : (c : Int) < 256 := by omega
  have hzm : (m : Int) < 4 := by omega
  have hzm0 : (0 : Int) ≤ (m : Int) := by omega
  have hzq : (q : Int) < 4 := by omega
  have hzq0 : (0 : Int) ≤ (q : Int) := by omega
  have htb : (b : Int).tmod 4 = (m : Int) := by rw [Int.tmod_eq_emod_of_nonneg (by omega)]; exact hzb
  have htc : (c : Int).tmod 4 = (q : Int) := by rw [Int.tmod_eq_emod_of_nonneg (by omega)]; exact hzc
  have hwm : IntKind.u8.wrap (m : Int) = (m : Int) := by simp [IntKind.wrap, IntKind.bits, IntKind.signed]; omega
  have hwq : IntKind.u8.wrap (q : Int) = (q : Int) := by simp [IntKind.wrap, IntKind.bits, IntKind.signed]; omega
  have hwi : IntKind.i64.wrap (q : Int) = (q : Int) := IntWalk.i64_in _ (by omega)
  clear ha hb hc
  go_enter Try.func18, Try.ntmps18
  go_wp2_with fail
  rw [← hwa]
  have c0 := HK.out.c0 0 _ rfl
  have c1 := HK.out.c0 1 _ rfl
  have c2 := HK.out.c0 2 _ rfl
  have r0 := HR.out.c0 0 _ rfl
  have r1 := HR.out.c0 1 _ rfl
  have r2 := HR.out.c0 2 _ rfl
  have f0 := HR.out.free 0
  have f1 := HR.out.free 1
  have f2 := HR.out.free 2
  have hltk := HK.out.lt
  have hltr := HR.out.lt
  have Hsz := Lib.hid hsz
  clear hsz hwa
  go_region_held3 (fun wr => wr.cell? ⟨w.heap.size, 0, none⟩ = some (.int .u8 a) ∧ wr.cell? ⟨w.heap.size, 1, none⟩ = some (.int .u8 b) ∧ wr.cell? ⟨w.heap.size, 2, none⟩ = some (.int .u8 c)) (go_keep)
    (first
      | (go_at_call 21; refine (hk.out _).mono ?_; rintro e w2 ⟨rfl, hb2⟩; have hk2 : Blk w2 w.heap.size 63 #[.int .u8 a, .int .u8 b, .int .u8 c] := Blk.below (show Blk wa.drew _ _ _ from HK.out) hb2 HK.out.lt; have hr2 : Blk w2 (w.heap.size + 1) 45 #[.string ⟨#[]⟩, .string ⟨#[]⟩, .int .i64 0] := Blk.below (show Blk wa.drew _ _ _ from HR.out) hb2 HR.out.lt; have d0 := hk2.c0 0 _ rfl; have d1 := hk2.c0 1 _ rfl; have d2 := hk2.c0 2 _ rfl; have e0 := hr2.c0 0 _ rfl; have e1 := hr2.c0 1 _ rfl; have e2 := hr2.c0 2 _ rfl; have g0 := hr2.free 0; have g1 := hr2.free 1; have g2 := hr2.free 2; have hlt2 := hr2.lt; have Hb2 : Hid (Below w.heap.size w w2) := Lib.hid (Hb0.out.drew.trans (hb2.mono (Hb0.out.drew).size)); have Hr2 := Lib.hid hr2; clear hb2 hk2 hr2)
      | (go_at_call 21; refine (hk.out _).mono ?_; rintro e w2 ⟨rfl, hb2⟩; have hk2 : Blk w2 w.heap.size 63 #[.int .u8 a, .int .u8 b, .int .u8 c] := Blk.below (show Blk (wa.alloc _).drew _ _ _ from HK.out.alloc _) hb2 (HK.out.alloc _).lt; have hr2 : Blk w2 (w.heap.size + 1) 45 #[.string ⟨#[]⟩, .string ⟨#[]⟩, .int .i64 0] := Blk.below (show Blk (wa.alloc _).drew _ _ _ from HR.out.alloc _) hb2 (HR.out.alloc _).lt; have d0 := hk2.c0 0 _ rfl; have d1 := hk2.c0 1 _ rfl; have d2 := hk2.c0 2 _ rfl; have e0 := hr2.c0 0 _ rfl; have e1 := hr2.c0 1 _ rfl; have e2 := hr2.c0 2 _ rfl; have g0 := hr2.free 0; have g1 := hr2.free 1; have g2 := hr2.free 2; have hlt2 := hr2.lt; have k1 : w2.cell? ⟨wa.heap.size, m, none⟩ = some (.string (Str rv)) := (hb2.cell (p := ⟨wa.heap.size, m, none⟩) (by simp)).trans (hv wa); have Hb2 : Hid (Below w.heap.size w w2) := Lib.hid (((Hb0.out.alloc Hb0.out.size _).drew).trans (hb2.mono ((Hb0.out.alloc Hb0.out.size _).drew).size)); have Hr2 := Lib.hid hr2; clear hb2 hk2 hr2))
  all_goals
    go_wp2_with fail
    have hfin : Blk (((w2.setCell ⟨w.heap.size + 1, 0, none⟩ (.string (Str rk))).setCell ⟨w.heap.size + 1, 1, none⟩ (.string (Str rv))).setCell ⟨w.heap.size + 1, 2, none⟩ (.int .i64 q)) (w.heap.size + 1) 45 #[.string (Str rk), .string (Str rv), .int .i64 q] := ((Hr2.out.setCell 0 _).setCell 1 _).setCell 2 _
    have hbel : Below w.heap.size w (((w2.setCell ⟨w.heap.size + 1, 0, none⟩ (.string (Str rk))).setCell ⟨w.heap.size + 1, 1, none⟩ (.string (Str rv))).setCell ⟨w.heap.size + 1, 2, none⟩ (.int .i64 q)) := ((Hb2.out.setCell (Nat.le_succ _) _).setCell (Nat.le_succ _) _).setCell (Nat.le_succ _) _
    clear d0 d1 d2 e0 e1 e2 g0 g1 g2 c0 c1 c2 r0 r1 r2 f0 f1 f2
    generalize ((w2.setCell ⟨w.heap.size + 1, 0, none⟩ (.string (Str rk))).setCell ⟨w.heap.size + 1, 1, none⟩ (.string (Str rv))).setCell ⟨w.heap.size + 1, 2, none⟩ (.int .i64 q) = wf at *
    first
      | (have h2 := hfin.alloc (.cells #[.string ⟨#[]⟩, .string ⟨#[118]⟩, .string ⟨#[119, 120]⟩, .string ⟨#[120, 121, 122]⟩] 9)
         have x0 := h2.c0 0 _ rfl
         have x1 := h2.c0 1 _ rfl
         have x2 := h2.c0 2 _ rfl
         refine bodyPost_ret (v := .agg #[.string (Str rk), .string (Str rv), .int .i64 q]) (by simp [results, Try.results18, go_sem, x0, x1, x2]) rfl ⟨rfl, ?_⟩
         exact hbel.alloc hbel.size _)
      | (have x0 := hfin.c0 0 _ rfl
         have x1 := hfin.c0 1 _ rfl
         have x2 := hfin.c0 2 _ rfl
         refine bodyPost_ret (v := .agg #[.string (Str rk), .string (Str rv), .int .i64 q]) (by simp [results, Try.results18, go_sem, x0, x1, x2]) rfl ⟨rfl, ?_⟩
         exact hbel)
/-- Three bytes that describe a pair. -/
abbrev Rw := Nat × Nat × Nat
def SmallR (x : Rw) : Prop := x.1 < 256 ∧ x.2.1 < 256 ∧ x.2.2 < 256
def IsRaws (w : World) (v : Value) (l : List Rw) : Prop :=
  ∃ a cap, v = .slice a l.length cap ∧ l.length ≤ cap ∧ cap ≤ maxLen ∧ (∀ x ∈ l, SmallR x) ∧ (l ≠ [] → ∃ b off, a = some ⟨b, off, none⟩ ∧ b < w.heap.size ∧
    ∀ i (h : i < l.length), w.cell? ⟨b, off + i * 3, none⟩ = some (.int .u8 l[i].1) ∧ w.cell? ⟨b, off + i * 3 + 1, none⟩ = some (.int .u8 l[i].2.1) ∧ w.cell? ⟨b, off + i * 3 + 2, none⟩ = some (.int .u8 l[i].2.2))
theorem IsRaws.below {w w' : World} {v : Value} {l : List Rw} (h : IsRaws w v l) (hb : Below w.heap.size w w') : IsRaws w' v l := by
  obtain ⟨a, cap, h1, h2, h3, h5, h4⟩ := h
  refine ⟨a, cap, h1, h2, h3, h5, fun hl => ?_⟩
  obtain ⟨b, off, e, hlt, hc⟩ := h4 hl
  exact ⟨b, off, e, Nat.lt_of_lt_of_le hlt hb.size, fun i hi => ⟨by rw [hb.cell (by exact hlt)]; exact (hc i hi).1, by rw [hb.cell (by exact hlt)]; exact (hc i hi).2.1, by rw [hb.cell (by exact hlt)]; exact (hc i hi).2.2⟩⟩
theorem IsRaws.form {w : World} {v : Value} {l : List Rw} (h : IsRaws w v l) : ∃ b off cap a, v = .slice a l.length cap ∧ l.length ≤ cap ∧ cap ≤ maxLen ∧ (l ≠ [] → a = some ⟨b, off, none⟩ ∧ b < w.heap.size) ∧
    ∀ i (h : i < l.length), a = some ⟨b, off, none⟩ ∧ w.cell? ⟨b, off + i * 3, none⟩ = some (.int .u8 l[i].1) ∧ w.cell? ⟨b, off + i * 3 + 1, none⟩ = some (.int .u8 l[i].2.1) ∧ w.cell? ⟨b, off + i * 3 + 2, none⟩ = some (.int .u8 l[i].2.2) := by
  obtain ⟨a, cap, h1, h2, h3, h5, h4⟩ := h
  by_cases hl : l = []
  · subst hl; exact ⟨0, 0, cap, a, h1, h2, h3, fun h => absurd rfl h, fun i hi => absurd hi (by simp)⟩
  · obtain ⟨b, off, e, hlt, hc⟩ := h4 hl
    exact ⟨b, off, cap, a, h1, h2, h3, fun _ => ⟨e, hlt⟩, fun i hi => ⟨e, hc i hi⟩⟩
theorem IsRaws.small {w : World} {v : Value} {l : List Rw} (h : IsRaws w v l) : ∀ x ∈ l, SmallR x := by
  obtain ⟨a, cap, h1, h2, h3, h5, h4⟩ := h; exact h5
def prS (x : Rw) : Pr := pairS x.1 x.2.1 x.2.2
def foldR (l : List Rw) : List Pr := l.foldl (fun t x => putS (prS x) t) []
/-- The table that is described. -/
def madeS (l : List Rw) : List Pr := foldR (l.take 40)
theorem foldR_snoc (l : List Rw) (x : Rw) : foldR (l ++ [x]) = putS (prS x) (foldR l) := by simp [foldR]
theorem foldR_take (l : List Rw) (k : Nat) (h : k < l.length) : foldR (l.take (k + 1)) = putS (prS l[k]) (foldR (l.take k)) := by
  rw [List.take_add_one, List.getElem?_eq_getElem h]; exact foldR_snoc _ _
theorem srt_foldR : ∀ l, Srt (foldR l) := by
  intro l
  suffices ∀ t, Srt t → Srt (l.foldl (fun t x => putS (prS x) t) t) from this [] srt_nil
  induction l with
  | nil => intro t h; exact h
  | cons x l ih => intro t h; exact ih _ (srt_put _ h)
theorem foldR_len : ∀ l, (foldR l).length ≤ l.length := by
  intro l
  suffices ∀ t : List Pr, (l.foldl (fun t x => putS (prS x) t) t).length ≤ t.length + l.length from by have := this []; simp only [List.length_nil, Nat.zero_add] at this; exact this
  induction l with
  | nil => intro t; simp
  | cons x l ih => intro t; have := ih (putS (prS x) t); have := put_length (prS x) t; simp; omega
theorem foldR_mem {l : List Rw} {y : Pr} (h : y ∈ foldR l) : ∃ x ∈ l, y = prS x := by
  suffices ∀ t : List Pr, y ∈ l.foldl (fun t x => putS (prS x) t) t → y ∈ t ∨ ∃ x ∈ l, y = prS x from by
    rcases this [] h with h | h
    · cases h
    · exact h
  induction l with
  | nil => intro t h; exact .inl h
  | cons x l ih =>
    intro t h2
    have ih' : ∀ t : List Pr, y ∈ l.foldl (fun t x => putS (prS x) t) t → y ∈ t ∨ ∃ x ∈ l, y = prS x := by
      intro t
      clear ih h h2
      induction l generalizing t with
      | nil => intro h; exact .inl h
      | cons z l ih2 =>
        intro h
        rcases ih2 (putS (prS z) t) h with h | ⟨q, h3, h4⟩
        · rcases (mem_put _ _ _).1 h with rfl | ⟨h5, -⟩
          · exact .inr ⟨z, by simp, rfl⟩
          · exact .inl h5
        · exact .inr ⟨q, by simp [h3], h4⟩
    rcases ih' _ h2 with h3 | ⟨q, h3, h4⟩
    · rcases (mem_put _ _ _).1 h3 with rfl | ⟨h5, -⟩
      · exact .inr ⟨x, by simp, rfl⟩
      · exact .inl h5
    · exact .inr ⟨q, by simp [h3], h4⟩
theorem prS_small (x : Rw) : (prS x).1.length ≤ 20 ∧ (prS x).2.1.length ≤ 10 := ⟨keyS_len _, getD_len (L := valL) (b := 10) (by decide) _⟩
theorem srt_made (l : List Rw) : Srt (madeS l) := srt_foldR _
theorem made_len (l : List Rw) : (madeS l).length ≤ 40 := Nat.le_trans (foldR_len _) (by rw [List.length_take]; omega)
theorem made_small {l : List Rw} : ∀ x ∈ madeS l, x.1.length ≤ 20 ∧ x.2.1.length ≤ 10 := by
  intro x hx
  obtain ⟨y, -, rfl⟩ := foldR_mem hx
  exact prS_small y
set_option maxRecDepth 100000 in
set_option maxHeartbeats 4000000 in
theorem made_w (v : Value) (l : List Rw) (w : World) (h : IsRaws w v l) : Calls Try.prog 7 #[v] w (OwnOut w.heap.size w (madeS l)) := by
  obtain ⟨b, off, cap, p, rfl, hlc, hcm, hpp, hcc⟩ := h.form
  unfold maxLen at hcm
  have HP := Lib.hid hpp
  have HC := Lib.hid hcc
  have Hls := Lib.hid h.small
  clear h hpp hcc
  go_enter Try.func7, Try.ntmps7
  go_wp2
  go_loopw [3, 4] (fun o i wr => ∃ j : Nat, j ≤ l.length ∧ j ≤ 40 ∧ i = .int .i64 j ∧ wr.ownsRow w.heap.size 45 3 o (foldR (l.take j)).length ((foldR (l.take j)).flatMap encP) ∧ IsPairs wr o (foldR (l.take j)) ∧ Below w.heap.size w wr) (fun _ i _ => l.length - (intOf i).toNat)
  case atStart => exact ⟨0, Nat.zero_le _, by omega, rfl, own_empty w w.heap.size (Nat.le_refl _), IsPairs.owned (l := []) (own_empty w w.heap.size (Nat.le_refl _)) (fun x hx => by simp at hx), below_box _⟩
  case round =>
    obtain ⟨j, hj, hj4, rfl, hown, hpr, hbel⟩ := hrel
    have hsz := hbel.size
    have Hown := Lib.hid hown
    have Hbel := Lib.hid hbel
    have Hpr := Lib.hid hpr
    clear hown hpr
    by_cases hlt : j < l.length ∧ j < 40
    · obtain ⟨hlt, hlt4⟩ := hlt
      obtain ⟨rfl, c0, c1, c2⟩ := HC.out j hlt
      have hgl := (HP.out (by rintro rfl; simp at hlt)).2
      have hltz : (j : Int) < (l.length : Int) := by omega
      have hlt4z : (j : Int) < 40 := by omega
      have c0 := (hbel.cell (p := ⟨b, off + j * 3, none⟩) hgl).trans c0
      have c1 := (hbel.cell (p := ⟨b, off + j * 3 + 1, none⟩) hgl).trans c1
      have c2 := (hbel.cell (p := ⟨b, off + j * 3 + 2, none⟩) hgl).trans c2
      have hxs := Hls.out l[j] (List.getElem_mem hlt)
      have Htk := Lib.hid (foldR_take l j hlt)
      have hfl := foldR_len (l.take j)
      have hfl2 : (foldR (l.take j)).length ≤ 40 := Nat.le_trans hfl (by rw [List.length_take]; omega)
      have Hs2 := Lib.hid (srt_foldR (l.take j))
      clear hbel hfl
      generalize l[j] = x at *
      obtain ⟨xa, xb, xc⟩ := x
      simp only at c0 c1 c2
      generalize foldR (l.take j) = u at *
      have Hps := Lib.hid (prS_small (xa, xb, xc))
      have Hpw := Lib.hid (fun wx => pair_w xa xb xc wx hxs.1 hxs.2.1 hxs.2.2)
      change Hid (foldR (l.take (j + 1)) = putS (keyS xa, valL.getD (xb % 4) [], ((xc % 4 : Nat) : Int)) u) at Htk
      change Hid ((keyS xa).length ≤ 20 ∧ (valL.getD (xb % 4) []).length ≤ 10) at Hps
      clear hxs
      generalize keyS xa = xk at *
      generalize valL.getD (xb % 4) [] = xv at *
      generalize xc % 4 = xt at *
      go_wp2_with fail
      refine (Hpw.out _).mono ?_
      rintro e w1 ⟨rfl, hb1⟩
      have Hb1 : Hid (Below w.heap.size w w1) := Lib.hid (Hbel.out.trans (hb1.mono hsz))
      have Hpr1 := Lib.hid (Hpr.out.below hb1)
      clear hb1
      go_wp2_with fail
      refine (rput_w _ u xk xv xt _ Hpr1.out Hs2.out (by omega) ⟨by have := Hps.out.1; unfold maxLen; omega, by have := Hps.out.2; unfold maxLen; omega⟩).mono ?_
      intro e w2 h2
      have H2 := Lib.hid (h2.lower Hb1.out Hb1.out.size)
      obtain ⟨v', rfl, -⟩ := h2
      go_wp2
      go_roundw
      case rel =>
        obtain ⟨v2, e2, h3, h4, h5⟩ := H2.out
        injection e2 with e2
        subst e2
        exact ⟨j + 1, by omega, by omega, by go_num, by rw [Htk.out]; exact h3, by rw [Htk.out]; exact h4, h5⟩
      case measure => simp [intOf]; omega
    · have hmd : Hid (foldR (l.take j) = madeS l) := Lib.hid (by
        unfold madeS
        by_cases h4 : j = 40
        · rw [h4]
        · have : j = l.length := by omega
          rw [List.take_of_length_le (by omega), List.take_of_length_le (by omega)])
      rw [hmd.out] at Hown Hpr
      clear hbel
      by_cases h1 : j < l.length
      · have h40 : 40 ≤ (j : Int) := by omega
        have hltz : (j : Int) < (l.length : Int) := by omega
        clear hlt
        go_wp2
        go_ret
        exact ⟨_, rfl, Hown.out, Hpr.out, Hbel.out⟩
      · have hltz : (l.length : Int) ≤ (j : Int) := by omega
        clear hlt
        go_wp2
        go_ret
        exact ⟨_, rfl, Hown.out, Hpr.out, Hbel.out⟩

end T4
end Go.Proofs.Ythpajecigkfajaa
