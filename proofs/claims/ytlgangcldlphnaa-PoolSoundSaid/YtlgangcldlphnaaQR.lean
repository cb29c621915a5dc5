/-
  Walks: the law's add once more, with what it leaves; plain facts and contracts of the laws that drop.
-/
import Derived.Test.YtlgangcldlphnaaQM
import Derived.Test.YtlgangcldlphnaaQG
import Derived.Test.YtlgangcldlphnaaQO
namespace Go.Proofs.Ytlgangcldlphnaa
open Go.RowKit Go.Sort
set_option linter.unusedVariables false
set_option maxRecDepth 100000

set_option maxHeartbeats 4000000 in
theorem ladd2_w (v nv : Value) (P : List Sl) (n : Nd) (w0 w : World) (h0 : SlF w0 w v P) (hb0 : Below w0.heap.size w0 w) (hn0 : IsNode w0 nv n) (hl : P.length ≤ 4096) (hk : n.kids.length ≤ 1000000) (hr : ∀ i, (atP P i).used = true → 0 ≤ (atP P i).refs ∧ (atP P i).refs ≤ 1000000000) :
    Calls Try.prog 15 #[poolV v, nv] w fun e w' => ∃ v', e = .returned (.agg #[v', .int .i64 (addP P n).2.1, .int .i64 (addP P n).2.2]) ∧ SlOut w0 w w' v v' (addP P n).1 := by
  have mixed := mixedA
  have h := h0.slots hb0
  have hn := hn0.below hb0
  have H := Lib.hid h
  have HND := Lib.hid hn
  obtain ⟨s, rfl, hs1, hs2, hs3, hs⟩ := hn0.sl true false 1
  obtain ⟨su, sl, sr, sa, sb, sc, sd, se⟩ := s
  obtain ⟨a, cap, rfl, hlc, hcm, hpm⟩ := h.slice
  have HADD := Lib.hid (fun wx (hb : Below w.heap.size w wx) => add_w (.slice a P.length cap) _ P n w0 wx (h0.below hb) (hb0.trans (hb.mono hb0.size)) hn0 hl hk hr)
  have HSZ0 := Lib.hid hb0.size
  clear h hn hs hs1 hs2 hs3 h0 hb0 hn0
  obtain ⟨W1, hW1⟩ : ∃ W1, W1 = (((w.alloc (.cells #[.slice a P.length cap] 29)).alloc (.cells #[slv sa, slv sb, slv sc, slv sd, slv se] 39)).alloc (.cells #[.slice none 0 0, .int .i64 0, .int .i64 0] 44)) := ⟨_, rfl⟩
  have HB0 : Hid (Below w.heap.size w W1) := Lib.hid (by rw [hW1]; exact keepP (keepP (keepP (Below.refl _ _) _) _) _)
  have HP : Hid (Blk W1 w.heap.size 29 #[.slice a P.length cap]) := Lib.hid (by rw [hW1]; exact ((Blk.new _ _ _).alloc _).alloc _)
  have HN : Hid (Blk W1 (w.heap.size + 1) 39 #[slv sa, slv sb, slv sc, slv sd, slv se]) := Lib.hid (by rw [hW1]; exact (Blk.new' _ _ _ (by simp)).alloc _)
  have HR : Hid (Blk W1 (w.heap.size + 2) 44 #[.slice none 0 0, .int .i64 0, .int .i64 0]) := Lib.hid (by rw [hW1]; exact Blk.new' _ _ _ (by simp))
  have HW1 := Lib.hid hW1
  clear hW1
  go_enter Try.func15, Try.ntmps15
  go_upto_region 1 with fail
  rw [← HW1.out]
  have p0 := HP.out.c0 0 _ rfl
  obtain ⟨n0, n1, n2, n3, n4, -⟩ := p5_ok HN.out
  go_wp2_with fail
  refine (HADD.out _ HB0.out).mono ?_
  rintro e w2 ⟨v2, rfl, hout⟩
  obtain ⟨a2, c2, rfl⟩ : ∃ a2 c2, v2 = .slice a2 (addP P n).1.length c2 := by obtain ⟨L, _, a3, cap3, e3, _⟩ := hout.sl; exact ⟨a3, cap3, e3⟩
  have HOUT := Lib.hid hout
  have hr2 := HR.out.below hout.bel HR.out.lt
  have HFAR := Lib.hid (hout.far2 H.out (w.heap.size + 2) (by omega) HR.out.lt)
  obtain ⟨r0, r1, r2, g0, g1, g2⟩ := three_ok (hr2.alloc (.cells #[.slice a2 (addP P n).1.length c2] 29))
  have HR2 := Lib.hid hr2
  clear hout hr2 p0 n0 n1 n2 n3 n4
  go_wp2
  obtain ⟨z0, z1, z2, -⟩ := three_ok (blk_set3 (HR2.out.alloc (.cells #[.slice a2 (addP P n).1.length c2] 29)) (.slice a2 (addP P n).1.length c2) (.int .i64 (addP P n).2.1) (.int .i64 (addP P n).2.2))
  refine bodyPost_ret (v := .agg #[.slice a2 (addP P n).1.length c2, .int .i64 (addP P n).2.1, .int .i64 (addP P n).2.2]) (by simp [results, Try.results15, go_sem, z0, z1, z2]) rfl ?_
  have hB := below_set3 (keepP (HB0.out.trans (HOUT.out.bel.mono HB0.out.size)) (.cells #[.slice a2 (addP P n).1.length c2] 29)) (w.heap.size + 2) (by omega) (.slice a2 (addP P n).1.length c2) (.int .i64 (addP P n).2.1) (.int .i64 (addP P n).2.2)
  exact ⟨_, rfl, ⟨(HOUT.out.sl.below (below_box _)).but (but_set3 _ _ _ _ _) HFAR.out, fun b hb => (HOUT.out.blk b hb).imp id (fun h => Nat.le_trans HB0.out.size h), hB⟩⟩

theorem rank_rch {P : List Sl} {rk : Nat → Nat} (ha : ∀ i, (atP P i).used = true → ∀ k ∈ (atP P i).node.kids, usedB P k = true → rk k.toNat < rk i) {i : Nat} (hi : (atP P i).used = true) : ∀ {j : Nat}, Rch P (atP P i).node.kids j → rk j < rk i := by
  intro j h
  induction h with
  | root h1 h2 => exact ha i hi _ h1 h2
  | kid h1 h2 h3 ih => exact Nat.lt_trans (ha _ h1.used _ h2 h3) ih
theorem good_soundR {P : List Sl} {R : List Int} {j : Nat} (h : Good P R j) : soundR P R = true := by
  unfold soundR
  rw [Bool.and_eq_true, List.all_eq_true, List.all_eq_true]
  refine ⟨h.fair.all, fun i _ => ?_⟩
  unfold okI
  by_cases hu : (atP P i).used = true
  · rw [if_pos hu, h.fair.cnt i hu]
    have hr := h.fair.reached h.tidy h.acyc i hu
    have hc : ¬ Rch P (atP P i).node.kids i := fun hc => by
      obtain ⟨rk, ha⟩ := h.acyc
      exact absurd (rank_rch ha hu hc) (Nat.lt_irrefl _)
    rw [decide_eq_true (mem_reachN.2 hr), decide_eq_false (fun h => hc (mem_reachN.1 h))]
    simp
  · rw [if_neg hu, h.tidy.clean i (by simpa using hu)]; rfl
theorem good_small {P : List Sl} {R : List Int} {j : Nat} (h : Good P R j) (i : Nat) : SmallSl (atP P i) := by
  have h1 := h.pairs i
  have h2 := h.kids i
  have h3 := h.bare i
  exact ⟨by omega, by rw [h3.pivots]; simp, by omega, by rw [h3.sums]; simp, by rw [h3.buf]; simp⟩
theorem good_kidsA {P : List Sl} {R : List Int} {j : Nat} (h : Good P R j) : (kidsA P).length ≤ 3 * j := by
  have := kidsA_len h.kids
  have := h.plen
  omega
theorem g_sound {v u : Value} {P : List Sl} {R : List Int} {j : Nat} {w : World} (hg : Good P R j) (hj : j ≤ 100) (h : IsSlots w v P) (hu : IsInts w u R) :
    Calls Try.prog 31 #[poolV v, u] w fun e w' => e = .returned (.bool true) ∧ Below w.heap.size w w' := by
  have := rsound_w v u P R w h hu (by have := hg.plen; omega) (by rw [List.length_append]; have := hg.rlen; have := good_kidsA hg; omega) (good_small hg)
  rw [good_soundR hg] at this
  exact this
theorem g_drop {v : Value} {P : List Sl} {R X : List Int} {k : Int} {j : Nat} {w0 w : World} (hg : Good P R j) (hp : R.Perm ([k] ++ X)) (hj : j ≤ 100) (h0 : SlF w0 w v P) (hb0 : Below w0.heap.size w0 w) :
    Calls Try.prog 28 #[poolV v, .int .i64 k] w fun e w' => ∃ a c Q, e = .returned (.tuple #[poolV (.slice a Q.length c), .int .i64 0]) ∧ Good Q X j ∧ DR P [k] Q ∧ SlOut w0 w w' v (.slice a Q.length c) Q := by
  have hu : usedB P k = true := hg.fair.all k (List.mem_append_left _ (hp.mem_iff.2 (by simp)))
  refine (drop_w v P k w0 w h0 hb0 (by have := hg.plen; omega) (by have := hg.mu [k]; simp at this; omega) (fun i => by have := hg.refs i; omega)).mono fun e w' ⟨v', h1, h2⟩ => ?_
  unfold dropP at h1 h2
  rw [if_pos hu] at h1 h2
  obtain ⟨a, c, e', -, -, -⟩ := h2.sl.slice
  have hd := runL_dr (muP P [k]) P [k] (Nat.le_refl _)
  subst e'
  exact ⟨a, c, _, h1, good_dr hg hd hp, hd, h2⟩
theorem good_none {P : List Sl} {j : Nat} (h : Good P [] j) (i : Nat) : (atP P i).used = false := by
  by_cases hu : (atP P i).used = true
  · exact absurd (h.fair.reached h.tidy h.acyc i hu) rch_nil
  · simpa using hu
/-- The first slots are used, no other. -/
structure Emp (Q : List Sl) (n i : Nat) : Prop where
  len : Q.length ≤ n + i
  low : ∀ j, j < i → (atP Q j).used = true
  high : ∀ j, i ≤ j → (atP Q j).used = false
  refs : ∀ j, 0 ≤ (atP Q j).refs ∧ (atP Q j).refs ≤ 1
theorem Good.emp {P : List Sl} {j : Nat} (h : Good P [] j) : Emp P j 0 :=
  ⟨h.plen, fun j hj => by omega, fun i _ => good_none h i, fun i => by rw [h.tidy.clean i (good_none h i)]; decide⟩
theorem Emp.free {Q : List Sl} {n i : Nat} (h : Emp Q n i) : freeI Q = i := by
  refine freeI_eq (h.high i (Nat.le_refl _)) h.low ?_
  rcases Nat.eq_zero_or_pos i with h0 | h0
  · omega
  · have := used_lt (h.low (i - 1) (by omega)); omega
theorem Emp.add {Q : List Sl} {n i : Nat} (h : Emp Q n i) (hn : n + i < 4096) : addP Q zNd = (placeP Q zNd, (i : Int), 0) := by
  unfold addP
  rw [h.free, if_pos (by rfl), if_neg (by omega)]
  rfl
theorem Emp.next {Q : List Sl} {n i : Nat} (h : Emp Q n i) : Emp (placeP Q zNd) n (i + 1) := by
  have hp := fun j => atP_placeP Q zNd j
  rw [h.free] at hp
  refine ⟨?_, fun j hj => ?_, fun j hj => ?_, fun j => ?_⟩
  · rw [placeP_len]; have := h.len; split <;> omega
  · rw [hp]
    by_cases e : j = i
    · rw [if_pos e]
    · rw [if_neg e]; exact h.low j (by omega)
  · rw [hp, if_neg (by omega)]; exact h.high j (by omega)
  · rw [hp]
    split
    · decide
    · exact h.refs j
theorem e_add {v : Value} {Q : List Sl} {n i : Nat} {w0 w : World} (he : Emp Q n i) (hn : n + i < 1000) (h0 : SlF w0 w v Q) (hb0 : Below w0.heap.size w0 w) :
    Calls Try.prog 15 #[poolV v, .agg #[.slice none 0 0, .slice none 0 0, .slice none 0 0, .slice none 0 0, .slice none 0 0]] w fun e w' => ∃ a c, e = .returned (.agg #[.slice a (placeP Q zNd).length c, .int .i64 (i : Int), .int .i64 0]) ∧ SlOut w0 w w' v (.slice a (placeP Q zNd).length c) (placeP Q zNd) := by
  refine (ladd2_w v _ Q zNd w0 w h0 hb0 (isNode_zero w0) (by have := he.len; omega) (by show (0 : Nat) ≤ _; omega) (fun j _ => by have := he.refs j; omega)).mono fun e w' ⟨v', h1, h2⟩ => ?_
  rw [he.add (by omega)] at h1 h2
  obtain ⟨a, c, e', -, -, -⟩ := h2.sl.slice
  simp only at e'
  subst e'
  exact ⟨a, c, h1, h2⟩

end Go.Proofs.Ytlgangcldlphnaa
