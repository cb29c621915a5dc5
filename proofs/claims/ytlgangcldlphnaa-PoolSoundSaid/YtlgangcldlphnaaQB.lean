/-
  The fixed examples of the law's sanity: contracts at these values.
-/
import Derived.Test.YtlgangcldlphnaaQA
namespace Go.Proofs.Ytlgangcldlphnaa
open Go.RowKit Go.Sort
set_option linter.unusedVariables false
set_option maxRecDepth 100000

def nd0 : Nd := ⟨[], [], [], [], []⟩
def ndK (l : List Int) : Nd := ⟨[], [], l, [], []⟩
def fx (r : Int) (l : List Int) : Sl := ⟨true, false, r, ndK l⟩
def q1 : List Sl := [fx 1 []]
def q2 : List Sl := [fx 1 [], fx 1 []]
def q3 : List Sl := [fx 2 [], fx 3 [], fx 1 [0, 1, 1]]
def q4 : List Sl := [fx 1 [], fx 3 [], fx 1 [0, 1, 1]]
def q5 : List Sl := [fx 1 [], fx 2 [], fx 1 [0, 1, 1]]
def q6 : List Sl := [zSl, zSl, zSl]
def qL : List Sl := [⟨true, true, 1, ndK []⟩]
theorem fx_a1 : addP [] (ndK []) = (q1, 0, 0) := by kernel_rfl
theorem fx_a2 : addP q1 (ndK []) = (q2, 1, 0) := by kernel_rfl
theorem fx_a3 : addP q2 (ndK [0, 1, 1]) = (q3, 2, 0) := by kernel_rfl
theorem fx_d1 : dropP q3 0 = (q4, 0) := by kernel_rfl
theorem fx_d2 : dropP q4 1 = (q5, 0) := by kernel_rfl
theorem fx_d3 : dropP q5 2 = (q6, 0) := by kernel_rfl
theorem fx_a4 : addP q3 (ndK [3]) = (q3, 0, 110) := by kernel_rfl
theorem fx_g1 : (getP [] 0).2 = 110 := by kernel_rfl
theorem fx_g2 : (getP qL 0).2 = 112 := by kernel_rfl
theorem fx_r3 : refsP q3 = [2, 3, 1] := by kernel_rfl
theorem fx_r5 : refsP q5 = [1, 2, 1] := by kernel_rfl
theorem fx_s3 : soundP q3 [0, 1, 2] = true := by kernel_rfl
theorem fx_s5 : soundP q5 [2] = true := by kernel_rfl
theorem fx_s5n : soundP q5 [1, 2] = false := by kernel_rfl
theorem fx_l5 : liveP q5 = 3 := by kernel_rfl
theorem fx_l6 : liveP q6 = 0 := by kernel_rfl
theorem fx_re : reachP q5 [2] = [0, 1, 2] := by kernel_rfl
/-- A pool as small as the examples'. -/
structure Tiny (P : List Sl) : Prop where
  len : P.length ≤ 100
  refs : ∀ i, 0 ≤ (atP P i).refs ∧ (atP P i).refs ≤ 1000
  small : ∀ i, SmallSl (atP P i)
  bare : ∀ i, Bare (atP P i).node
theorem tiny_of {P : List Sl} (h1 : P.length ≤ 100) (h : ∀ s ∈ P, (0 ≤ s.refs ∧ s.refs ≤ 1000) ∧ SmallSl s ∧ Bare s.node) : Tiny P := by
  have hz : (0 ≤ zSl.refs ∧ zSl.refs ≤ 1000) ∧ SmallSl zSl ∧ Bare zSl.node := ⟨by decide, small_zero, ⟨rfl, rfl, rfl⟩⟩
  have hall : ∀ i, (0 ≤ (atP P i).refs ∧ (atP P i).refs ≤ 1000) ∧ SmallSl (atP P i) ∧ Bare (atP P i).node := fun i => by
    rcases Nat.lt_or_ge i P.length with hi | hi
    · rw [atP_lt hi]; exact h _ (List.getElem_mem hi)
    · rw [atP_ge hi]; exact hz
  exact ⟨h1, fun i => (hall i).1, fun i => (hall i).2.1, fun i => (hall i).2.2⟩
def tinyB (s : Sl) : Bool := decide (0 ≤ s.refs) && decide (s.refs ≤ 1000) && decide (s.node.pairs.length ≤ 1000) && decide (s.node.kids.length ≤ 1000) && s.node.pivots.isEmpty && s.node.sums.isEmpty && s.node.buf.isEmpty
theorem tiny_fx {P : List Sl} (h1 : decide (P.length ≤ 100) = true) (h : P.all tinyB = true) : Tiny P := tiny_of (by simpa using h1) fun s hs => by
  have := List.all_eq_true.1 h s hs
  unfold tinyB at this
  simp only [Bool.and_eq_true, decide_eq_true_eq, List.isEmpty_iff] at this
  obtain ⟨⟨⟨⟨⟨⟨k1, k2⟩, k3⟩, k4⟩, k5⟩, k6⟩, k7⟩ := this
  refine ⟨⟨k1, k2⟩, ⟨by omega, by rw [k5]; simp, by omega, by rw [k6]; simp, by rw [k7]; simp⟩, ⟨k5, k6, k7⟩⟩
theorem tiny0 : Tiny [] := tiny_fx (by kernel_rfl) (by kernel_rfl)
theorem tiny1 : Tiny q1 := tiny_fx (by kernel_rfl) (by kernel_rfl)
theorem tiny2 : Tiny q2 := tiny_fx (by kernel_rfl) (by kernel_rfl)
theorem tiny3 : Tiny q3 := tiny_fx (by kernel_rfl) (by kernel_rfl)
theorem tiny4 : Tiny q4 := tiny_fx (by kernel_rfl) (by kernel_rfl)
theorem tiny5 : Tiny q5 := tiny_fx (by kernel_rfl) (by kernel_rfl)
theorem tiny6 : Tiny q6 := tiny_fx (by kernel_rfl) (by kernel_rfl)
theorem tinyL : Tiny qL := tiny_fx (by kernel_rfl) (by kernel_rfl)
/-- What gives a pool. -/
def GivesP (w w' : World) (f : Value → Value) (e : Ending) (Q : List Sl) : Prop := ∃ a c, e = .returned (f (.slice a Q.length c)) ∧ IsSlots w' (.slice a Q.length c) Q ∧ Below w.heap.size w w'
theorem node_lit {w : World} {v : Value} {l : List Int} (h : IsInts w v l) : IsNode w (.agg #[.slice none 0 0, .slice none 0 0, v, .slice none 0 0, .slice none 0 0]) (ndK l) :=
  ⟨_, _, _, _, _, rfl, IsPairs.nil _, IsStrs.nil _, h, IsSums.nil _, IsMsgs.nil' _⟩
theorem c_add {v nv : Value} {P Q : List Sl} {l : List Int} {id er : Int} {w : World} (hq : addP P (ndK l) = (Q, id, er)) (ht : Tiny P) (hl : l.length ≤ 100) (h : IsSlots w v P) (hn : IsNode w nv (ndK l)) :
    Calls Try.prog 15 #[poolV v, nv] w fun e w' => GivesP w w' (fun x => .agg #[x, .int .i64 id, .int .i64 er]) e Q :=
  (ladd_w v nv P (ndK l) w h hn (by have := ht.len; omega) (by show l.length ≤ _; omega) (fun i _ => by have := ht.refs i; omega)).mono fun e w' ⟨v', h1, h2, h3⟩ => by
    rw [hq] at h1 h2
    obtain ⟨a, c, rfl, -⟩ := h2.slice
    exact ⟨a, c, h1, h2, h3⟩
theorem c_drop {v : Value} {P Q : List Sl} {i er : Int} {w : World} (hq : dropP P i = (Q, er)) (ht : Tiny P) (hm : decide (muP P [i] ≤ 1000) = true) (h : IsSlots w v P) :
    Calls Try.prog 28 #[poolV v, .int .i64 i] w fun e w' => GivesP w w' (fun x => .tuple #[poolV x, .int .i64 er]) e Q :=
  (drop_w v P i w w h.slF (Below.refl _ _) (by have := ht.len; omega) (by have := of_decide_eq_true hm; omega) (fun i => by have := ht.refs i; omega)).mono fun e w' ⟨v', h1, h2⟩ => by
    rw [hq] at h1 h2
    have h3 := h2.sl.slots h2.bel
    obtain ⟨a, c, rfl, -⟩ := h3.slice
    exact ⟨a, c, h1, h3, h2.bel⟩
theorem c_get {v : Value} {P : List Sl} {i er : Int} {w : World} (hq : (getP P i).2 = er) (h : IsSlots w v P) :
    Calls Try.prog 19 #[poolV v, .int .i64 i] w fun e w' => ∃ a a1 a2 b b1 b2 c c1 c2 d d1 d2 f f1 f2, e = .returned (.tuple #[.agg #[.slice a a1 a2, .slice b b1 b2, .slice c c1 c2, .slice d d1 d2, .slice f f1 f2], .int .i64 er]) ∧ Below w.heap.size w w' :=
  (get_w v P i w h).mono fun e w' ⟨nv, h1, h2, h3⟩ => by
    rw [hq] at h1
    obtain ⟨a, b, c, d, f, rfl, ⟨a0, a2, rfl, -⟩, ⟨b0, b2, rfl, -⟩, ⟨c0, c2, rfl, -⟩, ⟨d0, d2, rfl, -⟩, ⟨f0, f2, rfl, -⟩⟩ := h2
    exact ⟨_, _, _, _, _, _, _, _, _, _, _, _, _, _, _, h1, h3⟩
theorem c_sound {v u : Value} {P : List Sl} {W : List Int} {b : Bool} {w : World} (hq : soundP P W = b) (ht : Tiny P) (hh : decide ((heldA P W).length ≤ 1000) = true) (hm : decide (muP P W ≤ 1000) = true) (h : IsSlots w v P) (hu : IsInts w u W) :
    Calls Try.prog 30 #[poolV v, u] w fun e w' => e = .returned (.bool b) ∧ Below w.heap.size w w' := by
  rw [← hq]
  exact sound_w v u P W w h hu (by have := ht.len; omega) (by have := of_decide_eq_true hh; omega) (by have := of_decide_eq_true hm; omega) (fun i => by have := ht.refs i; omega) ht.small
theorem c_refs {v : Value} {P : List Sl} {l : List Int} {w : World} (hq : refsP P = l) (ht : Tiny P) (h : IsSlots w v P) :
    Calls Try.prog 36 #[poolV v] w fun e w' => ∃ a c, e = .returned (.slice a l.length c) ∧ IsInts w' (.slice a l.length c) l ∧ Below w.heap.size w w' :=
  (lrefs_w v P w h (by have := ht.len; omega)).mono fun e w' ⟨v', h1, h2, h3⟩ => by
    rw [hq] at h2
    obtain ⟨a, c, rfl, -⟩ := h2.slice
    exact ⟨a, c, h1, h2, h3⟩
theorem c_reach {v u : Value} {P : List Sl} {W l : List Int} {w : World} (hq : reachP P W = l) (ht : Tiny P) (h : IsSlots w v P) (hu : IsInts w u W) :
    Calls Try.prog 26 #[poolV v, u] w fun e w' => ∃ a c, e = .returned (.slice a l.length c) ∧ IsInts w' (.slice a l.length c) l ∧ Below w.heap.size w w' :=
  (reach_w v u P W w h hu (by have := ht.len; omega)).mono fun e w' ⟨v', h1, h2, h3⟩ => by
    have h4 := IsInts.owned h2
    rw [hq] at h4
    obtain ⟨a, c, rfl, -⟩ := h4.slice
    exact ⟨a, c, h1, h4, h3⟩
theorem c_live {v : Value} {P : List Sl} {n : Nat} {w : World} (hq : liveP P = n) (h : IsSlots w v P) :
    Calls Try.prog 17 #[poolV v] w fun e w' => e = .returned (.int .i64 (n : Int)) ∧ Below w.heap.size w w' := by
  rw [← hq]; exact live_w v P w h

end Go.Proofs.Ytlgangcldlphnaa
