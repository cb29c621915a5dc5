/-
  Plain: what the law PoolSlots asks; contracts.
-/
import Derived.Test.YtlgangcldlphnaaQD
namespace Go.Proofs.Ytlgangcldlphnaa
open Go.RowKit Go.Sort
set_option linter.unusedVariables false
set_option maxRecDepth 100000

/-- What Add of a node of held kids gives. -/
structure Added (P : List Sl) (n : Nd) (Q : List Sl) (f : Nat) : Prop where
  add : addP P n = (Q, (f : Int), 0)
  lo : P.length ≤ Q.length
  hi : Q.length ≤ P.length + 1
  lt : f < Q.length
  low : ∀ i, i < f → (atP P i).used = true
  free : (atP P f).used = false
  refs : ∀ i, i ≠ f → (atP Q i).refs = (atP P i).refs + (n.kids.count (i : Int) : Nat)
  new : (atP Q f).used = true ∧ (atP Q f).lost = false ∧ (atP Q f).refs = 1 ∧ (atP Q f).node = n
theorem added_of {P : List Sl} {R : List Int} {j : Nat} {n : Nd} (h : Good P R j) (hn : ∀ k ∈ n.kids, k ∈ R) (hj : j < 4096) : ∃ Q f, Added P n Q f := by
  have hku : ∀ k ∈ n.kids, usedB P k = true := fun k hk => h.fair.all k (List.mem_append_left _ (hn k hk))
  have hlen := placeP_len P n
  have hlp : P.length ≤ (placeP P n).length := by rw [hlen]; split <;> omega
  have hks : ∀ k ∈ n.kids, 0 ≤ k ∧ k.toNat < (placeP P n).length := fun k hk => by
    have := usedB_lt (hku k hk)
    exact ⟨this.1, by omega⟩
  have hat := fun i => atP_heldP hks i
  have hpl := fun i => atP_placeP P n i
  have hf0 := freeI_used P
  have hcz : n.kids.count ((freeI P : Nat) : Int) = 0 := by
    rw [List.count_eq_zero]
    intro hm
    have := hku _ hm
    rw [usedB_nat, hf0] at this; cases this
  refine ⟨heldP (placeP P n) n.kids, freeI P, ⟨add_yes h hn hj, by rw [heldP_len]; exact hlp, by rw [heldP_len, hlen]; split <;> omega, by rw [heldP_len]; exact placeP_lt P n, fun i hi => freeI_before hi, hf0, fun i hi => ?_, ?_⟩⟩
  · rw [hat, hpl, if_neg hi]; rfl
  · rw [hat, hpl, if_pos rfl, hcz]; exact ⟨rfl, rfl, by simp [moreS], rfl⟩
theorem hold_drop {P : List Sl} {R : List Int} {j : Nat} {k : Int} (h : Good P R j) (hk : k ∈ R) : holdP P k = (incP P k, 0) ∧ dropP (incP P k) k = (P, 0) := by
  have hu := h.fair.all k (List.mem_append_left _ hk)
  have hl := usedB_lt hu
  have hc := h.fair.cnt k.toNat (usedB_iff.1 hu).2
  have hk0 : ((k.toNat : Nat) : Int) = k := by omega
  have hpos : 0 < (R ++ kidsA P).count k := List.count_pos_iff.2 (List.mem_append_left _ hk)
  rw [hk0] at hc
  have hat := atP_incP hl.2 k.toNat
  rw [if_pos rfl] at hat
  have hu2 : usedB (incP P k) k = true := by
    rw [usedB_iff]; refine ⟨hl.1, ?_⟩
    rw [hat]; exact (usedB_iff.1 hu).2
  have hr : (incS (atP P k.toNat)).refs - 1 = (atP P k.toNat).refs := by show (atP P k.toNat).refs + 1 - 1 = _; omega
  have hne : ¬ ((incS (atP P k.toNat)).refs - 1 = 0) := by rw [hr, hc]; omega
  have hdec : decP (incP P k) k = P := by
    unfold decP decS
    rw [hat, if_neg hne, hr]
    unfold incP
    rw [List.set_set]
    have e : ({ incS (atP P k.toNat) with refs := (atP P k.toNat).refs } : Sl) = P[k.toNat]'hl.2 := by
      rw [← atP_lt hl.2]; rfl
    rw [e, List.set_getElem_self]
  have hdk : decK (atP (incP P k) k.toNat) = [] := by unfold decK; rw [hat, if_neg hne]
  constructor
  · unfold holdP; rw [if_pos hu]
  · unfold dropP
    rw [if_pos hu2]
    have hm : muP (incP P k) [k] = (kidsA (incP P k)).length + 1 := by unfold muP; simp; omega
    rw [hm]
    have hrun : ∀ m, runL (m + 1) (incP P k) [k] = P := fun m => by
      unfold runL
      show (if usedB (incP P k) k = true then runL m (decP (incP P k) k) ([] ++ decK (atP (incP P k) k.toNat)) else _) = P
      rw [if_pos hu2, hdec, hdk]
      cases m <;> rfl
    rw [hrun]
theorem Good.mid2 {P : List Sl} {R : List Int} {j : Nat} (h : Good P R j) (hj : j ≤ 200) : Mid P :=
  ⟨by have := h.plen; omega, fun i => by have := h.refs i; omega, fun i => by have := h.mu [i]; simp at this; omega⟩
theorem s_hold {v : Value} {P : List Sl} {R : List Int} {i : Int} {w : World} (hg : Good P R 16) (hi : i ∈ R) (h : IsSlots w v P) :
    Calls Try.prog 21 #[poolV v, .int .i64 i] w fun e w' => GivesP w w' (fun x => .tuple #[poolV x, .int .i64 0]) e (incP P i) := by
  have := m_hold (i := i) hg.mid h
  rw [(hold_drop hg hi).1] at this
  exact this
theorem s_drop {v : Value} {P : List Sl} {R : List Int} {i : Int} {w : World} (hg : Good P R 16) (hi : i ∈ R) (h : IsSlots w v (incP P i)) :
    Calls Try.prog 28 #[poolV v, .int .i64 i] w fun e w' => GivesP w w' (fun x => .tuple #[poolV x, .int .i64 0]) e P := by
  have := m_drop (i := i) ((good_hold hg hi).mid2 (by omega)) h
  rw [(hold_drop hg hi).2] at this
  exact this
theorem s_add {v nv : Value} {P Q : List Sl} {f : Nat} {R : List Int} {x : R4} {w : World} (hg : Good P R 16) (ha : Added P (nodeX x R) Q f) (h : IsSlots w v P) (hn : IsNode w nv (nodeX x R)) :
    Calls Try.prog 15 #[poolV v, nv] w fun e w' => GivesP w w' (fun x => .agg #[x, .int .i64 f, .int .i64 0]) e Q :=
  (ladd_w v nv P (nodeX x R) w h hn hg.mid.len (Nat.le_trans (kidsX_len x R) (by decide)) (fun i _ => by have := hg.mid.refs i; omega)).mono fun e w' ⟨v', h1, h2, h3⟩ => by
    rw [ha.add] at h1 h2
    obtain ⟨a, c, rfl, -⟩ := h2.slice
    exact ⟨a, c, h1, h2, h3⟩
theorem s_get {v : Value} {P Q : List Sl} {f : Nat} {n : Nd} {w : World} (ha : Added P n Q f) (h : IsSlots w v Q) :
    Calls Try.prog 19 #[poolV v, .int .i64 (f : Int)] w fun e w' => ∃ a a1 a2 b b1 b2 c c1 c2 d d1 d2 g g1 g2, e = .returned (.tuple #[.agg #[.slice a a1 a2, .slice b b1 b2, .slice c c1 c2, .slice d d1 d2, .slice g g1 g2], .int .i64 0]) ∧ IsNode w' (.agg #[.slice a a1 a2, .slice b b1 b2, .slice c c1 c2, .slice d d1 d2, .slice g g1 g2]) n ∧ Below w.heap.size w w' := by
  have hq : getP Q (f : Int) = (n, 0) := by
    obtain ⟨h1, h2, h3, h4⟩ := ha.new
    unfold getP
    rw [usedB_nat, if_pos h1, show ((f : Int)).toNat = f from by omega, h2, if_neg (by simp), h4]
  refine (get_w v Q f w h).mono fun e w' ⟨nv, h1, h2, h3⟩ => ?_
  rw [hq] at h1 h2
  obtain ⟨a, b, c, d, g, rfl, p1, p2, p3, p4, p5⟩ := h2
  obtain ⟨a0, a2, rfl, -⟩ := id p1
  obtain ⟨b0, b2, rfl, -⟩ := id p2
  obtain ⟨c0, c2, rfl, -⟩ := id p3
  obtain ⟨d0, d2, rfl, -⟩ := id p4
  obtain ⟨g0, g2, rfl, -⟩ := id p5
  exact ⟨_, _, _, _, _, _, _, _, _, _, _, _, _, _, _, h1, ⟨_, _, _, _, _, rfl, p1, p2, p3, p4, p5⟩, h3⟩

end Go.Proofs.Ytlgangcldlphnaa
