/-
  A region that draws, whose last operations wait for what was loaded before, some of them by way of another operation. A node that is written over another box of a node: what lies in lists remains.
-/
import Derived.Test.YtmbfghbhajmpiaaGreatYDC
import Derived.Test.YtmbfghbhajmpiaaGreatYJD
namespace Go.Proofs.YtmbfghbhajmpiaaGreat
open Go.RowKit Go.Sort
set_option linter.unusedVariables false

section
variable {P : Program} {ops : Array Oper} {Q : Exit → Act → World → Prop} {md : Region.Mode} {n : Nat} {S : World → Prop}

/-- What has come up had all that it waits for. -/
def Closed (md : Region.Mode) (ops : Array Oper) (up : Array Bool) : Prop := ∀ j o, ops[j]? = some o → up.getD j false = true → ∀ e ∈ o.after, Region.binds md e = true → up.getD e.on false = true
def closedB (md : Region.Mode) (ops : Array Oper) (up : Array Bool) : Bool :=
  (List.range ops.size).all fun j => !(up.getD j false) || match ops[j]? with
    | some o => o.after.all fun e => !(Region.binds md e) || up.getD e.on false
    | none => true
theorem closed_spec {up : Array Bool} (h : closedB md ops up = true) : Closed md ops up := by
  intro j o ho hj e he hb
  have hlt := (Array.getElem?_eq_some_iff.1 ho).1
  have h2 := List.all_eq_true.1 h j (List.mem_range.2 hlt)
  rw [ho, hj] at h2
  simp only [Bool.not_true, Bool.false_or] at h2
  have h3 := Array.all_eq_true'.1 h2 e he
  rw [hb] at h3
  simpa using h3
theorem getD_up {up : Array Bool} {j k : Nat} (h : up.getD k false = true) : (up.setIfInBounds j true).getD k false = true := by
  simp only [Array.getD_eq_getD_getElem?] at h ⊢
  rw [Array.getElem?_setIfInBounds]
  by_cases hjk : j = k
  · subst hjk
    by_cases hs : j < up.size
    · simp [hs]
    · rw [Array.getElem?_eq_none (by omega)] at h; simp at h
  · simp [hjk]; simpa using h
theorem up_getD {up : Array Bool} {j k : Nat} (h : (up.setIfInBounds j true).getD k false = true) : k = j ∨ up.getD k false = true := by
  by_cases hjk : k = j
  · exact .inl hjk
  · right
    simp only [Array.getD_eq_getD_getElem?] at h ⊢
    rw [Array.getElem?_setIfInBounds] at h
    simpa [Ne.symm hjk] using h
/-- Number t is i, or waits for it, by way of so many others at most. -/
def waitsB (md : Region.Mode) (ops : Array Oper) (i : Nat) : Nat → Nat → Bool
  | 0, t => t == i
  | f + 1, t => t == i || match ops[t]? with
    | some o => o.after.any fun e => Region.binds md e && waitsB md ops i f e.on
    | none => false
theorem waits_up {i : Nat} {up : Array Bool} (hc : Closed md ops up) : ∀ (f t : Nat), waitsB md ops i f t = true → up.getD t false = true → up.getD i false = true
  | 0, t, h, hu => by
    unfold waitsB at h
    rw [beq_iff_eq] at h
    rw [← h]; exact hu
  | f + 1, t, h, hu => by
    unfold waitsB at h
    rw [Bool.or_eq_true, beq_iff_eq] at h
    rcases h with h | h
    · rw [← h]; exact hu
    · cases ho : ops[t]? with
      | none => rw [ho] at h; cases h
      | some o =>
        rw [ho] at h
        obtain ⟨e, he, hb⟩ := Array.any_eq_true'.1 h
        rw [Bool.and_eq_true] at hb
        exact waits_up hc f e.on hb.2 (hc t o ho hu e he hb.1)
/-- The last operations all wait for number i. -/
def tails2B (md : Region.Mode) (ops : Array Oper) (n i : Nat) : Bool :=
  decide (i < n) && (List.range ops.size).all fun t => decide (t < n) || match ops[t]? with
    | some o => o.after.any fun e => Region.binds md e && waitsB md ops i 4 e.on
    | none => true
theorem T_first2 {i : Nat} {oi : Oper} {v : Value} (hi : ops[i]? = some oi) (hsel : ∀ (j : Nat) (o : Oper) cs b, ops[j]? = some o → o.op ≠ .select cs b)
    (hQ : ∀ c a w, Q (.panic c) (a.put oi.dst v) w → Q (.panic c) a w) (ht : tails2B md ops n i = true) :
    ∀ (k : Nat) (up : Array Bool) (a : Act) (w : World), Closed md ops up →
      (∀ j oj, ops[j]? = some oj → j ≠ i → up.getD j true = false → (∀ e ∈ oj.after, Region.binds md e = true → e.on ≠ i) → oi.apart ops oj = true) →
      i ∈ Region.ready md ops up → YieldsIf P ops S oi v a → S w → AnyT P md ops Q n S k (up.setIfInBounds i true) (a.put oi.dst v) w → AnyT P md ops Q n S (k + 1) up a w := by
  unfold tails2B at ht
  rw [Bool.and_eq_true, decide_eq_true_eq] at ht
  obtain ⟨hin, ht⟩ := ht
  intro k
  induction k with
  | zero =>
    intro up a w _ _ hr hy hS H
    refine ⟨fun h => by (rw [h] at hr; cases hr), fun j hj => ?_⟩
    by_cases hji : j = i
    · rw [hji]; exact hy.wpOp hi hS ⟨fun _ => hS, H⟩
    · have h := ready_mono hj hji
      rw [H.1] at h
      cases h
  | succ k ih =>
    intro up a w hcl hfree hr hy hS H
    refine ⟨fun h => by (rw [h] at hr; cases hr), fun j hj => ?_⟩
    by_cases hji : j = i
    · rw [hji]; exact hy.wpOp hi hS ⟨fun _ => hS, H⟩
    · obtain ⟨hju, oj, hoj, hall⟩ := mem_ready.1 hj
      have h0 := (mem_ready.1 hr).1
      have hno : ∀ e ∈ oj.after, Region.binds md e = true → e.on ≠ i := fun e he hb heq => by
        have h1 := hall e he hb
        rw [heq] at h1
        rw [getD_both h0] at h1
        cases h1
      have hjn : j < n := by
        have hlt := (Array.getElem?_eq_some_iff.1 hoj).1
        have h2 := List.all_eq_true.1 ht j (List.mem_range.2 hlt)
        rw [hoj, Bool.or_eq_true, decide_eq_true_eq] at h2
        rcases h2 with h2 | h2
        · exact h2
        · obtain ⟨e, he, hb⟩ := Array.any_eq_true'.1 h2
          rw [Bool.and_eq_true] at hb
          have h4 := waits_up hcl 4 e.on hb.2 (hall e he hb.1)
          rw [getD_both h0] at h4
          cases h4
      have h1 := wpOp_putIf hoj (hfree j oj hoj hji hju hno) (fun cs b => hsel i oi cs b hi) (fun cs b => hsel j oj cs b hoj) hQ hy (H.2 j (ready_mono hj hji))
      refine wpOp_mono (fun a2 w2 h2 => ⟨h2.2.1, ih (up.setIfInBounds j true) a2 w2 ?_ (fun t ot hot hti hun hnt => hfree t ot hot hti ?_ hnt) (ready_mono hr (Ne.symm hji)) h2.1 (h2.2.1 hjn) ?_⟩) h1
      · intro p o ho hp e he hb
        rcases up_getD hp with rfl | hp
        · rw [hoj] at ho
          injection ho with ho
          subst ho
          exact getD_up (hall e he hb)
        · exact getD_up (hcl p o ho hp e he hb)
      · by_cases hjt : j = t
        · rw [← hjt]; exact hju
        · rwa [getD_set_ne true hjt] at hun
      · rw [Array.setIfInBounds_comm _ _ hji]
        exact h2.2.2
theorem T_take2 {i : Nat} {oi : Oper} {v : Value} {k : Nat} {up : Array Bool} {a : Act} {w : World} (hi : ops[i]? = some oi)
    (hs : Region.noSelect ops = true) (hf : Region.free md ops up i = true) (hr : (Region.ready md ops up).contains i = true) (ht : tails2B md ops n i = true) (hcl : closedB md ops up = true)
    (hQ : ∀ c a w, Q (.panic c) (a.put oi.dst v) w → Q (.panic c) a w) (hy : YieldsIf P ops S oi v a) (hS : S w)
    (h : AnyT P md ops Q n S k (up.setIfInBounds i true) (a.put oi.dst v) w) : AnyT P md ops Q n S (k + 1) up a w :=
  T_first2 hi (Region.noSelect_spec hs) hQ ht k up a w (closed_spec hcl) (Region.free_spec hi hf) (by simpa using hr) hy hS h
end

end Go.Proofs.YtmbfghbhajmpiaaGreat
namespace Go.Proofs.YtmbfghbhajmpiaaGreat
open Go.RowKit Go.Sort
set_option linter.unusedVariables false

theorem cell_st5 {w : World} {b g off : Nat} {T : TypeId} {u y0 y1 y2 y3 y4 : Value} {p0 p1 p2 p3 p4 : Option Addr} {n0 n1 n2 n3 n4 c0 c1 c2 c3 c4 : Nat}
    (hc : Blk w b T #[.slice p0 n0 c0, .slice p1 n1 c1, .slice p2 n2 c2, .slice p3 n3 c3, .slice p4 n4 c4]) (hu : ∀ p n c, u ≠ .slice p n c) (h : w.cell? ⟨g, off, none⟩ = some u) : (st5 w b y0 y1 y2 y3 y4).cell? ⟨g, off, none⟩ = some u := by
  have hgb : g ≠ b := by
    rintro rfl
    rw [hc.cell] at h
    match off, h with
    | 0, h => simp at h; exact hu _ _ _ h.symm
    | 1, h => simp at h; exact hu _ _ _ h.symm
    | 2, h => simp at h; exact hu _ _ _ h.symm
    | 3, h => simp at h; exact hu _ _ _ h.symm
    | 4, h => simp at h; exact hu _ _ _ h.symm
    | k + 5, h => simp at h
  exact Eq.trans (World.cell?_of_block (st5_heap w b g y0 y1 y2 y3 y4 hgb)) h
theorem ns_int (k : IntKind) (n : Int) : ∀ p m c, Value.int k n ≠ .slice p m c := fun _ _ _ h => by cases h
theorem ns_str (s : ByteArray) : ∀ p m c, Value.string s ≠ .slice p m c := fun _ _ _ h => by cases h
section
variable {w : World} {b : Nat} {T : TypeId} {y0 y1 y2 y3 y4 : Value} {p0 p1 p2 p3 p4 : Option Addr} {n0 n1 n2 n3 n4 c0 c1 c2 c3 c4 : Nat}
theorem pairs_st5 {v : Value} {l : List Pr} (h : IsPairs w v l) (hc : Blk w b T #[.slice p0 n0 c0, .slice p1 n1 c1, .slice p2 n2 c2, .slice p3 n3 c3, .slice p4 n4 c4]) : IsPairs (st5 w b y0 y1 y2 y3 y4) v l := by
  obtain ⟨a, cap, e, h1, h2, h3, h4⟩ := h
  refine ⟨a, cap, e, h1, h2, h3, fun hne => ?_⟩
  obtain ⟨g, off, e, hlt, hcc⟩ := h4 hne
  exact ⟨g, off, e, by rw [st5_size]; exact hlt, fun i hi => ⟨cell_st5 hc (ns_str _) (hcc i hi).1, cell_st5 hc (ns_str _) (hcc i hi).2.1, cell_st5 hc (ns_int _ _) (hcc i hi).2.2⟩⟩
theorem ints_st5 {v : Value} {l : List Int} (h : IsInts w v l) (hc : Blk w b T #[.slice p0 n0 c0, .slice p1 n1 c1, .slice p2 n2 c2, .slice p3 n3 c3, .slice p4 n4 c4]) : IsInts (st5 w b y0 y1 y2 y3 y4) v l := by
  obtain ⟨a, cap, e, h1, h2, h4⟩ := h
  refine ⟨a, cap, e, h1, h2, fun hne => ?_⟩
  obtain ⟨g, off, e, hlt, hcc⟩ := h4 hne
  exact ⟨g, off, e, by rw [st5_size]; exact hlt, fun i hi => cell_st5 hc (ns_int _ _) (hcc i hi)⟩
theorem sums_st5 {v : Value} {l : List Sm} (h : IsSums w v l) (hc : Blk w b T #[.slice p0 n0 c0, .slice p1 n1 c1, .slice p2 n2 c2, .slice p3 n3 c3, .slice p4 n4 c4]) : IsSums (st5 w b y0 y1 y2 y3 y4) v l := by
  obtain ⟨a, cap, e, h1, h2, h4⟩ := h
  refine ⟨a, cap, e, h1, h2, fun hne => ?_⟩
  obtain ⟨g, off, e, hlt, hcc⟩ := h4 hne
  exact ⟨g, off, e, by rw [st5_size]; exact hlt, fun i hi => ⟨cell_st5 hc (ns_int _ _) (hcc i hi).1, cell_st5 hc (ns_int _ _) (hcc i hi).2.1, cell_st5 hc (ns_int _ _) (hcc i hi).2.2.1, cell_st5 hc (ns_int _ _) (hcc i hi).2.2.2⟩⟩
theorem msgs_st5 {v : Value} {l : List Ms} (h : IsMsgs w v l) (hc : Blk w b T #[.slice p0 n0 c0, .slice p1 n1 c1, .slice p2 n2 c2, .slice p3 n3 c3, .slice p4 n4 c4]) : IsMsgs (st5 w b y0 y1 y2 y3 y4) v l := by
  obtain ⟨a, cap, e, h1, h2, h4⟩ := h
  refine ⟨a, cap, e, h1, h2, fun hne => ?_⟩
  obtain ⟨g, off, e, hlt, hcc⟩ := h4 hne
  refine ⟨g, off, e, by rw [st5_size]; exact hlt, fun i hi => ?_⟩
  obtain ⟨z0, z1, z2, z3, z4, z5, z6, z7⟩ := hcc i hi
  exact ⟨cell_st5 hc (ns_int _ _) z0, cell_st5 hc (ns_str _) z1, cell_st5 hc (ns_str _) z2, cell_st5 hc (ns_str _) z3, cell_st5 hc (ns_str _) z4, cell_st5 hc (ns_str _) z5, cell_st5 hc (ns_str _) z6, cell_st5 hc (ns_int _ _) z7⟩
theorem node_st5 {v : Value} {n : Nd} (h : IsNode w v n) (hc : Blk w b T #[.slice p0 n0 c0, .slice p1 n1 c1, .slice p2 n2 c2, .slice p3 n3 c3, .slice p4 n4 c4]) : IsNode (st5 w b y0 y1 y2 y3 y4) v n := by
  obtain ⟨a, b', c, d, e, rfl, h1, h2, h3, h4, h5⟩ := h
  exact ⟨a, b', c, d, e, rfl, pairs_st5 h1 hc, strs_st5 h2 hc, ints_st5 h3 hc, sums_st5 h4 hc, msgs_st5 h5 hc⟩
end

end Go.Proofs.YtmbfghbhajmpiaaGreat
