/-
  For the law TraceSpans: without a Clone, a key comes from one key only; the law's key; does a list clone.
-/
import Derived.Test.YthncnijkgkeohaaGreatII
import Derived.Test.YthncnijkgkeohaaGreatIG
namespace Go.Proofs.YthncnijkgkeohaaGreat
open Go.RowKit Go.Sort
set_option linter.unusedVariables false

theorem movedS_eq {k a b j : Bs} (h : a.isPrefixOf k = true) (e : movedS k a b = some j) : ∃ r, k = a ++ r ∧ j = b ++ r := by
  obtain ⟨r, rfl⟩ := List.isPrefixOf_iff_prefix.1 h
  rw [moved_app] at e
  exact ⟨r, rfl, (Option.some.inj e).symm⟩
theorem pre_self (p r : Bs) : p.isPrefixOf (p ++ r) = true := List.isPrefixOf_iff_prefix.2 (List.prefix_append _ _)
theorem keep_inj {p : Bs → Bool} {x j : Bs} (h : (if p x = true then none else some x) = some j) : x = j ∧ p j = false := by
  cases e : p x with
  | true => rw [e, if_pos rfl] at h; cases h
  | false =>
    rw [e, if_neg (by simp)] at h
    obtain rfl := Option.some.inj h
    exact ⟨rfl, e⟩
theorem srcK_inj {m : Ms} (hc : m.kind ≠ 5) {a b j : Bs} (h1 : srcK m a = some j) (h2 : srcK m b = some j) : a = b := by
  unfold srcK at h1 h2
  by_cases k1 : m.kind = 1
  · rw [if_pos k1] at h1 h2
    exact (keep_inj (p := fun x => x == m.key) h1).1.trans (keep_inj (p := fun x => x == m.key) h2).1.symm
  rw [if_neg k1] at h1 h2
  by_cases k2 : m.kind = 2
  · rw [if_pos k2] at h1 h2
    exact (keep_inj (p := fun x => x == m.key) h1).1.trans (keep_inj (p := fun x => x == m.key) h2).1.symm
  rw [if_neg k2] at h1 h2
  by_cases k3 : m.kind = 3
  · rw [if_pos k3] at h1 h2
    exact (keep_inj (p := fun x => hasB (m.lo, m.hi) x) h1).1.trans (keep_inj (p := fun x => hasB (m.lo, m.hi) x) h2).1.symm
  rw [if_neg k3] at h1 h2
  by_cases k4 : m.kind = 4
  · rw [if_pos k4] at h1 h2
    cases ea : m.dst.isPrefixOf a with
    | true =>
      rw [ea, if_pos rfl] at h1
      obtain ⟨r, rfl, rfl⟩ := movedS_eq ea h1
      cases eb : m.dst.isPrefixOf b with
      | true =>
        rw [eb, if_pos rfl] at h2
        obtain ⟨q, rfl, e⟩ := movedS_eq eb h2
        rw [List.append_cancel_left e]
      | false =>
        rw [eb, if_neg (by simp)] at h2
        have := (keep_inj (p := fun x => m.src.isPrefixOf x) h2).2
        simp only [pre_self] at this
        cases this
    | false =>
      rw [ea, if_neg (by simp)] at h1
      obtain ⟨g1, g2⟩ := keep_inj (p := fun x => m.src.isPrefixOf x) h1
      cases eb : m.dst.isPrefixOf b with
      | true =>
        rw [eb, if_pos rfl] at h2
        obtain ⟨q, rfl, rfl⟩ := movedS_eq eb h2
        simp only [pre_self] at g2
        cases g2
      | false =>
        rw [eb, if_neg (by simp)] at h2
        exact g1.trans (keep_inj (p := fun x => m.src.isPrefixOf x) h2).1.symm
  rw [if_neg k4, if_neg hc] at h1 h2
  exact (Option.some.inj h1).trans (Option.some.inj h2).symm
theorem fromK_inj : ∀ {r : List Ms}, (∀ m ∈ r, m.kind ≠ 5) → ∀ {a b j : Bs}, fromK r a = some j → fromK r b = some j → a = b
  | [], _, a, b, j, h1, h2 => (Option.some.inj h1).trans (Option.some.inj h2).symm
  | m :: r, hc, a, b, j, h1, h2 => by
    unfold fromK at h1 h2
    obtain ⟨x, e1, f1⟩ := Option.bind_eq_some_iff.1 h1
    obtain ⟨y, e2, f2⟩ := Option.bind_eq_some_iff.1 h2
    obtain rfl := fromK_inj (fun z hz => hc z (List.mem_cons_of_mem _ hz)) f1 f2
    exact srcK_inj (hc m List.mem_cons_self) e1 e2
def clonesB (l : List Ms) : Bool := l.any fun m => m.kind == 5
theorem clones_take (l : List Ms) (j : Nat) (h : j < l.length) : clonesB (l.take (j + 1)) = (clonesB (l.take j) || l[j].kind == 5) := by
  unfold clonesB
  rw [List.take_succ_eq_append_getElem h, List.any_append]
  simp
/-- What the law asks of the spans below. -/
theorem spans_law {s : Sp} {l : List Ms} (hv : ∀ m ∈ l, validM m = true) {k : Bs} (hf : (keyF k l).known = false) :
    (if hasB s k then inB (spansF s l) (keyF k l).key else clonesB l || !inB (spansF s l) (keyF k l).key) = true := by
  have hc := (key_from l k hf).1
  split
  · rename_i h
    exact (inB_iff _ _).2 ((spans_in s hv _).2 ⟨k, (hasB_iff _ _).1 h, hc⟩)
  · rename_i h
    cases e : clonesB l with
    | true => rfl
    | false =>
      cases e2 : inB (spansF s l) (keyF k l).key with
      | false => rfl
      | true =>
        obtain ⟨j, h1, h2⟩ := (spans_in s hv _).1 ((inB_iff _ _).1 e2)
        have hn : ∀ m ∈ l.reverse, m.kind ≠ 5 := fun m hm h5 => by
          have : clonesB l = true := List.any_eq_true.2 ⟨m, by simpa using hm, by simp [h5]⟩
          rw [e] at this; cases this
        have : j = k := fromK_inj hn h2 hc
        subst this
        exact absurd ((hasB_iff _ _).2 h1) h
theorem norm_spans {s : Sp} {l : List Ms} (hv : ∀ m ∈ l, validM m = true) : normS (spansF s l) = spansF s l := norm_of (spans_nrm s hv) fun _ => Iff.rfl

/-- The law's key. -/
def keyL (n : Nat) (s : Bs) : Bs := if 200 ≤ n then s else T4.keyS n
theorem keyL_len (n : Nat) (s : Bs) (h : s.length ≤ 60) : (keyL n s).length ≤ 60 := by
  unfold keyL
  split
  · exact h
  · exact Nat.le_trans (T4.keyS_len n) (by omega)
set_option maxRecDepth 100000 in
set_option maxHeartbeats 2000000 in
theorem keyL_w (n : Nat) (s : Bs) (w : World) (hn : n < 256) : Calls Tryz.prog 11 #[.int .u8 n, .string (Str s)] w fun e w' => e = .returned (.string (Str (keyL n s))) ∧ Below w.heap.size w w' := by
  have HK := Lib.hid (T4.key_w n w hn)
  by_cases h : 200 ≤ n
  · have hz : (200 : Int) ≤ (n : Int) := by omega
    have H : Hid (keyL n s = s) := Lib.hid (if_pos h)
    go_enter Tryz.func11, Tryz.ntmps11
    go_wp2
    go_ret
    exact ⟨by rw [H.out]; rfl, Below.refl _ _⟩
  · have hz : ¬ (200 : Int) ≤ (n : Int) := by omega
    have H : Hid (keyL n s = T4.keyS n) := Lib.hid (if_neg h)
    go_enter Tryz.func11, Tryz.ntmps11
    go_wp2_with fail
    refine HK.out.mono ?_
    rintro e1 w1 ⟨rfl, hb⟩
    have HB := Lib.hid hb
    clear hb
    go_wp2
    go_ret
    exact ⟨by rw [H.out]; rfl, HB.out⟩
theorem ret_bool' {a b : Bool} (h : a = b) : Ending.returned (.bool a) = Ending.returned (.bool b) := by rw [h]
end Go.Proofs.YthncnijkgkeohaaGreat
