/-
  Plain: what the law PoolRefuses asks; contracts at pools of scripts.
-/
import Derived.Test.YtlgangcldlphnaaQC
namespace Go.Proofs.Ytlgangcldlphnaa
open Go.RowKit Go.Sort
set_option linter.unusedVariables false
set_option maxRecDepth 100000

theorem no_add {P : List Sl} {k : Int} (h : usedB P k = false) : addP P (ndK [k]) = (P, 0, 110) := by
  unfold addP
  rw [if_neg]
  simp [ndK, h]
theorem no_get {P : List Sl} {k : Int} (h : usedB P k = false) : (getP P k).2 = 110 := by unfold getP; rw [if_neg (by rw [h]; simp)]
theorem no_hold {P : List Sl} {k : Int} (h : usedB P k = false) : holdP P k = (P, 110) := by unfold holdP; rw [if_neg (by rw [h]; simp)]
theorem no_drop {P : List Sl} {k : Int} (h : usedB P k = false) : dropP P k = (P, 110) := by unfold dropP; rw [if_neg (by rw [h]; simp)]
theorem far_unused (P : List Sl) {k : Int} (h : 0 ≤ k) : usedB P ((P.length : Int) + k) = false := by
  unfold usedB
  rw [atP_ge (by omega)]
  simp [zSl]
/-- The full pool. -/
def one : Sl := fx 1 []
def qF (n : Nat) : List Sl := List.replicate n one
theorem qF_len (n : Nat) : (qF n).length = n := List.length_replicate
theorem qF_snoc (n : Nat) : qF (n + 1) = qF n ++ [one] := List.replicate_succ'
theorem atP_qF {n i : Nat} (h : i < n) : atP (qF n) i = one := by rw [atP_lt (by rw [qF_len]; exact h)]; simp [qF]
theorem free_qF (n : Nat) : freeI (qF n) = n := by
  have h := freeI_le (qF n)
  rw [qF_len] at h
  rcases Nat.lt_or_ge (freeI (qF n)) n with h1 | h1
  · have h2 := freeI_used (qF n)
    rw [atP_qF h1] at h2
    cases h2
  · omega
theorem full_add : addP (qF 4096) (ndK []) = (qF 4096, 0, 111) := by
  unfold addP
  rw [if_pos (show (ndK []).kids.all (usedB (qF 4096)) = true from rfl), if_pos (by rw [free_qF, qF_len]; omega)]
theorem kidsA_flat (P : List Sl) (h : ∀ s ∈ P, ownK s = []) : kidsA P = [] := by
  unfold kidsA
  exact List.flatMap_eq_nil_iff.2 h
theorem mu_qF (n : Nat) (i : Int) : muP (qF n) [i] = 1 := by
  unfold muP
  rw [kidsA_flat _ (fun s hs => by rw [List.eq_of_mem_replicate hs]; rfl)]; rfl
theorem full_drop : dropP (qF 4096) 77 = ((qF 4096).set 77 zSl, 0) := by
  have hu : usedB (qF 4096) 77 = true := by
    rw [show (77 : Int) = ((77 : Nat) : Int) from rfl, usedB_nat, atP_qF (by omega)]; rfl
  unfold dropP
  rw [if_pos hu, mu_qF]
  have e : atP (qF 4096) 77 = one := atP_qF (by omega)
  show (runL 1 (qF 4096) [77], 0) = _
  unfold runL
  show ((if usedB (qF 4096) 77 = true then runL 0 (decP (qF 4096) 77) _ else _), (0 : Int)) = _
  rw [if_pos hu]
  unfold runL decP
  rw [show ((77 : Int)).toNat = 77 from rfl, e]
  rfl
theorem full_far : usedB (qF 4096) 4096 = false := by
  have := far_unused (qF 4096) (k := 0) (by omega)
  rw [qF_len] at this
  exact this
theorem free_hole : freeI ((qF 4096).set 77 zSl) = 77 := by
  have hl : ((qF 4096).set 77 zSl).length = 4096 := by rw [List.length_set, qF_len]
  have hat := fun i => atP_set (P := qF 4096) (k := 77) (s := zSl) i (by rw [qF_len]; omega)
  have h0 := freeI_used ((qF 4096).set 77 zSl)
  rw [hat] at h0
  have hle := freeI_le ((qF 4096).set 77 zSl)
  rw [hl] at hle
  rcases Nat.lt_or_ge 77 (freeI ((qF 4096).set 77 zSl)) with h1 | h1
  · have h2 := freeI_before (P := (qF 4096).set 77 zSl) (i := 77) h1
    rw [hat, if_pos rfl] at h2
    cases h2
  · split at h0
    · assumption
    · rw [atP_qF (by omega)] at h0
      cases h0
theorem hole_add : (addP ((qF 4096).set 77 zSl) (ndK [])).2.1 = 77 := by
  have hl : ((qF 4096).set 77 zSl).length = 4096 := by rw [List.length_set, qF_len]
  unfold addP
  rw [if_pos (show (ndK []).kids.all (usedB ((qF 4096).set 77 zSl)) = true from rfl), if_neg (by rw [free_hole]; omega)]
  show ((freeI ((qF 4096).set 77 zSl) : Nat) : Int) = 77
  rw [free_hole]; rfl
/-- A pool as great as a script's, or a full one. -/
structure Mid (P : List Sl) : Prop where
  len : P.length ≤ 4096
  refs : ∀ i, 0 ≤ (atP P i).refs ∧ (atP P i).refs ≤ 1000
  mu : ∀ i, muP P [i] ≤ 10000
theorem Good.mid {P : List Sl} {R : List Int} (h : Good P R 16) : Mid P :=
  ⟨by have := h.plen; omega, fun i => by have := h.refs i; omega, fun i => by have := h.mu [i]; simp at this; omega⟩
theorem one_refs (s : Sl) (h : s = one ∨ s = zSl) : 0 ≤ s.refs ∧ s.refs ≤ 1000 := by rcases h with rfl | rfl <;> decide
theorem mid_of {P : List Sl} (hl : P.length ≤ 4096) (h : ∀ s ∈ P, s = one ∨ s = zSl) : Mid P :=
  ⟨hl, fun i => one_refs _ (by
    rcases Nat.lt_or_ge i P.length with hi | hi
    · rw [atP_lt hi]; exact h _ (List.getElem_mem hi)
    · exact .inr (atP_ge hi)), fun i => by
    unfold muP
    rw [kidsA_flat P (fun s hs => by rcases h s hs with rfl | rfl <;> rfl)]
    simp⟩
theorem mid_full : Mid (qF 4096) := mid_of (by rw [qF_len]; omega) fun s hs => .inl (List.eq_of_mem_replicate hs)
theorem mid_hole : Mid ((qF 4096).set 77 zSl) := mid_of (by rw [List.length_set, qF_len]; omega) fun s hs => by
  rcases List.mem_or_eq_of_mem_set hs with h | h
  · exact .inl (List.eq_of_mem_replicate h)
  · exact .inr h
theorem m_add {v nv : Value} {P : List Sl} {l : List Int} {w : World} (ht : Mid P) (hl : l.length ≤ 100) (h : IsSlots w v P) (hn : IsNode w nv (ndK l)) :
    Calls Try.prog 15 #[poolV v, nv] w fun e w' => GivesP w w' (fun x => .agg #[x, .int .i64 (addP P (ndK l)).2.1, .int .i64 (addP P (ndK l)).2.2]) e (addP P (ndK l)).1 :=
  (ladd_w v nv P (ndK l) w h hn ht.len (by show l.length ≤ _; omega) (fun i _ => by have := ht.refs i; omega)).mono fun e w' ⟨v', h1, h2, h3⟩ => by
    obtain ⟨a, c, rfl, -⟩ := h2.slice
    exact ⟨a, c, h1, h2, h3⟩
theorem m_drop {v : Value} {P : List Sl} {i : Int} {w : World} (ht : Mid P) (h : IsSlots w v P) :
    Calls Try.prog 28 #[poolV v, .int .i64 i] w fun e w' => GivesP w w' (fun x => .tuple #[poolV x, .int .i64 (dropP P i).2]) e (dropP P i).1 :=
  (drop_w v P i w w h.slF (Below.refl _ _) (by have := ht.len; omega) (by have := ht.mu i; omega) (fun i => by have := ht.refs i; omega)).mono fun e w' ⟨v', h1, h2⟩ => by
    have h3 := h2.sl.slots h2.bel
    obtain ⟨a, c, rfl, -⟩ := h3.slice
    exact ⟨a, c, h1, h3, h2.bel⟩
theorem m_hold {v : Value} {P : List Sl} {i : Int} {w : World} (ht : Mid P) (h : IsSlots w v P) :
    Calls Try.prog 21 #[poolV v, .int .i64 i] w fun e w' => GivesP w w' (fun x => .tuple #[poolV x, .int .i64 (holdP P i).2]) e (holdP P i).1 :=
  (hold_w v P i w w h.slF (Below.refl _ _) (by have := ht.len; omega) (fun _ => by have := ht.refs i.toNat; omega)).mono fun e w' ⟨v', h1, h2⟩ => by
    have h3 := h2.sl.slots h2.bel
    obtain ⟨a, c, rfl, -⟩ := h3.slice
    exact ⟨a, c, h1, h3, h2.bel⟩
theorem n_add {v nv : Value} {P : List Sl} {k : Int} {w : World} (hu : usedB P k = false) (ht : Mid P) (h : IsSlots w v P) (hn : IsNode w nv (ndK [k])) :
    Calls Try.prog 15 #[poolV v, nv] w fun e w' => GivesP w w' (fun x => .agg #[x, .int .i64 0, .int .i64 110]) e P := by
  have := m_add ht (by simp) h hn
  rw [no_add hu] at this
  exact this
theorem n_hold {v : Value} {P : List Sl} {i : Int} {w : World} (hu : usedB P i = false) (ht : Mid P) (h : IsSlots w v P) :
    Calls Try.prog 21 #[poolV v, .int .i64 i] w fun e w' => GivesP w w' (fun x => .tuple #[poolV x, .int .i64 110]) e P := by
  have := m_hold (i := i) ht h
  rw [no_hold hu] at this
  exact this
theorem n_drop {v : Value} {P : List Sl} {i : Int} {w : World} (hu : usedB P i = false) (ht : Mid P) (h : IsSlots w v P) :
    Calls Try.prog 28 #[poolV v, .int .i64 i] w fun e w' => GivesP w w' (fun x => .tuple #[poolV x, .int .i64 110]) e P := by
  have := m_drop (i := i) ht h
  rw [no_drop hu] at this
  exact this
/-- The full pool, one slot of which is free again. -/
def qH : List Sl := (qF 4096).set 77 zSl
theorem f_drop {v : Value} {w : World} (h : IsSlots w v (qF 4096)) :
    Calls Try.prog 28 #[poolV v, .int .i64 77] w fun e w' => GivesP w w' (fun x => .tuple #[poolV x, .int .i64 0]) e qH := by
  have := m_drop (i := 77) mid_full h
  rw [full_drop] at this
  exact this
theorem f_add {v nv : Value} {w : World} (h : IsSlots w v (qF 4096)) (hn : IsNode w nv (ndK [])) :
    Calls Try.prog 15 #[poolV v, nv] w fun e w' => GivesP w w' (fun x => .agg #[x, .int .i64 0, .int .i64 111]) e (qF 4096) := by
  have := m_add mid_full (by decide) h hn
  rw [full_add] at this
  exact this
theorem h_add {v nv : Value} {w : World} (h : IsSlots w v qH) (hn : IsNode w nv (ndK [])) :
    Calls Try.prog 15 #[poolV v, nv] w fun e w' => ∃ a n c er, e = .returned (.agg #[.slice a n c, .int .i64 77, .int .i64 er]) ∧ Below w.heap.size w w' :=
  (m_add mid_hole (by decide) h hn).mono fun e w' ⟨a, c, h1, h2, h3⟩ => by
    rw [hole_add] at h1
    exact ⟨a, _, c, _, h1, h3⟩

/-- A slot that is appended to a row: the row's slots are all alike, and have no lists. -/
def oneSv : Sv := ⟨true, false, 1, (none, 0, 0), (none, 0, 0), (none, 0, 0), (none, 0, 0), (none, 0, 0)⟩
theorem isSl_one (w : World) : IsSl w oneSv one := ⟨rfl, rfl, rfl, IsPairs.nil w, IsStrs.nil w, IsInts.nil w, IsSums.nil w, IsMsgs.nil' w⟩
theorem atP_snoc (P : List Sl) (s : Sl) (i : Nat) : atP (P ++ [s]) i = if i = P.length then s else atP P i := by
  rcases Nat.lt_trichotomy i P.length with h | h | h
  · rw [if_neg (by omega), atP_lt h, atP_lt (by simp; omega), List.getElem_append_left h]
  · subst h; rw [if_pos rfl, atP_lt (by simp)]; simp
  · rw [if_neg (by omega), atP_ge (P := P) (by omega), atP_ge (P := P ++ [s]) (by rw [List.length_append, List.length_singleton]; omega)]
theorem AllSl.snoc {w : World} {L : List Sv} {P : List Sl} {v : Sv} {s : Sl} (h : AllSl w L P) (hs : IsSl w v s) : AllSl w (L ++ [v]) (P ++ [s]) :=
  ⟨by simp [h.1], fun i => by
    rw [atP_snoc, atV_push, h.1]
    split
    · exact hs
    · exact h.2 i⟩
theorem append_oneG {w0 w : World} {ops : Array Oper} {rest : List Oper} {o : Oper} {a : Act} {Q : Exit → Act → World → Prop} (hgd : o.guard = none) (s x : Operand)
    (ho : o.op = .call { callee := .builtin .append, args := #[s, x], argTypes := #[27, 27] }) (base : Nat) (v : Value) (P : List Sl) (hs : a.eval s = v) (hown : OwnF w0 w base v P)
    (nb : Nat) (hx : a.eval x = .slice (some ⟨nb, 0, none⟩) 1 1) (hnb : nb = w.heap.size) (hl : P.length ≤ 1000000) (hbase : base ≤ w.heap.size)
    (h : ∀ v' w' R, R = P ++ [one] → OwnF w0 w' base v' R → (w.alloc (.cells #[.bool true, .bool false, .int .i64 1, .slice none 0 0, .slice none 0 0, .slice none 0 0, .slice none 0 0, .slice none 0 0] 61)).grownBy w' v.ownBlock → wpList Try.prog ops Q rest (a.put o.dst v') w') : wpList Try.prog ops Q (o :: rest) a (w.alloc (.cells #[.bool true, .bool false, .int .i64 1, .slice none 0 0, .slice none 0 0, .slice none 0 0, .slice none 0 0, .slice none 0 0] 61)) := by
  subst hnb
  obtain ⟨L, hL, hrow⟩ := hown
  obtain ⟨i0, hi, hz0, hz1, hz2⟩ := info_parts infoSl
  have hB : Blk (w.alloc (.cells #[.bool true, .bool false, .int .i64 1, .slice none 0 0, .slice none 0 0, .slice none 0 0, .slice none 0 0, .slice none 0 0] 61)) w.heap.size 61 (encV oneSv).toArray := Blk.new _ _ _
  refine wpList_append_own _ hgd s x 27 ho base 61 i0 (.agg #[.bool false, .bool false, .int .i64 0, .slice none 0 0, .slice none 0 0, .slice none 0 0, .slice none 0 0, .slice none 0 0]) 8 136 Try.underlying27 hi hz0 hz1 hz2 rfl (by decide) v P.length (L.flatMap encV) hs (hrow.alloc _) ⟨w.heap.size, 0, none⟩ 1 1 (encV oneSv) hx rfl ?_ (encV_one oneSv) (by unfold maxLen; omega) (by omega) (by simp; omega) ?_
  · refine cells_at fun j u hj => ?_
    rw [hB.cell]
    simpa using hj
  · intro v' w' h1 h2 _
    refine h v' w' _ rfl ⟨L ++ [oneSv], hL.snoc (isSl_one w0), ?_⟩ h2
    rw [List.length_append, List.flatMap_append]
    simpa using h1

end Go.Proofs.Ytlgangcldlphnaa
