/-
  Pools, plain: what the steps of a script keep. No program.
-/
import Derived.Test.YtlgangcldlphnaaPV
import Derived.Test.YtlgangcldlphnaaPK
namespace Go.Proofs.Ytlgangcldlphnaa
set_option linter.unusedVariables false

/-- A pool that steps have made, with the roots that are held; j steps at most. -/
structure Good (P : List Sl) (R : List Int) (j : Nat) : Prop where
  fair : Fair P R
  tidy : Tidy P
  acyc : Acyc P
  plen : P.length ≤ j
  rlen : R.length ≤ j
  bare : ∀ i, Bare (atP P i).node
  kids : ∀ i, (atP P i).node.kids.length ≤ 3
  pairs : ∀ i, (atP P i).node.pairs.length ≤ 1
  lost : ∀ i, (atP P i).lost = false
theorem atP_nil (i : Nat) : atP [] i = zSl := by simp [atP]
theorem good_nil (j : Nat) : Good [] [] j :=
  ⟨⟨fun k hk => by simp [kidsA] at hk, fun i hi => by rw [atP_nil] at hi; cases hi⟩, ⟨fun i _ => atP_nil i, fun i hi => by rw [atP_nil] at hi; cases hi⟩, ⟨fun _ => 0, fun i hi => by rw [atP_nil] at hi; cases hi⟩, Nat.zero_le _, Nat.zero_le _, fun i => by rw [atP_nil]; exact bare_zero, fun i => by rw [atP_nil]; exact Nat.zero_le _, fun i => by rw [atP_nil]; exact Nat.zero_le _, fun i => by rw [atP_nil]; rfl⟩
theorem kidsA_len {P : List Sl} (h : ∀ i, (atP P i).node.kids.length ≤ 3) : (kidsA P).length ≤ 3 * P.length := by
  induction P with
  | nil => simp [kidsA]
  | cons x P ih =>
    have h0 := h 0
    have ih := ih (fun i => by have := h (i + 1); simpa [atP] using this)
    have hx : (ownK x).length ≤ 3 := by
      unfold ownK
      split
      · simpa [atP] using h0
      · simp
    unfold kidsA at *
    rw [List.flatMap_cons, List.length_append, List.length_cons]
    omega
theorem Good.mu {P : List Sl} {R : List Int} {j : Nat} (h : Good P R j) (W : List Int) : muP P W ≤ W.length + 3 * j := by
  have := kidsA_len h.kids
  have := h.plen
  unfold muP; omega
theorem Good.refs {P : List Sl} {R : List Int} {j : Nat} (h : Good P R j) (i : Nat) : 0 ≤ (atP P i).refs ∧ (atP P i).refs ≤ 4 * j := by
  by_cases hu : (atP P i).used = true
  · rw [h.fair.cnt i hu]
    have h1 : (R ++ kidsA P).count (i : Int) ≤ (R ++ kidsA P).length := List.count_le_length
    rw [List.length_append] at h1
    have := kidsA_len h.kids
    have := h.plen
    have := h.rlen
    omega
  · rw [h.tidy.clean i (by simpa using hu)]
    show (0 : Int) ≤ 0 ∧ (0 : Int) ≤ 4 * j
    omega
theorem kidsA_held {Q : List Sl} {ks : List Int} (hk : ∀ k ∈ ks, 0 ≤ k ∧ k.toNat < Q.length) : kidsA (heldP Q ks) = kidsA Q :=
  kidsA_congr (heldP_len _ _) fun i => by rw [atP_heldP hk]; rfl
theorem kidsA_push (P : List Sl) : kidsA (P ++ [zSl]) = kidsA P := by
  unfold kidsA; rw [List.flatMap_append]; simp [ownK, zSl]
theorem kidsA_place (P : List Sl) (n : Nd) : (kidsA (placeP P n)).Perm (kidsA P ++ n.kids) := by
  unfold placeP
  have hle := freeI_le P
  split
  · have h := kidsA_set (P := P ++ [zSl]) (k := freeI P) (by simp; omega) ⟨true, false, 1, n⟩
    rw [kidsA_push, atP_push] at h
    have e : ownK (atP P (freeI P)) = [] := by unfold ownK; rw [freeI_used]; rfl
    rw [e, List.append_nil] at h
    exact h
  · have h := kidsA_set (P := P) (k := freeI P) (by omega) ⟨true, false, 1, n⟩
    have e : ownK (atP P (freeI P)) = [] := by unfold ownK; rw [freeI_used]; rfl
    rw [e, List.append_nil] at h
    exact h
theorem Fair.unused {P : List Sl} {W : List Int} (h : Fair P W) {i : Nat} (hu : (atP P i).used = false) : (W ++ kidsA P).count (i : Int) = 0 := by
  rw [List.count_eq_zero]
  intro hm
  have := h.all _ hm
  rw [usedB_nat, hu] at this; cases this
/-- A node is added: its kids are held. -/
theorem good_add {P : List Sl} {R : List Int} {j : Nat} {n : Nd} (h : Good P R j) (hn : ∀ k ∈ n.kids, k ∈ R) (hk : n.kids.length ≤ 3) (hb : Bare n) (hp : n.pairs.length ≤ 1) : Good (heldP (placeP P n) n.kids) (R ++ [((freeI P : Nat) : Int)]) (j + 1) := by
  have hku : ∀ k ∈ n.kids, usedB P k = true := fun k hk => h.fair.all k (List.mem_append_left _ (hn k hk))
  have hlen := placeP_len P n
  have hlp : P.length ≤ (placeP P n).length := by rw [hlen]; split <;> omega
  have hks : ∀ k ∈ n.kids, 0 ≤ k ∧ k.toNat < (placeP P n).length := fun k hk => by
    have := usedB_lt (hku k hk)
    exact ⟨this.1, by omega⟩
  have hat := fun i => atP_heldP hks i
  have hpl := fun i => atP_placeP P n i
  have hf0 := freeI_used P
  have hcf := h.fair.unused hf0
  rw [List.count_append] at hcf
  have hK : (kidsA (heldP (placeP P n) n.kids)).Perm (kidsA P ++ n.kids) := by rw [kidsA_held hks]; exact kidsA_place P n
  have hused : ∀ i, (atP (heldP (placeP P n) n.kids) i).used = if i = freeI P then true else (atP P i).used := fun i => by
    rw [hat, hpl]; split <;> rfl
  have hup : ∀ k, usedB P k = true → usedB (heldP (placeP P n) n.kids) k = true := fun k hk => by
    rw [usedB_iff] at hk ⊢
    refine ⟨hk.1, ?_⟩
    rw [hused]; split
    · rfl
    · exact hk.2
  have hnf : ∀ k, usedB P k = true → k.toNat ≠ freeI P := fun k hk e => by
    have := (usedB_iff.1 hk).2
    rw [e, hf0] at this; cases this
  refine ⟨⟨fun k hk => ?_, fun i hi => ?_⟩, ⟨fun i hi => ?_, fun i hi => ?_⟩, ?_, ?_, ?_, fun i => ?_, fun i => ?_, fun i => ?_, fun i => ?_⟩
  · rcases List.mem_append.1 hk with h1 | h1
    · rcases List.mem_append.1 h1 with h2 | h2
      · exact hup k (h.fair.all k (List.mem_append_left _ h2))
      · have : k = ((freeI P : Nat) : Int) := by simpa using h2
        subst this
        rw [usedB_nat, hused, if_pos rfl]
    · rcases List.mem_append.1 (hK.mem_iff.1 h1) with h2 | h2
      · exact hup k (h.fair.all k (List.mem_append_right _ h2))
      · exact hup k (hku k h2)
  · rw [hat, hpl]
    have hc : (R ++ [((freeI P : Nat) : Int)] ++ kidsA (heldP (placeP P n) n.kids)).count (i : Int) = R.count (i : Int) + (if freeI P = i then 1 else 0) + ((kidsA P).count (i : Int) + n.kids.count (i : Int)) := by
      rw [List.count_append, List.count_append, hK.count_eq, List.count_append, List.count_singleton]
      by_cases e : freeI P = i
      · subst e; simp
      · have : (((freeI P : Nat) : Int) == (i : Int)) = false := by simp; omega
        simp [this, e]
    rw [hc]
    by_cases e : i = freeI P
    · subst e
      simp only [if_true, moreS]
      omega
    · have e2 : ¬ freeI P = i := fun h => e h.symm
      rw [hused, if_neg e] at hi
      have := h.fair.cnt i hi
      rw [List.count_append] at this
      rw [if_neg e, if_neg e2]
      show (atP P i).refs + _ = _
      rw [this]; omega
  · rw [hused] at hi
    split at hi
    · cases hi
    · rename_i e
      rw [hat, hpl, if_neg e, h.tidy.clean i hi]
      have : n.kids.count (i : Int) = 0 := by
        rw [List.count_eq_zero]
        intro hm
        have := hku _ hm
        rw [usedB_nat, hi] at this; cases this
      rw [this]; rfl
  · rw [hused] at hi
    rw [hat, hpl]
    split at hi
    · rename_i e
      rw [if_pos e]
      show 1 ≤ (1 : Int) + _
      omega
    · rename_i e
      rw [if_neg e]
      have := h.tidy.pos i hi
      show 1 ≤ (atP P i).refs + _
      omega
  · obtain ⟨rk, hrk⟩ := h.acyc
    obtain ⟨m, hm⟩ := bound_all rk P.length
    refine ⟨fun i => if i = freeI P then m else rk i, fun i hi k hk hu => ?_⟩
    show (if k.toNat = freeI P then m else rk k.toNat) < (if i = freeI P then m else rk i)
    rw [hat, hpl] at hk
    rw [hused] at hi
    by_cases e : i = freeI P
    · rw [if_pos e] at hk ⊢
      have hk : k ∈ n.kids := hk
      rw [if_neg (hnf k (hku k hk))]
      exact hm _ (usedB_lt (hku k hk)).2
    · rw [if_neg e] at hk hi ⊢
      have hk : k ∈ (atP P i).node.kids := hk
      have hu2 := h.fair.all k (List.mem_append_right _ (mem_kidsA.2 ⟨i, hi, hk⟩))
      rw [if_neg (hnf k hu2)]
      exact hrk i hi k hk hu2
  · rw [heldP_len, hlen]
    have := h.plen
    split <;> omega
  · have := h.rlen
    simp; omega
  · rw [hat, hpl]; split
    · exact hb
    · exact h.bare i
  · rw [hat, hpl]; split
    · exact hk
    · exact h.kids i
  · rw [hat, hpl]; split
    · exact hp
    · exact h.pairs i
  · rw [hat, hpl]; split
    · rfl
    · exact h.lost i
theorem Good.mono {P : List Sl} {R : List Int} {j k : Nat} (h : Good P R j) (hk : j ≤ k) : Good P R k :=
  ⟨h.fair, h.tidy, h.acyc, Nat.le_trans h.plen hk, Nat.le_trans h.rlen hk, h.bare, h.kids, h.pairs, h.lost⟩
/-- A root is held once more. -/
theorem good_hold {P : List Sl} {R : List Int} {j : Nat} {k : Int} (h : Good P R j) (hk : k ∈ R) : Good (incP P k) (R ++ [k]) (j + 1) := by
  have hu := h.fair.all k (List.mem_append_left _ hk)
  have hl := usedB_lt hu
  have hat := fun i => atP_incP hl.2 i
  have hK : kidsA (incP P k) = kidsA P := kidsA_congr (incP_len _ _) fun i => by rw [hat]; split <;> rfl
  have hused : ∀ i, (atP (incP P k) i).used = (atP P i).used := fun i => by rw [hat]; split <;> rfl
  have hnode : ∀ i, (atP (incP P k) i).node = (atP P i).node := fun i => by rw [hat]; split <;> rfl
  have husB : ∀ i, usedB (incP P k) i = usedB P i := fun i => by unfold usedB; rw [hused]
  refine ⟨⟨fun i hi => ?_, fun i hi => ?_⟩, ⟨fun i hi => ?_, fun i hi => ?_⟩, ?_, ?_, ?_, fun i => ?_, fun i => ?_, fun i => ?_, fun i => ?_⟩
  · rw [husB]
    rw [hK] at hi
    refine h.fair.all i ?_
    rcases List.mem_append.1 hi with h1 | h1
    · rcases List.mem_append.1 h1 with h2 | h2
      · exact List.mem_append_left _ h2
      · have : i = k := by simpa using h2
        subst this; exact List.mem_append_left _ hk
    · exact List.mem_append_right _ h1
  · rw [hused] at hi
    have hc := h.fair.cnt i hi
    rw [hK, List.append_assoc, List.count_append, List.count_append, List.count_singleton, hat]
    rw [List.count_append] at hc
    by_cases e : i = k.toNat
    · have : (k == (i : Int)) = true := by simp; omega
      rw [if_pos e, this]
      show (atP P i).refs + 1 = _
      rw [hc]; simp; omega
    · have : (k == (i : Int)) = false := by simp; omega
      rw [if_neg e, this, hc]; simp
  · rw [hused] at hi
    have hc := h.tidy.clean i hi
    rw [hat, if_neg]
    · exact hc
    · rintro e
      rw [e, (usedB_iff.1 hu).2] at hi; cases hi
  · rw [hused] at hi
    have hc := h.tidy.pos i hi
    rw [hat]; split
    · show 1 ≤ (atP P i).refs + 1
      omega
    · exact hc
  · obtain ⟨rk, hrk⟩ := h.acyc
    exact ⟨rk, fun i hi q hq hu => hrk i (by rw [← hused]; exact hi) q (by rw [← hnode]; exact hq) (by rw [← husB]; exact hu)⟩
  · rw [incP_len]; have := h.plen; omega
  · have := h.rlen; simp; omega
  · rw [hnode]; exact h.bare i
  · rw [hnode]; exact h.kids i
  · rw [hnode]; exact h.pairs i
  · rw [hat]; split
    · exact h.lost i
    · exact h.lost i
/-- A root is dropped. -/
theorem good_dr {P Q : List Sl} {R X W : List Int} {j : Nat} (h : Good P R j) (hd : DR P W Q) (hp : R.Perm (W ++ X)) : Good Q X j := by
  have hl := hd.less
  have hf := hd.fair (h.fair.perm hp)
  have ht := hd.tidy h.tidy
  have hn : ∀ i, (atP Q i).node = (atP P i).node ∨ atP Q i = zSl := fun i => by
    by_cases hu : (atP Q i).used = true
    · exact .inl (hl.2 i hu).2.2
    · exact .inr (ht.clean i (by simpa using hu))
  refine ⟨hf, ht, h.acyc.less hl, ?_, ?_, fun i => ?_, fun i => ?_, fun i => ?_, fun i => ?_⟩
  · rw [← hl.1]; exact h.plen
  · have := hp.length_eq
    have := h.rlen
    rw [List.length_append] at *
    omega
  · rcases hn i with e | e
    · rw [e]; exact h.bare i
    · rw [e]; exact bare_zero
  · rcases hn i with e | e
    · rw [e]; exact h.kids i
    · rw [e]; exact Nat.zero_le _
  · rcases hn i with e | e
    · rw [e]; exact h.pairs i
    · rw [e]; exact Nat.zero_le _
  · by_cases hu : (atP Q i).used = true
    · rw [(hl.2 i hu).2.1]; exact h.lost i
    · rw [ht.clean i (by simpa using hu)]; rfl
theorem roots_perm {R : List Int} {k : Nat} (h : k < R.length) : R.Perm ([R.getD k 0] ++ (R.take k ++ R.drop (k + 1))) := by
  have e : R = R.take k ++ R[k] :: R.drop (k + 1) := by rw [List.getElem_cons_drop, List.take_append_drop]
  have e2 : R.getD k 0 = R[k] := by rw [List.getD_eq_getElem?_getD, List.getElem?_eq_getElem h]; rfl
  rw [e2]
  conv => lhs; rw [e]
  exact List.perm_middle
/-- A step: the pool, the roots. -/
def stepX (P : List Sl) (R : List Int) (x : R4) : List Sl × List Int :=
  if x.x0 % 8 < 5 ∨ R.length = 0 then ((addP P (nodeX x R)).1, R ++ [(addP P (nodeX x R)).2.1])
  else if x.x0 % 8 = 5 then ((holdP P (R.getD (x.x1 % R.length) 0)).1, R ++ [R.getD (x.x1 % R.length) 0])
  else ((rdropP P (R.getD (x.x1 % R.length) 0)).1, R.take (x.x1 % R.length) ++ R.drop (x.x1 % R.length + 1))
theorem add_yes {P : List Sl} {R : List Int} {j : Nat} {n : Nd} (h : Good P R j) (hn : ∀ k ∈ n.kids, k ∈ R) (hj : j < 4096) : addP P n = (heldP (placeP P n) n.kids, ((freeI P : Nat) : Int), 0) := by
  unfold addP
  rw [if_pos, if_neg]
  · have := freeI_le P; have := h.plen; omega
  · exact List.all_eq_true.2 fun k hk => h.fair.all k (List.mem_append_left _ (hn k hk))
theorem nodeX_pairs (x : R4) (R : List Int) : (nodeX x R).pairs.length ≤ 1 := by
  unfold nodeX; simp only; split <;> simp
theorem good_step {P : List Sl} {R : List Int} {j : Nat} {x : R4} (h : Good P R j) (hj : j < 4096) : Good (stepX P R x).1 (stepX P R x).2 (j + 1) := by
  unfold stepX
  split
  · rw [add_yes h (fun k hk => kidsX_mem k hk) hj]
    exact good_add h (fun k hk => kidsX_mem k hk) (kidsX_len x R) (bare_nodeX x R) (nodeX_pairs x R)
  · rename_i hc
    have hp : 0 < R.length := by omega
    have hk : x.x1 % R.length < R.length := Nat.mod_lt _ hp
    have hm : R.getD (x.x1 % R.length) 0 ∈ R := by
      rw [List.getD_eq_getElem?_getD, List.getElem?_eq_getElem hk]; exact List.getElem_mem hk
    have hu := h.fair.all _ (List.mem_append_left _ hm)
    split
    · unfold holdP
      rw [if_pos hu]
      exact good_hold h hm
    · unfold rdropP
      rw [if_pos hu]
      exact (good_dr h (runQ_dr _ _ _ (Nat.le_refl _)) (roots_perm hk)).mono (Nat.le_succ j)
def playX (l : List R4) : List Sl × List Int := l.foldl (fun h x => stepX h.1 h.2 x) ([], [])
theorem playX_snoc (l : List R4) (x : R4) : playX (l ++ [x]) = stepX (playX l).1 (playX l).2 x := by unfold playX; rw [List.foldl_append]; rfl
theorem good_fold : ∀ (l : List R4) (P : List Sl) (R : List Int) (j : Nat), Good P R j → j + l.length < 4096 → Good (l.foldl (fun h x => stepX h.1 h.2 x) (P, R)).1 (l.foldl (fun h x => stepX h.1 h.2 x) (P, R)).2 (j + l.length)
  | [], P, R, j, h, hj => h
  | x :: l, P, R, j, h, hj => by
    have h1 := good_step (x := x) h (by omega)
    have h2 := good_fold l _ _ (j + 1) h1 (by simp at hj; omega)
    rw [List.length_cons, show j + (l.length + 1) = j + 1 + l.length by omega]
    exact h2
theorem good_play (l : List R4) (hl : l.length < 4096) : Good (playX l).1 (playX l).2 l.length := by
  have := good_fold l [] [] 0 (good_nil 0) (by omega)
  rw [Nat.zero_add] at this
  exact this

end Go.Proofs.Ytlgangcldlphnaa
