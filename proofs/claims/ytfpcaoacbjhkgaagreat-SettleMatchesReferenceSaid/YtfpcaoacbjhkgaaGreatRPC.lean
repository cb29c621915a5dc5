/-
  Plain facts for the laws of package route: effects of what goes and of what stays, parts, the first message, numbers. No program.
-/
import Derived.Test.YtfpcaoacbjhkgaaGreatRPB
namespace Go.Proofs.YtfpcaoacbjhkgaaGreat
set_option linter.unusedVariables false

theorem setSp_kind (m : Ms) (s : Sp) : (setSp m s).kind = m.kind := rfl
theorem writes_sp {m : Ms} (h : hasSpB m = true) : writesS m = [(m.lo, m.hi)] := by
  unfold writesS
  rcases (hasSp_iff m).1 h with h | h <;> simp [h]
theorem writes_set {m : Ms} (h : hasSpB m = true) (s : Sp) : writesS (setSp m s) = [s] := by
  have h2 : hasSpB (setSp m s) = true := h
  rw [writes_sp h2]; rfl
/-- What only writes reads nothing else. -/
theorem touch_plain {m : Ms} (h : movesB m = false) (k : Bs) : inB (touchS m) k = inB (writesS m) k := by
  unfold touchS
  rw [inB_append]
  by_cases h6 : m.kind = 6
  · have e : readsS m = writesS m := by unfold readsS writesS; simp [h6]
    rw [e]; simp
  · have e : readsS m = [] := by
      have h4 : ¬ m.kind = 4 := fun e => by rw [(moves_iff m).2 (.inl e)] at h; cases h
      have h5 : ¬ m.kind = 5 := fun e => by rw [(moves_iff m).2 (.inr e)] at h; cases h
      unfold readsS; rw [if_neg h4, if_neg h5, if_neg h6]
    rw [e]; rfl
theorem touch_sp {m : Ms} (h : hasSpB m = true) (s : Sp) (k : Bs) : inB (touchS (setSp m s)) k = hasB s k := by
  have hm : movesB (setSp m s) = false := by
    cases e : movesB (setSp m s) with
    | false => rfl
    | true => have := moves_no_sp e; rw [show hasSpB (setSp m s) = hasSpB m from rfl, h] at this; cases this
  rw [touch_plain hm, writes_set h, inB_one]
theorem only_writes {m : Ms} (h : movesB m = false) {s : Sp} (hm : meetB s (writesS m) = true) (k : Bs) : inB (writesS (onlyS m s)) k = (inB (writesS m) k && hasB s k) := by
  unfold onlyS
  cases hsp : hasSpB m with
  | true => rw [if_pos rfl, writes_set hsp, writes_sp hsp, inB_one, inB_one, meet_hasB]
  | false =>
    rw [if_neg (by simp)]
    obtain ⟨j, h1, h2⟩ := (meet_iff s _).1 hm
    cases e : inB (writesS m) k with
    | false => rfl
    | true =>
      have hone : ∃ key, writesS m = [oneS key] ∨ writesS m = [] := by
        unfold writesS
        have h3 : ¬ m.kind = 3 := fun e => by rw [(hasSp_iff m).2 (.inl e)] at hsp; cases hsp
        have h6 : ¬ m.kind = 6 := fun e => by rw [(hasSp_iff m).2 (.inr e)] at hsp; cases hsp
        have h4 : ¬ m.kind = 4 := fun e => by rw [(moves_iff m).2 (.inl e)] at h; cases h
        have h5 : ¬ m.kind = 5 := fun e => by rw [(moves_iff m).2 (.inr e)] at h; cases h
        refine ⟨m.key, ?_⟩
        split
        · exact .inl rfl
        split
        · exact .inl rfl
        exact .inr rfl
      obtain ⟨key, hw | hw⟩ := hone
      · rw [hw, inB_one, has_one] at h1 e
        rw [beq_iff_eq] at h1 e
        subst h1 e
        rw [h2]; rfl
      · rw [hw] at e; cases e
theorem only_touch {m : Ms} (h : movesB m = false) {s : Sp} (hm : meetB s (writesS m) = true) (k : Bs) : inB (touchS (onlyS m s)) k = (inB (writesS m) k && hasB s k) := by
  have hm2 : movesB (onlyS m s) = false := by
    have := only_kind m s
    unfold movesB at h ⊢; rw [this]; exact h
  rw [touch_plain hm2, only_writes h hm]
theorem mem_rest' {m o : Ms} {s : Sp} (h : o ∈ restR m s) : hasSpB m = true ∧ ∃ x ∈ minusS [(m.lo, m.hi)] [s], o = setSp m x := by
  unfold restR at h
  cases hsp : hasSpB m with
  | false => rw [hsp, if_neg (by simp)] at h; cases h
  | true =>
    rw [hsp, if_pos rfl] at h
    obtain ⟨x, hx, rfl⟩ := List.mem_map.1 h
    exact ⟨rfl, x, hx, rfl⟩
theorem rest_touch {m o : Ms} {s : Sp} (h : o ∈ restR m s) {k : Bs} (hk : inB (touchS o) k = true) : hasB s k = false := by
  obtain ⟨hsp, x, hx, rfl⟩ := mem_rest' h
  rw [touch_sp hsp] at hk
  have := (minus_in [(m.lo, m.hi)] [s] k).1 ⟨x, hx, (hasB_iff _ _).1 hk⟩
  have h2 := this.2
  rw [← inB_iff, inB_one] at h2
  simpa using h2
theorem restR_len (m : Ms) (s : Sp) : (restR m s).length ≤ 2 := by
  unfold restR
  split
  · rw [List.length_map]
    have h := sweep_length (srt (evs 0 [(m.lo, m.hi)] ++ evs 1 [s])) 0 0 false []
    have hp : (srt (evs 0 [(m.lo, m.hi)] ++ evs 1 [s])).length ≤ 4 := by
      rw [(srt_perm _).length_eq, List.length_append]
      have := evs_length 0 [(m.lo, m.hi)]
      have := evs_length 1 [s]
      simp only [List.length_cons, List.length_nil] at *
      omega
    unfold minusS
    simp only [Bool.false_eq_true, ↓reduceIte, Nat.add_zero] at h
    omega
  · exact Nat.zero_le _

/-! ### Effects -/
theorem srt_allR (l : List Ms) : ∀ {t : List Pr}, Srt t → Srt (allS l t) := by
  induction l with
  | nil => intro t h; exact h
  | cons m l ih => intro t h; exact ih (srt_apply' m h)
theorem all_app (a b : List Ms) (t : List Pr) : allS (a ++ b) t = allS b (allS a t) := by unfold allS; rw [List.foldl_append]
theorem all_one (m : Ms) (t : List Pr) : allS [m] t = applyS m t := rfl
theorem all_cons (m : Ms) (l : List Ms) (t : List Pr) : allS (m :: l) t = allS l (applyS m t) := rfl
theorem free_of {p o : Ms} (h : ∀ k, inB (touchS p) k = true → inB (touchS o) k = false) : freeB p o = true := by
  have hr : ∀ {m : Ms} {k : Bs}, inB (readsS m) k = true → inB (touchS m) k = true := fun hk => by unfold touchS; rw [inB_append, hk]; rfl
  have hw : ∀ {m : Ms} {k : Bs}, inB (writesS m) k = true → inB (touchS m) k = true := fun hk => by unfold touchS; rw [inB_append, hk, Bool.or_true]
  have no : ∀ {x : List Sp} {y : List Sp}, (∀ k, inB x k = true → inB y k = true → False) → touchB x y = false := fun hh => by
    rw [Bool.eq_false_iff]; intro ht
    obtain ⟨k, a, b⟩ := (touch_iff _ _).1 ht
    exact hh k a b
  have dis : ∀ k, inB (touchS p) k = true → inB (touchS o) k = true → False := fun k a b => by rw [h k a] at b; cases b
  unfold freeB distB
  rw [no fun k a b => dis k (hw a) (hr b), no fun k a b => dis k (hw a) (hw b), no fun k a b => dis k (hr b) (hw a), no fun k a b => dis k (hw b) (hw a)]
  rfl
theorem past (p : Ms) : ∀ (l : List Ms) {u : List Pr}, Srt u → (∀ o ∈ l, freeB p o = true) → allS l (applyS p u) = applyS p (allS l u)
  | [], u, _, _ => rfl
  | o :: l, u, hu, h => by
    rw [all_cons, free_swap hu (h o (by simp)), past p l (srt_apply' o hu) fun x hx => h x (by simp [hx])]
    rfl
theorem drops_mem {m : Ms} (h : m.kind = 3) (x : Pr) : ∀ (L : List Sp) (t : List Pr), x ∈ allS (L.map (setSp m)) t ↔ x ∈ t ∧ inB L x.1 = false
  | [], t => by simp [allS, inB]
  | s :: L, t => by
    rw [List.map_cons, all_cons, drops_mem h x L]
    have e : applyS (setSp m s) t = dropS s t := by unfold applyS; simp [setSp, h]
    rw [e, mem_drop]
    show _ ↔ x ∈ t ∧ (hasB s x.1 || inB L x.1) = false
    rw [Bool.or_eq_false_iff, and_assoc]
def stampL (L : List Sp) (n : Int) (x : Pr) : Pr := if inB L x.1 then (x.1, x.2.1, n) else x
theorem stamps_map {m : Ms} (h : m.kind = 6) : ∀ (L : List Sp) (t : List Pr), allS (L.map (setSp m)) t = t.map (stampL L m.n)
  | [], t => by
    have : stampL [] m.n = id := by funext x; rfl
    rw [this, List.map_id]; rfl
  | s :: L, t => by
    have e : applyS (setSp m s) t = t.map (stampP s m.n) := by unfold applyS stampT; simp [setSp, h]
    rw [List.map_cons, all_cons, stamps_map h L, e, List.map_map]
    refine List.map_congr_left fun x _ => ?_
    show stampL L m.n (stampP s m.n x) = stampL (s :: L) m.n x
    unfold stampL stampP
    have e2 : inB (s :: L) x.1 = (hasB s x.1 || inB L x.1) := rfl
    rw [e2]
    cases hasB s x.1 <;> cases hL : inB L x.1 <;> simp [hL]
/-- The part, and then what is left, have the effect of the message. -/
theorem split_apply (m : Ms) (s : Sp) {t : List Pr} (ht : Srt t) : allS (restR m s) (applyS (onlyS m s) t) = applyS m t := by
  unfold restR onlyS
  cases hsp : hasSpB m with
  | false => simp only [Bool.false_eq_true, ↓reduceIte]; rfl
  | true =>
    simp only [↓reduceIte]
    have hmin : ∀ k, inB (minusS [(m.lo, m.hi)] [s]) k = (hasB (m.lo, m.hi) k && !hasB s k) := fun k => by
      rw [Bool.eq_iff_iff, inB_iff, minus_in, ← inB_iff, ← inB_iff, inB_one, inB_one]; simp
    rcases (hasSp_iff m).1 hsp with h | h
    · have e : applyS (setSp m (meetS (m.lo, m.hi) s)) t = dropS (meetS (m.lo, m.hi) s) t := by unfold applyS; simp [setSp, h]
      have e2 : applyS m t = dropS (m.lo, m.hi) t := by unfold applyS; simp [h]
      rw [e, e2]
      refine Srt.unique (srt_allR _ (srt_drop _ ht)) (srt_drop _ ht) fun x => ?_
      rw [drops_mem h, mem_drop, mem_drop, hmin, meet_hasB]
      cases hasB (m.lo, m.hi) x.1 <;> cases hasB s x.1 <;> simp
    · have e : applyS (setSp m (meetS (m.lo, m.hi) s)) t = t.map (stampP (meetS (m.lo, m.hi) s) m.n) := by unfold applyS stampT; simp [setSp, h]
      have e2 : applyS m t = t.map (stampP (m.lo, m.hi) m.n) := by unfold applyS stampT; simp [h]
      rw [e, e2, stamps_map h, List.map_map]
      refine List.map_congr_left fun x _ => ?_
      show stampL _ m.n (stampP _ m.n x) = _
      unfold stampL
      rw [stampP_key, hmin]
      unfold stampP
      rw [meet_hasB]
      cases hasB (m.lo, m.hi) x.1 <;> cases hasB s x.1 <;> simp

/-! ### Going through a buffer -/
theorem ready_snoc (s : Sp) (l : List Ms) (m : Ms) : readyW s (l ++ [m]) = stepR s (readyW s l) m := by unfold readyW readyF; rw [List.foldl_append]; rfl
theorem ready_take (s : Sp) (l : List Ms) (k : Nat) (h : k < l.length) : readyW s (l.take (k + 1)) = stepR s (readyW s (l.take k)) l[k] := by
  rw [← ready_snoc, List.take_succ_eq_append_getElem h]
/-- What is known of what goes, stays and is blocked. -/
structure RdInv (s : Sp) (pre : List Ms) (w : Wy) : Prop where
  eff : ∀ t, Srt t → allS w.2.1 (allS w.1 t) = allS pre t
  blk : ∀ o ∈ w.2.1, ∀ k, hasB s k = true → inB (touchS o) k = true → inB w.2.2 k = true
  lie : ∀ p ∈ w.1, ∀ k, inB (touchS p) k = true → hasB s k = true
  again : readyW s w.2.1 = ([], w.2.1, w.2.2)
theorem goes_touch {s : Sp} {b : List Sp} {m : Ms} (h : goesB s b m = true) {k : Bs} (hk : inB (touchS (onlyS m s)) k = true) : hasB s k = true ∧ inB b k = false := by
  unfold goesB at h
  cases hm : movesB m with
  | true =>
    rw [hm, if_pos rfl, Bool.and_eq_true, Bool.not_eq_true'] at h
    rw [only_moves hm] at hk
    exact ⟨(lies_iff m s).1 h.1 k hk, touch_no h.2 hk⟩
  | false =>
    rw [hm, if_neg (by simp), Bool.and_eq_true, Bool.not_eq_true'] at h
    rw [only_touch hm h.1] at hk
    have hk2 := (Bool.and_eq_true _ _).mp hk
    refine ⟨hk2.2, touch_no h.2 ?_⟩
    rw [only_writes hm h.1, hk2.1, hk2.2]; rfl
theorem rest_stays {m o : Ms} {s : Sp} (h : o ∈ restR m s) (b : List Sp) : goesB s b o = false ∧ blocksS s o = [] := by
  obtain ⟨hsp, x, hx, rfl⟩ := mem_rest' h
  have hm : movesB (setSp m x) = false := by
    cases e : movesB (setSp m x) with
    | false => rfl
    | true => have := moves_no_sp e; rw [show hasSpB (setSp m x) = hasSpB m from rfl, hsp] at this; cases this
  have hn : meetB s (writesS (setSp m x)) = false := by
    rw [Bool.eq_false_iff]; intro hh
    obtain ⟨k, h1, h2⟩ := (meet_iff _ _).1 hh
    have h3 : inB (touchS (setSp m x)) k = true := by rw [touch_plain hm]; exact h1
    rw [rest_touch h h3] at h2; cases h2
  unfold goesB blocksS
  rw [hm, hn]; exact ⟨rfl, rfl⟩
theorem stay_all (s : Sp) : ∀ (l : List Ms) (w : Wy), (∀ o ∈ l, ∀ b, goesB s b o = false ∧ blocksS s o = []) → readyF s w l = (w.1, w.2.1 ++ l, w.2.2)
  | [], w, _ => by rw [List.append_nil]; rfl
  | o :: l, w, h => by
    have h1 := h o (by simp) w.2.2
    have e : stepR s w o = (w.1, w.2.1 ++ [o], w.2.2) := by
      unfold stepR; rw [h1.1, if_neg (by simp), h1.2]; unfold stayW; rw [List.append_nil]
    show readyF s (stepR s w o) l = _
    rw [stay_all s l _ fun x hx => h x (by simp [hx]), e]
    simp
theorem RdInv.nil (s : Sp) : RdInv s [] ([], [], []) := ⟨fun t _ => rfl, fun o h => (by cases h), fun p h => (by cases h), rfl⟩
theorem RdInv.step {s : Sp} {pre : List Ms} {w : Wy} (h : RdInv s pre w) (m : Ms) : RdInv s (pre ++ [m]) (stepR s w m) := by
  unfold stepR
  cases hg : goesB s w.2.2 m with
  | true =>
    rw [if_pos rfl]
    have hp := fun k (hk : inB (touchS (onlyS m s)) k = true) => goes_touch hg hk
    have hfree : ∀ o ∈ w.2.1, freeB (onlyS m s) o = true := fun o ho => free_of fun k hk => by
      obtain ⟨a, b⟩ := hp k hk
      cases e : inB (touchS o) k with
      | false => rfl
      | true => rw [h.blk o ho k a e] at b; cases b
    refine ⟨fun t ht => ?_, fun o ho k hk hk2 => ?_, fun p hpm k hk => ?_, ?_⟩
    · show allS (w.2.1 ++ restR m s) (allS (w.1 ++ [onlyS m s]) t) = _
      rw [all_app, all_app, all_one, past _ _ (srt_allR _ ht) hfree, h.eff t ht, split_apply m s (srt_allR _ ht), all_app, all_one]
    · change o ∈ w.2.1 ++ restR m s at ho
      rcases List.mem_append.1 ho with ho | ho
      · exact h.blk o ho k hk hk2
      · rw [rest_touch ho hk2] at hk; cases hk
    · change p ∈ w.1 ++ [onlyS m s] at hpm
      rcases List.mem_append.1 hpm with hpm | hpm
      · exact h.lie p hpm k hk
      · obtain rfl := List.mem_singleton.1 hpm
        exact (hp k hk).1
    · show readyW s (w.2.1 ++ restR m s) = ([], w.2.1 ++ restR m s, w.2.2)
      have e : readyW s (w.2.1 ++ restR m s) = readyF s (readyW s w.2.1) (restR m s) := by unfold readyW readyF; rw [List.foldl_append]
      rw [e, h.again, stay_all s _ _ fun o ho b => rest_stays ho b]
  | false =>
    rw [if_neg (by simp)]
    refine ⟨fun t ht => ?_, fun o ho k hk hk2 => ?_, h.lie, ?_⟩
    · show allS (w.2.1 ++ [m]) (allS w.1 t) = _
      rw [all_app, h.eff t ht, all_app]
    · change o ∈ w.2.1 ++ [m] at ho
      show inB (w.2.2 ++ blocksS s m) k = true
      rw [inB_append]
      rcases List.mem_append.1 ho with ho | ho
      · rw [h.blk o ho k hk hk2]; rfl
      · obtain rfl := List.mem_singleton.1 ho
        have : inB (blocksS s o) k = true := by
          unfold blocksS
          cases hm : movesB o with
          | true => rw [if_pos rfl]; exact hk2
          | false =>
            rw [touch_plain hm] at hk2
            have hmt : meetB s (writesS o) = true := (meet_iff _ _).2 ⟨k, hk2, hk⟩
            rw [if_neg (by simp), if_pos hmt, only_writes hm hmt, hk2, hk]; rfl
        rw [this, Bool.or_true]
    · show readyW s (w.2.1 ++ [m]) = ([], w.2.1 ++ [m], w.2.2 ++ blocksS s m)
      rw [ready_snoc, h.again]
      unfold stepR
      rw [hg, if_neg (by simp)]; rfl
theorem rdInv (s : Sp) (l : List Ms) : RdInv s l (readyW s l) := by
  have h : ∀ k, k ≤ l.length → RdInv s (l.take k) (readyW s (l.take k)) := by
    intro k
    induction k with
    | zero => intro _; rw [List.take_zero]; exact RdInv.nil s
    | succ k ih =>
      intro hk
      rw [ready_take s l k hk, List.take_succ_eq_append_getElem hk]
      exact (ih (Nat.le_of_succ_le hk)).step _
  have := h l.length (Nat.le_refl _)
  rwa [List.take_length] at this
/-- Of two kids, one after the other. -/
theorem ready_eff (s : Sp) (l : List Ms) {t : List Pr} (ht : Srt t) : allS (readyW s l).2.1 (allS (readyW s l).1 t) = allS l t := (rdInv s l).eff t ht
theorem ready_eff2 (s u : Sp) (l : List Ms) {t : List Pr} (ht : Srt t) : allS (readyW u (readyW s l).2.1).2.1 (allS (readyW u (readyW s l).2.1).1 (allS (readyW s l).1 t)) = allS l t := by
  rw [ready_eff u _ (srt_allR _ ht), ready_eff s l ht]
/-- What goes leaves other kids' pairs alone. -/
theorem all_without (s : Sp) : ∀ (l : List Ms) {t : List Pr}, Srt t → (∀ p ∈ l, ∀ k, inB (touchS p) k = true → hasB s k = true) → withoutS [s] (allS l t) = withoutS [s] t
  | [], t, _, _ => rfl
  | m :: l, t, ht, h => by
    rw [all_cons, all_without s l (srt_apply' m ht) fun p hp => h p (by simp [hp])]
    refine Srt.unique (srt_without _ (srt_apply' m ht)) (srt_without _ ht) fun x => ?_
    rw [mem_without, mem_without, inB_one]
    have hw : hasB s x.1 = false → inB (writesS m) x.1 = false := fun hx => by
      cases e : inB (writesS m) x.1 with
      | false => rfl
      | true =>
        have : inB (touchS m) x.1 = true := by unfold touchS; rw [inB_append, e, Bool.or_true]
        rw [h m (by simp) x.1 this] at hx; cases hx
    exact ⟨fun hx => ⟨(apply_out m ht x (hw hx.2)).1 hx.1, hx.2⟩, fun hx => ⟨(apply_out m ht x (hw hx.2)).2 hx.1, hx.2⟩⟩

/-! ### Parts -/
theorem within_same {s : Sp} {m : Ms} {t : List Pr} (ht : Srt t) (h : ∀ k, inB (writesS m) k = true → hasB s k = false) : withinS [s] (applyS m t) = withinS [s] t := by
  refine Srt.unique (srt_within _ (srt_apply' m ht)) (srt_within _ ht) fun x => ?_
  rw [mem_within, mem_within, inB_one]
  have hw : hasB s x.1 = true → inB (writesS m) x.1 = false := fun hx => by
    cases e : inB (writesS m) x.1 with
    | false => rfl
    | true => rw [h x.1 e] at hx; cases hx
  exact ⟨fun hx => ⟨(apply_out m ht x (hw hx.2)).1 hx.1, hx.2⟩, fun hx => ⟨(apply_out m ht x (hw hx.2)).2 hx.1, hx.2⟩⟩
theorem within_in {s : Sp} {m : Ms} {t : List Pr} (ht : Srt t) (h : ∀ k, inB (touchS m) k = true → hasB s k = true) : applyS m (withinS [s] t) = withinS [s] (applyS m t) := by
  have hr : ∀ k, inB (readsS m) k = true → hasB s k = true := fun k hk => h k (by unfold touchS; rw [inB_append, hk]; rfl)
  have hw : ∀ k, inB (writesS m) k = true → hasB s k = true := fun k hk => h k (by unfold touchS; rw [inB_append, hk, Bool.or_true])
  refine Srt.unique (srt_apply' m (srt_within _ ht)) (srt_within _ (srt_apply' m ht)) fun x => ?_
  rw [mem_within, inB_one]
  cases e : inB (writesS m) x.1 with
  | true =>
    have := apply_in m (srt_within [s] ht) ht (fun y hy => by rw [mem_within, inB_one, hr _ hy]; simp) x e
    rw [this, hw _ e]; simp
  | false =>
    rw [apply_out m (srt_within [s] ht) x e, apply_out m ht x e, mem_within, inB_one]
theorem within_rest {s : Sp} {m : Ms} : ∀ (l : List Ms) {t : List Pr}, Srt t → (∀ o ∈ l, ∀ k, inB (touchS o) k = true → hasB s k = false) → withinS [s] (allS l t) = withinS [s] t
  | [], t, _, _ => rfl
  | o :: l, t, ht, h => by
    rw [all_cons, within_rest (m := m) l (srt_apply' o ht) fun p hp => h p (by simp [hp])]
    exact within_same ht fun k hk => h o (by simp) k (by unfold touchS; rw [inB_append, hk, Bool.or_true])
/-- A message that does not cross, seen from a kid. -/
def SideS (m : Ms) (s : Sp) : Prop := movesB m = true → (liesB m s = true ∨ ∀ k, inB (touchS m) k = true → hasB s k = false)
theorem side_kid {ps : List Bs} (hs : SrtP ps) {m : Ms} (h : crossB m ps = false) {i : Nat} (hi : i < ps.length + 1) : SideS m (kidSp ps i) := fun hm => by
  unfold crossB at h
  rw [hm, Bool.true_and, Bool.not_eq_false'] at h
  by_cases e : i = kidN m.src ps
  · subst e; exact .inl h
  · refine .inr fun k hk => ?_
    have := (lies_iff m _).1 h k hk
    cases hh : hasB (kidSp ps i) k with
    | false => rfl
    | true => exact absurd (kid_one hs hi (Nat.lt_succ_of_le (kidN_le _ _)) hh this) e
/-- Writing something. -/
def WritesK (m : Ms) : Prop := ∃ k, inB (writesS m) k = true
theorem part_cases {m : Ms} {s : Sp} (h : SideS m s) (hw : WritesK m) : (meetB s (writesS m) = true ∧ partR m s = [onlyS m s] ∧ ∀ k, inB (touchS (onlyS m s)) k = true → hasB s k = true) ∨ (meetB s (writesS m) = false ∧ partR m s = [] ∧ ∀ k, inB (writesS m) k = true → hasB s k = false) := by
  cases hm : meetB s (writesS m) with
  | false =>
    refine .inr ⟨rfl, by unfold partR; rw [hm]; rfl, fun k hk => ?_⟩
    cases e : hasB s k with
    | false => rfl
    | true => rw [(meet_iff s _).2 ⟨k, hk, e⟩] at hm; cases hm
  | true =>
    refine .inl ⟨rfl, by unfold partR; rw [hm]; rfl, fun k hk => ?_⟩
    cases hv : movesB m with
    | false =>
      rw [only_touch hv hm] at hk
      exact ((Bool.and_eq_true _ _).mp hk).2
    | true =>
      rw [only_moves hv] at hk
      rcases h hv with h | h
      · exact (lies_iff m s).1 h k hk
      · obtain ⟨j, h1, h2⟩ := (meet_iff s _).1 hm
        rw [h j (by unfold touchS; rw [inB_append, h1, Bool.or_true])] at h2; cases h2
theorem part_within {m : Ms} {s : Sp} (h : SideS m s) (hw : WritesK m) {t : List Pr} (ht : Srt t) : allS (partR m s) (withinS [s] t) = withinS [s] (applyS m t) := by
  rcases part_cases h hw with ⟨h1, h2, h3⟩ | ⟨h1, h2, h3⟩
  · rw [h2, all_one, within_in ht h3, ← split_apply m s ht]
    symm
    exact within_rest (m := m) _ (srt_apply' _ ht) fun o ho k hk => rest_touch ho hk
  · rw [h2, within_same ht h3]; rfl

/-! ### A free way -/
structure FrInv (s : Sp) (pre : List Ms) (w : Wy) : Prop where
  blk : ∀ k, hasB s k = true → inB w.2.2 k = false
  stay : ∀ o ∈ w.2.1, partR o s = []
  eff : ∀ t, Srt t → allS w.1 (withinS [s] t) = withinS [s] (allS pre t)
theorem FrInv.step {s : Sp} {pre : List Ms} {w : Wy} (h : FrInv s pre w) {m : Ms} (hs : SideS m s) (hw : WritesK m) : FrInv s (pre ++ [m]) (stepR s w m) := by
  have pw := fun t (ht : Srt t) => part_within hs hw ht
  unfold stepR
  rcases part_cases hs hw with ⟨h1, h2, h3⟩ | ⟨h1, h2, h3⟩
  · have hg : goesB s w.2.2 m = true := by
      unfold goesB
      cases hv : movesB m with
      | true =>
        rw [only_moves hv] at h3
        rw [if_pos rfl, (lies_iff m s).2 h3, touch_none fun k hk => h.blk k (h3 k hk)]; rfl
      | false =>
        rw [if_neg (by simp), h1, touch_none fun k hk => h.blk k (by rw [only_writes hv h1] at hk; exact ((Bool.and_eq_true _ _).mp hk).2)]; rfl
    rw [hg, if_pos rfl]
    refine ⟨h.blk, fun o ho => ?_, fun t ht => ?_⟩
    · change o ∈ w.2.1 ++ restR m s at ho
      rcases List.mem_append.1 ho with ho | ho
      · exact h.stay o ho
      · obtain ⟨hsp, x, hx, rfl⟩ := mem_rest' ho
        unfold partR
        have : meetB s (writesS (setSp m x)) = false := by
          rw [Bool.eq_false_iff]; intro hh
          obtain ⟨k, a, b⟩ := (meet_iff _ _).1 hh
          have h4 : inB (touchS (setSp m x)) k = true := by unfold touchS; rw [inB_append, a, Bool.or_true]
          rw [rest_touch ho h4] at b; cases b
        rw [this]; rfl
    · show allS (w.1 ++ [onlyS m s]) _ = _
      rw [all_app, h.eff t ht, all_app]
      have := pw (allS pre t) (srt_allR _ ht)
      rw [h2] at this
      exact this
  · have hg : goesB s w.2.2 m = false := by
      unfold goesB
      cases hv : movesB m with
      | true =>
        rw [if_pos rfl]
        rcases hs hv with h4 | h4
        · obtain ⟨k, hk⟩ := hw
          have := (lies_iff m s).1 h4 k (by unfold touchS; rw [inB_append, hk, Bool.or_true])
          rw [h3 k hk] at this; cases this
        · cases hl : liesB m s with
          | false => rfl
          | true =>
            obtain ⟨k, hk⟩ := hw
            have := (lies_iff m s).1 hl k (by unfold touchS; rw [inB_append, hk, Bool.or_true])
            rw [h3 k hk] at this; cases this
      | false => rw [if_neg (by simp), h1]; rfl
    rw [hg, if_neg (by simp)]
    refine ⟨fun k hk => ?_, fun o ho => ?_, fun t ht => ?_⟩
    · show inB (w.2.2 ++ blocksS s m) k = false
      rw [inB_append, h.blk k hk, Bool.false_or]
      unfold blocksS
      cases hv : movesB m with
      | true =>
        rw [if_pos rfl]
        rcases hs hv with h4 | h4
        · unfold goesB at hg
          rw [hv, if_pos rfl, h4, touch_none fun j hj => h.blk j ((lies_iff m s).1 h4 j hj)] at hg
          cases hg
        · cases e : inB (touchS m) k with
          | false => rfl
          | true => rw [h4 k e] at hk; cases hk
      | false => rw [if_neg (by simp), h1]; rfl
    · change o ∈ w.2.1 ++ [m] at ho
      rcases List.mem_append.1 ho with ho | ho
      · exact h.stay o ho
      · obtain rfl := List.mem_singleton.1 ho; exact h2
    · show allS w.1 _ = _
      have := pw (allS pre t) (srt_allR _ ht)
      rw [h2] at this
      rw [h.eff t ht, all_app, all_one, ← this]; rfl
theorem frInv (s : Sp) {l : List Ms} (hl : ∀ m ∈ l, SideS m s ∧ WritesK m) : FrInv s l (readyW s l) := by
  have h : ∀ k, k ≤ l.length → FrInv s (l.take k) (readyW s (l.take k)) := by
    intro k
    induction k with
    | zero => intro _; rw [List.take_zero]; exact ⟨fun k _ => rfl, fun o h => (by cases h), fun t _ => rfl⟩
    | succ k ih =>
      intro hk
      rw [ready_take s l k hk, List.take_succ_eq_append_getElem hk]
      exact (ih (Nat.le_of_succ_le hk)).step (hl _ (List.getElem_mem hk)).1 (hl _ (List.getElem_mem hk)).2
  have := h l.length (Nat.le_refl _)
  rwa [List.take_length] at this

end Go.Proofs.YtfpcaoacbjhkgaaGreat
