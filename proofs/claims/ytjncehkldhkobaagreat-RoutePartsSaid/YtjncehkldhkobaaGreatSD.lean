/-
  Plain facts for the laws of package route: sizes of tables and of messages that go and stay.
-/
import Derived.Test.YtjncehkldhkobaaGreatSC
import Derived.Test.YtjncehkldhkobaaGreatNV
import Derived.Test.YtjncehkldhkobaaGreatMT
namespace Go.Proofs.YtjncehkldhkobaaGreat
set_option linter.unusedVariables false
def LenS (M : Nat) (L : List Sp) : Prop := ∀ x ∈ L, x.1.length ≤ M ∧ x.2.length ≤ M
theorem LenS.mono {M N : Nat} {L : List Sp} (h : LenS M L) (hn : M ≤ N) : LenS N L := fun x hx => ⟨Nat.le_trans (h x hx).1 hn, Nat.le_trans (h x hx).2 hn⟩
theorem glue_lenS {M : Nat} : ∀ (r : List Sp) (c : Sp), LenS M (c :: r) → LenS M (glue c r)
  | [], c, h => h
  | x :: r, c, h => by
    have hc := h c (by simp)
    have hx := h x (by simp)
    rw [glue]
    split
    · intro y hy
      rcases List.mem_cons.1 hy with rfl | hy
      · exact hc
      · exact glue_lenS r x (fun z hz => h z (by rcases List.mem_cons.1 hz with rfl | hz <;> simp [*])) y hy
    · refine glue_lenS r _ fun z hz => ?_
      rcases List.mem_cons.1 hz with rfl | hz
      · unfold growS; split
        · exact ⟨hc.1, hx.2⟩
        · exact hc
      · exact h z (by simp [hz])
theorem sortR_lenS {M : Nat} {l : List Sp} (h : LenS M l) : LenS M (sortR l) := by
  have hg : ∀ (l : List Sp) (a : List Sp), LenS M l → LenS M a → LenS M (l.foldl (fun a s => insR s (emptyB s) a) a) := by
    intro l
    induction l with
    | nil => exact fun a _ h => h
    | cons s r ih =>
      intro a h1 h2
      refine ih _ (fun z hz => h1 z (by simp [hz])) fun z hz => ?_
      dsimp only at hz
      cases he : emptyB s with
      | true => rw [he, insR_true] at hz; exact h2 z hz
      | false =>
        rw [he, insR_mem] at hz
        rcases hz with rfl | hz
        · exact h1 z (by simp)
        · exact h2 z hz
  exact hg l [] h fun z hz => by cases hz
theorem norm_lenS {M : Nat} {l : List Sp} (h : LenS M l) : LenS M (normS l) := by
  rw [← normR_eq]
  unfold normR
  have hs := sortR_lenS h
  cases e : sortR l with
  | nil => exact fun z hz => by cases hz
  | cons c r => rw [e] at hs; exact glue_lenS r c hs
theorem meet_lenS {M : Nat} (hM : 1 ≤ M) {a b : Sp} (ha : a.1.length ≤ M ∧ a.2.length ≤ M) (hb : b.1.length ≤ M ∧ b.2.length ≤ M) : (meetS a b).1.length ≤ M ∧ (meetS a b).2.length ≤ M := by
  have h1 : (if ltP (keyP a.1) (keyP b.1) then b.1 else a.1).length ≤ M := by split; exact hb.1; exact ha.1
  have h2 : (if ltP (hiP b.2) (hiP a.2) then b.2 else a.2).length ≤ M := by split; exact hb.2; exact ha.2
  unfold meetS
  dsimp only
  generalize (if ltP (keyP a.1) (keyP b.1) = true then b.1 else a.1) = lo at *
  generalize (if ltP (hiP b.2) (hiP a.2) = true then b.2 else a.2) = hi at *
  cases emptyB (lo, hi)
  · exact ⟨h1, h2⟩
  · exact ⟨hM, hM⟩
theorem cut_lenS {M : Nat} (hM : 1 ≤ M) {s x : Sp} (hs : s.1.length ≤ M ∧ s.2.length ≤ M) (hx : x.1.length ≤ M ∧ x.2.length ≤ M) : LenS M (cutR s x) := by
  unfold cutR
  intro z hz
  rw [List.mem_append] at hz
  rcases hz with hz | hz
  · split at hz
    · cases hz
    · rw [List.mem_singleton] at hz; subst hz; exact meet_lenS hM hx ⟨Nat.zero_le _, hs.1⟩
  · split at hz
    · cases hz
    · rw [List.mem_singleton] at hz; subst hz; exact meet_lenS hM hx ⟨hs.2, Nat.zero_le _⟩
theorem minus_lenS {M : Nat} (hM : 1 ≤ M) {l m : List Sp} (h : LenS M l) (hm : LenS M m) : LenS M (minusS l m) := by
  rw [← minusR_eq]
  unfold minusR
  have hg : ∀ (m : List Sp) (a : List Sp), LenS M m → LenS M a → LenS M (m.foldl minusStep a) := by
    intro m
    induction m with
    | nil => exact fun a _ h => h
    | cons s r ih =>
      intro a h1 h2
      refine ih _ (fun z hz => h1 z (by simp [hz])) ?_
      unfold minusStep
      split
      · exact h2
      · refine norm_lenS fun z hz => ?_
        rw [List.mem_flatMap] at hz
        obtain ⟨x, hx, hz⟩ := hz
        exact cut_lenS hM (h1 s (by simp)) (h2 x hx) z hz
  exact hg m _ hm (norm_lenS h)
open Go.RowKit Go.Sort
def Few (m : Ms) : Prop := m.key.length ≤ 100 ∧ m.dst.length ≤ 100
theorem apply_keys (m : Ms) (K : Nat) {t : List Pr} (ht : Srt t) (hk : ∀ x ∈ t, x.1.length ≤ K) (hm : Few m) : ∀ x ∈ applyS m t, x.1.length ≤ K + 100 := by
  intro x hx
  have old : x ∈ t → x.1.length ≤ K + 100 := fun h => by have := hk x h; omega
  have hcl : ∀ a b, b.length ≤ 100 → x ∈ cloneT a b t → x.1.length ≤ K + 100 := by
    intro a b hb hx
    rcases (mem_clone a b ht x).1 hx with h | h
    · obtain ⟨r, h1, h2⟩ := (mem_moved a b t x).1 h
      have := hk _ h1
      simp only [List.length_append] at this
      rw [h2, List.length_append]; omega
    · exact old h.1
  unfold applyS at hx
  split at hx
  · rcases (mem_put _ _ _).1 hx with h | h
    · rw [h]; have := hm.1; show m.key.length ≤ K + 100; omega
    · exact old h.1
  split at hx
  · exact old ((mem_del _ _ _).1 hx).1
  split at hx
  · exact old ((mem_drop _ _ _).1 hx).1
  split at hx
  · exact hcl m.src m.dst hm.2 ((mem_drop _ _ _).1 hx).1
  split at hx
  · exact hcl m.src m.dst hm.2 hx
  split at hx
  · obtain ⟨y, hy, rfl⟩ := (mem_stamp _ _ _ _).1 hx
    rw [stampP_key]; have := hk y hy; omega
  · exact old hx
theorem made_few (a b c d e f : Nat) : Few (madeM a b c d e f) := by
  have k1 := key_len b
  have t1 := to_len b d
  unfold Few madeM
  split
  · simp; omega
  split
  · simp; omega
  split
  · simp
  split
  · simp; omega
  split
  · simp; omega
  · simp
theorem okAll_end {ms : List Ms} {t : List Pr} (h : OkAll ms t) : (allS ms t).length ≤ 100000000 ∧ ∀ x ∈ allS ms t, x.1.length ≤ 1000000000 := by
  have h1 := h ms.length (Nat.le_refl _)
  rw [List.take_length] at h1
  exact ⟨h1.1, fun x hx => Nat.le_trans (h1.2 x hx) (by omega)⟩
theorem listS_len (x : List R6) (n : Nat) : (listS x n).length ≤ n := by unfold listS; rw [List.length_map]; exact List.length_take_le _ _
variable {w wx wy : World} {L : List (Value × List Pr)} {M : List (Value × List Ms)} {D : List (Value × List Sp)}

theorem prefix_full (p : Bs) : emptyB (preS p) = false := prefix_nonempty p
theorem one_full (k : Bs) : emptyB (oneS k) = false := one_nonempty k
theorem full_valid {m : Ms} (h : validM m = true) : FullM m := by
  have hk := kind_cases m h
  unfold validM at h
  rw [Bool.and_eq_true] at h
  have hf := h.1
  have hsp : (m.kind = 3 ∨ m.kind = 6) → emptyB (m.lo, m.hi) = false := fun hh => by
    unfold fitsB at hf
    rcases hh with hh | hh
    · rw [if_neg (by rw [hh]; decide), if_neg (by rw [hh]; decide), if_pos hh] at hf
      unfold spanB at hf
      simp only [Bool.and_eq_true, Bool.not_eq_true'] at hf
      exact hf.1
    · rw [if_neg (by rw [hh]; decide), if_neg (by rw [hh]; decide), if_neg (by rw [hh]; decide), if_neg (by rw [hh]; decide), if_neg (by rw [hh]; decide), if_pos hh] at hf
      unfold spanB at hf
      simp only [Bool.and_eq_true, Bool.not_eq_true'] at hf
      exact hf.1.1
  intro x hx
  unfold touchS readsS writesS at hx
  rcases hk with h1 | h1 | h1 | h1 | h1 | h1
  · simp [h1] at hx; subst hx; exact one_full _
  · simp [h1] at hx; subst hx; exact one_full _
  · simp [h1] at hx; subst hx; exact hsp (.inl h1)
  · simp [h1] at hx; rcases hx with hx | hx <;> subst hx <;> exact prefix_full _
  · simp [h1] at hx; rcases hx with hx | hx <;> subst hx <;> exact prefix_full _
  · simp [h1] at hx; subst hx; exact hsp (.inr h1)
theorem writes_valid {m : Ms} (h : validM m = true) : WritesK m := by
  have hf := full_valid h
  have hk := kind_cases m h
  have : ∃ x ∈ writesS m, x ∈ touchS m := by
    have ht : ∀ x ∈ writesS m, x ∈ touchS m := fun x hx => List.mem_append_right _ hx
    have hne : writesS m ≠ [] := by
      unfold writesS
      rcases hk with h1 | h1 | h1 | h1 | h1 | h1 <;> simp [h1]
    obtain ⟨x, hx⟩ := List.exists_mem_of_ne_nil _ hne
    exact ⟨x, hx, ht x hx⟩
  obtain ⟨x, hx, hx2⟩ := this
  exact ⟨x.1, (inB_iff _ _).2 ⟨x, hx, has_lo (hf x hx2)⟩⟩
/-- What the laws know of each message. -/
def OkR (m : Ms) : Prop := SizeM m ∧ FullM m ∧ Few m
theorem okR_only {m : Ms} (h : OkR m) {s : Sp} (hs : SizeP s) (hm : movesB m = true ∨ meetB s (writesS m) = true) : OkR (onlyS m s) := by
  refine ⟨only_size h.1 hs, ?_, ?_⟩
  · rcases hm with hm | hm
    · rw [only_moves hm]; exact h.2.1
    · exact full_only h.2.1 hm
  · unfold onlyS; split
    · exact h.2.2
    · exact h.2.2
theorem touch_set (m : Ms) (x : Sp) : ∀ y ∈ touchS (setSp m x), hasSpB m = true → y = x := by
  intro y hy hsp
  unfold touchS at hy
  rcases List.mem_append.1 hy with hy | hy
  · rcases (hasSp_iff m).1 hsp with h | h
    · unfold readsS at hy; simp [setSp, h] at hy
    · unfold readsS at hy; simp [setSp, h] at hy; exact hy
  · rw [writes_set hsp] at hy; exact List.mem_singleton.1 hy
theorem okR_rest {m : Ms} (h : OkR m) {s : Sp} (hs : SizeP s) : ∀ o ∈ restR m s, OkR o := by
  intro o ho
  obtain ⟨hsp, x, hx, rfl⟩ := mem_rest' ho
  have hne := (minus_nrm [(m.lo, m.hi)] [s]).ne x hx
  have hlen := minus_lenS (M := 1000000000) (by decide) (l := [(m.lo, m.hi)]) (m := [s]) (fun y hy => by obtain rfl := List.mem_singleton.1 hy; exact ⟨h.1.2.2.1, h.1.2.2.2.1⟩) (fun y hy => by obtain rfl := List.mem_singleton.1 hy; exact hs) x hx
  refine ⟨⟨h.1.1, h.1.2.1, hlen.1, hlen.2, h.1.2.2.2.2.1, h.1.2.2.2.2.2⟩, fun y hy => ?_, h.2.2⟩
  rw [touch_set m x y hy hsp]; exact hne
theorem ready_ok {s : Sp} (hs : SizeP s) {l : List Ms} (hl : ∀ m ∈ l, OkR m) : (∀ m ∈ (readyW s l).1, OkR m) ∧ ∀ m ∈ (readyW s l).2.1, OkR m := by
  have h : ∀ k, k ≤ l.length → (∀ m ∈ (readyW s (l.take k)).1, OkR m) ∧ ∀ m ∈ (readyW s (l.take k)).2.1, OkR m := by
    intro k
    induction k with
    | zero => intro _; rw [List.take_zero]; exact ⟨fun m h => (by cases h), fun m h => (by cases h)⟩
    | succ k ih =>
      intro hk
      obtain ⟨h1, h2⟩ := ih (Nat.le_of_succ_le hk)
      have hm := hl _ (List.getElem_mem hk)
      rw [ready_take s l k hk]
      cases hg : goesB s (readyW s (l.take k)).2.2 l[k] with
      | true =>
        rw [step_go hg]
        refine ⟨fun m hx => ?_, fun m hx => ?_⟩
        · rcases List.mem_append.1 hx with hx | hx
          · exact h1 m hx
          · obtain rfl := List.mem_singleton.1 hx
            refine okR_only hm hs ?_
            unfold goesB at hg
            cases hv : movesB l[k] with
            | true => exact .inl rfl
            | false => rw [hv, if_neg (by simp), Bool.and_eq_true] at hg; exact .inr hg.1
        · rcases List.mem_append.1 hx with hx | hx
          · exact h2 m hx
          · exact okR_rest hm hs m hx
      | false =>
        rw [step_stay hg]
        refine ⟨h1, fun m hx => ?_⟩
        rcases List.mem_append.1 hx with hx | hx
        · exact h2 m hx
        · obtain rfl := List.mem_singleton.1 hx; exact hm
  have := h l.length (Nat.le_refl _)
  rwa [List.take_length] at this
theorem ready_len (s : Sp) (l : List Ms) : (readyW s l).1.length ≤ l.length ∧ (readyW s l).2.1.length ≤ 2 * l.length := by
  have := ready_lens s l l.length (Nat.le_refl _)
  rwa [List.take_length] at this
def mvN (l : List Ms) : Nat := l.countP movesB
theorem mv_app (a b : List Ms) : mvN (a ++ b) = mvN a + mvN b := List.countP_append
theorem mv_rest (m : Ms) (s : Sp) : mvN (restR m s) = 0 := by
  unfold mvN
  rw [List.countP_eq_zero]
  intro o ho
  obtain ⟨hsp, x, hx, rfl⟩ := mem_rest' ho
  intro hv
  have := moves_no_sp hv
  rw [show hasSpB (setSp m x) = hasSpB m from rfl, hsp] at this; cases this
theorem mv_only (m : Ms) (s : Sp) : movesB (onlyS m s) = movesB m := by have := only_kind m s; unfold movesB; rw [this]
theorem mv_one (m : Ms) : mvN [m] = if movesB m then 1 else 0 := by unfold mvN; rw [List.countP_singleton]
theorem mv_ready (s : Sp) (l : List Ms) : mvN (readyW s l).1 + mvN (readyW s l).2.1 = mvN l := by
  have h : ∀ k, k ≤ l.length → mvN (readyW s (l.take k)).1 + mvN (readyW s (l.take k)).2.1 = mvN (l.take k) := by
    intro k
    induction k with
    | zero => intro _; rw [List.take_zero]; rfl
    | succ k ih =>
      intro hk
      have h1 := ih (Nat.le_of_succ_le hk)
      rw [ready_take s l k hk, List.take_succ_eq_append_getElem hk, mv_app]
      cases hg : goesB s (readyW s (l.take k)).2.2 l[k] with
      | true => rw [step_go hg]; dsimp only; rw [mv_app, mv_app, mv_rest, mv_one, mv_one, mv_only]; omega
      | false => rw [step_stay hg]; dsimp only; rw [mv_app]; omega
  have := h l.length (Nat.le_refl _)
  rwa [List.take_length] at this
theorem mv_len (l : List Ms) : mvN l ≤ l.length := List.countP_le_length
theorem apply_plain {m : Ms} (h : movesB m = false) (t : List Pr) : (applyS m t).length ≤ t.length + 1 := by
  have hd : ∀ s (u : List Pr), (dropS s u).length ≤ u.length := fun s u => List.length_filter_le _ _
  have h4 : ¬ m.kind = 4 := fun e => by rw [(moves_iff m).2 (.inl e)] at h; cases h
  have h5 : ¬ m.kind = 5 := fun e => by rw [(moves_iff m).2 (.inr e)] at h; cases h
  unfold applyS
  split
  · exact put_length _ t
  split
  · have : (delS m.key t).length ≤ t.length := List.length_filter_le _ _
    omega
  split
  · have := hd (m.lo, m.hi) t; omega
  split
  · unfold stampT; rw [List.length_map]; omega
  · omega
theorem all_grow2 : ∀ (ms : List Ms) {t : List Pr} (K : Nat), Srt t → (∀ x ∈ t, x.1.length ≤ K) → (∀ m ∈ ms, Few m) → (allS ms t).length ≤ (t.length + 2 * ms.length) * 2 ^ mvN ms ∧ ∀ x ∈ allS ms t, x.1.length ≤ K + 100 * ms.length
  | [], t, K, _, hk, _ => ⟨by show t.length ≤ (t.length + 2 * 0) * 2 ^ mvN []; simp [mvN], fun x hx => by have := hk x hx; omega⟩
  | m :: ms, t, K, ht, hk, hm => by
    have h4 := apply_keys m K ht hk (hm m (by simp))
    obtain ⟨i1, i2⟩ := all_grow2 ms (K + 100) (srt_apply' m ht) h4 fun x hx => hm x (by simp [hx])
    refine ⟨?_, fun x hx => ?_⟩
    · refine Nat.le_trans i1 ?_
      have hc : mvN (m :: ms) = mvN ms + if movesB m then 1 else 0 := by unfold mvN; rw [List.countP_cons]
      rw [hc]
      cases hv : movesB m with
      | true =>
        have := apply_len m t
        simp only [↓reduceIte]
        rw [Nat.pow_succ, Nat.mul_comm (2 ^ mvN ms) 2, ← Nat.mul_assoc]
        refine Nat.mul_le_mul ?_ (Nat.le_refl _)
        simp only [List.length_cons]; omega
      | false =>
        have := apply_plain hv t
        simp only [Bool.false_eq_true, ↓reduceIte, Nat.add_zero]
        refine Nat.mul_le_mul ?_ (Nat.le_refl _)
        simp only [List.length_cons]; omega
    · have := i2 x hx
      simp only [List.length_cons]; omega
theorem okAll_mv (ms : List Ms) {t : List Pr} (ht : Srt t) (hl : t.length ≤ 60) (hk : ∀ x ∈ t, x.1.length ≤ 100) (hm : ∀ m ∈ ms, Few m) (h1 : ms.length ≤ 100) (h2 : mvN ms ≤ 12) : OkAll ms t := by
  intro k h
  obtain ⟨g1, g2⟩ := all_grow2 (ms.take k) 100 ht hk fun m hx => hm m (List.mem_of_mem_take hx)
  have hs : mvN (ms.take k) ≤ 12 := by
    have : mvN (ms.take k) + mvN (ms.drop k) = mvN ms := by rw [← mv_app, List.take_append_drop]
    omega
  have h3 : 2 ^ mvN (ms.take k) ≤ 2 ^ 12 := Nat.pow_le_pow_right (by decide) hs
  have hkl : (ms.take k).length ≤ 100 := by rw [List.length_take]; omega
  have h4 : (t.length + 2 * (ms.take k).length) * 2 ^ mvN (ms.take k) ≤ 260 * 2 ^ 12 := Nat.mul_le_mul (by omega) h3
  refine ⟨by omega, fun x hx => ?_⟩
  have := g2 x hx; omega
theorem okAll_cut {a b : List Ms} {t : List Pr} (h : OkAll (a ++ b) t) : OkAll a t ∧ OkAll b (allS a t) := by
  refine ⟨fun k hk => ?_, fun k hk => ?_⟩
  · have := h k (by rw [List.length_append]; omega)
    rw [List.take_append_of_le_length hk] at this
    exact this
  · have := h (a.length + k) (by rw [List.length_append]; omega)
    rw [List.take_length_add_append, all_app] at this
    exact this
theorem madeX_okR (x : R6) : OkR (madeX x) := ⟨made_size _ _ _ _ _ _, full_valid (made_valid _ _ _ _ _ _), made_few _ _ _ _ _ _⟩
theorem listS_okR (x : List R6) (n : Nat) : ∀ m ∈ listS x n, OkR m ∧ validM m = true := by
  intro m hm
  unfold listS at hm
  rw [List.mem_map] at hm
  obtain ⟨y, -, rfl⟩ := hm
  exact ⟨madeX_okR y, made_valid _ _ _ _ _ _⟩
theorem kid_size (l : Bs) (i : Nat) : SizeP (kidSp (pivR l) i) := by
  have := kid_short l i
  exact ⟨by omega, by omega⟩

end Go.Proofs.YtjncehkldhkobaaGreat
