/-
  Plain facts: how long the ends of spans are when they are followed back through messages.
-/
import Derived.Test.YthncnijkgkeohaaGreatHP
namespace Go.Proofs.YthncnijkgkeohaaGreat
set_option linter.unusedVariables false

def LenS (M : Nat) (L : List Sp) : Prop := ∀ x ∈ L, x.1.length ≤ M ∧ x.2.length ≤ M
theorem LenS.mono {M N : Nat} {L : List Sp} (h : LenS M L) (hn : M ≤ N) : LenS N L := fun x hx => ⟨Nat.le_trans (h x hx).1 hn, Nat.le_trans (h x hx).2 hn⟩
theorem glue_lenS {M : Nat} : ∀ (r : List Sp) (c : Sp), LenS M (c :: r) → LenS M (glue c r)
  | [], c, h => h
  | x :: r, c, h => by
    have hc := h c (by simp)
    have hx := h x (by simp)
    rw [glue]
    split
    · intro y hy
      rcases List.mem_cons.1 hy with rfl | hy
      · exact hc
      · exact glue_lenS r x (fun z hz => h z (by rcases List.mem_cons.1 hz with rfl | hz <;> simp [*])) y hy
    · refine glue_lenS r _ fun z hz => ?_
      rcases List.mem_cons.1 hz with rfl | hz
      · unfold growS; split
        · exact ⟨hc.1, hx.2⟩
        · exact hc
      · exact h z (by simp [hz])
theorem sortR_lenS {M : Nat} {l : List Sp} (h : LenS M l) : LenS M (sortR l) := by
  have hg : ∀ (l : List Sp) (a : List Sp), LenS M l → LenS M a → LenS M (l.foldl (fun a s => insR s (emptyB s) a) a) := by
    intro l
    induction l with
    | nil => exact fun a _ h => h
    | cons s r ih =>
      intro a h1 h2
      refine ih _ (fun z hz => h1 z (by simp [hz])) fun z hz => ?_
      dsimp only at hz
      cases he : emptyB s with
      | true => rw [he, insR_true] at hz; exact h2 z hz
      | false =>
        rw [he, insR_mem] at hz
        rcases hz with rfl | hz
        · exact h1 z (by simp)
        · exact h2 z hz
  exact hg l [] h fun z hz => by cases hz
theorem norm_lenS {M : Nat} {l : List Sp} (h : LenS M l) : LenS M (normS l) := by
  rw [← normR_eq]
  unfold normR
  have hs := sortR_lenS h
  cases e : sortR l with
  | nil => exact fun z hz => by cases hz
  | cons c r => rw [e] at hs; exact glue_lenS r c hs
theorem meet_lenS {M : Nat} (hM : 1 ≤ M) {a b : Sp} (ha : a.1.length ≤ M ∧ a.2.length ≤ M) (hb : b.1.length ≤ M ∧ b.2.length ≤ M) : (meetS a b).1.length ≤ M ∧ (meetS a b).2.length ≤ M := by
  have h1 : (if ltP (keyP a.1) (keyP b.1) then b.1 else a.1).length ≤ M := by split; exact hb.1; exact ha.1
  have h2 : (if ltP (hiP b.2) (hiP a.2) then b.2 else a.2).length ≤ M := by split; exact hb.2; exact ha.2
  unfold meetS
  dsimp only
  generalize (if ltP (keyP a.1) (keyP b.1) = true then b.1 else a.1) = lo at *
  generalize (if ltP (hiP b.2) (hiP a.2) = true then b.2 else a.2) = hi at *
  cases emptyB (lo, hi)
  · exact ⟨h1, h2⟩
  · exact ⟨hM, hM⟩
theorem cut_lenS {M : Nat} (hM : 1 ≤ M) {s x : Sp} (hs : s.1.length ≤ M ∧ s.2.length ≤ M) (hx : x.1.length ≤ M ∧ x.2.length ≤ M) : LenS M (cutR s x) := by
  unfold cutR
  intro z hz
  rw [List.mem_append] at hz
  rcases hz with hz | hz
  · split at hz
    · cases hz
    · rw [List.mem_singleton] at hz; subst hz; exact meet_lenS hM hx ⟨Nat.zero_le _, hs.1⟩
  · split at hz
    · cases hz
    · rw [List.mem_singleton] at hz; subst hz; exact meet_lenS hM hx ⟨hs.2, Nat.zero_le _⟩
theorem minus_lenS {M : Nat} (hM : 1 ≤ M) {l m : List Sp} (h : LenS M l) (hm : LenS M m) : LenS M (minusS l m) := by
  rw [← minusR_eq]
  unfold minusR
  have hg : ∀ (m : List Sp) (a : List Sp), LenS M m → LenS M a → LenS M (m.foldl minusStep a) := by
    intro m
    induction m with
    | nil => exact fun a _ h => h
    | cons s r ih =>
      intro a h1 h2
      refine ih _ (fun z hz => h1 z (by simp [hz])) ?_
      unfold minusStep
      split
      · exact h2
      · refine norm_lenS fun z hz => ?_
        rw [List.mem_flatMap] at hz
        obtain ⟨x, hx, hz⟩ := hz
        exact cut_lenS hM (h1 s (by simp)) (h2 x hx) z hz
  exact hg m _ hm (norm_lenS h)
theorem in_lenS {M : Nat} (hM : 1 ≤ M) {L : List Sp} (h : LenS M L) {s : Sp} (hs : s.1.length ≤ M ∧ s.2.length ≤ M) : LenS M (inS L s) := by
  unfold inS
  intro z hz
  rw [List.mem_filterMap] at hz
  obtain ⟨x, hx, e⟩ := hz
  unfold partS at e
  split at e
  · cases e
  · cases e; exact meet_lenS hM (h x hx) hs
theorem preH_len : ∀ (p : Bs) {h : Bs}, preH p = some h → h.length ≤ p.length
  | [], h, e => by simp [preH] at e
  | c :: r, h, e => by
    rw [preH_cons] at e
    cases q : preH r with
    | some t =>
      rw [q] at e
      cases e
      have := preH_len r q
      simp only [List.length_cons]; omega
    | none =>
      rw [q] at e
      dsimp only at e
      split at e
      · cases e
      · cases e; simp
theorem preT_lenF (p : Bs) : (preT p).length ≤ p.length := by
  unfold preT
  cases q : preH p with
  | none => exact Nat.zero_le _
  | some h => exact preH_len p q
theorem movedS_len {k a b j : Bs} (h : movedS k a b = some j) : j.length ≤ k.length + b.length := by
  unfold movedS at h
  split at h
  · cases h; rw [List.length_append, List.length_drop]; omega
  · cases h
theorem movedSp_lenS {M : Nat} {a b : Bs} {L : List Sp} (h : LenS M L) : LenS (M + b.length) (L.map (movedSp a b)) := by
  intro z hz
  rw [List.mem_map] at hz
  obtain ⟨x, hx, rfl⟩ := hz
  have hl := h x hx
  have hp := preT_lenF b
  unfold movedSp
  constructor
  · cases q : movedS x.1 a b with
    | none => exact Nat.zero_le _
    | some j => have := movedS_len q; simp only [Option.getD_some]; omega
  · cases q : movedS x.2 a b with
    | none => simp only [Option.getD_none]; omega
    | some j => have := movedS_len q; simp only [Option.getD_some]; omega
theorem moveB_lenS {M N : Nat} (hM : 1 ≤ M) {m : Ms} (hs : m.src.length ≤ N) (hd : m.dst.length ≤ M) {L : List Sp} (h : LenS M L) : LenS (M + N) (moveB m L) := by
  have hp : (preS m.dst).1.length ≤ M ∧ (preS m.dst).2.length ≤ M := ⟨hd, Nat.le_trans (preT_lenF _) hd⟩
  unfold moveB
  refine norm_lenS fun z hz => ?_
  rw [List.mem_append] at hz
  rcases hz with hz | hz
  · exact (minus_lenS hM h (fun x hx => by rw [List.mem_singleton] at hx; subst hx; exact hp)).mono (Nat.le_add_right _ _) z hz
  · exact (movedSp_lenS (a := m.dst) (b := m.src) (in_lenS hM h hp)).mono (by omega) z hz
theorem back_lenS {M : Nat} (hM : 1000000001 ≤ M) {m : Ms} (h1 : m.key.length ≤ 1000000000) (h2 : m.lo.length ≤ 1000000000) (h3 : m.hi.length ≤ 1000000000) (h4 : m.src.length ≤ 1000000000) (h5 : m.dst.length ≤ 1000000000) {L : List Sp} (h : LenS M L) : LenS (M + 1000000000) (backS m L) := by
  have hone : LenS M [oneS m.key] := fun x hx => by rw [List.mem_singleton] at hx; subst hx; exact ⟨by show m.key.length ≤ M; omega, by show (m.key ++ [0]).length ≤ M; simp; omega⟩
  unfold backS
  split
  · exact (minus_lenS (by omega) h hone).mono (by omega)
  split
  · exact (minus_lenS (by omega) h hone).mono (by omega)
  split
  · exact (minus_lenS (by omega) h (fun x hx => by rw [List.mem_singleton] at hx; subst hx; exact ⟨by show m.lo.length ≤ M; omega, by show m.hi.length ≤ M; omega⟩)).mono (by omega)
  split
  · exact moveB_lenS (by omega) h4 (by omega) (minus_lenS (by omega) h (fun x hx => by rw [List.mem_singleton] at hx; subst hx; exact ⟨by show m.src.length ≤ M; omega, Nat.le_trans (preT_lenF _) (by omega)⟩))
  split
  · exact moveB_lenS (by omega) h4 (by omega) h
  · exact h.mono (by omega)

end Go.Proofs.YthncnijkgkeohaaGreat
