/-
  What a law of package trace keeps while it calls: tables, lists of messages, lists of spans, each in its own memory.
-/
import Derived.Test.YthncnijkgkeohaaGreatIB
import Derived.Test.YthncnijkgkeohaaGreatNQJ
import Derived.Test.YthncnijkgkeohaaGreatGAB
namespace Go.Proofs.YthncnijkgkeohaaGreat
open Go.RowKit Go.Sort
set_option linter.unusedVariables false

def Few (m : Ms) : Prop := m.key.length ≤ 100 ∧ m.dst.length ≤ 100
theorem apply_keys (m : Ms) (K : Nat) {t : List Pr} (ht : Srt t) (hk : ∀ x ∈ t, x.1.length ≤ K) (hm : Few m) : ∀ x ∈ applyS m t, x.1.length ≤ K + 100 := by
  intro x hx
  have old : x ∈ t → x.1.length ≤ K + 100 := fun h => by have := hk x h; omega
  have hcl : ∀ a b, b.length ≤ 100 → x ∈ cloneT a b t → x.1.length ≤ K + 100 := by
    intro a b hb hx
    rcases (mem_clone a b ht x).1 hx with h | h
    · obtain ⟨r, h1, h2⟩ := (mem_moved a b t x).1 h
      have := hk _ h1
      simp only [List.length_append] at this
      rw [h2, List.length_append]; omega
    · exact old h.1
  unfold applyS at hx
  split at hx
  · rcases (mem_put _ _ _).1 hx with h | h
    · rw [h]; have := hm.1; show m.key.length ≤ K + 100; omega
    · exact old h.1
  split at hx
  · exact old ((mem_del _ _ _).1 hx).1
  split at hx
  · exact old ((mem_drop _ _ _).1 hx).1
  split at hx
  · exact hcl m.src m.dst hm.2 ((mem_drop _ _ _).1 hx).1
  split at hx
  · exact hcl m.src m.dst hm.2 hx
  split at hx
  · obtain ⟨y, hy, rfl⟩ := (mem_stamp _ _ _ _).1 hx
    rw [stampP_key]; have := hk y hy; omega
  · exact old hx
theorem made_few (a b c d e f : Nat) : Few (madeM a b c d e f) := by
  have k1 := key_len b
  have t1 := to_len b d
  unfold Few madeM
  split
  · simp; omega
  split
  · simp; omega
  split
  · simp
  split
  · simp; omega
  split
  · simp; omega
  · simp
theorem all_grow (ms : List Ms) {t : List Pr} (K : Nat) (ht : Srt t) (hk : ∀ x ∈ t, x.1.length ≤ K) (hm : ∀ m ∈ ms, Few m) : ∀ k, k ≤ ms.length → (allS (ms.take k) t).length + 1 ≤ (t.length + 1) * 2 ^ k ∧ ∀ x ∈ allS (ms.take k) t, x.1.length ≤ K + 100 * k
  | 0, _ => by simp only [List.take_zero]; exact ⟨by show t.length + 1 ≤ _; omega, fun x hx => by have := hk x hx; omega⟩
  | k + 1, h => by
    obtain ⟨h1, h2⟩ := all_grow ms K ht hk hm k (by omega)
    have hlt : k < ms.length := h
    rw [all_take ms t k hlt]
    have h3 := apply_len ms[k] (allS (ms.take k) t)
    have h4 := apply_keys ms[k] _ (srt_all (ms.take k) ht) h2 (hm _ (List.getElem_mem hlt))
    refine ⟨?_, fun x hx => ?_⟩
    · rw [Nat.pow_succ, ← Nat.mul_assoc]; omega
    · have := h4 x hx; omega
theorem okAll_many (ms : List Ms) {t : List Pr} (ht : Srt t) (hl : t.length ≤ 80) (hk : ∀ x ∈ t, x.1.length ≤ 100) (hm : ∀ m ∈ ms, Few m) (h20 : ms.length ≤ 20) : OkAll ms t := by
  intro k h
  obtain ⟨h1, h2⟩ := all_grow ms 100 ht hk hm k h
  have h3 : 2 ^ k ≤ 2 ^ 20 := Nat.pow_le_pow_right (by decide) (by omega)
  have h4 : (t.length + 1) * 2 ^ k ≤ 81 * 2 ^ 20 := Nat.mul_le_mul (by omega) h3
  refine ⟨by omega, fun x hx => ?_⟩
  have := h2 x hx; omega
theorem okAll_end {ms : List Ms} {t : List Pr} (h : OkAll ms t) : (allS ms t).length ≤ 100000000 ∧ ∀ x ∈ allS ms t, x.1.length ≤ 1000000000 := by
  have h1 := h ms.length (Nat.le_refl _)
  rw [List.take_length] at h1
  exact ⟨h1.1, fun x hx => Nat.le_trans (h1.2 x hx) (by omega)⟩
theorem madeX_ok (x : R6) : Ok (madeX x) := ⟨made_size _ _ _ _ _ _, made_valid _ _ _ _ _ _⟩
theorem listS_all (x : List R6) (n : Nat) : ∀ m ∈ listS x n, Ok m ∧ Few m := by
  intro m hm
  unfold listS at hm
  rw [List.mem_map] at hm
  obtain ⟨y, -, rfl⟩ := hm
  exact ⟨madeX_ok y, made_few _ _ _ _ _ _⟩
theorem listS_len (x : List R6) (n : Nat) : (listS x n).length ≤ n := by unfold listS; rw [List.length_map]; exact List.length_take_le _ _
theorem isSpans_nil (w : World) : IsSpans w (.slice none 0 0) [] := ⟨none, 0, rfl, Nat.le_refl _, by unfold maxLen; omega, fun h => absurd rfl h⟩
theorem isMsgs_nil (w : World) : IsMsgs w (.slice none 0 0) [] := ⟨none, 0, rfl, Nat.le_refl _, by unfold maxLen; omega, fun h => absurd rfl h⟩
theorem append_msgs {w : World} {ops : Array Oper} {rest : List Oper} {o : Oper} {a : Act} {Q : Exit → Act → World → Prop} (hgd : o.guard = none) (s x : Operand)
    (ho : o.op = .call { callee := .builtin .append, args := #[s, x], argTypes := #[25, 25] }) (base : Nat) (v : Value) (l : List Ms) (hs : a.eval s = v) (hown : OwnM w base v l)
    (u : Value) (m : List Ms) (hx : a.eval x = u) (hp : IsMsgs w u m) (hl : l.length + m.length ≤ 1000000000) (hbase : base ≤ w.heap.size)
    (h : ∀ v' w', OwnM w' base v' (l ++ m) → Below base w w' → wpList Tryz.prog ops Q rest (a.put o.dst v') w') : wpList Tryz.prog ops Q (o :: rest) a w := by
  obtain ⟨i0, hi, hz0, hz1, hz2⟩ := info_parts infoM
  obtain ⟨p, cap, rfl, hlc, hcm, hpp⟩ := hp
  refine append_gen hgd s x 25 63 i0 (.agg #[.int .i64 0, .string ⟨#[]⟩, .string ⟨#[]⟩, .string ⟨#[]⟩, .string ⟨#[]⟩, .string ⟨#[]⟩, .string ⟨#[]⟩, .int .i64 0]) 8 112 Tryz.underlying25 hi hz0 hz1 hz2 rfl (by decide) (by decide) ho base v l.length _ hs hown p m.length cap (m.flatMap encML) hx (flatM_len m) ?_ (flatM_one m) hl hbase ?_
  · intro hm
    obtain ⟨b, off, rfl, hlt, hc⟩ := hpp (by rintro rfl; simp at hm)
    refine ⟨_, rfl, cells_at fun j u hj => ?_⟩
    have hj1 : j < m.length * 8 := by rw [← flatM_len]; exact (List.getElem?_eq_some_iff.1 hj).1
    have hi2 : j / 8 < m.length := by omega
    have g := flatM_get m (j / 8) (j % 8) hi2 (by omega)
    rw [show j / 8 * 8 + j % 8 = j by omega, hj] at g
    obtain ⟨c0, c1, c2, c3, c4, c5, c6, c7⟩ := hc (j / 8) hi2
    have e : ∀ k, j % 8 = k → off + j = off + j / 8 * 8 + k := fun k hk => by omega
    have hr : j % 8 = 0 ∨ j % 8 = 1 ∨ j % 8 = 2 ∨ j % 8 = 3 ∨ j % 8 = 4 ∨ j % 8 = 5 ∨ j % 8 = 6 ∨ j % 8 = 7 := by omega
    rcases hr with h | h | h | h | h | h | h | h
    all_goals
      rw [e _ h]
      rw [h] at g
      simp only [encML, List.getElem?_cons_zero, List.getElem?_cons_succ] at g
      rw [g]
      assumption
  · intro v' w' h2 h3
    refine h v' w' ?_ h3
    unfold OwnM
    rw [List.length_append, List.flatMap_append]; exact h2
theorem sub_of {l : List Ms} (h : ∀ m ∈ l, Ok m) : ∃ L : List Mo, L.map (·.1) = l := by
  induction l with
  | nil => exact ⟨[], rfl⟩
  | cons m l ih =>
    obtain ⟨L, hL⟩ := ih (fun x hx => h x (List.mem_cons_of_mem _ hx))
    exact ⟨⟨m, h m List.mem_cons_self⟩ :: L, by rw [List.map_cons, hL]⟩
/-- A list of messages handed back. -/
def MsOut (w : World) (l : List Ms) (e : Ending) (w' : World) : Prop := ∃ v', e = .returned v' ∧ IsMsgs w' v' l ∧ Below w.heap.size w w'

/-- What is known of the lists that were handed back. -/
structure Sx (w : World) (L : List (Value × List Pr)) (M : List (Value × List Ms)) (D : List (Value × List Sp)) (wx : World) : Prop where
  g : Below w.heap.size w wx
  p : ∀ x ∈ L, IsPairs wx x.1 x.2
  m : ∀ x ∈ M, IsMsgs wx x.1 x.2
  s : ∀ x ∈ D, IsSpans wx x.1 x.2
section
variable {w wx wy : World} {L : List (Value × List Pr)} {M : List (Value × List Ms)} {D : List (Value × List Sp)}
theorem Sx.below (h : Sx w L M D wx) (hb : Below wx.heap.size wx wy) : Sx w L M D wy := ⟨h.g.trans (hb.mono h.g.size), fun x hx => (h.p x hx).below hb, fun x hx => (h.m x hx).below hb, fun x hx => (h.s x hx).below hb⟩
theorem Sx.alloc (h : Sx w L M D wx) (o : Obj) : Sx w L M D (wx.alloc o) := h.below (below_box _)
theorem Sx.start (h : Below w.heap.size w wx) : Sx w [] [] [] wx := ⟨h, (fun x hx => by cases hx), (fun x hx => by cases hx), (fun x hx => by cases hx)⟩
theorem Sx.addP (h : Sx w L M D wx) {v : Value} {l : List Pr} (hp : IsPairs wx v l) : Sx w ((v, l) :: L) M D wx := ⟨h.g, fun x hx => by
  rcases List.mem_cons.1 hx with rfl | hx
  · exact hp
  · exact h.p x hx, h.m, h.s⟩
theorem Sx.addM (h : Sx w L M D wx) {v : Value} {l : List Ms} (hp : IsMsgs wx v l) : Sx w L ((v, l) :: M) D wx := ⟨h.g, h.p, fun x hx => by
  rcases List.mem_cons.1 hx with rfl | hx
  · exact hp
  · exact h.m x hx, h.s⟩
theorem Sx.addS (h : Sx w L M D wx) {v : Value} {l : List Sp} (hp : IsSpans wx v l) : Sx w L M ((v, l) :: D) wx := ⟨h.g, h.p, h.m, fun x hx => by
  rcases List.mem_cons.1 hx with rfl | hx
  · exact hp
  · exact h.s x hx⟩
def SxP (w : World) (L : List (Value × List Pr)) (M : List (Value × List Ms)) (D : List (Value × List Sp)) (R : List Pr) (e : Ending) (w' : World) : Prop :=
  ∃ p c, e = .returned (.slice p R.length c) ∧ Sx w ((.slice p R.length c, R) :: L) M D w'
def SxM (w : World) (L : List (Value × List Pr)) (M : List (Value × List Ms)) (D : List (Value × List Sp)) (R : List Ms) (e : Ending) (w' : World) : Prop :=
  ∃ p c, e = .returned (.slice p R.length c) ∧ Sx w L ((.slice p R.length c, R) :: M) D w'
def SxS (w : World) (L : List (Value × List Pr)) (M : List (Value × List Ms)) (D : List (Value × List Sp)) (R : List Sp) (e : Ending) (w' : World) : Prop :=
  ∃ p c, e = .returned (.slice p R.length c) ∧ Sx w L M ((.slice p R.length c, R) :: D) w'
def SxB (w : World) (L : List (Value × List Pr)) (M : List (Value × List Ms)) (D : List (Value × List Sp)) (b : Bool) (e : Ending) (w' : World) : Prop := e = .returned (.bool b) ∧ Sx w L M D w'
theorem OwnOut.sx (h : Sx w L M D wx) {R : List Pr} {e : Ending} {w' : World} (k : OwnOut wx.heap.size wx R e w') : SxP w L M D R e w' := by
  obtain ⟨v, he, -, hp, hb⟩ := k
  obtain ⟨p, c, rfl, -⟩ := id hp
  exact ⟨_, _, he, (h.below hb).addP hp⟩
theorem MsOut.sx (h : Sx w L M D wx) {R : List Ms} {e : Ending} {w' : World} (k : MsOut wx R e w') : SxM w L M D R e w' := by
  obtain ⟨v, he, hp, hb⟩ := k
  obtain ⟨p, c, rfl, -⟩ := id hp
  exact ⟨_, _, he, (h.below hb).addM hp⟩
theorem sx_made (h : Sx w L M D wx) {v : Value} {l : List Rw} (hv : T4.IsRaws wx v l) (R : List Pr) (hR : R = T4.madeS l) : Calls Tryz.prog 21 #[v] wx (SxP w L M D R) := by
  subst hR
  exact (T4.made_w v l wx hv).mono fun _ _ k => k.sx h
theorem sx_list (h : Sx w L M D wx) {v : Value} {l : List R6} (hv : IsR6s wx v l) (n : Nat) (hn : n ≤ 100) (R : List Ms) (hR : R = listS l n) : Calls Tryz.prog 10 #[v, .int .i64 n] wx (SxM w L M D R) := by
  subst hR
  refine (list_w v l n wx hv hn).mono fun e w' ⟨v', he, ho, hb⟩ => ?_
  exact MsOut.sx h ⟨v', he, ho.msgs, hb⟩
theorem sx_all (h : Sx w L M D wx) {v u : Value} (T : List Pr) (ms : List Ms) (R : List Pr) (hR : R = allS ms T) (hv : (v, T) ∈ L) (hu : (u, ms) ∈ M) (hs : Srt T) (hz : ∀ m ∈ ms, Ok m) (ok : OkAll ms T) :
    Calls Tryz.prog 22 #[v, u] wx (SxP w L M D R) := by
  subst hR
  exact (all_w v u T ms wx (h.p _ hv) (h.m _ hu) hs (fun m hm => (hz m hm).1) ok).mono fun _ _ k => k.sx h
theorem sx_same (h : Sx w L M D wx) {v u : Value} (a b : List Pr) (e : a = b) (hv : (v, a) ∈ L) (hu : (u, b) ∈ L) : Calls Tryz.prog 28 #[v, u] wx (SxB w L M D true) :=
  (T4.same_w v u a b wx (h.p _ hv) (h.p _ hu)).mono fun _ _ ⟨h1, n, h2⟩ => ⟨by rw [h1, e]; simp, by rw [h2]; exact h.below (below_drewN wx n)⟩
theorem key_any (k : Bs) (v : Value) (l : List Ms) (w : World) (hm : IsMsgs w v l) (ho : ∀ m ∈ l, Ok m) (hl : l.length ≤ 50) (hk : k.length ≤ 1000000000) :
    Calls Tryz.prog 17 #[.string (Str k), v] w fun e w' => e = .returned (fdV (keyF k l)) ∧ Below w.heap.size w w' := by
  obtain ⟨L, rfl⟩ := sub_of ho
  exact tkey_w k v L w hm (by rw [List.length_map] at hl; exact hl) hk
theorem spans_any (s : Sp) (v : Value) (l : List Ms) (w : World) (hm : IsMsgs w v l) (ho : ∀ m ∈ l, Ok m) (hl : l.length ≤ 30) (hs1 : s.1.length ≤ 1000000000) (hs2 : s.2.length ≤ 1000000000) :
    Calls Tryz.prog 19 #[strS s, v] w (OutS w.heap.size w (spansF s l)) := by
  obtain ⟨L, rfl⟩ := sub_of ho
  exact tspans_w s v L w hm (by rw [List.length_map] at hl; exact hl) hs1 hs2
/-- What is known of a key is handed back. -/
def SxF (w : World) (L : List (Value × List Pr)) (M : List (Value × List Ms)) (D : List (Value × List Sp)) (f : Fd) (e : Ending) (w' : World) : Prop := e = .returned (fdV f) ∧ Sx w L M D w'
theorem sx_key (h : Sx w L M D wx) (k : Bs) {v : Value} (ms : List Ms) (f : Fd) (hf : f = keyF k ms) (hv : IsMsgs wx v ms) (hz : ∀ m ∈ ms, Ok m) (hl : ms.length ≤ 50) (hk : k.length ≤ 1000000000) : Calls Tryz.prog 17 #[.string (Str k), v] wx (SxF w L M D f) := by
  subst hf
  exact (key_any k v ms wx hv hz hl hk).mono fun _ _ ⟨h1, h2⟩ => ⟨h1, h.below h2⟩
theorem sx_spans (h : Sx w L M D wx) (s : Sp) {v : Value} (ms : List Ms) (R : List Sp) (hR : R = spansF s ms) (hv : IsMsgs wx v ms) (hz : ∀ m ∈ ms, Ok m) (hl : ms.length ≤ 30) (hs1 : s.1.length ≤ 1000000000) (hs2 : s.2.length ≤ 1000000000) : Calls Tryz.prog 19 #[strS s, v] wx (SxS w L M D R) := by
  subst hR
  refine (spans_any s v ms wx hv hz hl hs1 hs2).mono fun e w' ⟨v', he, ho, hb⟩ => ?_
  have hs := IsSpans.owned ho
  obtain ⟨p, c, rfl, -⟩ := id hs
  exact ⟨_, _, he, (h.below hb).addS hs⟩
theorem sx_rsame (h : Sx w L M D wx) {v u : Value} (a b : List Sp) (hv : IsSpans wx v a) (hu : IsSpans wx u b) : Calls Tryz.prog 18 #[v, u] wx (SxB w L M D (decide (a = b))) :=
  (spsame_w v u a b wx hv hu).mono fun _ _ ⟨h1, h2⟩ => ⟨h1, h.below (h2.below (Nat.le_refl _))⟩
end

end Go.Proofs.YthncnijkgkeohaaGreat
