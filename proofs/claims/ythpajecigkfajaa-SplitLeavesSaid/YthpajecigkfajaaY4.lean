/-
  Plain: what the reader of nodes reads. No program. Plain: reading messages and nodes. No program.
-/
import Derived.Test.YthpajecigkfajaaY3
import Derived.Test.YthpajecigkfajaaNY
import Derived.IntWalk
namespace Go.Proofs.Ythpajecigkfajaa
open Go.RowKit Go.Sort
set_option linter.unusedVariables false

/-- A reader of one thing, with how it is written: what is written is read, and what is read was written. -/
structure Reads {α : Type} (f : RS → α × RS) (enc : α → Bs) (good : α → Prop) : Prop where
  app : ∀ x r, good x → f (enc x ++ r, false) = (x, (r, false))
  snd : ∀ s, (f s).2.2 = false → s.2 = false ∧ ∃ b, s.1 = b ++ (f s).2.1 ∧ (good (f s).1 → b = enc (f s).1)

theorem takeP_snd (k : Nat) (s : RS) (h : (takeP k s).2.2 = false) : s.2 = false ∧ (takeP k s).1.length = k ∧ s.1 = (takeP k s).1 ++ (takeP k s).2.1 := by
  unfold takeP at h ⊢
  by_cases hl : s.1.length < k
  · rw [if_pos hl] at h; cases h
  · rw [if_neg hl] at h
    simp only [if_neg hl]
    exact ⟨h, by rw [List.length_take]; omega, (List.take_append_drop _ _).symm⟩

/-- Numbers of four bytes, of eight. -/
def num4 (s : RS) : Int × RS := (((numP 4 s).1 : Nat), (numP 4 s).2)
def num8 (s : RS) : Int × RS := (IntKind.i64.wrap ((numF (takeP 8 s).1 : Nat) : Int), (takeP 8 s).2)
theorem reads4 : Reads num4 kidY (fun x => 0 ≤ x ∧ x < 4294967296) where
  app := fun x r ⟨h1, h2⟩ => by
    unfold num4 kidY
    rw [numP_app 4 x.toNat r false (by omega)]
    simp only
    rw [Int.toNat_of_nonneg h1]
  snd := fun s h => by
    have h2 := takeP_snd 4 s h
    refine ⟨h2.1, _, h2.2.2, fun _ => ?_⟩
    unfold num4 kidY numP
    simp only [Int.toNat_natCast]
    have h3 := bytesN_numF (takeP 4 s).1
    rw [h2.2.1] at h3
    exact h3.symm
def big8 (x : Int) : Bs := bytesN 8 x.toNat
theorem reads8 : Reads num8 big8 (fun x => 0 ≤ x ∧ x ≤ 1000000000000000) where
  app := fun x r ⟨h1, h2⟩ => by
    unfold num8 big8
    rw [takeP_app' 8 (bytesN 8 x.toNat) r false (bytesN_len _ _)]
    simp only
    rw [numF_bytesN, Nat.mod_eq_of_lt (by omega), Int.toNat_of_nonneg h1, IntWalk.i64_in _ (by omega)]
  snd := fun s h => by
    have h2 := takeP_snd 8 s h
    refine ⟨h2.1, _, h2.2.2, fun hg => ?_⟩
    unfold num8 at hg ⊢
    unfold big8
    simp only at hg ⊢
    have h3 := bytesN_numF (takeP 8 s).1
    have h4 := numF_lt (takeP 8 s).1
    rw [h2.2.1] at h3 h4
    have h5 : (IntKind.i64.wrap ((numF (takeP 8 s).1 : Nat) : Int)).toNat = numF (takeP 8 s).1 := by
      rw [IntKind.wrap_i64] at hg ⊢
      omega
    rw [h5]
    exact h3.symm
theorem readsT : Reads textP textB (fun x => x.length ≤ 65535) where
  app := fun x r h => textP_app x r false h
  snd := fun s h => by
    have h2 := takeP_snd _ _ h
    have h3 := takeP_snd 2 s h2.1
    refine ⟨h3.1, (takeP 2 s).1 ++ (textP s).1, ?_, fun _ => ?_⟩
    · rw [List.append_assoc]
      exact h3.2.2.trans (congrArg _ h2.2.2)
    · unfold textB
      have h4 := bytesN_numF (takeP 2 s).1
      rw [h3.2.1] at h4
      have h5 : (textP s).1.length = numF (takeP 2 s).1 := h2.2.1
      rw [h5, h4]
theorem textP_short (s : RS) : (textP s).1.length ≤ 65535 := by
  have h1 := takeP_len (numP 2 s).1 (numP 2 s).2
  have h2 := numP2_lt s
  unfold textP; omega
/-- One after the other. -/
def seqR {α β : Type} (f : RS → α × RS) (g : RS → β × RS) (s : RS) : (α × β) × RS := (((f s).1, (g (f s).2).1), (g (f s).2).2)
theorem Reads.seq {α β : Type} {f : RS → α × RS} {g : RS → β × RS} {ef : α → Bs} {eg : β → Bs} {pf : α → Prop} {pg : β → Prop} (h : Reads f ef pf) (k : Reads g eg pg) :
    Reads (seqR f g) (fun x => ef x.1 ++ eg x.2) (fun x => pf x.1 ∧ pg x.2) where
  app := fun x r ⟨h1, h2⟩ => by
    unfold seqR
    rw [List.append_assoc, h.app _ _ h1]
    simp only
    rw [k.app _ _ h2]
  snd := fun s hs => by
    obtain ⟨h1, b, hb, hb2⟩ := k.snd _ hs
    obtain ⟨h3, c, hc, hc2⟩ := h.snd _ h1
    refine ⟨h3, c ++ b, ?_, fun hg => ?_⟩
    · rw [List.append_assoc]; exact hc.trans (congrArg _ hb)
    · have e1 := hc2 hg.1
      have e2 := hb2 hg.2
      rw [e1, e2]; rfl
/-- Under another name. -/
theorem Reads.map {α β : Type} {f : RS → α × RS} {ef : α → Bs} {pf : α → Prop} (h : Reads f ef pf) (t : α → β) (u : β → α) (ut : ∀ x, u (t x) = x) (tu : ∀ x, t (u x) = x) : Reads (fun s => (t (f s).1, (f s).2)) (fun x => ef (u x)) (fun x => pf (u x)) where
  app := fun x r hx => by rw [h.app _ _ hx]; simp only [tu]
  snd := fun s hs => by
    obtain ⟨h1, b, hb, hb2⟩ := h.snd s hs
    exact ⟨h1, b, hb, fun hg => by simp only [ut] at hg ⊢; exact hb2 hg⟩
theorem Reads.same {α : Type} {f g : RS → α × RS} {ef eg : α → Bs} {pf pg : α → Prop} (h : Reads f ef pf) (h1 : g = f) (h2 : eg = ef) (h3 : ∀ x, pg x → pf x) : Reads g eg pg := by
  subst h1 h2
  exact ⟨fun x r hx => h.app x r (h3 x hx), fun s hs => by
    obtain ⟨k1, b, hb, hb2⟩ := h.snd s hs
    exact ⟨k1, b, hb, fun hg => hb2 (h3 _ hg)⟩⟩

def pairR (s : RS) : Pr × RS := (((textP s).1, (textP (textP s).2).1, (num4 (textP (textP s).2).2).1), (num4 (textP (textP s).2).2).2)
theorem readsP : Reads pairR pairY (fun p => p.1.length ≤ 65535 ∧ p.2.1.length ≤ 65535 ∧ 0 ≤ p.2.2 ∧ p.2.2 < 4294967296) :=
  (readsT.seq (readsT.seq reads4)).same (by funext s; simp only [pairR, seqR]) (by funext p; unfold pairY kidY; rw [List.append_assoc]) (fun x h => ⟨h.1, h.2.1, h.2.2⟩)
def boundR (s : RS) : Rg × RS := (((num8 s).1, (num8 (num8 s).2).1), (num8 (num8 s).2).2)
def sumR (s : RS) : Sm × RS := (((boundR s).1, (boundR (boundR s).2).1), (boundR (boundR s).2).2)
theorem readsSm : Reads sumR sumY (fun s => sumB s = true) :=
  ((reads8.seq reads8).seq (reads8.seq reads8)).same (by funext s; simp only [sumR, boundR, seqR]) (by funext p; unfold sumY big8; simp only [List.append_assoc]) (fun x h => by
    have := sumB_iff h
    exact ⟨⟨by omega, by omega⟩, by omega, by omega⟩)
def msgR (s : RS) : Ms × RS := match parseS s.1 with
  | some (m, n) => (m, (takeP n s).2)
  | none => (zeroM 0, (s.1, true))

/-- A list. -/
def listP {α : Type} (f : RS → α × RS) : Nat → List α → RS → List α × RS
  | 0, acc, s => (acc, s)
  | k + 1, acc, s => if s.2 = true then ([], s) else listP f k (acc ++ [(f s).1]) (f s).2
theorem listP_app {α : Type} {f : RS → α × RS} {e : α → Bs} {p : α → Prop} (h : Reads f e p) (l : List α) (hl : ∀ x ∈ l, p x) (acc : List α) (r : Bs) : listP f l.length acc (l.flatMap e ++ r, false) = (acc ++ l, (r, false)) := by
  induction l generalizing acc with
  | nil => simp [listP]
  | cons x l ih =>
    rw [List.length_cons, listP, if_neg (by simp), List.flatMap_cons, List.append_assoc, h.app _ _ (hl x (by simp))]
    simp only
    rw [ih (fun y hy => hl y (by simp [hy]))]
    simp
theorem listP_snd {α : Type} {f : RS → α × RS} {e : α → Bs} {p : α → Prop} (h : Reads f e p) (k : Nat) (acc : List α) (s : RS) (hs : (listP f k acc s).2.2 = false) :
    s.2 = false ∧ ∃ l b, (listP f k acc s).1 = acc ++ l ∧ l.length = k ∧ s.1 = b ++ (listP f k acc s).2.1 ∧ ((∀ x ∈ l, p x) → b = l.flatMap e) := by
  induction k generalizing acc s with
  | zero => exact ⟨hs, [], [], by simp [listP], rfl, by simp [listP], fun _ => rfl⟩
  | succ k ih =>
    rw [listP] at hs ⊢
    by_cases h0 : s.2 = true
    · rw [if_pos h0] at hs; rw [h0] at hs; cases hs
    · rw [if_neg h0] at hs ⊢
      obtain ⟨h1, l, b, h2, h3, h4, h5⟩ := ih _ _ hs
      obtain ⟨h6, c, h7, h8⟩ := h.snd s h1
      refine ⟨h6, (f s).1 :: l, c ++ b, by rw [h2]; simp, by simp [h3], by rw [List.append_assoc, ← h4]; exact h7, fun hg => ?_⟩
      rw [List.flatMap_cons, h8 (hg _ (by simp)), h5 (fun x hx => hg x (by simp [hx]))]
theorem listP_mem {α : Type} {f : RS → α × RS} {p : α → Prop} (hf : ∀ s, p (f s).1) (k : Nat) (acc : List α) (s : RS) (ha : ∀ x ∈ acc, p x) : ∀ x ∈ (listP f k acc s).1, p x := by
  induction k generalizing acc s with
  | zero => exact ha
  | succ k ih =>
    rw [listP]
    split
    · intro x hx; cases hx
    · refine ih _ _ fun x hx => ?_
      rcases List.mem_append.1 hx with h | h
      · exact ha x h
      · rw [List.mem_singleton.1 h]; exact hf s
theorem listP_le {α : Type} (f : RS → α × RS) (k : Nat) (acc : List α) (s : RS) : (listP f k acc s).1.length ≤ acc.length + k := by
  induction k generalizing acc s with
  | zero => exact Nat.le_refl _
  | succ k ih =>
    rw [listP]
    split
    · simp
    · have := ih (acc ++ [(f s).1]) (f s).2
      simp at this ⊢; omega

end Go.Proofs.Ythpajecigkfajaa
namespace Go.Proofs.Ythpajecigkfajaa
open Go.RowKit Go.Sort
set_option linter.unusedVariables false

def fieldsY (m : Ms) : Bs := (fieldsT m).flatMap textB ++ (fieldsN m).flatMap (fun n => bytesN 4 n.toNat)
theorem two_snd (s : RS) (h : (textP (textP s).2).2.2 = false) : s.2 = false ∧ s.1 = (textB (textP s).1 ++ textB (textP (textP s).2).1) ++ (textP (textP s).2).2.1 := by
  obtain ⟨h1, b, h2, h3⟩ := readsT.snd _ h
  obtain ⟨h4, c, h5, h6⟩ := readsT.snd _ h1
  refine ⟨h4, ?_⟩
  rw [List.append_assoc, ← h3 (textP_short _), ← h6 (textP_short _), ← h2]; exact h5
theorem num_snd (s : RS) (h : (numP 4 s).2.2 = false) : s.2 = false ∧ s.1 = bytesN 4 (numP 4 s).1 ++ (numP 4 s).2.1 := by
  have h2 := takeP_snd 4 s h
  have h3 := bytesN_numF (takeP 4 s).1
  rw [h2.2.1] at h3
  exact ⟨h2.1, by unfold numP; simp only; rw [h3]; exact h2.2.2⟩
theorem fieldsY1 (a b : Bs) (n : Nat) : fieldsY { zeroM 1 with key := a, val := b, n := (n : Nat) } = textB a ++ textB b ++ bytesN 4 n := by simp [fieldsY, fieldsT, fieldsN, zeroM]
theorem fieldsY2 (a : Bs) : fieldsY { zeroM 2 with key := a } = textB a := by simp [fieldsY, fieldsT, fieldsN, zeroM]
theorem fieldsY3 (a b : Bs) : fieldsY { zeroM 3 with lo := a, hi := b } = textB a ++ textB b := by simp [fieldsY, fieldsT, fieldsN, zeroM]
theorem fieldsY4 (a b : Bs) : fieldsY { zeroM 4 with src := a, dst := b } = textB a ++ textB b := by simp [fieldsY, fieldsT, fieldsN, zeroM]
theorem fieldsY5 (a b : Bs) : fieldsY { zeroM 5 with src := a, dst := b } = textB a ++ textB b := by simp [fieldsY, fieldsT, fieldsN, zeroM]
theorem fieldsY6 (a b : Bs) (n : Nat) : fieldsY { zeroM 6 with lo := a, hi := b, n := (n : Nat) } = textB a ++ textB b ++ bytesN 4 n := by simp [fieldsY, fieldsT, fieldsN, zeroM]
theorem restM_is1 (s : RS) : restM 1 s = ({ zeroM 1 with key := (textP s).1, val := (textP (textP s).2).1, n := ((numP 4 (textP (textP s).2).2).1 : Nat) }, (numP 4 (textP (textP s).2).2).2) := by unfold restM; simp
theorem restM_is2 (s : RS) : restM 2 s = ({ zeroM 2 with key := (textP s).1 }, (textP s).2) := by unfold restM; simp
theorem restM_is3 (s : RS) : restM 3 s = ({ zeroM 3 with lo := (textP s).1, hi := (textP (textP s).2).1 }, (textP (textP s).2).2) := by unfold restM; simp
theorem restM_is4 (s : RS) : restM 4 s = ({ zeroM 4 with src := (textP s).1, dst := (textP (textP s).2).1 }, (textP (textP s).2).2) := by unfold restM; simp
theorem restM_is5 (s : RS) : restM 5 s = ({ zeroM 5 with src := (textP s).1, dst := (textP (textP s).2).1 }, (textP (textP s).2).2) := by unfold restM; simp
theorem restM_is6 (s : RS) : restM 6 s = ({ zeroM 6 with lo := (textP s).1, hi := (textP (textP s).2).1, n := ((numP 4 (textP (textP s).2).2).1 : Nat) }, (numP 4 (textP (textP s).2).2).2) := by unfold restM; simp
theorem restM_no (k : Int) (s : RS) (h : ¬ (1 ≤ k ∧ k ≤ 6)) : restM k s = (zeroM k, s) := by
  unfold restM; simp only
  rw [if_neg (by omega), if_neg (by omega), if_neg (by omega), if_neg (by omega), if_neg (by omega), if_neg (by omega)]
theorem restM_snd1 (s : RS) (h : (restM 1 s).2.2 = false) : s.2 = false ∧ s.1 = fieldsY (restM 1 s).1 ++ (restM 1 s).2.1 := by
  rw [restM_is1] at h ⊢
  simp only at h ⊢
  obtain ⟨a1, a2⟩ := num_snd (textP (textP s).2).2 h
  obtain ⟨b1, b2⟩ := two_snd s a1
  refine ⟨b1, ?_⟩
  rw [fieldsY1, List.append_assoc, ← a2]
  exact b2
theorem restM_snd2 (s : RS) (h : (restM 2 s).2.2 = false) : s.2 = false ∧ s.1 = fieldsY (restM 2 s).1 ++ (restM 2 s).2.1 := by
  rw [restM_is2] at h ⊢
  obtain ⟨a1, b, a2, a3⟩ := readsT.snd _ h
  refine ⟨a1, ?_⟩
  rw [fieldsY2, ← a3 (textP_short _)]
  exact a2
theorem restM_snd3 (s : RS) (h : (restM 3 s).2.2 = false) : s.2 = false ∧ s.1 = fieldsY (restM 3 s).1 ++ (restM 3 s).2.1 := by
  rw [restM_is3] at h ⊢
  simp only at h ⊢
  obtain ⟨b1, b2⟩ := two_snd s h
  refine ⟨b1, ?_⟩
  rw [fieldsY3]
  exact b2
theorem restM_snd4 (s : RS) (h : (restM 4 s).2.2 = false) : s.2 = false ∧ s.1 = fieldsY (restM 4 s).1 ++ (restM 4 s).2.1 := by
  rw [restM_is4] at h ⊢
  simp only at h ⊢
  obtain ⟨b1, b2⟩ := two_snd s h
  refine ⟨b1, ?_⟩
  rw [fieldsY4]
  exact b2
theorem restM_snd5 (s : RS) (h : (restM 5 s).2.2 = false) : s.2 = false ∧ s.1 = fieldsY (restM 5 s).1 ++ (restM 5 s).2.1 := by
  rw [restM_is5] at h ⊢
  simp only at h ⊢
  obtain ⟨b1, b2⟩ := two_snd s h
  refine ⟨b1, ?_⟩
  rw [fieldsY5]
  exact b2
theorem restM_snd6 (s : RS) (h : (restM 6 s).2.2 = false) : s.2 = false ∧ s.1 = fieldsY (restM 6 s).1 ++ (restM 6 s).2.1 := by
  rw [restM_is6] at h ⊢
  simp only at h ⊢
  obtain ⟨a1, a2⟩ := num_snd (textP (textP s).2).2 h
  obtain ⟨b1, b2⟩ := two_snd s a1
  refine ⟨b1, ?_⟩
  rw [fieldsY6, List.append_assoc, ← a2]
  exact b2
theorem restM_snd (k : Int) (s : RS) (hk : 1 ≤ k ∧ k ≤ 6) (h : (restM k s).2.2 = false) : s.2 = false ∧ s.1 = fieldsY (restM k s).1 ++ (restM k s).2.1 := by
  have h2 : k = 1 ∨ k = 2 ∨ k = 3 ∨ k = 4 ∨ k = 5 ∨ k = 6 := by omega
  rcases h2 with rfl | rfl | rfl | rfl | rfl | rfl
  · exact restM_snd1 s h
  · exact restM_snd2 s h
  · exact restM_snd3 s h
  · exact restM_snd4 s h
  · exact restM_snd5 s h
  · exact restM_snd6 s h
theorem restM_kind (k : Int) (s : RS) : (restM k s).1.kind = k := by
  unfold restM; simp only
  repeat' split
  all_goals rfl
theorem parseS_snd {b : Bs} {m : Ms} {n : Nat} (h : parseS b = some (m, n)) : validM m = true ∧ n ≤ b.length ∧ b.take n = bytesM m := by
  unfold parseS at h
  simp only at h
  split at h
  · cases h
  rename_i hc
  have hc1 : (restM ((numP 1 (b, false)).1 : Nat) (numP 1 (b, false)).2).2.2 = false := by
    cases e : (restM ((numP 1 (b, false)).1 : Nat) (numP 1 (b, false)).2).2.2 with
    | false => rfl
    | true => exact absurd (.inl e) hc
  have hc2 : validM (restM ((numP 1 (b, false)).1 : Nat) (numP 1 (b, false)).2).1 = true := by
    cases e : validM (restM ((numP 1 (b, false)).1 : Nat) (numP 1 (b, false)).2).1 with
    | true => rfl
    | false => exact absurd (.inr e) hc
  clear hc
  have hk := restM_kind ((numP 1 (b, false)).1 : Nat) (numP 1 (b, false)).2
  injection h with h
  injection h with h1 h2
  have hc2' := hc2
  rw [h1] at hc2' hk
  obtain ⟨-, -, hk0, hk6⟩ := valid_small hc2'
  have hk1 : 1 ≤ m.kind ∧ m.kind ≤ 6 := by
    have := kind_cases m hc2'
    omega
  obtain ⟨a1, a2⟩ := restM_snd _ _ (by rw [← hk]; exact hk1) hc1
  obtain ⟨-, d1, d2⟩ := takeP_snd 1 (b, false) a1
  have d3 := bytesN_numF (takeP 1 (b, false)).1
  rw [d1] at d3
  rw [h1] at hc2 a2
  have hb : b = bytesM m ++ (restM ((numP 1 (b, false)).1 : Nat) (numP 1 (b, false)).2).2.1 := by
    have e1 : bytesM m = (takeP 1 (b, false)).1 ++ fieldsY m := by
      unfold bytesM
      rw [if_pos hc2, List.append_assoc]
      congr 1
      rw [hk, Int.toNat_natCast]; exact d3
    rw [e1, List.append_assoc, ← a2]; exact d2
  have hl : b.length = (bytesM m).length + (restM ((numP 1 (b, false)).1 : Nat) (numP 1 (b, false)).2).2.1.length := by
    conv => lhs; rw [hb]
    rw [List.length_append]
  have hn : n = (bytesM m).length := by omega
  refine ⟨hc2, by omega, ?_⟩
  rw [hb, hn]; simp
theorem readsM : Reads msgR bytesM (fun m => validM m = true) where
  app := fun x r hv => by
    unfold msgR
    rw [parse_app x r hv]
    simp only
    rw [takeP_app]
  snd := fun s h => by
    unfold msgR at h ⊢
    cases hp : parseS s.1 with
    | none => rw [hp] at h; cases h
    | some x =>
      obtain ⟨m, n⟩ := x
      rw [hp] at h
      simp only at h ⊢
      obtain ⟨h1, h2, h3⟩ := parseS_snd hp
      obtain ⟨k1, k2, k3⟩ := takeP_snd n s h
      refine ⟨k1, _, k3, fun _ => ?_⟩
      have e : (takeP n s).1 = s.1.take n := by unfold takeP; rw [if_neg (by omega)]
      rw [e, h3]

/-- The node that is read. -/
def noNd : Nd := ⟨[], [], [], [], []⟩
def innerR (s : RS) : Nd × RS :=
  let c := numP 4 s
  if c.1 = 0 then (noNd, (c.2.1, true)) else
  let k := listP num4 c.1 [] c.2
  let p := listP textP (c.1 - 1) [] k.2
  let q := listP sumR c.1 [] p.2
  let d := numP 4 q.2
  let m := listP msgR d.1 [] d.2
  (⟨[], p.1, k.1, q.1, m.1⟩, m.2)
def nodeR (s : RS) : Nd × RS :=
  let t := numP 1 s
  if t.1 = 76 then (⟨(listP pairR (numP 4 t.2).1 [] (numP 4 t.2).2).1, [], [], [], []⟩, (listP pairR (numP 4 t.2).1 [] (numP 4 t.2).2).2)
  else if t.1 = 78 then innerR t.2
  else (noNd, (t.2.1, true))
def parseN (b : Bs) : Option Nd := if (nodeR (b, false)).2.2 = true ∨ (nodeR (b, false)).2.1 ≠ [] ∨ validN (nodeR (b, false)).1 ([], []) = false then none else some (nodeR (b, false)).1

theorem num4_app (n : Nat) (r : Bs) (h : n < 4294967296) : numP 4 (bytesN 4 n ++ r, false) = (n, (r, false)) := numP_app 4 n r false h
theorem num1_app (n : Nat) (r : Bs) (h : n < 256) : numP 1 (bytesN 1 n ++ r, false) = (n, (r, false)) := numP_app 1 n r false h
/-- Few of everything. -/
def FewN (n : Nd) : Prop := n.pairs.length < 4294967296 ∧ n.kids.length < 4294967296 ∧ n.buf.length < 4294967296
theorem bytesNd_leaf {n : Nd} (hv : validN n ([], []) = true) (hk : n.kids = []) : bytesNd n = leafY n := by
  have h := valid_leaf hv hk
  unfold bytesNd
  rw [hv, h.1, if_pos hk]; rfl
theorem bytesNd_inner {n : Nd} (hv : validN n ([], []) = true) (hp : n.pivots.all textFB = true) (hk : n.kids ≠ []) : bytesNd n = innerY n := by
  unfold bytesNd
  rw [hv, hp, if_neg hk]; rfl
theorem nodeR_app (n : Nd) (r : Bs) (hv : validN n ([], []) = true) (hp : n.pivots.all textFB = true) (hf : FewN n) : nodeR (bytesNd n ++ r, false) = (n, (r, false)) := by
  obtain ⟨f1, f2, f3⟩ := hf
  by_cases hk : n.kids = []
  · obtain ⟨h1, h2, h3, h4, h5⟩ := valid_leaf hv hk
    rw [bytesNd_leaf hv hk]
    obtain ⟨np, ni, nk, ns, nb⟩ := n
    simp only at *
    subst h1 h2 h3 hk
    unfold leafY nodeR
    simp only [List.append_assoc]
    have e1 : numP 1 ([76] ++ (bytesN 4 np.length ++ (np.flatMap pairY ++ r)), false) = (76, (bytesN 4 np.length ++ (np.flatMap pairY ++ r), false)) := num1_app 76 _ (by omega)
    rw [e1]
    simp only [↓reduceIte]
    rw [num4_app _ _ f1]
    simp only
    rw [listP_app readsP np (fun x hx => by
      have := pairB_iff (leafPB_iff (h5 x hx)).1
      exact ⟨by omega, by omega, by omega, by omega⟩)]
    rfl
  · obtain ⟨h1, h2, h3, h4, h5, h6, h7⟩ := valid_inner hv hk
    rw [bytesNd_inner hv hp hk]
    obtain ⟨np, ni, nk, ns, nb⟩ := n
    simp only at *
    subst h1
    have hpos := len_posN hk
    unfold innerY nodeR
    simp only [List.append_assoc]
    have e1 : ∀ z : Bs, numP 1 ([78] ++ z, false) = (78, (z, false)) := fun z => num1_app 78 _ (by omega)
    rw [e1]
    simp only
    rw [if_neg (by omega), if_pos trivial]
    unfold innerR
    rw [num4_app _ _ f2]
    simp only
    rw [if_neg (by omega)]
    rw [listP_app reads4 nk (fun x hx => by have := kidB_iff (h4 x hx); omega)]
    simp only
    rw [show nk.length - 1 = ni.length by omega, listP_app readsT ni (fun x hx => textFB_iff (List.all_eq_true.1 hp x hx))]
    simp only
    rw [← h2, listP_app readsSm ns h6]
    simp only
    rw [num4_app _ _ f3]
    simp only
    rw [listP_app readsM nb (fun x hx => by have := h7 x hx; unfold bufB at this; rw [Bool.and_eq_true] at this; exact this.1)]
    rfl
theorem innerR_snd (s : RS) (h : (innerR s).2.2 = false) (hv : validN (innerR s).1 ([], []) = true) : s.2 = false ∧ [78] ++ s.1 = bytesNd (innerR s).1 ++ (innerR s).2.1 := by
  unfold innerR at h hv ⊢
  simp only at h hv ⊢
  by_cases h0 : (numP 4 s).1 = 0
  · rw [if_pos h0] at h; cases h
  rw [if_neg h0] at h hv ⊢
  simp only at h hv ⊢
  obtain ⟨m1, lm, bm, m2, m3, m4, m5⟩ := listP_snd readsM _ _ _ h
  obtain ⟨n1, n2⟩ := num_snd _ m1
  obtain ⟨q1, lq, bq, q2, q3, q4, q5⟩ := listP_snd readsSm _ _ _ n1
  have ht := listP_mem (p := fun x => textFB x = true) (fun s => by unfold textFB; rw [decide_eq_true_eq]; exact textP_short s) ((numP 4 s).1 - 1) [] (listP num4 (numP 4 s).1 [] (numP 4 s).2).2 (fun x hx => by cases hx)
  obtain ⟨p1, lp, bp, p2, p3, p4, p5⟩ := listP_snd readsT _ _ _ q1
  obtain ⟨k1, lk, bk, k2, k3, k4, k5⟩ := listP_snd reads4 _ _ _ p1
  obtain ⟨c1, c2⟩ := num_snd _ k1
  refine ⟨c1, ?_⟩
  simp only [List.nil_append] at m2 q2 p2 k2
  rw [m2, q2, p2, k2] at hv ⊢
  rw [p2] at ht
  have hne : lk ≠ [] := by rintro rfl; simp at k3; omega
  obtain ⟨v1, v2, v3, v4, v5, v6, v7⟩ := valid_inner (n := ⟨[], lp, lk, lq, lm⟩) hv hne
  simp only at v2 v3 v4 v5 v6 v7
  rw [bytesNd_inner (n := ⟨[], lp, lk, lq, lm⟩) hv (List.all_eq_true.2 ht) hne]
  unfold innerY
  simp only [List.append_assoc]
  rw [m3, k3, ← m5 (fun x hx => by have := v7 x hx; unfold bufB at this; rw [Bool.and_eq_true] at this; exact this.1), ← q5 v6, ← p5 (fun x hx => textFB_iff (ht x hx)), ← k5 (fun x hx => by have := kidB_iff (v4 x hx); omega)]
  rw [← m4, ← n2, ← q4, ← p4, ← k4, ← c2]
theorem nodeR_snd (s : RS) (h : (nodeR s).2.2 = false) (hv : validN (nodeR s).1 ([], []) = true) : s.1 = bytesNd (nodeR s).1 ++ (nodeR s).2.1 := by
  unfold nodeR at h hv ⊢
  simp only at h hv ⊢
  by_cases h1 : (numP 1 s).1 = 76
  · rw [if_pos h1] at h hv ⊢
    simp only at h hv ⊢
    obtain ⟨m1, lm, bm, m2, m3, m4, m5⟩ := listP_snd readsP _ _ _ h
    obtain ⟨n1, n2⟩ := num_snd _ m1
    obtain ⟨t1, t2, t3⟩ := takeP_snd 1 s n1
    have t4 := bytesN_numF (takeP 1 s).1
    rw [t2] at t4
    have t5 : (takeP 1 s).1 = [76] := by
      rw [← t4, show numF (takeP 1 s).1 = 76 from h1]; rfl
    simp only [List.nil_append] at m2
    rw [m2] at hv ⊢
    obtain ⟨v1, v2, v3, v4, v5⟩ := valid_leaf (n := ⟨lm, [], [], [], []⟩) hv rfl
    simp only at v5
    rw [bytesNd_leaf (n := ⟨lm, [], [], [], []⟩) hv rfl]
    unfold leafY
    simp only [List.append_assoc]
    rw [m3, ← m5 (fun x hx => by
      have := pairB_iff (leafPB_iff (v5 x hx)).1
      exact ⟨by omega, by omega, by omega, by omega⟩), ← m4, ← n2, ← t5]
    exact t3
  rw [if_neg h1] at h hv ⊢
  by_cases h2 : (numP 1 s).1 = 78
  · rw [if_pos h2] at h hv ⊢
    obtain ⟨a1, a2⟩ := innerR_snd _ h hv
    obtain ⟨t1, t2, t3⟩ := takeP_snd 1 s a1
    have t4 := bytesN_numF (takeP 1 s).1
    rw [t2] at t4
    have t5 : (takeP 1 s).1 = [78] := by
      rw [← t4, show numF (takeP 1 s).1 = 78 from h2]; rfl
    rw [← a2, ← t5]; exact t3
  · rw [if_neg h2] at h; cases h
theorem parseN_some {b : Bs} {n : Nd} (h : parseN b = some n) : validN n ([], []) = true ∧ bytesNd n = b ∧ nodeR (b, false) = (n, ([], false)) := by
  unfold parseN at h
  split at h
  · cases h
  rename_i hc
  injection h with h
  have h1 : (nodeR (b, false)).2.2 = false := by
    cases e : (nodeR (b, false)).2.2 with
    | false => rfl
    | true => exact absurd (.inl e) hc
  have h2 : (nodeR (b, false)).2.1 = [] := by
    by_cases e : (nodeR (b, false)).2.1 = []
    · exact e
    · exact absurd (.inr (.inl e)) hc
  have h3 : validN (nodeR (b, false)).1 ([], []) = true := by
    cases e : validN (nodeR (b, false)).1 ([], []) with
    | true => rfl
    | false => exact absurd (.inr (.inr e)) hc
  have h4 := nodeR_snd _ h1 h3
  rw [h2, List.append_nil, h] at h4
  rw [h] at h3
  refine ⟨h3, h4.symm, ?_⟩
  exact Prod.ext h (Prod.ext h2 h1)
theorem parseN_bytes (n : Nd) (hv : validN n ([], []) = true) (hp : n.pivots.all textFB = true) (hf : FewN n) : parseN (bytesNd n) = some n := by
  have h := nodeR_app n [] hv hp hf
  rw [List.append_nil] at h
  unfold parseN
  rw [h]
  simp [hv]
theorem parseN_more (n : Nd) (r : Bs) (hr : r ≠ []) (hv : validN n ([], []) = true) (hp : n.pivots.all textFB = true) (hf : FewN n) : parseN (bytesNd n ++ r) = none := by
  have h := nodeR_app n r hv hp hf
  unfold parseN
  rw [h]
  simp [hr]
theorem bytesNd_pos {n : Nd} (hv : validN n ([], []) = true) (hp : n.pivots.all textFB = true) : bytesNd n ≠ [] := by
  by_cases hk : n.kids = []
  · rw [bytesNd_leaf hv hk]; unfold leafY; simp
  · rw [bytesNd_inner hv hp hk]; unfold innerY; simp

end Go.Proofs.Ythpajecigkfajaa
