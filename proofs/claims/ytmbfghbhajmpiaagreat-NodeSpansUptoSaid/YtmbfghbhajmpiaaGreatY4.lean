/-
  Plain: what the reader of nodes reads. No program. Plain: reading messages and nodes. No program.
-/
import Derived.Test.YtmbfghbhajmpiaaGreatY3
import Derived.Test.YtmbfghbhajmpiaaGreatNY
import Derived.IntWalk
namespace Go.Proofs.YtmbfghbhajmpiaaGreat
open Go.RowKit Go.Sort
set_option linter.unusedVariables false

/-- A reader of one thing, with how it is written: what is written is read, and what is read was written. -/
structure Reads {α : Type} (f : RS → α × RS) (enc : α → Bs) (good : α → Prop) : Prop where
  app : ∀ x r, good x → f (enc x ++ r, false) = (x, (r, false))
  snd : ∀ s, (f s).2.2 = false → s.2 = false ∧ ∃ b, s.1 = b ++ (f s).2.1 ∧ (good (f s).1 → b = enc (f s).1)

theorem takeP_snd (k : Nat) (s : RS) (h : (takeP k s).2.2 = false) : s.2 = false ∧ (takeP k s).1.length = k ∧ s.1 = (takeP k s).1 ++ (takeP k s).2.1 := by
  unfold takeP at h ⊢
  by_cases hl : s.1.length < k
  · rw [if_pos hl] at h; cases h
  · rw [if_neg hl] at h
    simp only [if_neg hl]
    exact ⟨h, by rw [List.length_take]; omega, (List.take_append_drop _ _).symm⟩

/-- Numbers of four bytes, of eight. -/
def num4 (s : RS) : Int × RS := (((numP 4 s).1 : Nat), (numP 4 s).2)
def num8 (s : RS) : Int × RS := (IntKind.i64.wrap ((numF (takeP 8 s).1 : Nat) : Int), (takeP 8 s).2)
theorem readsT : Reads textP textB (fun x => x.length ≤ 65535) where
  app := fun x r h => textP_app x r false h
  snd := fun s h => by
    have h2 := takeP_snd _ _ h
    have h3 := takeP_snd 2 s h2.1
    refine ⟨h3.1, (takeP 2 s).1 ++ (textP s).1, ?_, fun _ => ?_⟩
    · rw [List.append_assoc]
      exact h3.2.2.trans (congrArg _ h2.2.2)
    · unfold textB
      have h4 := bytesN_numF (takeP 2 s).1
      rw [h3.2.1] at h4
      have h5 : (textP s).1.length = numF (takeP 2 s).1 := h2.2.1
      rw [h5, h4]
theorem textP_short (s : RS) : (textP s).1.length ≤ 65535 := by
  have h1 := takeP_len (numP 2 s).1 (numP 2 s).2
  have h2 := numP2_lt s
  unfold textP; omega
/-- One after the other. -/
def seqR {α β : Type} (f : RS → α × RS) (g : RS → β × RS) (s : RS) : (α × β) × RS := (((f s).1, (g (f s).2).1), (g (f s).2).2)
theorem Reads.seq {α β : Type} {f : RS → α × RS} {g : RS → β × RS} {ef : α → Bs} {eg : β → Bs} {pf : α → Prop} {pg : β → Prop} (h : Reads f ef pf) (k : Reads g eg pg) :
    Reads (seqR f g) (fun x => ef x.1 ++ eg x.2) (fun x => pf x.1 ∧ pg x.2) where
  app := fun x r ⟨h1, h2⟩ => by
    unfold seqR
    rw [List.append_assoc, h.app _ _ h1]
    simp only
    rw [k.app _ _ h2]
  snd := fun s hs => by
    obtain ⟨h1, b, hb, hb2⟩ := k.snd _ hs
    obtain ⟨h3, c, hc, hc2⟩ := h.snd _ h1
    refine ⟨h3, c ++ b, ?_, fun hg => ?_⟩
    · rw [List.append_assoc]; exact hc.trans (congrArg _ hb)
    · have e1 := hc2 hg.1
      have e2 := hb2 hg.2
      rw [e1, e2]; rfl
/-- Under another name. -/
theorem Reads.map {α β : Type} {f : RS → α × RS} {ef : α → Bs} {pf : α → Prop} (h : Reads f ef pf) (t : α → β) (u : β → α) (ut : ∀ x, u (t x) = x) (tu : ∀ x, t (u x) = x) : Reads (fun s => (t (f s).1, (f s).2)) (fun x => ef (u x)) (fun x => pf (u x)) where
  app := fun x r hx => by rw [h.app _ _ hx]; simp only [tu]
  snd := fun s hs => by
    obtain ⟨h1, b, hb, hb2⟩ := h.snd s hs
    exact ⟨h1, b, hb, fun hg => by simp only [ut] at hg ⊢; exact hb2 hg⟩
theorem Reads.same {α : Type} {f g : RS → α × RS} {ef eg : α → Bs} {pf pg : α → Prop} (h : Reads f ef pf) (h1 : g = f) (h2 : eg = ef) (h3 : ∀ x, pg x → pf x) : Reads g eg pg := by
  subst h1 h2
  exact ⟨fun x r hx => h.app x r (h3 x hx), fun s hs => by
    obtain ⟨k1, b, hb, hb2⟩ := h.snd s hs
    exact ⟨k1, b, hb, fun hg => hb2 (h3 _ hg)⟩⟩

def pairR (s : RS) : Pr × RS := (((textP s).1, (textP (textP s).2).1, (num4 (textP (textP s).2).2).1), (num4 (textP (textP s).2).2).2)
def boundR (s : RS) : Rg × RS := (((num8 s).1, (num8 (num8 s).2).1), (num8 (num8 s).2).2)
def sumR (s : RS) : Sm × RS := (((boundR s).1, (boundR (boundR s).2).1), (boundR (boundR s).2).2)
def msgR (s : RS) : Ms × RS := match parseS s.1 with
  | some (m, n) => (m, (takeP n s).2)
  | none => (zeroM 0, (s.1, true))

/-- A list. -/
def listP {α : Type} (f : RS → α × RS) : Nat → List α → RS → List α × RS
  | 0, acc, s => (acc, s)
  | k + 1, acc, s => if s.2 = true then ([], s) else listP f k (acc ++ [(f s).1]) (f s).2
theorem listP_mem {α : Type} {f : RS → α × RS} {p : α → Prop} (hf : ∀ s, p (f s).1) (k : Nat) (acc : List α) (s : RS) (ha : ∀ x ∈ acc, p x) : ∀ x ∈ (listP f k acc s).1, p x := by
  induction k generalizing acc s with
  | zero => exact ha
  | succ k ih =>
    rw [listP]
    split
    · intro x hx; cases hx
    · refine ih _ _ fun x hx => ?_
      rcases List.mem_append.1 hx with h | h
      · exact ha x h
      · rw [List.mem_singleton.1 h]; exact hf s
theorem listP_le {α : Type} (f : RS → α × RS) (k : Nat) (acc : List α) (s : RS) : (listP f k acc s).1.length ≤ acc.length + k := by
  induction k generalizing acc s with
  | zero => exact Nat.le_refl _
  | succ k ih =>
    rw [listP]
    split
    · simp
    · have := ih (acc ++ [(f s).1]) (f s).2
      simp at this ⊢; omega

end Go.Proofs.YtmbfghbhajmpiaaGreat
namespace Go.Proofs.YtmbfghbhajmpiaaGreat
open Go.RowKit Go.Sort
set_option linter.unusedVariables false

def fieldsY (m : Ms) : Bs := (fieldsT m).flatMap textB ++ (fieldsN m).flatMap (fun n => bytesN 4 n.toNat)
theorem two_snd (s : RS) (h : (textP (textP s).2).2.2 = false) : s.2 = false ∧ s.1 = (textB (textP s).1 ++ textB (textP (textP s).2).1) ++ (textP (textP s).2).2.1 := by
  obtain ⟨h1, b, h2, h3⟩ := readsT.snd _ h
  obtain ⟨h4, c, h5, h6⟩ := readsT.snd _ h1
  refine ⟨h4, ?_⟩
  rw [List.append_assoc, ← h3 (textP_short _), ← h6 (textP_short _), ← h2]; exact h5
theorem num_snd (s : RS) (h : (numP 4 s).2.2 = false) : s.2 = false ∧ s.1 = bytesN 4 (numP 4 s).1 ++ (numP 4 s).2.1 := by
  have h2 := takeP_snd 4 s h
  have h3 := bytesN_numF (takeP 4 s).1
  rw [h2.2.1] at h3
  exact ⟨h2.1, by unfold numP; simp only; rw [h3]; exact h2.2.2⟩
theorem fieldsY1 (a b : Bs) (n : Nat) : fieldsY { zeroM 1 with key := a, val := b, n := (n : Nat) } = textB a ++ textB b ++ bytesN 4 n := by simp [fieldsY, fieldsT, fieldsN, zeroM]
theorem fieldsY2 (a : Bs) : fieldsY { zeroM 2 with key := a } = textB a := by simp [fieldsY, fieldsT, fieldsN, zeroM]
theorem fieldsY3 (a b : Bs) : fieldsY { zeroM 3 with lo := a, hi := b } = textB a ++ textB b := by simp [fieldsY, fieldsT, fieldsN, zeroM]
theorem fieldsY4 (a b : Bs) : fieldsY { zeroM 4 with src := a, dst := b } = textB a ++ textB b := by simp [fieldsY, fieldsT, fieldsN, zeroM]
theorem fieldsY5 (a b : Bs) : fieldsY { zeroM 5 with src := a, dst := b } = textB a ++ textB b := by simp [fieldsY, fieldsT, fieldsN, zeroM]
theorem fieldsY6 (a b : Bs) (n : Nat) : fieldsY { zeroM 6 with lo := a, hi := b, n := (n : Nat) } = textB a ++ textB b ++ bytesN 4 n := by simp [fieldsY, fieldsT, fieldsN, zeroM]
theorem restM_is1 (s : RS) : restM 1 s = ({ zeroM 1 with key := (textP s).1, val := (textP (textP s).2).1, n := ((numP 4 (textP (textP s).2).2).1 : Nat) }, (numP 4 (textP (textP s).2).2).2) := by unfold restM; simp
theorem restM_is2 (s : RS) : restM 2 s = ({ zeroM 2 with key := (textP s).1 }, (textP s).2) := by unfold restM; simp
theorem restM_is3 (s : RS) : restM 3 s = ({ zeroM 3 with lo := (textP s).1, hi := (textP (textP s).2).1 }, (textP (textP s).2).2) := by unfold restM; simp
theorem restM_is4 (s : RS) : restM 4 s = ({ zeroM 4 with src := (textP s).1, dst := (textP (textP s).2).1 }, (textP (textP s).2).2) := by unfold restM; simp
theorem restM_is5 (s : RS) : restM 5 s = ({ zeroM 5 with src := (textP s).1, dst := (textP (textP s).2).1 }, (textP (textP s).2).2) := by unfold restM; simp
theorem restM_is6 (s : RS) : restM 6 s = ({ zeroM 6 with lo := (textP s).1, hi := (textP (textP s).2).1, n := ((numP 4 (textP (textP s).2).2).1 : Nat) }, (numP 4 (textP (textP s).2).2).2) := by unfold restM; simp
theorem restM_snd1 (s : RS) (h : (restM 1 s).2.2 = false) : s.2 = false ∧ s.1 = fieldsY (restM 1 s).1 ++ (restM 1 s).2.1 := by
  rw [restM_is1] at h ⊢
  simp only at h ⊢
  obtain ⟨a1, a2⟩ := num_snd (textP (textP s).2).2 h
  obtain ⟨b1, b2⟩ := two_snd s a1
  refine ⟨b1, ?_⟩
  rw [fieldsY1, List.append_assoc, ← a2]
  exact b2
theorem restM_snd2 (s : RS) (h : (restM 2 s).2.2 = false) : s.2 = false ∧ s.1 = fieldsY (restM 2 s).1 ++ (restM 2 s).2.1 := by
  rw [restM_is2] at h ⊢
  obtain ⟨a1, b, a2, a3⟩ := readsT.snd _ h
  refine ⟨a1, ?_⟩
  rw [fieldsY2, ← a3 (textP_short _)]
  exact a2
theorem restM_snd3 (s : RS) (h : (restM 3 s).2.2 = false) : s.2 = false ∧ s.1 = fieldsY (restM 3 s).1 ++ (restM 3 s).2.1 := by
  rw [restM_is3] at h ⊢
  simp only at h ⊢
  obtain ⟨b1, b2⟩ := two_snd s h
  refine ⟨b1, ?_⟩
  rw [fieldsY3]
  exact b2
theorem restM_snd4 (s : RS) (h : (restM 4 s).2.2 = false) : s.2 = false ∧ s.1 = fieldsY (restM 4 s).1 ++ (restM 4 s).2.1 := by
  rw [restM_is4] at h ⊢
  simp only at h ⊢
  obtain ⟨b1, b2⟩ := two_snd s h
  refine ⟨b1, ?_⟩
  rw [fieldsY4]
  exact b2
theorem restM_snd5 (s : RS) (h : (restM 5 s).2.2 = false) : s.2 = false ∧ s.1 = fieldsY (restM 5 s).1 ++ (restM 5 s).2.1 := by
  rw [restM_is5] at h ⊢
  simp only at h ⊢
  obtain ⟨b1, b2⟩ := two_snd s h
  refine ⟨b1, ?_⟩
  rw [fieldsY5]
  exact b2
theorem restM_snd6 (s : RS) (h : (restM 6 s).2.2 = false) : s.2 = false ∧ s.1 = fieldsY (restM 6 s).1 ++ (restM 6 s).2.1 := by
  rw [restM_is6] at h ⊢
  simp only at h ⊢
  obtain ⟨a1, a2⟩ := num_snd (textP (textP s).2).2 h
  obtain ⟨b1, b2⟩ := two_snd s a1
  refine ⟨b1, ?_⟩
  rw [fieldsY6, List.append_assoc, ← a2]
  exact b2
theorem restM_snd (k : Int) (s : RS) (hk : 1 ≤ k ∧ k ≤ 6) (h : (restM k s).2.2 = false) : s.2 = false ∧ s.1 = fieldsY (restM k s).1 ++ (restM k s).2.1 := by
  have h2 : k = 1 ∨ k = 2 ∨ k = 3 ∨ k = 4 ∨ k = 5 ∨ k = 6 := by omega
  rcases h2 with rfl | rfl | rfl | rfl | rfl | rfl
  · exact restM_snd1 s h
  · exact restM_snd2 s h
  · exact restM_snd3 s h
  · exact restM_snd4 s h
  · exact restM_snd5 s h
  · exact restM_snd6 s h
theorem restM_kind (k : Int) (s : RS) : (restM k s).1.kind = k := by
  unfold restM; simp only
  repeat' split
  all_goals rfl
theorem parseS_snd {b : Bs} {m : Ms} {n : Nat} (h : parseS b = some (m, n)) : validM m = true ∧ n ≤ b.length ∧ b.take n = bytesM m := by
  unfold parseS at h
  simp only at h
  split at h
  · cases h
  rename_i hc
  have hc1 : (restM ((numP 1 (b, false)).1 : Nat) (numP 1 (b, false)).2).2.2 = false := by
    cases e : (restM ((numP 1 (b, false)).1 : Nat) (numP 1 (b, false)).2).2.2 with
    | false => rfl
    | true => exact absurd (.inl e) hc
  have hc2 : validM (restM ((numP 1 (b, false)).1 : Nat) (numP 1 (b, false)).2).1 = true := by
    cases e : validM (restM ((numP 1 (b, false)).1 : Nat) (numP 1 (b, false)).2).1 with
    | true => rfl
    | false => exact absurd (.inr e) hc
  clear hc
  have hk := restM_kind ((numP 1 (b, false)).1 : Nat) (numP 1 (b, false)).2
  injection h with h
  injection h with h1 h2
  have hc2' := hc2
  rw [h1] at hc2' hk
  obtain ⟨-, -, hk0, hk6⟩ := valid_small hc2'
  have hk1 : 1 ≤ m.kind ∧ m.kind ≤ 6 := by
    have := kind_cases m hc2'
    omega
  obtain ⟨a1, a2⟩ := restM_snd _ _ (by rw [← hk]; exact hk1) hc1
  obtain ⟨-, d1, d2⟩ := takeP_snd 1 (b, false) a1
  have d3 := bytesN_numF (takeP 1 (b, false)).1
  rw [d1] at d3
  rw [h1] at hc2 a2
  have hb : b = bytesM m ++ (restM ((numP 1 (b, false)).1 : Nat) (numP 1 (b, false)).2).2.1 := by
    have e1 : bytesM m = (takeP 1 (b, false)).1 ++ fieldsY m := by
      unfold bytesM
      rw [if_pos hc2, List.append_assoc]
      congr 1
      rw [hk, Int.toNat_natCast]; exact d3
    rw [e1, List.append_assoc, ← a2]; exact d2
  have hl : b.length = (bytesM m).length + (restM ((numP 1 (b, false)).1 : Nat) (numP 1 (b, false)).2).2.1.length := by
    conv => lhs; rw [hb]
    rw [List.length_append]
  have hn : n = (bytesM m).length := by omega
  refine ⟨hc2, by omega, ?_⟩
  rw [hb, hn]; simp
/-- The node that is read. -/
def noNd : Nd := ⟨[], [], [], [], []⟩
def innerR (s : RS) : Nd × RS :=
  let c := numP 4 s
  if c.1 = 0 then (noNd, (c.2.1, true)) else
  let k := listP num4 c.1 [] c.2
  let p := listP textP (c.1 - 1) [] k.2
  let q := listP sumR c.1 [] p.2
  let d := numP 4 q.2
  let m := listP msgR d.1 [] d.2
  (⟨[], p.1, k.1, q.1, m.1⟩, m.2)
def nodeR (s : RS) : Nd × RS :=
  let t := numP 1 s
  if t.1 = 76 then (⟨(listP pairR (numP 4 t.2).1 [] (numP 4 t.2).2).1, [], [], [], []⟩, (listP pairR (numP 4 t.2).1 [] (numP 4 t.2).2).2)
  else if t.1 = 78 then innerR t.2
  else (noNd, (t.2.1, true))
def parseN (b : Bs) : Option Nd := if (nodeR (b, false)).2.2 = true ∨ (nodeR (b, false)).2.1 ≠ [] ∨ validN (nodeR (b, false)).1 ([], []) = false then none else some (nodeR (b, false)).1

end Go.Proofs.YtmbfghbhajmpiaaGreat
