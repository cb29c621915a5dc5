/-
  Walks: numbers and texts as bytes, in package node. Walks: the bytes of a leaf. Walks: the bytes of a node with kids. Walks: Bytes, Check, Over and Spans of package node.
-/
import Derived.Test.YthpajecigkfajaaY2
import Derived.Test.YthpajecigkfajaaKB
import Derived.Test.YthpajecigkfajaaRBA
namespace Go.Proofs.Ythpajecigkfajaa
open Go.RowKit Go.Sort
set_option linter.unusedVariables false

def BytesK (B : Nat) (w : World) (l : Bs) (e : Ending) (w' : World) : Prop := ∃ v', e = .returned v' ∧ OwnB w' B v' l ∧ Below B w w' ∧ KeepB w w'
end Go.Proofs.Ythpajecigkfajaa
namespace Go.Proofs.Ythpajecigkfajaa
open Go.RowKit Go.Sort
set_option linter.unusedVariables false

def kidY (k : Int) : Bs := bytesN 4 k.toNat
theorem kidY_len (k : Int) : (kidY k).length = 4 := by unfold kidY; rw [bytesN_len]
def pairY (p : Pr) : Bs := textB p.1 ++ textB p.2.1 ++ bytesN 4 p.2.2.toNat
def sumY (s : Sm) : Bs := bytesN 8 s.1.1.toNat ++ bytesN 8 s.1.2.toNat ++ bytesN 8 s.2.1.toNat ++ bytesN 8 s.2.2.toNat
def leafY (n : Nd) : Bs := [76] ++ bytesN 4 n.pairs.length ++ n.pairs.flatMap pairY
def innerY (n : Nd) : Bs := [78] ++ bytesN 4 n.kids.length ++ n.kids.flatMap kidY ++ n.pivots.flatMap textB ++ n.sums.flatMap sumY ++ bytesN 4 n.buf.length ++ n.buf.flatMap bytesM
def bytesNd (n : Nd) : Bs := if validN n ([], []) && n.pivots.all textFB then (if n.kids = [] then leafY n else innerY n) else []

theorem flat_takeG {α : Type} (f : α → Bs) (l : List α) (k : Nat) (h : k < l.length) : (l.take (k + 1)).flatMap f = (l.take k).flatMap f ++ f l[k] := by
  rw [List.take_add_one, List.getElem?_eq_getElem h, List.flatMap_append]; simp
theorem flat_lenG {α : Type} (f : α → Bs) (c : Nat) (l : List α) (h : ∀ x ∈ l, (f x).length ≤ c) : (l.flatMap f).length ≤ l.length * c := by
  induction l with
  | nil => simp
  | cons s l ih =>
    rw [List.flatMap_cons, List.length_append, List.length_cons]
    have h1 := h s (by simp)
    have h2 := ih fun t ht => h t (by simp [ht])
    rw [Nat.add_mul]; omega
theorem textB_len (s : Bs) : (textB s).length = 2 + s.length := by unfold textB; rw [List.length_append, bytesN_len]
theorem pairB_iff {p : Pr} (h : pairB p = true) : p.1 ≠ [] ∧ p.1.length ≤ 65535 ∧ p.2.1.length ≤ 64 ∧ 0 ≤ p.2.2 ∧ p.2.2 ≤ 1000000000 := by
  unfold pairB at h; rw [decide_eq_true_eq] at h; exact h
theorem pairY_len {p : Pr} (h : pairB p = true) : (pairY p).length ≤ 70000 := by
  have := pairB_iff h
  unfold pairY
  rw [List.length_append, List.length_append, textB_len, textB_len, bytesN_len]; omega
theorem OwnB.new {n : Nat} (W : World) (B : Nat) (l : Bs) (hn : n = W.heap.size) (hB : B ≤ W.heap.size) (hl : l.length ≤ 1000) : OwnB (W.alloc (.cells (l.map fun c => Value.int .u8 c.toNat).toArray 5)) B (.slice (some ⟨n, 0, none⟩) l.length l.length) l := by
  subst hn
  have hb : Blk (W.alloc (.cells (l.map fun c => Value.int .u8 c.toNat).toArray 5)) W.heap.size 5 (l.map fun c => Value.int .u8 c.toNat).toArray := Blk.new _ _ _
  unfold OwnB
  refine ⟨by simp, .inr ⟨W.heap.size, l.length, _, rfl, hB, hb, Nat.le_refl _, by unfold maxLen; omega, by simp, ?_⟩⟩
  rw [List.take_of_length_le (by simp)]
theorem PBlk3 {w : World} {b : Nat} {T : TypeId} {x : Pr} (h : Blk w b T #[.string (Str x.1), .string (Str x.2.1), .int .i64 x.2.2]) :
    w.cell? ⟨b, 0, none⟩ = some (.string (Str x.1)) ∧ w.cell? ⟨b, 1, none⟩ = some (.string (Str x.2.1)) ∧ w.cell? ⟨b, 2, none⟩ = some (.int .i64 x.2.2) := ⟨h.c0 0 _ rfl, h.c0 1 _ rfl, h.c0 2 _ rfl⟩

end Go.Proofs.Ythpajecigkfajaa
namespace Go.Proofs.Ythpajecigkfajaa
open Go.RowKit Go.Sort
set_option linter.unusedVariables false

theorem OwnB.is {w : World} {B : Nat} {v : Value} {l : Bs} (h : OwnB w B v l) : IsBytes w v l := by
  unfold OwnB at h
  rcases h.2 with ⟨rfl, h0⟩ | ⟨g, cap, cur, rfl, hb, hg, hn, hm, hsz, htk⟩
  · have h1 : l = [] := by simpa using h0
    subst h1
    exact IsBytes.nil w
  · refine ⟨_, cap, rfl, hn, hm, fun hne => ⟨g, 0, rfl, (Array.getElem?_eq_some_iff.1 hg).1, fun i hi => ?_⟩⟩
    unfold World.cell?
    rw [hg]
    show cur[0 + i]? = _
    have h1 : (cur.toList.take (l.length * 1))[i]? = some (.int .u8 (l[i].toNat)) := by rw [htk]; simp [hi]
    rw [List.getElem?_take] at h1
    split at h1
    · rw [Array.getElem?_toList] at h1; rw [Nat.zero_add]; exact h1
    · cases h1
theorem append_bytesG {w : World} {ops : Array Oper} {rest : List Oper} {o : Oper} {a : Act} {Q : Exit → Act → World → Prop} (hgd : o.guard = none) (s x : Operand)
    (ho : o.op = .call { callee := .builtin .append, args := #[s, x], argTypes := #[47, 47] }) (base : Nat) (v : Value) (l : Bs) (hs : a.eval s = v) (hown : OwnB w base v l)
    (u : Value) (m : Bs) (hx : a.eval x = u) (hp : IsBytes w u m) (hl : l.length + m.length ≤ 1000000000) (hbase : base ≤ w.heap.size)
    (h : ∀ v' w', OwnB w' base v' (l ++ m) → Below base w w' → wpList Try.prog ops Q rest (a.put o.dst v') w') : wpList Try.prog ops Q (o :: rest) a w := by
  obtain ⟨i0, hi, hz0, hz1, hz2⟩ := info_parts infoU8
  obtain ⟨p, cap, rfl, hlc, hcm, hpp⟩ := hp
  refine append_gen hgd s x 47 5 i0 (.int .u8 0) 1 1 Try.underlying47 hi hz0 hz1 hz2 rfl (by decide) (by decide) ho base v l.length _ hs hown p m.length cap (m.map fun c => Value.int .u8 c.toNat) hx (by simp) ?_ ?_ hl hbase ?_
  · intro hm
    obtain ⟨b, off, rfl, hlt, hc⟩ := hpp (by rintro rfl; simp at hm)
    refine ⟨_, rfl, fun j u hj => ?_⟩
    obtain ⟨hj1, rfl⟩ := List.getElem?_eq_some_iff.1 hj
    have hj2 : j < m.length := by simpa using hj1
    have hadd : (⟨b, off, none⟩ : Addr).add j = ⟨b, off + j, none⟩ := by unfold Addr.add; split <;> simp_all
    rw [hadd, hc j hj2]; simp
  · intro u hu
    simp at hu
    obtain ⟨y, _, rfl⟩ := hu
    rfl
  · intro v' w' h2 h3
    refine h v' w' ?_ h3
    unfold OwnB
    rw [List.length_append, List.map_append]; exact h2
theorem bytesM_le (m : Ms) : (bytesM m).length ≤ 140000 := by
  unfold bytesM
  split
  · rename_i h
    obtain ⟨h1, h2, h3, h4⟩ := valid_small h
    have h5 := flat_len (fieldsT m) h1
    have h6 := flat_lenN (fieldsN m)
    have h7 := fields_few m
    rw [List.length_append, List.length_append, bytesN_len]
    omega
  · simp
theorem sumY_len (s : Sm) : (sumY s).length = 32 := by unfold sumY; simp [bytesN_len]
theorem sumB_iff {s : Sm} (h : sumB s = true) : (0 ≤ s.1.1 ∧ s.1.1 ≤ s.1.2 ∧ s.1.2 ≤ 1000000000000000) ∧ 0 ≤ s.2.1 ∧ s.2.1 ≤ s.2.2 ∧ s.2.2 ≤ 1000000000000000 := by
  unfold sumB rangeB at h; rw [Bool.and_eq_true, decide_eq_true_eq, decide_eq_true_eq] at h; exact h
theorem kidB_iff {k : Int} (h : kidB k = true) : 0 ≤ k ∧ k < 4096 := by unfold kidB at h; rw [decide_eq_true_eq] at h; exact h
theorem textFB_iff {s : Bs} (h : textFB s = true) : s.length ≤ 65535 := by unfold textFB at h; rw [decide_eq_true_eq] at h; exact h
theorem flat_lens {α : Type} (f : α → Bs) (c : Nat) (l : List α) (h : ∀ x ∈ l, (f x).length ≤ c) (k : Nat) (hl : l.length ≤ 1000) : ((l.take k).flatMap f).length ≤ 1000 * c := by
  have h1 := flat_lenG f c (l.take k) (fun x hx => h x (List.mem_of_mem_take hx))
  have h2 : (l.take k).length ≤ 1000 := by rw [List.length_take]; omega
  exact Nat.le_trans h1 (Nat.mul_le_mul_right _ h2)
theorem SBlk4 {w : World} {b : Nat} {T : TypeId} {s : Sm} (h : Blk w b T #[.int .i64 s.1.1, .int .i64 s.1.2, .int .i64 s.2.1, .int .i64 s.2.2]) :
    w.cell? ⟨b, 0, none⟩ = some (.int .i64 s.1.1) ∧ w.cell? ⟨b, 1, none⟩ = some (.int .i64 s.1.2) ∧ w.cell? ⟨b, 2, none⟩ = some (.int .i64 s.2.1) ∧ w.cell? ⟨b, 3, none⟩ = some (.int .i64 s.2.2) :=
  ⟨h.c0 0 _ rfl, h.c0 1 _ rfl, h.c0 2 _ rfl, h.c0 3 _ rfl⟩

end Go.Proofs.Ythpajecigkfajaa
namespace Go.Proofs.Ythpajecigkfajaa
open Go.RowKit Go.Sort
set_option linter.unusedVariables false

theorem owns_base {w : World} {B C : Nat} {v : Value} {l : Bs} (hBC : C ≤ B) (h : OwnB w B v l) : OwnB w C v l := by
  refine ⟨h.1, ?_⟩
  rcases h.2 with h | ⟨g, cp, cur, h2, h3, h4⟩
  · exact .inl h
  · exact .inr ⟨g, cp, cur, h2, Nat.le_trans hBC h3, h4⟩
def SmallN (n : Nd) : Prop := n.pairs.length ≤ 1000000 ∧ n.kids.length ≤ 1000 ∧ n.pivots.length ≤ 1000 ∧ n.sums.length ≤ 1000 ∧ n.buf.length ≤ 1000
theorem valid_leaf {n : Nd} {s : Sp} (h : validN n s = true) (hk : n.kids = []) : n.pivots = [] ∧ n.sums = [] ∧ n.buf = [] ∧ validB n.pairs = true ∧ ∀ p ∈ n.pairs, leafPB s p = true := by
  unfold validN at h
  rw [if_pos hk] at h
  unfold leafB at h
  simp only [Bool.and_eq_true, List.isEmpty_iff, List.all_eq_true] at h
  exact h
theorem valid_inner {n : Nd} {s : Sp} (h : validN n s = true) (hk : n.kids ≠ []) : n.pairs = [] ∧ n.sums.length = n.kids.length ∧ n.pivots.length + 1 = n.kids.length ∧ (∀ k ∈ n.kids, kidB k = true) ∧ pivB s s.1 n.pivots = true ∧ (∀ x ∈ n.sums, sumB x = true) ∧ ∀ m ∈ n.buf, bufB s m = true := by
  unfold validN at h
  rw [if_neg hk] at h
  unfold innerB at h
  simp only [Bool.and_eq_true, List.isEmpty_iff, List.all_eq_true, decide_eq_true_eq] at h
  exact h
theorem leafPB_iff {s : Sp} {p : Pr} (h : leafPB s p = true) : pairB p = true ∧ hasB s p.1 = true := by unfold leafPB at h; rw [Bool.and_eq_true] at h; exact h

end Go.Proofs.Ythpajecigkfajaa
