/-
  Laws of no program: copy, clear and append on rows whose elements have several cells. Then append and rows of spans under the name keys. Rows of spans under the name keys: taken apart, appended to, and told by their cells. Walks: slices.Insert at rows of spans. Walks: slices.Replace at rows of spans.
-/
import Derived.Test.YthncnijkgkeohaaGreatFR
import Derived.Laws.CopyOwn
import Derived.Lib.AppendZerosOnto
import Derived.Lib.Overlaps
namespace Go.Proofs.YthncnijkgkeohaaGreat
open Go.RowKit Go.Sort
set_option linter.unusedVariables false

section
variable {P : Program} {w : World}
theorem run_copy_rowK (w : World) (k : Nat) (dT sT ty elem : TypeId) (g o dLen dCap : Nat) (a : Addr) (sLen sCap : Nat) (cur : Array Value) (t : TypeId) (cs : List Value)
    (hu : P.underlying dT = some (.slice elem)) (hs : (P.info? elem).map (·.size) = some k)
    (hg : w.heap[g]? = some (.cells cur t (0, 0))) (hn : cs.length = Nat.min sLen dLen * k)
    (hsrc : ∀ j v, cs[j]? = some v → w.cell? (a.add j) = some v) (hfit : o + cs.length ≤ cur.size) (h1 : ∀ v ∈ cs, v.oneCell' = true) :
    (Builtin.copy_ #[dT, sT] ty #[.slice (some ⟨g, o, none⟩) dLen dCap, .slice (some a) sLen sCap]).run P w =
      .ok (goInt (Nat.min sLen dLen)) (w.setRow g (cur.toList.take o ++ cs ++ cur.toList.drop (o + cs.length)).toArray) := by
  have hl := run_loadCells_list (P := P) w a cs hsrc
  have hst := run_storeCells_at P g o t cs 0 cur w hg (by simpa using hfit) h1
  rw [Nat.add_zero] at hst
  cases hq : P.info? elem with
  | none => simp [hq] at hs
  | some i =>
    have hi : i.size = k := by simpa [hq] using hs
    simp [Builtin.copy_, run_underlying hu, Builtin.lenOf, Builtin.firstCells, sizeOf, typeInfo, hq, hi, ← hn, hl, hst]
theorem run_copy_noneK (w : World) (k : Nat) (dT sT ty elem : TypeId) (d a : Option Addr) (dLen dCap sLen sCap : Nat) (hu : P.underlying dT = some (.slice elem)) (hs : (P.info? elem).map (·.size) = some k) (hn : Nat.min sLen dLen = 0) :
    (Builtin.copy_ #[dT, sT] ty #[.slice d dLen dCap, .slice a sLen sCap]).run P w = .ok (goInt 0) w := by
  cases hq : P.info? elem with
  | none => simp [hq] at hs
  | some i =>
    have hl : (loadCells (a.getD ⟨0, 0, none⟩) 0).run P w = .ok #[] w := run_loadCells_list (P := P) w _ [] (fun j v hj => by simp at hj)
    cases a <;> cases d <;> simp [Builtin.copy_, run_underlying hu, Builtin.lenOf, Builtin.firstCells, sizeOf, typeInfo, hq, hn, storeCells] <;> first | rfl | (simp at hl; simp [hl, storeCells])
/-- The row behind a copy. -/
theorem step_copyK {ops : Array Oper} {o : Oper} {a : Act} {K : Act → World → Prop} {Q : Exit → Act → World → Prop} {E : Prop} (hgd : o.guard = none) (k : Nat) (hk : 0 < k) (d s : Operand) (dT sT : TypeId)
    (ho : o.op = .call { callee := .builtin .copy, args := #[d, s], argTypes := #[dT, sT] }) (elem : TypeId) (hu : P.underlying dT = some (.slice elem)) (hsz : (P.info? elem).map (·.size) = some k)
    (dp sp : Option Addr) (dLen dCap sLen sCap : Nat) (hd : a.eval d = .slice dp dLen dCap) (hs : a.eval s = .slice sp sLen sCap)
    (g off : Nat) (cur : List Value) (t : TypeId) (hg : w.heap[g]? = some (.cells cur.toArray t (0, 0))) (cs : List Value) (hn : cs.length = Nat.min sLen dLen * k)
    (hpos : 0 < cs.length → dp = some ⟨g, off, none⟩ ∧ ∃ ad, sp = some ad ∧ ∀ j v, cs[j]? = some v → w.cell? (ad.add j) = some v)
    (hfit : off + cs.length ≤ cur.length) (h1 : ∀ v ∈ cs, v.oneCell' = true) (B : Nat) (w0 : World) (hb : Below B w0 w) (hBg : B ≤ g)
    (h : ∀ w', Hid (w'.heap[g]? = some (.cells (splice cur off cs).toArray t (0, 0))) → Below B w0 w' → (∀ b, b ≠ g → w'.heap[b]? = w.heap[b]?) → K (a.put o.dst (goInt (Nat.min sLen dLen))) w') :
    if Region.wanted o (yielded ops a.tmps) = true then Oper.wp P o a w K Q else E := by
  have hw : Region.wanted o (yielded ops a.tmps) = true := by simp [Region.wanted, hgd]
  rw [if_pos hw]
  by_cases h0 : cs.length = 0
  · obtain rfl : cs = [] := List.eq_nil_of_length_eq_zero h0
    have hm : Nat.min sLen dLen = 0 := by
      have : Nat.min sLen dLen * k = 0 := by simpa using hn.symm
      rcases Nat.mul_eq_zero.1 this with h | h
      · exact h
      · omega
    have hrun := run_copy_noneK (P := P) w k dT sT o.type elem dp sp dLen dCap sLen sCap hu hsz hm
    unfold Oper.wp
    simp [execOp, ho, resolve, invoke, builtin, hd, hs, hrun, Result.andThen]
    have := h w (show _ = _ by simpa [splice] using hg) hb (fun _ _ => rfl)
    rw [hm] at this
    exact this
  · obtain ⟨rfl, ad, rfl, hsrc⟩ := hpos (by omega)
    have hrun := run_copy_rowK (P := P) w k dT sT o.type elem g off dLen dCap ad sLen sCap cur.toArray t cs hu hsz hg hn hsrc (by simpa using hfit) h1
    unfold Oper.wp
    simp [execOp, ho, resolve, invoke, builtin, hd, hs, hrun, Result.andThen]
    exact h _ (show _ = _ by simpa [splice] using setRow_heap w g _ _ t _ hg) (below_setRow hb hBg _) (fun b hb => setRow_other w g b _ hb)
theorem wpList_copyK {ops : Array Oper} {rest : List Oper} {o : Oper} {a : Act} {Q : Exit → Act → World → Prop} (hgd : o.guard = none) (k : Nat) (hk : 0 < k) (d s : Operand) (dT sT : TypeId)
    (ho : o.op = .call { callee := .builtin .copy, args := #[d, s], argTypes := #[dT, sT] }) (elem : TypeId) (hu : P.underlying dT = some (.slice elem)) (hsz : (P.info? elem).map (·.size) = some k)
    (dp sp : Option Addr) (dLen dCap sLen sCap : Nat) (hd : a.eval d = .slice dp dLen dCap) (hs : a.eval s = .slice sp sLen sCap)
    (g off : Nat) (cur : List Value) (t : TypeId) (hg : w.heap[g]? = some (.cells cur.toArray t (0, 0))) (cs : List Value) (hn : cs.length = Nat.min sLen dLen * k)
    (hpos : 0 < cs.length → dp = some ⟨g, off, none⟩ ∧ ∃ ad, sp = some ad ∧ ∀ j v, cs[j]? = some v → w.cell? (ad.add j) = some v)
    (hfit : off + cs.length ≤ cur.length) (h1 : ∀ v ∈ cs, v.oneCell' = true) (B : Nat) (w0 : World) (hb : Below B w0 w) (hBg : B ≤ g)
    (h : ∀ w', Hid (w'.heap[g]? = some (.cells (splice cur off cs).toArray t (0, 0))) → Below B w0 w' → (∀ b, b ≠ g → w'.heap[b]? = w.heap[b]?) → wpList P ops Q rest (a.put o.dst (goInt (Nat.min sLen dLen))) w') :
    wpList P ops Q (o :: rest) a w := by
  refine wpList_plain hgd fun K hK => ?_
  have hw : Region.wanted o (yielded ops a.tmps) = true := by simp [Region.wanted, hgd]
  have := step_copyK (P := P) (w := w) (ops := ops) (o := o) (a := a) (K := K) (Q := Q) (E := False) hgd k hk d s dT sT ho elem hu hsz dp sp dLen dCap sLen sCap hd hs g off cur t hg cs hn hpos hfit h1 B w0 hb hBg (fun w' a1 a2 a3 => hK _ _ (h w' a1 a2 a3))
  rw [if_pos hw] at this
  exact this
theorem zeros_len (z : Array Value) (n : Nat) : (Builtin.zeroCells z n).toList.length = n * z.size := by simp [Builtin.zeroCells]
theorem zeros_one (z : Array Value) (n : Nat) (h1 : ∀ v ∈ z.toList, v.oneCell' = true) : ∀ v ∈ (Builtin.zeroCells z n).toList, v.oneCell' = true := by
  intro v hv
  simp only [Builtin.zeroCells, Array.toList_map, List.mem_map] at hv
  obtain ⟨i, hi, rfl⟩ := hv
  simp only [Array.mem_toList_iff, Array.mem_range] at hi
  have hz : 0 < z.size := by
    rcases Nat.eq_zero_or_pos z.size with h | h
    · rw [h] at hi; simp at hi
    · exact h
  have hl : i % z.size < z.size := Nat.mod_lt _ hz
  rw [getElem!_pos z (i % z.size) hl]
  exact h1 _ (by simp)
/-- 'clear' of a part of a row. -/
theorem wpList_clearK {ops : Array Oper} {rest : List Oper} {o : Oper} {a : Act} {Q : Exit → Act → World → Prop} (hgd : o.guard = none) (k : Nat) (x : Operand) (dT : TypeId)
    (ho : o.op = .call { callee := .builtin .clear, args := #[x], argTypes := #[dT] }) (elem : TypeId) (z : Value) (hu : P.underlying dT = some (.slice elem)) (hz : ∀ w, (zeroValue elem).run P w = .ok z w) (hzk : z.cells.size = k) (hz1 : ∀ v ∈ z.cells.toList, v.oneCell' = true)
    (dp : Option Addr) (n c : Nat) (hx : a.eval x = .slice dp n c)
    (g off : Nat) (cur : List Value) (t : TypeId) (hg : w.heap[g]? = some (.cells cur.toArray t (0, 0)))
    (hpos : 0 < n → dp = some ⟨g, off, none⟩) (hfit : off + n * k ≤ cur.length) (B : Nat) (w0 : World) (hb : Below B w0 w) (hBg : B ≤ g)
    (h : ∀ w' cs, cs.length = n * k → Hid (w'.heap[g]? = some (.cells (splice cur off cs).toArray t (0, 0))) → Below B w0 w' → wpList P ops Q rest (a.put o.dst (.tuple #[])) w') :
    wpList P ops Q (o :: rest) a w := by
  refine wpList_plain hgd fun K hK => ?_
  rcases Nat.eq_zero_or_pos n with rfl | hn
  · have hrun : (Builtin.clear_ #[dT] o.type #[.slice dp 0 c]).run P w = .ok (.tuple #[]) w := by
      cases dp <;> simp [Builtin.clear_, run_underlying hu]
    unfold Oper.wp
    simp [execOp, ho, resolve, invoke, builtin, hx, hrun, Result.andThen]
    exact hK _ _ (h w [] (by simp) (show _ = _ by simpa [splice] using hg) hb)
  · obtain rfl := hpos hn
    have hcl := zeros_len z.cells n
    rw [hzk] at hcl
    have hst := run_storeCells_at P g off t (Builtin.zeroCells z.cells n).toList 0 cur.toArray w hg (by simp [hcl]; exact hfit) (zeros_one z.cells n hz1)
    rw [Nat.add_zero] at hst
    have hrun : (Builtin.clear_ #[dT] o.type #[.slice (some ⟨g, off, none⟩) n c]).run P w = .ok (.tuple #[]) (w.setRow g (cur.toArray.toList.take off ++ (Builtin.zeroCells z.cells n).toList ++ cur.toArray.toList.drop (off + (Builtin.zeroCells z.cells n).toList.length)).toArray) := by
      obtain ⟨m, rfl⟩ : ∃ m, n = m + 1 := ⟨n - 1, by omega⟩
      simp [Builtin.clear_, run_underlying hu, hz, hst]
    unfold Oper.wp
    simp [execOp, ho, resolve, invoke, builtin, hx, hrun, Result.andThen]
    exact hK _ _ (h _ (Builtin.zeroCells z.cells n).toList hcl (show _ = _ by simpa [splice] using setRow_heap w g _ _ t _ hg) (below_setRow hb hBg _))
end
theorem get_splice {α : Type} (L : List α) (off : Nat) (cs : List α) (j : Nat) (h : off + cs.length ≤ L.length) : (splice L off cs)[j]? = if j < off then L[j]? else if j < off + cs.length then cs[j - off]? else L[j]? := by
  unfold splice
  split
  · rename_i h1
    rw [List.getElem?_append_left (by rw [List.length_take]; omega), List.getElem?_take, if_pos h1]
  · rename_i h1
    rw [List.getElem?_append_right (by rw [List.length_take]; omega), List.length_take, Nat.min_eq_left (by omega)]
    split
    · rename_i h2
      rw [List.getElem?_append_left (by omega)]
    · rename_i h2
      rw [List.getElem?_append_right (by omega), List.getElem?_drop]
      congr 1; omega

end Go.Proofs.YthncnijkgkeohaaGreat
namespace Go.Proofs.YthncnijkgkeohaaGreat
open Go.RowKit Go.Sort
set_option linter.unusedVariables false

theorem sizeSp : (Tryz.prog.info? 29).map (·.size) = some 2 := by
  have h := infoS
  cases hq : Tryz.prog.info? 29 with
  | none => rw [hq] at h; simp at h
  | some i => rw [hq] at h; simp at h; simp [h.2.1]
/-- The row of a slice that the call owns. -/
theorem own_row {w : World} {base g n cap : Nat} {l : List Sp} (h : w.ownsRow base 29 2 (.slice (some ⟨g, 0, none⟩) n cap) n (l.flatMap encS)) :
    ∃ cur : List Value, w.heap[g]? = some (.cells cur.toArray 29 (0, 0)) ∧ cur.length = cap * 2 ∧ cur.take (n * 2) = l.flatMap encS ∧ base ≤ g ∧ n ≤ cap ∧ cap ≤ maxLen ∧ n = l.length := by
  have hl := h.1
  rw [flatS_len] at hl
  rcases h.2 with ⟨h', _⟩ | ⟨g', cap', cur, h', hb, hg, hn, hm, hs, ht⟩
  · cases h'
  · injection h' with h1 h2 h3
    injection h1 with h1
    injection h1 with h1
    subst h1 h3
    exact ⟨cur.toList, by simpa using hg, by simpa using hs, ht, hb, hn, hm, by omega⟩
theorem row_own {w : World} {base g n cap : Nat} {l : List Sp} {cur : List Value} (hg : w.heap[g]? = some (.cells cur.toArray 29 (0, 0))) (hs : cur.length = cap * 2) (ht : cur.take (n * 2) = l.flatMap encS) (hb : base ≤ g) (hn : n ≤ cap) (hm : cap ≤ maxLen) (hl : n = l.length) :
    w.ownsRow base 29 2 (.slice (some ⟨g, 0, none⟩) n cap) n (l.flatMap encS) :=
  ⟨by rw [flatS_len, hl], .inr ⟨g, cap, cur.toArray, rfl, hb, hg, hn, hm, by simpa using hs, by simpa using ht⟩⟩
theorem flatS_take (l : List Sp) (i : Nat) : (l.take i).flatMap encS = (l.flatMap encS).take (i * 2) := by
  induction l generalizing i with
  | nil => simp
  | cons s l ih =>
    have e : ∀ (t : Sp) r, (t :: r).flatMap encS = .string (Str t.1) :: .string (Str t.2) :: r.flatMap encS := fun t r => rfl
    cases i with
    | zero => simp
    | succ i =>
      rw [List.take_succ_cons, e, e, ih, show (i + 1) * 2 = i * 2 + 1 + 1 by omega]
      rfl
theorem flatS_drop (l : List Sp) (i : Nat) : (l.drop i).flatMap encS = (l.flatMap encS).drop (i * 2) := by
  induction l generalizing i with
  | nil => simp
  | cons s l ih =>
    have e : ∀ (t : Sp) r, (t :: r).flatMap encS = .string (Str t.1) :: .string (Str t.2) :: r.flatMap encS := fun t r => rfl
    cases i with
    | zero => simp
    | succ i =>
      rw [List.drop_succ_cons, e, ih, show (i + 1) * 2 = i * 2 + 1 + 1 by omega]
      rfl
theorem owns_take {w : World} {base g n cap : Nat} {l : List Sp} (h : w.ownsRow base 29 2 (.slice (some ⟨g, 0, none⟩) n cap) n (l.flatMap encS)) (i : Nat) (hi : i ≤ n) :
    w.ownsRow base 29 2 (.slice (some ⟨g, 0, none⟩) i cap) i ((l.take i).flatMap encS) := by
  obtain ⟨cur, h1, h2, h3, h4, h5, h6, h7⟩ := own_row h
  refine row_own h1 h2 ?_ h4 (by omega) h6 (by rw [List.length_take]; omega)
  rw [flatS_take, ← h3, List.take_take, Nat.min_eq_left (by omega)]
/-- Cells of a row from an element on. -/
theorem row_cells {w : World} {g : Nat} {cur : List Value} (hg : w.heap[g]? = some (.cells cur.toArray 29 (0, 0))) (o : Nat) (j : Nat) (u : Value) (h : (cur.drop o)[j]? = some u) : w.cell? ((⟨g, o, none⟩ : Addr).add j) = some u := by
  rw [List.getElem?_drop] at h
  have e : (⟨g, o, none⟩ : Addr).add j = ⟨g, o + j, none⟩ := by unfold Addr.add; split <;> simp_all
  rw [e]
  unfold World.cell?
  rw [hg]
  simpa using h
theorem append_named {P : Program} (t u e : TypeId) (ht : P.underlying t = some (.slice e)) (hu : P.underlying u = some (.slice e)) (ty : TypeId) (v x : Value) (w : World) : (Builtin.append_ #[t, u] ty #[v, x]).run P w = (Builtin.append_ #[u, u] ty #[v, x]).run P w := by
  unfold Builtin.append_
  simp [run_underlying ht, run_underlying hu]
theorem append_ty (ty : TypeId) (v u : Value) (w : World) : (Builtin.append_ #[90, 43] ty #[v, u]).run Tryz.prog w = (Builtin.append_ #[43, 43] ty #[v, u]).run Tryz.prog w :=
  append_named _ _ _ Tryz.underlying90 Tryz.underlying43 ty v u w
theorem grownBy_refl (w : World) (row : Option Nat) : w.grownBy w row := ⟨rfl, rfl, rfl, Nat.le_refl _, fun _ _ _ => rfl⟩
theorem grownBy_below {w w' : World} (h : Below w.heap.size w w') (row : Option Nat) : w.grownBy w' row := ⟨h.os, h.tape, h.output, h.size, fun i hi _ => h.block i hi⟩
theorem grownBy_own {w w' : World} {base g : Nat} (h : Below base w w') (ho : ∀ b, b ≠ g → w'.heap[b]? = w.heap[b]?) : w.grownBy w' (some g) := ⟨h.os, h.tape, h.output, h.size, fun i _ hne => ho i fun e => hne (by rw [e])⟩
/-- A slice that the call owns, changed or moved; nothing else is touched. -/
def Turn (v v' : Value) (w w' : World) : Prop := w.grownBy w' v.ownBlock ∧ ∀ j, v'.ownBlock = some j → w.heap.size ≤ j ∨ v.ownBlock = some j
theorem turn_refl (v : Value) (w : World) : Turn v v w w := ⟨grownBy_refl _ _, fun j hj => .inr hj⟩
theorem turn_new {w w' : World} (h : Below w.heap.size w w') (v : Value) (n c : Nat) : Turn v (.slice (some ⟨w.heap.size, 0, none⟩) n c) w w' := ⟨grownBy_below h _, fun j hj => .inl (by have h2 : w.heap.size = j := Option.some.inj hj; omega)⟩
theorem turn_own {w w' : World} {base g : Nat} (h : Below base w w') (ho : ∀ b, b ≠ g → w'.heap[b]? = w.heap[b]?) (n c n' c' : Nat) : Turn (.slice (some ⟨g, 0, none⟩) n c) (.slice (some ⟨g, 0, none⟩) n' c') w w' := ⟨grownBy_own h ho, fun j hj => .inr hj⟩
theorem Turn.trans {a b c : World} {u v x : Value} (h : Turn u v a b) (k : Turn v x b c) : Turn u x a c :=
  ⟨h.1.andThen k.1 h.2, fun j hj => by
    rcases k.2 j hj with h1 | h1
    · exact .inl (Nat.le_trans h.1.size h1)
    · exact h.2 j h1⟩
set_option maxRecDepth 100000 in
theorem append_dead {w : World} {ops : Array Oper} {rest : List Oper} {o : Oper} {a : Act} {Q : Exit → Act → World → Prop} (hgd : o.guard = none) (s x : Operand)
    (ho : o.op = .call { callee := .builtin .append, args := #[s, x], argTypes := #[90, 43] }) (base : Nat) (v : Value) (l : List Sp) (n : Nat) (hs : a.eval s = v) (hown : w.ownsRow base 29 2 v n (l.flatMap encS))
    (base2 : Nat) (u : Value) (m : List Sp) (hx : a.eval x = u) (hp : w.ownsRow base2 29 2 u m.length (m.flatMap encS)) (hl : n + m.length ≤ 1000000000) (hbase : base ≤ w.heap.size)
    (h : ∀ v' w', w'.ownsRow base 29 2 v' (n + m.length) ((l ++ m).flatMap encS) → Turn v v' w w' → (∀ g cap, v = .slice (some ⟨g, 0, none⟩) n cap → n + m.length ≤ cap → v' = .slice (some ⟨g, 0, none⟩) (n + m.length) cap) → wpList Tryz.prog ops Q rest (a.put o.dst v') w') : wpList Tryz.prog ops Q (o :: rest) a w := by
  obtain ⟨i0, hi, hz0, hz1, hz2⟩ := info_parts infoS
  refine wpList_plain hgd fun K hK => ?_
  obtain ⟨v', w', hrun, h1, h2, h3⟩ : ∃ v' w', (Builtin.append_ #[43, 43] o.type #[v, u]).run Tryz.prog w = .ok v' w' ∧ w'.ownsRow base 29 2 v' (n + m.length) ((l ++ m).flatMap encS) ∧ Turn v v' w w' ∧
      (∀ g cap, v = .slice (some ⟨g, 0, none⟩) n cap → n + m.length ≤ cap → v' = .slice (some ⟨g, 0, none⟩) (n + m.length) cap) := by
    rcases hp.2 with ⟨rfl, h0⟩ | ⟨gu, capu, curu, rfl, hbu, hgu, hnu, hmu, hsu, htu⟩
    · have hm0 : m = [] := List.length_eq_zero_iff.1 h0
      subst hm0
      refine ⟨v, w, run_append_owned_none (P := Tryz.prog) (w := w) base 43 o.type 29 i0 2 Tryz.underlying43 hi v n _ hown, by simpa using hown, turn_refl _ _, fun g cap hv _ => by simpa using hv⟩
    · have hnews : ∀ j u, (m.flatMap encS)[j]? = some u → w.cell? ((⟨gu, 0, none⟩ : Addr).add j) = some u := fun j u hj => hp.cells (g := gu) rfl j u hj
      by_cases hfit : ∃ g cap, v = .slice (some ⟨g, 0, none⟩) n cap ∧ n + m.length ≤ cap
      · obtain ⟨g, cap, rfl, hc⟩ := hfit
        obtain ⟨w', r1, r2, r3⟩ := run_append_fits (P := Tryz.prog) w base 43 o.type 29 i0 2 Tryz.underlying43 hi hz1 g n cap (l.flatMap encS) hown ⟨gu, 0, none⟩ m.length capu (m.flatMap encS) (flatS_len m) hnews (flatS_one m) hc
        refine ⟨_, w', r1, by rw [List.flatMap_append]; exact r2, ⟨r3, fun j hj => .inr hj⟩, fun g' cap' he _ => ?_⟩
        injection he with e1 e2 e3
        injection e1 with e1
        injection e1 with e1
        rw [e1, e3]
      · obtain ⟨v', w', r1, r2, r3, -⟩ := run_append_own (P := Tryz.prog) w base 43 o.type 29 i0 (.agg #[.string ⟨#[]⟩, .string ⟨#[]⟩]) 2 32 Tryz.underlying43 hi hz0 hz1 hz2 rfl (by decide) v n (l.flatMap encS) hown ⟨gu, 0, none⟩ m.length capu (m.flatMap encS) (flatS_len m) hnews (flatS_one m) (by unfold maxLen; omega) (by omega) hbase
        have hblk : ∀ j, v'.ownBlock = some j → w.heap.size ≤ j ∨ v.ownBlock = some j := by
          rcases hown.2 with ⟨hv, h0⟩ | ⟨g, cap, cur, hv, hbg, hg, hnc, hcm, hcs, htake⟩
          · subst h0
            obtain ⟨v2, w2, q1, q2, -, -⟩ := run_append_own (P := Tryz.prog) w w.heap.size 43 o.type 29 i0 (.agg #[.string ⟨#[]⟩, .string ⟨#[]⟩]) 2 32 Tryz.underlying43 hi hz0 hz1 hz2 rfl (by decide) v 0 (l.flatMap encS) ⟨hown.1, .inl ⟨hv, rfl⟩⟩ ⟨gu, 0, none⟩ m.length capu (m.flatMap encS) (flatS_len m) hnews (flatS_one m) (by unfold maxLen; omega) (by omega) (Nat.le_refl _)
            have e := r1.symm.trans q1
            injection e with e1 e2
            subst e1
            exact fun j hj => .inl (q2.lt j hj).1
          · have holds : ∀ j u, (l.flatMap encS)[j]? = some u → w.cell? ((⟨g, 0, none⟩ : Addr).add j) = some u := hown.cells (g := g) (by rw [hv]; rfl)
            have hroom : cap < n + m.length := by
              rcases Nat.lt_or_ge cap (n + m.length) with h | h
              · exact h
              · exact absurd ⟨g, cap, hv, h⟩ hfit
            have hr := run_append_grow (P := Tryz.prog) w 43 o.type 29 i0 (.agg #[.string ⟨#[]⟩, .string ⟨#[]⟩]) Tryz.underlying43 hi hz0 ⟨g, 0, none⟩ n cap (l.flatMap encS) (by rw [hz1]; exact hown.1) holds ⟨gu, 0, none⟩ m.length capu (m.flatMap encS) (by rw [hz1]; exact flatS_len m) hnews hroom (by omega) (growslice_fits (by omega) (by rw [hz2]; omega))
            rw [← hv] at hr
            have e := r1.symm.trans hr
            injection e with e1 e2
            intro j hj
            rw [e1] at hj
            have h2 : w.heap.size = j := Option.some.inj hj
            exact .inl (by omega)
        refine ⟨v', w', r1, by rw [List.flatMap_append]; exact r2, ⟨r3, hblk⟩, fun g' cap' he hc => absurd ⟨g', cap', he, hc⟩ hfit⟩
  unfold Oper.wp
  simp [execOp, ho, resolve, invoke, builtin, hs, hx, append_ty, hrun, Result.andThen]
  exact hK _ _ (h v' w' h1 h2 h3)
set_option maxRecDepth 100000 in
/-- 'append(s, make(..)...)' where s has no room: a row behind all that there is. -/
theorem append_zeros {w : World} {ops : Array Oper} {rest : List Oper} {o : Oper} {a : Act} {Q : Exit → Act → World → Prop} (hgd : o.guard = none) (s x : Operand)
    (ho : o.op = .call { callee := .builtin .append, args := #[s, x], argTypes := #[90, 3] }) (base g n cap : Nat) (l : List Sp) (hs : a.eval s = .slice (some ⟨g, 0, none⟩) n cap) (hown : w.ownsRow base 29 2 (.slice (some ⟨g, 0, none⟩) n cap) n (l.flatMap encS))
    (k : Nat) (hx : a.eval x = .int .i64 k) (hk : 0 < k) (hg : cap < n + k) (hl : n + k ≤ 1000000000)
    (h : ∀ w' cap' (cur : List Value), n + k ≤ cap' → cap' ≤ maxLen → cur.length = cap' * 2 → cur.take (n * 2) = l.flatMap encS → Hid (w'.heap[w.heap.size]? = some (.cells cur.toArray 29 (0, 0))) → Below w.heap.size w w' → w'.heap.size = w.heap.size + 1 → wpList Tryz.prog ops Q rest (a.put o.dst (.slice (some ⟨w.heap.size, 0, none⟩) (n + k) cap')) w') : wpList Tryz.prog ops Q (o :: rest) a w := by
  obtain ⟨i0, hi, hz0, hz1, hz2⟩ := info_parts infoS
  obtain ⟨cur0, c1, c2, c3, c4, c5, c6, c7⟩ := own_row hown
  refine wpList_plain hgd fun K hK => ?_
  have hcells : ∀ j u, (l.flatMap encS)[j]? = some u → w.drew.cell? ((⟨g, 0, none⟩ : Addr).add j) = some u := fun j u hj => hown.cells (g := g) rfl j u hj
  have hfc := run_firstCells_some (P := Tryz.prog) (w := w.drew) 2 n ⟨g, 0, none⟩ n cap (l.flatMap encS) (by rw [flatS_len, c7]) hcells
  have hnx : Builtin.nextslicecap (n + k) cap ≤ 2 * (n + k) := nextslicecap_le hg
  have hrun := Go.Lib.run_append_grow_zeros (P := Tryz.prog) w 90 3 o.type 29 i0 (.agg #[.string ⟨#[]⟩, .string ⟨#[]⟩]) .i64 .i64 Tryz.underlying90 Tryz.underlying3 hi hz0 (some ⟨g, 0, none⟩) n cap (l.flatMap encS) (by rw [hz1]; exact hfc) k hk (by omega) hg (by omega) (by rw [hz2]; omega) (by rw [hz2]; omega)
  unfold Oper.wp
  simp [execOp, ho, resolve, invoke, builtin, hs, hx, hrun, Result.andThen]
  have hcap := grownCap_ge w (n + k) cap 29
  have hcm := grownCap_le_maxLen w (n + k) cap 29 (by unfold maxLen; omega)
  generalize grownCap w (n + k) cap 29 = cp at *
  refine hK _ _ (h _ cp ((l.flatMap encS) ++ (Builtin.zeroCells (Value.agg #[.string ⟨#[]⟩, .string ⟨#[]⟩]).cells k).toList ++ (Builtin.zeroCells (Value.agg #[.string ⟨#[]⟩, .string ⟨#[]⟩]).cells (cp - (n + k))).toList) hcap hcm ?_ ?_ (Lib.hid ?_) ?_ ?_)
  · have e : (Value.agg #[.string ⟨#[]⟩, .string ⟨#[]⟩]).cells.size = 2 := rfl
    rw [List.length_append, List.length_append, zeros_len, zeros_len, flatS_len, e]; omega
  · rw [List.append_assoc, List.take_append_of_le_length (by rw [flatS_len]; omega), List.take_of_length_le (by rw [flatS_len]; omega)]
  · refine (heap_alloc_new w.drew _).trans ?_
    simp
  · exact (show Below w.heap.size w w.drew from below_drewN w 1).alloc (Nat.le_refl _) _
  · simp

end Go.Proofs.YthncnijkgkeohaaGreat
namespace Go.Proofs.YthncnijkgkeohaaGreat
open Go.RowKit Go.Sort
set_option linter.unusedVariables false

theorem take_drop_same (l : List Sp) (i : Nat) : l.take i ++ [] ++ l.drop i = l := by simp
theorem own_same {w : World} {base n k : Nat} {v : Value} {l l' : List Sp} (h : w.ownsRow base 29 2 v n (l.flatMap encS)) (e : l = l') (hn : n = k) : w.ownsRow base 29 2 v k (l'.flatMap encS) := by subst e hn; exact h
theorem splice_fwd {α : Type} (cur X Y Z : List α) (h0 : cur.take X.length = X) (hl : X.length + Y.length + Z.length ≤ cur.length) : (splice (splice cur X.length Y) (X.length + Y.length) Z).take (X.length + Y.length + Z.length) = X ++ Y ++ Z := by
  have e1 : splice cur X.length Y = (X ++ Y) ++ cur.drop (X.length + Y.length) := by unfold splice; rw [h0, List.append_assoc]
  have e2 : splice ((X ++ Y) ++ cur.drop (X.length + Y.length)) (X.length + Y.length) Z = (X ++ Y ++ Z) ++ (cur.drop (X.length + Y.length)).drop Z.length := by
    generalize cur.drop (X.length + Y.length) = R
    unfold splice
    have a1 : (X ++ Y ++ R).take (X.length + Y.length) = X ++ Y := List.take_left' (by simp)
    have a2 : (X ++ Y ++ R).drop (X.length + Y.length + Z.length) = R.drop Z.length := by
      rw [List.drop_append, List.drop_eq_nil_of_le (by rw [List.length_append]; omega), List.nil_append, List.length_append, Nat.add_sub_cancel_left]
    rw [a1, a2, List.append_assoc (X ++ Y) Z]
  rw [e1, e2, List.take_left' (by simp [Nat.add_assoc])]
theorem splice_back {α : Type} (cur X Y Z : List α) (h0 : cur.take X.length = X) (hl : X.length + Y.length + Z.length ≤ cur.length) : (splice (splice cur (X.length + Y.length) Z) X.length Y).take (X.length + Y.length + Z.length) = X ++ Y ++ Z := by
  apply List.ext_getElem?
  intro j
  have l1 : (splice cur (X.length + Y.length) Z).length = cur.length := length_splice _ _ _ (by omega)
  rw [List.getElem?_take]
  split
  · rename_i hj
    rw [get_splice _ _ _ _ (by rw [l1]; omega), get_splice _ _ _ _ (by omega)]
    by_cases h1 : j < X.length
    · rw [if_pos h1, if_pos (by omega), List.append_assoc, List.getElem?_append_left h1]
      conv => rhs; rw [← h0]
      rw [List.getElem?_take, if_pos h1]
    · rw [if_neg h1]
      by_cases h2 : j < X.length + Y.length
      · rw [if_pos h2, List.getElem?_append_left (by simp; omega), List.getElem?_append_right (by omega)]
      · rw [if_neg h2, if_neg h2, if_pos (by omega), List.getElem?_append_right (by simp; omega)]
        congr 1
        simp
  · rename_i hj
    rw [List.getElem?_eq_none (by simp; omega)]
theorem drop_cells {cur : List Value} {l : List Sp} {n : Nat} (h : cur.take (n * 2) = l.flatMap encS) (i j : Nat) (u : Value) (hu : ((l.drop i).flatMap encS)[j]? = some u) : (cur.drop (i * 2))[j]? = some u := by
  rw [flatS_drop, ← h, List.getElem?_drop, List.getElem?_take] at hu
  rw [List.getElem?_drop]
  split at hu
  · exact hu
  · cases hu
theorem row_at {w w' : World} {g B : Nat} {cur : List Value} {T : TypeId} (h : w.heap[g]? = some (.cells cur.toArray T (0, 0))) (hb : Below B w w') (hg : g < B) : w'.heap[g]? = some (.cells cur.toArray T (0, 0)) := (hb.block g hg).trans h
theorem row_shape {w : World} {g : Nat} {cur : List Value} {T : TypeId} (h : w.heap[g]? = some (.cells cur.toArray T (0, 0))) : w.shape? g = some (T, cur.length) := by
  unfold World.shape?; rw [h]; simp
theorem row_free {w : World} {g : Nat} {cur : List Value} {T : TypeId} (h : w.heap[g]? = some (.cells cur.toArray T (0, 0))) (o : Nat) : w.frozen? ⟨g, o, none⟩ = false := by
  unfold World.frozen?; rw [h]; simp
/-- Two rows do not overlap. -/
theorem overlaps_no {w : World} {g gu : Nat} {cur curu : List Value} (hne : gu ≠ g) (h : w.heap[g]? = some (.cells cur.toArray 29 (0, 0))) (hu : w.heap[gu]? = some (.cells curu.toArray 29 (0, 0))) (hc : cur.length ≠ 0) (o la ca lb cb : Nat) :
    (callFunc 137 #[.slice (some ⟨gu, 0, none⟩) la ca, .slice (some ⟨g, o, none⟩) lb cb]).run Tryz.prog w = .ok (.value (.bool false)) w := by
  rw [run_callFunc_extern Tryz.func137 (by kernel_rfl) (by kernel_rfl) (by kernel_rfl) (e := Extern.SlicesOverlaps.overlaps #[43, 43] #[4]) (by kernel_rfl),
    Go.Lib.run_overlaps_apart w 43 4 29 Tryz.underlying43 2 Tryz.sizeOf29 ⟨gu, 0, none⟩ ⟨g, o, none⟩ la ca lb cb hne 29 29 curu.length cur.length (row_shape hu) (row_shape h) hc (row_free hu 0) (row_free hu _)]
  rfl
theorem overlaps_no' {w : World} {g gu : Nat} {cur curu : List Value} (hne : gu ≠ g) (h : w.heap[g]? = some (.cells cur.toArray 29 (0, 0))) (hu : w.heap[gu]? = some (.cells curu.toArray 29 (0, 0))) (hc : curu.length ≠ 0) (o la ca lb cb : Nat) :
    (callFunc 137 #[.slice (some ⟨g, o, none⟩) lb cb, .slice (some ⟨gu, 0, none⟩) la ca]).run Tryz.prog w = .ok (.value (.bool false)) w := by
  rw [run_callFunc_extern Tryz.func137 (by kernel_rfl) (by kernel_rfl) (by kernel_rfl) (e := Extern.SlicesOverlaps.overlaps #[43, 43] #[4]) (by kernel_rfl),
    Go.Lib.run_overlaps_apart w 43 4 29 Tryz.underlying43 2 Tryz.sizeOf29 ⟨g, o, none⟩ ⟨gu, 0, none⟩ lb cb la ca (Ne.symm hne) 29 29 cur.length curu.length (row_shape h) (row_shape hu) hc (row_free h o) (row_free h _)]
  rfl
/-- A copy onto a row, as an equation for the walk. -/
theorem copy_run {w w0 : World} {B : Nat} (dT sT : TypeId) (hu : Tryz.prog.underlying dT = some (.slice 29)) (dp sp : Option Addr) (dLen dCap sLen sCap n : Nat)
    (g off : Nat) (cur : List Value) (hg : w.heap[g]? = some (.cells cur.toArray 29 (0, 0))) (cs : List Value) (hmin : Nat.min sLen dLen = n) (hn : cs.length = n * 2)
    (hpos : 0 < cs.length → dp = some ⟨g, off, none⟩ ∧ ∃ ad, sp = some ad ∧ ∀ j v, cs[j]? = some v → w.cell? (ad.add j) = some v)
    (hfit : off + cs.length ≤ cur.length) (h1 : ∀ v ∈ cs, v.oneCell' = true) (hb : Below B w0 w) (hBg : B ≤ g) :
    ∃ w', (∀ ty, (Builtin.copy_ #[dT, sT] ty #[.slice dp dLen dCap, .slice sp sLen sCap]).run Tryz.prog w = .ok (goInt n) w') ∧ w'.heap[g]? = some (.cells (splice cur off cs).toArray 29 (0, 0)) ∧ Below B w0 w' ∧ (∀ b, b ≠ g → w'.heap[b]? = w.heap[b]?) ∧ w'.heap.size = w.heap.size := by
  by_cases h0 : cs.length = 0
  · obtain rfl : cs = [] := List.eq_nil_of_length_eq_zero h0
    obtain rfl : n = 0 := by simp at hn; omega
    exact ⟨w, fun ty => run_copy_noneK (P := Tryz.prog) w 2 dT sT ty 29 dp sp dLen dCap sLen sCap hu sizeSp hmin, by simpa [splice] using hg, hb, fun _ _ => rfl, rfl⟩
  · obtain ⟨rfl, ad, rfl, hsrc⟩ := hpos (by omega)
    refine ⟨_, fun ty => by rw [← hmin]; exact run_copy_rowK (P := Tryz.prog) w 2 dT sT ty 29 g off dLen dCap ad sLen sCap cur.toArray 29 cs hu sizeSp hg (by rw [hmin]; exact hn) hsrc (by simpa using hfit) h1, by simpa [splice] using setRow_heap w g _ _ _ _ hg, below_setRow hb hBg _, fun b hb => setRow_other w g b _ hb, by simp [World.setRow]⟩
set_option maxRecDepth 100000 in
set_option maxHeartbeats 4000000 in
theorem sinsert_w (base base2 : Nat) (v u : Value) (l m : List Sp) (i : Nat) (w : World) (hv : w.ownsRow base 29 2 v l.length (l.flatMap encS)) (hu : w.ownsRow base2 29 2 u m.length (m.flatMap encS))
    (hsep : ∀ k, v.ownBlock = some k → k < base2) (hb : base ≤ w.heap.size) (hi : i ≤ l.length) (hl : l.length ≤ 100000000) (hm : m.length ≤ 100000000) :
    Calls Tryz.prog 136 #[v, .int .i64 i, u] w fun e w' => ∃ v', e = .returned v' ∧ w'.ownsRow base 29 2 v' (l.take i ++ m ++ l.drop i).length ((l.take i ++ m ++ l.drop i).flatMap encS) ∧ Turn v v' w w' := by
  have mixed := mixedA
  have Hv := Lib.hid hv
  have Hu := Lib.hid hu
  obtain ⟨pu, capu, rfl, hcu, hmu, hpu⟩ := own_form hu
  unfold maxLen at hmu
  by_cases hm0 : m.length = 0
  · obtain rfl : m = [] := List.eq_nil_of_length_eq_zero hm0
    have Hres : Hid (w.ownsRow base 29 2 v (l.take i ++ [] ++ l.drop i).length ((l.take i ++ [] ++ l.drop i).flatMap encS)) := Lib.hid (own_same hv (take_drop_same l i).symm (by rw [take_drop_same]))
    rcases hv.2 with ⟨rfl, h0⟩ | ⟨g, cap, cur, rfl, hbg, hg, hn, hcm, hcs, ht⟩
    · obtain rfl : i = 0 := by omega
      clear hv hu hsep hpu
      go_enter Tryz.func136, Tryz.ntmps136
      go_wp2
      go_ret
      exact ⟨_, rfl, Hres.out, turn_refl _ _⟩
    · unfold maxLen at hcm
      have hi2 : i ≤ cap := by omega
      by_cases hci : cap = i
      · have hci2 : i = l.length := by omega
        clear hv hu hsep hpu hg ht hcs
        go_enter Tryz.func136, Tryz.ntmps136
        go_wp2
        go_ret
        exact ⟨_, rfl, Hres.out, turn_refl _ _⟩
      · clear hv hu hsep hpu hg ht hcs
        go_enter Tryz.func136, Tryz.ntmps136
        go_wp2
        go_ret
        exact ⟨_, rfl, Hres.out, turn_refl _ _⟩
  · obtain ⟨gu, rfl⟩ := hpu (by omega)
    have hmz : ((m.length : Int) == 0) = false := by rw [beq_eq_false_iff_ne]; omega
    by_cases hin : i = l.length
    · subst hin
      rcases hv.2 with ⟨rfl, h0⟩ | ⟨g, cap, cur, rfl, hbg, hg, hn, hcm, hcs, ht⟩
      · clear hv hu hsep hpu hm0
        go_enter Tryz.func136, Tryz.ntmps136
        go_wp2_with (at_builtin; refine append_dead rfl _ _ rfl base _ l l.length rfl Hv.out base2 _ m rfl Hu.out (by omega) hb ?_; intro v2 w2 ho hbl _; have Ho := Lib.hid ho; have Hb := Lib.hid hbl; clear ho hbl)
        go_ret
        exact ⟨_, rfl, own_same Ho.out (by simp) (by simp), Hb.out⟩
      · unfold maxLen at hcm
        by_cases hci : cap = l.length
        · clear hv hu hsep hpu hm0 hg ht hcs
          go_enter Tryz.func136, Tryz.ntmps136
          go_wp2_with (at_builtin; refine append_dead rfl _ _ rfl base _ l l.length rfl Hv.out base2 _ m rfl Hu.out (by omega) hb ?_; intro v2 w2 ho hbl _; have Ho := Lib.hid ho; have Hb := Lib.hid hbl; clear ho hbl)
          go_ret
          exact ⟨_, rfl, own_same Ho.out (by simp) (by simp), Hb.out⟩
        · clear hv hu hsep hpu hm0 hg ht hcs
          go_enter Tryz.func136, Tryz.ntmps136
          go_wp2_with (at_builtin; refine append_dead rfl _ _ rfl base _ l l.length rfl Hv.out base2 _ m rfl Hu.out (by omega) hb ?_; intro v2 w2 ho hbl _; have Ho := Lib.hid ho; have Hb := Lib.hid hbl; clear ho hbl)
          go_ret
          exact ⟨_, rfl, own_same Ho.out (by simp) (by simp), Hb.out⟩
    · obtain ⟨g, hvg⟩ : ∃ g, v.ownBlock = some g := by
        rcases hv.2 with ⟨rfl, h0⟩ | ⟨g, cap, cur, rfl, _⟩
        · omega
        · exact ⟨g, rfl⟩
      obtain ⟨pv, cap, rfl, hnc, hcm, hpv⟩ := own_form hv
      obtain ⟨g', rfl⟩ := hpv (by omega)
      obtain rfl : g' = g := by simpa [Value.ownBlock] using hvg
      have hgb := hsep g' rfl
      obtain ⟨cur, r1, r2, r3, r4, r5, r6, -⟩ := own_row hv
      obtain ⟨curu, q1, q2, q3, q4, q5, q6, -⟩ := own_row hu
      unfold maxLen at hcm
      have hine : ((i : Int) == (l.length : Int)) = false := by rw [beq_eq_false_iff_ne]; omega
      have hci : ¬ cap = i := by omega
      have hgu : g' < gu := Nat.lt_of_lt_of_le hgb q4
      have hguw : gu < w.heap.size := by rw [Array.getElem?_eq_some_iff] at q1; exact q1.1
      have R1 := Lib.hid r1
      have Q1 := Lib.hid q1
      clear hv hu hpu hpv hvg r1 q1 hsep
      have hdl : ((l.drop i).flatMap encS).length = (l.length - i) * 2 := by rw [flatS_len, List.length_drop]
      have htl : ((l.take i).flatMap encS).length = i * 2 := by rw [flatS_len, List.length_take]; omega
      have hml : (m.flatMap encS).length = m.length * 2 := flatS_len m
      have hre : (l.take i ++ m ++ l.drop i).flatMap encS = (l.take i).flatMap encS ++ m.flatMap encS ++ (l.drop i).flatMap encS := by rw [List.flatMap_append, List.flatMap_append]
      have hrl : (l.take i ++ m ++ l.drop i).length = l.length + m.length := by simp; omega
      by_cases hgrow : cap < l.length + m.length
      · obtain ⟨k, hk⟩ : ∃ k, i + k = l.length + m.length := ⟨l.length + m.length - i, by omega⟩
        clear hm0
        go_enter Tryz.func136, Tryz.ntmps136
        go_wp2_with (at_builtin; refine append_zeros rfl (.tmp 34) (.tmp 39) rfl base g' i cap (l.take i) rfl (owns_take Hv.out i (by omega)) k (by simp [Act.eval]; omega) (by omega) (by omega) (by omega) ?_; intro w2 cap' cur2 k1 k2 k3 k4 k5 k6 k7; have K4 := Lib.hid k4; have K6 := Lib.hid k6; have hc' : ¬ cap' = i := (by omega); clear k4 k6)
        have hsrc : ∀ j x, (m.flatMap encS)[j]? = some x → w2.cell? ((⟨gu, 0, none⟩ : Addr).add j) = some x := (owns_below Hu.out K6.out).cells (g := gu) rfl
        obtain ⟨w3, hc3, h3, hb3, ho3, hs3⟩ := copy_run (w := w2) 90 43 Tryz.underlying90 (some ⟨w.heap.size, i * 2, none⟩) (some ⟨gu, 0, none⟩) (l.length + m.length - i) (cap' - i) m.length capu m.length w.heap.size (i * 2) cur2 k5.out (m.flatMap encS) (by simp only [Nat.min_def]; split <;> omega) hml (fun _ => ⟨rfl, ⟨gu, 0, none⟩, rfl, hsrc⟩) (by rw [hml, k3]; omega) (flatS_one m) K6.out (Nat.le_refl _)
        have HB3 := Lib.hid hb3
        have H3 := Lib.hid h3
        clear hsrc hb3 h3 ho3
        rw [hc3]
        go_upto_region 11 with fail
        have hb3 : Below w.heap.size w w3 := HB3.out
        have hsz : ¬ cap' = i + m.length := by omega
        have hd3 : ∀ wx : World, (∀ b : Nat, wx.heap[b]? = w3.heap[b]?) → Below w.heap.size w wx → ∃ w4, (∀ ty, (Builtin.copy_ #[90, 90] ty #[.slice (some ⟨w.heap.size, (i + m.length) * 2, none⟩) (l.length + m.length - (i + m.length)) (cap' - (i + m.length)), .slice (some ⟨g', i * 2, none⟩) (l.length - i) (cap - i)]).run Tryz.prog wx = .ok (goInt (l.length - i : Nat)) w4) ∧ w4.heap[w.heap.size]? = some (.cells (splice (splice cur2 (i * 2) (m.flatMap encS)) ((i + m.length) * 2) ((l.drop i).flatMap encS)).toArray 29 (0, 0)) ∧ Below w.heap.size w w4 := by
          intro wx hwx hbx
          have hlen3 : (splice cur2 (i * 2) (m.flatMap encS)).length = cap' * 2 := by rw [length_splice _ _ _ (by rw [hml, k3]; omega), k3]
          obtain ⟨w4, hc4, h4, hb4, ho4, hs4⟩ := copy_run (w := wx) 90 90 Tryz.underlying90 (some ⟨w.heap.size, (i + m.length) * 2, none⟩) (some ⟨g', i * 2, none⟩) (l.length + m.length - (i + m.length)) (cap' - (i + m.length)) (l.length - i) (cap - i) (l.length - i) w.heap.size ((i + m.length) * 2) _ (by rw [hwx]; exact H3.out) ((l.drop i).flatMap encS) (by simp only [Nat.min_def]; split <;> omega) hdl (fun _ => ⟨rfl, ⟨g', i * 2, none⟩, rfl, fun j x hj => row_cells (row_at R1.out hbx (by omega)) (i * 2) j x (drop_cells r3 i j x hj)⟩) (by rw [hdl, hlen3]; omega) (flatS_one _) hbx (Nat.le_refl _)
          exact ⟨w4, hc4, h4, hb4⟩
        obtain ⟨w4, hc4, h4, hb4⟩ := hd3 w3.drew (fun _ => rfl) (hb3.trans (below_drewN w3 1))
        have H4 := Lib.hid h4
        have HB4 := Lib.hid hb4
        clear h4 hb4 hd3 hb3
        go_region
        go_wp2
        go_ret
        refine ⟨_, rfl, ?_, turn_new HB4.out _ _ _⟩
        have e := splice_fwd cur2 ((l.take i).flatMap encS) (m.flatMap encS) ((l.drop i).flatMap encS) (by rw [htl]; exact K4.out) (by rw [htl, hml, hdl, k3]; omega)
        rw [htl, hml, hdl, show i * 2 + m.length * 2 + (l.length - i) * 2 = (l.length + m.length) * 2 by omega, show i * 2 + m.length * 2 = (i + m.length) * 2 by omega, ← hre] at e
        rw [hrl]
        exact row_own H4.out (by rw [length_splice _ _ _ (by rw [length_splice _ _ _ (by rw [hml, k3]; omega), hdl, k3]; omega), length_splice _ _ _ (by rw [hml, k3]; omega), k3]) e hb (by omega) k2 hrl.symm
      · have hge : l.length + m.length ≤ cap := by omega
        have hci2 : ¬ cap = i + m.length := by omega
        have hov := fun o lb cb => overlaps_no (w := w) (g := g') (gu := gu) (by omega) R1.out Q1.out (by rw [r2]; omega) o m.length capu lb cb
        obtain ⟨w4, hc4, h4, hb4, ho4, hs4⟩ := copy_run (w := w.drew) 90 90 Tryz.underlying90 (some ⟨g', (i + m.length) * 2, none⟩) (some ⟨g', i * 2, none⟩) (l.length + m.length - (i + m.length)) (cap - (i + m.length)) (l.length + m.length - i) (cap - i) (l.length - i) g' ((i + m.length) * 2) cur R1.out ((l.drop i).flatMap encS) (by simp only [Nat.min_def]; split <;> omega) hdl (fun _ => ⟨rfl, ⟨g', i * 2, none⟩, rfl, fun j x hj => row_cells (w := w) R1.out (i * 2) j x (drop_cells r3 i j x hj)⟩) (by rw [hdl, r2]; omega) (flatS_one _) (show Below base w w.drew from below_drewN w 1) r4
        have hsrc : ∀ j x, (m.flatMap encS)[j]? = some x → w4.cell? ((⟨gu, 0, none⟩ : Addr).add j) = some x := fun j x hj => by
          have := Hu.out.cells (g := gu) rfl j x hj
          rw [← this]
          exact World.cell?_of_block (by have := ho4 gu (by omega); unfold Addr.add; split <;> exact this)
        obtain ⟨w5, hc5, h5, hb5, ho5, -⟩ := copy_run (w := w4) 90 43 Tryz.underlying90 (some ⟨g', i * 2, none⟩) (some ⟨gu, 0, none⟩) (l.length + m.length - i) (cap - i) m.length capu m.length g' (i * 2) _ h4 (m.flatMap encS) (by simp only [Nat.min_def]; split <;> omega) hml (fun _ => ⟨rfl, ⟨gu, 0, none⟩, rfl, hsrc⟩) (by rw [hml, length_splice _ _ _ (by rw [hdl, r2]; omega), r2]; omega) (flatS_one m) hb4 r4
        have H5 := Lib.hid h5
        have HB5 := Lib.hid hb5
        have HO := Lib.hid (fun b (hne : b ≠ g') => (ho5 b hne).trans (ho4 b hne))
        clear h4 hb4 ho4 hs4 hsrc h5 hb5 ho5 hm0
        go_enter Tryz.func136, Tryz.ntmps136
        go_wp2_with (simp only [hov])
        go_region
        go_wp2
        go_ret
        refine ⟨_, rfl, ?_, turn_own HB5.out HO.out _ _ _ _⟩
        have e := splice_back cur ((l.take i).flatMap encS) (m.flatMap encS) ((l.drop i).flatMap encS) (by rw [htl, flatS_take, ← r3, List.take_take, Nat.min_eq_left (by omega)]) (by rw [htl, hml, hdl, r2]; omega)
        rw [htl, hml, hdl, show i * 2 + m.length * 2 + (l.length - i) * 2 = (l.length + m.length) * 2 by omega, show i * 2 + m.length * 2 = (i + m.length) * 2 by omega, ← hre] at e
        rw [hrl]
        exact row_own H5.out (by rw [length_splice _ _ _ (by rw [length_splice _ _ _ (by rw [hdl, r2]; omega), hml, r2]; omega), length_splice _ _ _ (by rw [hdl, r2]; omega), r2]) e r4 hge r6 hrl.symm

end Go.Proofs.YthncnijkgkeohaaGreat
namespace Go.Proofs.YthncnijkgkeohaaGreat
open Go.RowKit Go.Sort
set_option linter.unusedVariables false

theorem own_src {w : World} {base c : Nat} {p : Option Addr} {m : List Sp} (h : w.ownsRow base 29 2 (.slice p m.length c) m.length (m.flatMap encS)) (hp : 0 < (m.flatMap encS).length) : ∃ ad, p = some ad ∧ ∀ j x, (m.flatMap encS)[j]? = some x → w.cell? (ad.add j) = some x := by
  rw [flatS_len] at hp
  obtain ⟨p', c', e, _, _, hp'⟩ := own_form h
  injection e with e1 e2 e3
  subst e1
  obtain ⟨gu, rfl⟩ := hp' (by omega)
  exact ⟨_, rfl, h.cells (g := gu) rfl⟩
theorem own_other {w w' : World} {base g : Nat} {v : Value} {n : Nat} {xs : List Value} (h : w.ownsRow base 29 2 v n xs) (ho : ∀ b, b ≠ g → w'.heap[b]? = w.heap[b]?) (hsep : g < base) : w'.ownsRow base 29 2 v n xs := by
  refine ⟨h.1, ?_⟩
  rcases h.2 with h0 | ⟨g', cap, cur, h1, h2, h3, h4⟩
  · exact .inl h0
  · exact .inr ⟨g', cap, cur, h1, h2, (ho g' (by omega)).trans h3, h4⟩
theorem zeroSp : ∀ w : World, (zeroValue 29).run Tryz.prog w = .ok (.agg #[.string ⟨#[]⟩, .string ⟨#[]⟩]) w := by
  obtain ⟨i0, hi, hz0, hz1, hz2⟩ := info_parts infoS
  intro w
  simp [zeroValue, typeInfo, hi, hz0]
/-- 'clear' of a part of a row, as an equation for the walk. -/
theorem clear_run {w w0 : World} {B : Nat} (dp : Option Addr) (n c g off : Nat) (cur : List Value) (hg : w.heap[g]? = some (.cells cur.toArray 29 (0, 0))) (hpos : 0 < n → dp = some ⟨g, off, none⟩) (hfit : off + n * 2 ≤ cur.length) (hb : Below B w0 w) (hBg : B ≤ g) :
    ∃ w' cs, cs.length = n * 2 ∧ (∀ ty, (Builtin.clear_ #[90] ty #[.slice dp n c]).run Tryz.prog w = .ok (.tuple #[]) w') ∧ w'.heap[g]? = some (.cells (splice cur off cs).toArray 29 (0, 0)) ∧ Below B w0 w' ∧ (∀ b, b ≠ g → w'.heap[b]? = w.heap[b]?) := by
  rcases Nat.eq_zero_or_pos n with rfl | hn
  · refine ⟨w, [], by simp, fun ty => ?_, by simpa [splice] using hg, hb, fun _ _ => rfl⟩
    cases dp <;> simp [Builtin.clear_, run_underlying Tryz.underlying90]
  · obtain rfl := hpos hn
    have e2 : (Value.agg #[.string ⟨#[]⟩, .string ⟨#[]⟩]).cells.size = 2 := rfl
    have hcl := zeros_len (Value.agg #[.string ⟨#[]⟩, .string ⟨#[]⟩]).cells n
    rw [e2] at hcl
    have h1 := zeros_one (Value.agg #[.string ⟨#[]⟩, .string ⟨#[]⟩]).cells n (by intro v hv; simp [Value.cells] at hv; rcases hv with rfl | rfl <;> rfl)
    have hst := run_storeCells_at Tryz.prog g off 29 (Builtin.zeroCells (Value.agg #[.string ⟨#[]⟩, .string ⟨#[]⟩]).cells n).toList 0 cur.toArray w hg (by rw [hcl]; simpa using hfit) h1
    rw [Nat.add_zero] at hst
    generalize hzs : Builtin.zeroCells (Value.agg #[.string ⟨#[]⟩, .string ⟨#[]⟩]).cells n = zs at *
    refine ⟨_, zs.toList, hcl, fun ty => ?_, ?_, below_setRow hb hBg (cur.toArray.toList.take off ++ zs.toList ++ cur.toArray.toList.drop (off + zs.toList.length)).toArray, fun b hne => setRow_other w g b _ hne⟩
    · obtain ⟨m, rfl⟩ : ∃ m, n = m + 1 := ⟨n - 1, by omega⟩
      simp only [Builtin.clear_]
      simp at hst
      simp [run_underlying Tryz.underlying90, hzs, hst]
    · simpa [splice] using setRow_heap w g _ _ 29 _ hg
theorem splice_take {α : Type} {L cs : List α} {off : Nat} (h : off ≤ L.length) : (splice L off cs).take off = L.take off := by
  unfold splice
  rw [List.take_left' (by rw [List.length_take]; omega)]
set_option maxRecDepth 100000 in
set_option maxHeartbeats 8000000 in
theorem sreplace_w (base base2 : Nat) (v u : Value) (l m : List Sp) (i j : Nat) (w : World) (hv : w.ownsRow base 29 2 v l.length (l.flatMap encS)) (hu : w.ownsRow base2 29 2 u m.length (m.flatMap encS))
    (hsep : ∀ k, v.ownBlock = some k → k < base2) (hb : base ≤ w.heap.size) (hij : i ≤ j) (hj : j ≤ l.length) (hl : l.length ≤ 100000000) (hm : m.length ≤ 100000000) :
    Calls Tryz.prog 125 #[v, .int .i64 i, .int .i64 j, u] w fun e w' => ∃ v', e = .returned v' ∧ w'.ownsRow base 29 2 v' (l.take i ++ m ++ l.drop j).length ((l.take i ++ m ++ l.drop j).flatMap encS) ∧ Turn v v' w w' := by
  have mixed := mixedA
  have Hv := Lib.hid hv
  have Hu := Lib.hid hu
  by_cases hije : i = j
  · subst hije
    have HI0 := Lib.hid (sinsert_w base base2 v u l m i w hv hu hsep hb hj hl hm)
    obtain ⟨pu, capu, rfl, hcu, hmu, hpu⟩ := own_form hu
    rcases hv.2 with ⟨rfl, h0⟩ | ⟨g, cap, cur, rfl, hbg, hg, hn, hcm, hcs, ht⟩
    · obtain rfl : i = 0 := by omega
      obtain rfl : l = [] := List.eq_nil_of_length_eq_zero h0
      have HI : Hid (Calls Tryz.prog 136 #[.slice none 0 0, .int .i64 0, .slice pu m.length capu] w _) := HI0
      clear hv hu hsep hpu HI0 Hv Hu
      go_enter Tryz.func125, Tryz.ntmps125
      go_wp2_with (go_at_call 136; refine HI.out.mono ?_; rintro e w2 ⟨v2, rfl, ho, hbl⟩; have Ho := Lib.hid ho; have Hb := Lib.hid hbl; clear ho hbl)
      go_ret
      exact ⟨_, rfl, Ho.out, Hb.out⟩
    · unfold maxLen at hcm
      by_cases hci : cap = i
      · subst hci
        obtain rfl : l.length = cap := by omega
        have HI := HI0
        clear hv hu hsep hpu hg ht hcs HI0 Hv Hu hcm hn
        go_enter Tryz.func125, Tryz.ntmps125
        go_wp2_with (go_at_call 136; refine HI.out.mono ?_; rintro e w2 ⟨v2, rfl, ho, hbl⟩; have Ho := Lib.hid ho; have Hb := Lib.hid hbl; clear ho hbl)
        go_ret
        exact ⟨_, rfl, Ho.out, Hb.out⟩
      · have hi2 : i ≤ cap := by omega
        have HI := HI0
        clear hv hu hsep hpu hg ht hcs HI0 Hv Hu
        go_enter Tryz.func125, Tryz.ntmps125
        go_wp2_with (go_at_call 136; refine HI.out.mono ?_; rintro e w2 ⟨v2, rfl, ho, hbl⟩; have Ho := Lib.hid ho; have Hb := Lib.hid hbl; clear ho hbl)
        go_ret
        exact ⟨_, rfl, Ho.out, Hb.out⟩
  · obtain ⟨g, hvg⟩ : ∃ g, v.ownBlock = some g := by
      rcases hv.2 with ⟨rfl, h0⟩ | ⟨g, cap, cur, rfl, _⟩
      · omega
      · exact ⟨g, rfl⟩
    obtain ⟨pv, cap, rfl, hnc, hcm, hpv⟩ := own_form hv
    obtain ⟨g', rfl⟩ := hpv (by omega)
    obtain rfl : g' = g := by simpa [Value.ownBlock] using hvg
    have hgb := hsep g' rfl
    obtain ⟨cur, r1, r2, r3, r4, r5, r6, -⟩ := own_row hv
    obtain ⟨pu, capu, rfl, hcu, hmu, hpu⟩ := own_form hu
    unfold maxLen at hcm hmu
    have hije2 : ((i : Int) == (j : Int)) = false := by rw [beq_eq_false_iff_ne]; omega
    have hci : ¬ cap = i := by omega
    have hgw : g' < w.heap.size := by rw [Array.getElem?_eq_some_iff] at r1; exact r1.1
    have R1 := Lib.hid r1
    have hdl : ((l.drop j).flatMap encS).length = (l.length - j) * 2 := by rw [flatS_len, List.length_drop]
    have htl : ((l.take i).flatMap encS).length = i * 2 := by rw [flatS_len, List.length_take]; omega
    have hml : (m.flatMap encS).length = m.length * 2 := flatS_len m
    have hre : (l.take i ++ m ++ l.drop j).flatMap encS = (l.take i).flatMap encS ++ m.flatMap encS ++ (l.drop j).flatMap encS := by rw [List.flatMap_append, List.flatMap_append]
    have hrl : (l.take i ++ m ++ l.drop j).length = i + m.length + (l.length - j) := by simp; omega
    have hti : cur.take (i * 2) = (l.take i).flatMap encS := by rw [flatS_take, ← r3, List.take_take, Nat.min_eq_left (by omega)]
    have hot := owns_take hv i (by omega)
    have HPU := Lib.hid hpu
    clear hv hu hpu hpv hvg r1 hsep
    by_cases hjn : j = l.length
    · subst hjn
      have hjn2 : ((l.length : Int) == (l.length : Int)) = true := by simp
      have HT := Lib.hid hot
      by_cases hsm : i + m.length < l.length
      · go_enter Tryz.func125, Tryz.ntmps125
        go_wp2_with (at_builtin; refine append_dead rfl _ _ rfl base _ (l.take i) i rfl HT.out base2 _ m rfl Hu.out (by omega) hb ?_; intro v2 w2 ho hbl hval; obtain rfl := hval g' cap rfl (by omega); have Ho := Lib.hid ho; have Hb := Lib.hid hbl; clear ho hbl hval)
        obtain ⟨cur2, k1, k2, k3, k4, k5, k6, k7⟩ := own_row Ho.out
        have hc2 : ¬ cap = i + m.length := by omega
        obtain ⟨w3, cs, hcs, hc3, h3, hb3, ho3⟩ := clear_run (w := w2) (w0 := w2) (B := base) (some ⟨g', (i + m.length) * 2, none⟩) (l.length - (i + m.length)) (cap - (i + m.length)) g' ((i + m.length) * 2) cur2 k1 (fun _ => rfl) (by rw [k2]; omega) (Below.refl _ _) r4
        rw [hc3]
        have H3 := Lib.hid h3
        have HB3 := Lib.hid (Hb.out.trans (turn_own hb3 ho3 _ _ (i + m.length) cap))
        have K3 := Lib.hid k3
        clear h3 hb3 ho3 hc3 k3 k1
        have K7 := Lib.hid k7
        clear k7
        go_wp2_with fail
        go_ret
        have k7 := K7.out
        refine ⟨_, rfl, ?_, HB3.out⟩
        have e0 : l.take i ++ m ++ l.drop l.length = l.take i ++ m := by simp
        rw [e0, k7.symm]
        refine row_own H3.out (by rw [length_splice _ _ _ (by rw [hcs, k2]; omega), k2]) ?_ r4 (by omega) r6 k7
        unfold splice
        rw [List.take_left' (by rw [List.length_take, k2]; omega)]
        exact K3.out
      · go_enter Tryz.func125, Tryz.ntmps125
        go_wp2_with (at_builtin; refine append_dead rfl _ _ rfl base _ (l.take i) i rfl HT.out base2 _ m rfl Hu.out (by omega) hb ?_; intro v2 w2 ho hbl hval; obtain ⟨p2, c2, rfl, -, -, -⟩ := own_form ho; have Ho := Lib.hid ho; have Hb := Lib.hid hbl; clear ho hbl hval)
        go_wp2
        go_ret
        have e0 : l.take i ++ m ++ l.drop l.length = l.take i ++ m := by simp
        exact ⟨_, rfl, by rw [e0]; exact own_same Ho.out rfl (by simp; omega), Hb.out⟩
    · have hjl : j < l.length := by omega
      have hjn2 : ((j : Int) == (l.length : Int)) = false := by rw [beq_eq_false_iff_ne]; omega
      have hcj : ¬ cap = j := by omega
      by_cases hgrow : cap < i + m.length + (l.length - j)
      · go_enter Tryz.func125, Tryz.ntmps125
        go_upto_region 9 with fail
        go_region
        go_wp2_with (at_builtin; refine append_zeros rfl (.tmp 63) (.tmp 66) rfl base g' i cap (l.take i) rfl hot.drew (m.length + (l.length - j)) (by simp [Act.eval]; omega) (by omega) (by omega) (by omega) ?_; intro w2 cap' cur2 k1 k2 k3 k4 k5 k6 k7; have K4 := Lib.hid k4; have K6 := Lib.hid k6; have hc' : ¬ cap' = i := (by omega); clear k4 k6)
        obtain ⟨w3, hc3, h3, hb3, ho3, hs3⟩ := copy_run (w := w2) 90 43 Tryz.underlying90 (some ⟨w.heap.size, i * 2, none⟩) pu (m.length + (l.length - j)) (cap' - i) m.length capu m.length w.heap.size (i * 2) cur2 k5.out (m.flatMap encS) (by simp only [Nat.min_def]; split <;> omega) hml (fun hp => ⟨rfl, own_src (owns_below Hu.out.drew K6.out) hp⟩) (by rw [hml, k3]; omega) (flatS_one m) K6.out (Nat.le_refl _)
        have HB3 := Lib.hid hb3
        have H3 := Lib.hid h3
        clear hb3 h3 ho3
        rw [hc3]
        have hsz : ¬ cap' = i + m.length := by omega
        go_upto_region 13 with fail
        have hb3 : Below w.heap.size w w3 := (show Below w.heap.size w w.drew from below_drewN w 1).trans HB3.out
        have hd3 : ∀ wx : World, (∀ b : Nat, wx.heap[b]? = w3.heap[b]?) → Below w.heap.size w wx → ∃ w4, (∀ ty, (Builtin.copy_ #[90, 90] ty #[.slice (some ⟨w.heap.size, (i + m.length) * 2, none⟩) (i + (m.length + (l.length - j)) - (i + m.length)) (cap' - (i + m.length)), .slice (some ⟨g', j * 2, none⟩) (l.length - j) (cap - j)]).run Tryz.prog wx = .ok (goInt (l.length - j : Nat)) w4) ∧ w4.heap[w.heap.size]? = some (.cells (splice (splice cur2 (i * 2) (m.flatMap encS)) ((i + m.length) * 2) ((l.drop j).flatMap encS)).toArray 29 (0, 0)) ∧ Below w.heap.size w w4 := by
          intro wx hwx hbx
          have hlen3 : (splice cur2 (i * 2) (m.flatMap encS)).length = cap' * 2 := by rw [length_splice _ _ _ (by rw [hml, k3]; omega), k3]
          obtain ⟨w4, hc4, h4, hb4, ho4, hs4⟩ := copy_run (w := wx) 90 90 Tryz.underlying90 (some ⟨w.heap.size, (i + m.length) * 2, none⟩) (some ⟨g', j * 2, none⟩) (i + (m.length + (l.length - j)) - (i + m.length)) (cap' - (i + m.length)) (l.length - j) (cap - j) (l.length - j) w.heap.size ((i + m.length) * 2) _ (by rw [hwx]; exact H3.out) ((l.drop j).flatMap encS) (by simp only [Nat.min_def]; split <;> omega) hdl (fun _ => ⟨rfl, ⟨g', j * 2, none⟩, rfl, fun j' x hj' => row_cells (row_at R1.out hbx (by omega)) (j * 2) j' x (drop_cells r3 j j' x hj')⟩) (by rw [hdl, hlen3]; omega) (flatS_one _) hbx (Nat.le_refl _)
          exact ⟨w4, hc4, h4, hb4⟩
        obtain ⟨w4, hc4, h4, hb4⟩ := hd3 w3.drew (fun _ => rfl) (hb3.trans (below_drewN w3 1))
        have H4 := Lib.hid h4
        have HB4 := Lib.hid hb4
        have K3 := Lib.hid k3
        have K2 := Lib.hid k2
        clear h4 hb4 hd3 hb3 k3 k2
        go_region
        go_wp2
        go_ret
        refine ⟨_, rfl, ?_, turn_new HB4.out _ _ _⟩
        have k3 := K3.out
        have k2 := K2.out
        have e := splice_fwd cur2 ((l.take i).flatMap encS) (m.flatMap encS) ((l.drop j).flatMap encS) (by rw [htl]; exact K4.out) (by rw [htl, hml, hdl, k3]; omega)
        rw [htl, hml, hdl, show i * 2 + m.length * 2 + (l.length - j) * 2 = (i + (m.length + (l.length - j))) * 2 by omega, show i * 2 + m.length * 2 = (i + m.length) * 2 by omega, ← hre] at e
        have hrl2 : (l.take i ++ m ++ l.drop j).length = i + (m.length + (l.length - j)) := by omega
        rw [hrl2]
        exact row_own H4.out (by rw [length_splice _ _ _ (by rw [length_splice _ _ _ (by rw [hml, k3]; omega), hdl, k3]; omega), length_splice _ _ _ (by rw [hml, k3]; omega), k3]) e hb (by omega) (by assumption) hrl2.symm
      · have hgr : i + m.length + (l.length - j) ≤ cap := by omega
        by_cases hle : i + m.length ≤ j
        · have hlen3 : (splice cur (i * 2) (m.flatMap encS)).length = cap * 2 := by rw [length_splice _ _ _ (by rw [hml, r2]; omega), r2]
          obtain ⟨w3, hc3, h3, hb3, ho3, hs3⟩ := copy_run (w := w.drew) (w0 := w) 90 43 Tryz.underlying90 (some ⟨g', i * 2, none⟩) pu (i + m.length + (l.length - j) - i) (cap - i) m.length capu m.length g' (i * 2) cur R1.out (m.flatMap encS) (by simp only [Nat.min_def]; split <;> omega) hml (fun hp => ⟨rfl, own_src Hu.out.drew hp⟩) (by rw [hml, r2]; omega) (flatS_one m) (show Below base w w.drew from below_drewN w 1) r4
          obtain ⟨w4, hc4, h4, hb4, ho4, hs4⟩ := copy_run (w := w3.drew) (w0 := w) 90 90 Tryz.underlying90 (some ⟨g', (i + m.length) * 2, none⟩) (some ⟨g', j * 2, none⟩) (l.length - j) (cap - (i + m.length)) (l.length - j) (cap - j) (l.length - j) g' ((i + m.length) * 2) _ (show w3.drew.heap[g']? = _ from h3) ((l.drop j).flatMap encS) (by simp only [Nat.min_def]; split <;> omega) hdl (fun _ => ⟨rfl, ⟨g', j * 2, none⟩, rfl, fun j' x hj' => row_cells (w := w3.drew) h3 (j * 2) j' x (by
            have := drop_cells r3 j j' x hj'
            rw [List.getElem?_drop] at *
            rw [get_splice _ _ _ _ (by rw [hml, r2]; omega), if_neg (by omega), if_neg (by rw [hml]; omega)]
            exact this)⟩) (by rw [hdl, hlen3]; omega) (flatS_one _) (hb3.trans (below_drewN w3 1)) r4
          have hlen4 : (splice (splice cur (i * 2) (m.flatMap encS)) ((i + m.length) * 2) ((l.drop j).flatMap encS)).length = cap * 2 := by rw [length_splice _ _ _ (by rw [hdl, hlen3]; omega), hlen3]
          have e := splice_fwd cur ((l.take i).flatMap encS) (m.flatMap encS) ((l.drop j).flatMap encS) (by rw [htl]; exact hti) (by rw [htl, hml, hdl, r2]; omega)
          rw [htl, hml, hdl, show i * 2 + m.length * 2 + (l.length - j) * 2 = (i + m.length + (l.length - j)) * 2 by omega, show i * 2 + m.length * 2 = (i + m.length) * 2 by omega, ← hre] at e
          have E := Lib.hid e
          have L4 := Lib.hid hlen4
          have R2 := Lib.hid r2
          have HRL := Lib.hid hrl
          have hci3 : ¬ cap = i + m.length := by omega
          by_cases hct : i + m.length + (l.length - j) = cap
          · subst hct
            simp only [Nat.add_sub_cancel_left] at hc4
            obtain ⟨w5, cs, hcs, hc5, h5, hb5, ho5⟩ := clear_run (w := w4) (some ⟨g', 0, none⟩) 0 0 g' ((i + m.length + (l.length - j)) * 2) _ h4 (fun h => absurd h (by omega)) (by rw [hlen4]; omega) hb4 r4
            have hz : l.length - (i + m.length + (l.length - j)) = 0 := by omega
            have H5 := Lib.hid h5
            have HB5 := Lib.hid hb5
            have HCS := Lib.hid hcs
            have HO := Lib.hid (fun b (hne : b ≠ g') => (ho5 b hne).trans ((ho4 b hne).trans (ho3 b hne)))
            clear ho5 e hlen3 hlen4 h3 hb3 ho3 hs3 h4 hb4 ho4 hs4 h5 hb5 hcs hrl hre hdl htl hml hti r2 r3 hot
            go_enter Tryz.func125, Tryz.ntmps125
            go_upto_region 9 with fail
            go_region
            go_upto_region 18 with fail
            go_region
            go_wp2
            go_ret
            refine ⟨_, rfl, ?_, turn_own HB5.out HO.out _ _ _ _⟩
            rw [HRL.out]
            refine row_own H5.out (by rw [length_splice _ _ _ (by rw [HCS.out, L4.out]; omega), L4.out]) ?_ r4 (by omega) r6 HRL.out.symm
            rw [← E.out]
            exact splice_take (by rw [L4.out]; omega)
          · have hct2 : ¬ cap = i + m.length + (l.length - j) := fun h => hct h.symm
            obtain ⟨w5, cs, hcs, hc5, h5, hb5, ho5⟩ := clear_run (w := w4) (some ⟨g', (i + m.length + (l.length - j)) * 2, none⟩) (l.length - (i + m.length + (l.length - j))) (cap - (i + m.length + (l.length - j))) g' ((i + m.length + (l.length - j)) * 2) _ h4 (fun _ => rfl) (by rw [hlen4]; omega) hb4 r4
            have H5 := Lib.hid h5
            have HB5 := Lib.hid hb5
            have HCS := Lib.hid hcs
            have HO := Lib.hid (fun b (hne : b ≠ g') => (ho5 b hne).trans ((ho4 b hne).trans (ho3 b hne)))
            clear ho5 e hlen3 hlen4 h3 hb3 ho3 hs3 h4 hb4 ho4 hs4 h5 hb5 hcs hrl hre hdl htl hml hti r2 r3 hot
            go_enter Tryz.func125, Tryz.ntmps125
            go_upto_region 9 with fail
            go_region
            go_upto_region 18 with fail
            go_region
            go_wp2
            go_ret
            refine ⟨_, rfl, ?_, turn_own HB5.out HO.out _ _ _ _⟩
            rw [HRL.out]
            refine row_own H5.out (by rw [length_splice _ _ _ (by rw [HCS.out, L4.out]; omega), L4.out]) ?_ r4 (by omega) r6 HRL.out.symm
            rw [← E.out]
            exact splice_take (by rw [L4.out]; omega)
        · obtain ⟨gu, rfl⟩ := HPU.out (by omega)
          obtain ⟨curu, q1, q2, q3, q4, q5, q6, -⟩ := own_row Hu.out
          have hgu : g' < gu := Nat.lt_of_lt_of_le hgb q4
          have hov := fun o lb cb => overlaps_no' (w := w.drew) (g := g') (gu := gu) (by omega) R1.out q1 (by rw [q2]; omega) o m.length capu lb cb
          obtain ⟨w4, hc4, h4, hb4, ho4, hs4⟩ := copy_run (w := w.drew.drew) (w0 := w) 90 90 Tryz.underlying90 (some ⟨g', (i + m.length) * 2, none⟩) (some ⟨g', j * 2, none⟩) (l.length - j) (cap - (i + m.length)) (l.length - j) (cap - j) (l.length - j) g' ((i + m.length) * 2) cur R1.out ((l.drop j).flatMap encS) (by simp only [Nat.min_def]; split <;> omega) hdl (fun _ => ⟨rfl, ⟨g', j * 2, none⟩, rfl, fun j' x hj' => row_cells (w := w) R1.out (j * 2) j' x (drop_cells r3 j j' x hj')⟩) (by rw [hdl, r2]; omega) (flatS_one _) (show Below base w w.drew.drew from below_drewN w 2) r4
          have hsrc : ∀ j x, (m.flatMap encS)[j]? = some x → w4.cell? ((⟨gu, 0, none⟩ : Addr).add j) = some x := fun j x hj => by
            have := Hu.out.cells (g := gu) rfl j x hj
            rw [← this]
            exact World.cell?_of_block (by have := ho4 gu (by omega); unfold Addr.add; split <;> exact this)
          obtain ⟨w5, hc5, h5, hb5, ho5, -⟩ := copy_run (w := w4) 90 43 Tryz.underlying90 (some ⟨g', i * 2, none⟩) (some ⟨gu, 0, none⟩) (i + m.length + (l.length - j) - i) (cap - i) m.length capu m.length g' (i * 2) _ h4 (m.flatMap encS) (by simp only [Nat.min_def]; split <;> omega) hml (fun _ => ⟨rfl, ⟨gu, 0, none⟩, rfl, hsrc⟩) (by rw [hml, length_splice _ _ _ (by rw [hdl, r2]; omega), r2]; omega) (flatS_one m) hb4 r4
          have hlen5 : (splice (splice cur ((i + m.length) * 2) ((l.drop j).flatMap encS)) (i * 2) (m.flatMap encS)).length = cap * 2 := by rw [length_splice _ _ _ (by rw [length_splice _ _ _ (by rw [hdl, r2]; omega), hml, r2]; omega), length_splice _ _ _ (by rw [hdl, r2]; omega), r2]
          have e := splice_back cur ((l.take i).flatMap encS) (m.flatMap encS) ((l.drop j).flatMap encS) (by rw [htl]; exact hti) (by rw [htl, hml, hdl, r2]; omega)
          rw [htl, hml, hdl, show i * 2 + m.length * 2 + (l.length - j) * 2 = (i + m.length + (l.length - j)) * 2 by omega, show i * 2 + m.length * 2 = (i + m.length) * 2 by omega, ← hre] at e
          have E := Lib.hid e
          have L5 := Lib.hid hlen5
          have HRL := Lib.hid hrl
          have H5 := Lib.hid h5
          have HB5 := Lib.hid hb5
          have hci3 : ¬ cap = i + m.length := by omega
          have HO := Lib.hid (fun b (hne : b ≠ g') => (ho5 b hne).trans (ho4 b hne))
          clear ho5 e hlen5 h4 hb4 ho4 hs4 hsrc h5 hb5 hrl hre hdl htl hml hti r2 r3 hot q1 q2 q3
          go_enter Tryz.func125, Tryz.ntmps125
          go_upto_region 9 with fail
          go_region
          go_upto_region 22 with (simp only [hov])
          go_region
          go_wp2
          go_ret
          refine ⟨_, rfl, ?_, turn_own HB5.out HO.out _ _ _ _⟩
          rw [HRL.out]
          exact row_own H5.out L5.out E.out r4 hgr r6 HRL.out.symm

end Go.Proofs.YthncnijkgkeohaaGreat
