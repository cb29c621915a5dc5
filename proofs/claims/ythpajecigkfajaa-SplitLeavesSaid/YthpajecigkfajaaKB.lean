/-
  Walks: numbers and texts as bytes; Bytes. Walks: Bytes. Walks: the reader of bytes. Walks: numbers and texts that are read.
-/
import Derived.Test.YthpajecigkfajaaKQ
import Derived.Lib.AppendStr
namespace Go.Proofs.Ythpajecigkfajaa
open Go.RowKit Go.Sort
set_option linter.unusedVariables false

theorem numF_snoc (l : Bs) (c : UInt8) : numF (l ++ [c]) = 256 * numF l + c.toNat := by simp [numF]
theorem numF_lt (l : Bs) : numF l < 256 ^ l.length := by
  suffices h : ∀ (k : Nat) (l : Bs), l.length = k → numF l < 256 ^ k from h _ l rfl
  intro k
  induction k with
  | zero => intro l h; rw [List.length_eq_zero_iff.1 h]; decide
  | succ k ih =>
    intro l h
    obtain ⟨r, c, rfl⟩ : ∃ r c, l = r ++ [c] := by
      have hne : l ≠ [] := by rintro rfl; simp at h
      exact ⟨l.dropLast, l.getLast hne, (List.dropLast_concat_getLast hne).symm⟩
    rw [numF_snoc, Nat.pow_succ]
    have := ih r (by simp at h; exact h)
    have hc : c.toNat < 256 := c.toNat_lt
    omega
theorem bytesN_len (k n : Nat) : (bytesN k n).length = k := by
  induction k generalizing n with
  | zero => rfl
  | succ k ih => simp [bytesN, ih]
theorem numF_bytesN (k n : Nat) : numF (bytesN k n) = n % 256 ^ k := by
  induction k generalizing n with
  | zero => simp [bytesN, numF, Nat.mod_one]
  | succ k ih =>
    rw [bytesN, numF_snoc, ih]
    have h : ((n % 256).toUInt8).toNat = n % 256 := by simp
    rw [h, Nat.pow_succ, Nat.mul_comm (256 ^ k) 256, Nat.mod_mul, Nat.add_comm]
theorem bytesN_numF (l : Bs) : bytesN l.length (numF l) = l := by
  suffices h : ∀ (k : Nat) (l : Bs), l.length = k → bytesN k (numF l) = l from h _ l rfl
  intro k
  induction k with
  | zero => intro l h; rw [List.length_eq_zero_iff.1 h]; rfl
  | succ k ih =>
    intro l h
    obtain ⟨r, c, rfl⟩ : ∃ r c, l = r ++ [c] := by
      have hne : l ≠ [] := by rintro rfl; simp at h
      exact ⟨l.dropLast, l.getLast hne, (List.dropLast_concat_getLast hne).symm⟩
    have hc : c.toNat < 256 := c.toNat_lt
    rw [bytesN, numF_snoc, show (256 * numF r + c.toNat) / 256 = numF r from by omega, ih r (by simp at h; exact h),
      show (256 * numF r + c.toNat) % 256 = c.toNat from by omega]
    simp
theorem infoU8 : (Try.prog.info? 5).map (fun i => (i.zero, i.size, i.bytes)) = some (some (.int .u8 0), 1, 1) := by kernel_rfl
theorem cells_new (W : World) (cs : List Value) (T : TypeId) : ∀ j u, cs[j]? = some u → (W.alloc (.cells cs.toArray T)).cell? ((⟨W.heap.size, 0, none⟩ : Addr).add j) = some u := by
  intro j u hj
  have : (⟨W.heap.size, 0, none⟩ : Addr).add j = ⟨W.heap.size, j, none⟩ := by unfold Addr.add; split <;> simp_all
  rw [this, World.cell?_alloc_new]
  simpa using hj
theorem cells_new' {n : Nat} (W : World) (cs : List Value) (T : TypeId) (hn : n = W.heap.size) : ∀ j u, cs[j]? = some u → (W.alloc (.cells cs.toArray T)).cell? ((⟨n, 0, none⟩ : Addr).add j) = some u := by
  subst hn; exact cells_new W cs T
/-- Bytes that the call laid itself. -/
def OwnB (w : World) (B : Nat) (v : Value) (l : Bs) : Prop := w.ownsRow B 5 1 v l.length (l.map fun c => .int .u8 c.toNat)
theorem OwnB.below {w w' : World} {B : Nat} {v : Value} {l : Bs} (h : OwnB w B v l) (hb : Below w.heap.size w w') : OwnB w' B v l := owns_below h hb
theorem bytesN_get (k n j : Nat) (h : j < k) : (bytesN k n)[j]? = some (n / 256 ^ (k - 1 - j) % 256).toUInt8 := by
  induction k generalizing n with
  | zero => omega
  | succ k ih =>
    rw [bytesN]
    by_cases hj : j < k
    · rw [List.getElem?_append_left (by rw [bytesN_len]; exact hj), ih _ hj]
      congr 2
      rw [Nat.div_div_eq_div_mul, show k + 1 - 1 - j = (k - 1 - j) + 1 from by omega, Nat.pow_succ, Nat.mul_comm]
    · obtain rfl : j = k := by omega
      rw [List.getElem?_append_right (by rw [bytesN_len]; exact Nat.le_refl _), bytesN_len]
      simp
theorem bytesN_take (k n j : Nat) (h : j < k) : (bytesN k n).take (j + 1) = (bytesN k n).take j ++ [(n / 256 ^ (k - 1 - j) % 256).toUInt8] := by
  rw [List.take_add_one, bytesN_get k n j h]; rfl
theorem byte_of (n k j : Nat) (h : j < k) : (n : Int) / 2 ^ (8 * (k - 1 - j)) % 256 = (((n / 256 ^ (k - 1 - j) % 256).toUInt8).toNat : Int) := by
  have e : (2 : Int) ^ (8 * (k - 1 - j)) = ((256 ^ (k - 1 - j) : Nat) : Int) := by
    rw [Int.pow_mul]; simp
  rw [e]
  have h2 : ((n / 256 ^ (k - 1 - j) % 256).toUInt8).toNat = n / 256 ^ (k - 1 - j) % 256 := by simp
  rw [h2]
  omega
/-- Blocks that are not rows of bytes stay as they are. -/
def KeepB (w w' : World) : Prop := ∀ b T cs, T ≠ 5 → Blk w b T cs → Blk w' b T cs
theorem KeepB.refl (w : World) : KeepB w w := fun _ _ _ _ h => h
theorem KeepB.trans {x y z : World} (h : KeepB x y) (k : KeepB y z) : KeepB x z := fun b T cs hT hb => k b T cs hT (h b T cs hT hb)
theorem KeepB.alloc {x y : World} (h : KeepB x y) (o : Obj) : KeepB x (y.alloc o) := fun b T cs hT hb => (h b T cs hT hb).alloc o
theorem own_blk_ne {w : World} {B : Nat} {v : Value} {n : Nat} {xs : List Value} {b : Nat} {T : TypeId} {cs : Array Value} (h : w.ownsRow B 5 1 v n xs) (hg : Blk w b T cs) (hne : T ≠ 5) : v.ownBlock ≠ some b := by
  rcases h.2 with ⟨rfl, _⟩ | ⟨g', cap, cur, rfl, _, hh, _⟩
  · simp [Value.ownBlock]
  · intro he
    have : g' = b := by simpa [Value.ownBlock] using he
    subst this
    unfold Blk at hg
    rw [hh] at hg
    injection hg with hg
    injection hg with _ ht
    exact hne ht.symm
theorem KeepB.grown {w w' : World} {B : Nat} {v : Value} {n : Nat} {xs : List Value} (h : w.ownsRow B 5 1 v n xs) (hg : w.grownBy w' v.ownBlock) : KeepB w w' := fun b T cs hT hb => by
  unfold Blk
  rw [hg.block b hb.lt (fun e => own_blk_ne h hb hT e.symm)]
  exact hb
end Go.Proofs.Ythpajecigkfajaa
namespace Go.Proofs.Ythpajecigkfajaa
open Go.RowKit Go.Sort
set_option linter.unusedVariables false

/-- The texts and numbers of a kind, where they lie. -/
theorem tOff_len (m : Ms) : (tOff m.kind).length = (fieldsT m).length := by
  unfold tOff fieldsT
  by_cases h1 : m.kind = 1
  · simp [h1]
  by_cases h2 : m.kind = 2
  · simp [h2]
  by_cases h3 : m.kind = 3
  · simp [h3]
  by_cases h4 : m.kind = 4
  · simp [h4]
  by_cases h5 : m.kind = 5
  · simp [h5]
  by_cases h6 : m.kind = 6
  · simp [h6]
  simp [h1, h2, h3, h4, h5, h6]
theorem nOff_len (m : Ms) : (nOff m.kind).length = (fieldsN m).length := by
  unfold nOff fieldsN
  by_cases h1 : m.kind = 1
  · simp [h1]
  by_cases h6 : m.kind = 6
  · simp [h6]
  simp [h1, h6]
theorem two_at {α β : Type} (P : α → β → Prop) {a0 a1 : α} {b0 b1 : β} (h0 : P a0 b0) (h1 : P a1 b1) : ∀ k (h : k < [a0, a1].length) (h' : k < [b0, b1].length), P [a0, a1][k] [b0, b1][k] := by
  intro k h h'
  match k, h with
  | 0, _ => exact h0
  | 1, _ => exact h1
theorem one_at {α β : Type} (P : α → β → Prop) {a0 : α} {b0 : β} (h0 : P a0 b0) : ∀ k (h : k < [a0].length) (h' : k < [b0].length), P [a0][k] [b0][k] := by
  intro k h h'
  match k, h with
  | 0, _ => exact h0
def AtT (m : Ms) (o : Nat) (s : Bs) : Prop := (encM m)[o]? = some (.string (Str s))
def AtN (m : Ms) (o : Nat) (n : Int) : Prop := (encM m)[o]? = some (.int .i64 n)
theorem fields_at (m : Ms) (k : Nat) (h : k < (tOff m.kind).length) (h' : k < (fieldsT m).length) : AtT m (tOff m.kind)[k] (fieldsT m)[k] := by
  revert h h'
  unfold tOff fieldsT
  by_cases h1 : m.kind = 1
  · simp only [h1]; refine two_at (AtT m) ?_ ?_ k <;> exact rfl
  by_cases h2 : m.kind = 2
  · simp only [h2]; refine one_at (AtT m) ?_ k; exact rfl
  by_cases h3 : m.kind = 3
  · simp only [h3]; refine two_at (AtT m) ?_ ?_ k <;> exact rfl
  by_cases h4 : m.kind = 4
  · simp only [h4]; refine two_at (AtT m) ?_ ?_ k <;> exact rfl
  by_cases h5 : m.kind = 5
  · simp only [h5]; refine two_at (AtT m) ?_ ?_ k <;> exact rfl
  by_cases h6 : m.kind = 6
  · simp only [h6]; refine two_at (AtT m) ?_ ?_ k <;> exact rfl
  intro h
  simp [h1, h2, h3, h4, h5, h6] at h
theorem numbers_at (m : Ms) (k : Nat) (h : k < (nOff m.kind).length) (h' : k < (fieldsN m).length) : AtN m (nOff m.kind)[k] (fieldsN m)[k] := by
  revert h h'
  unfold nOff fieldsN
  by_cases h1 : m.kind = 1
  · simp only [h1]; refine one_at (AtN m) ?_ k; exact rfl
  by_cases h6 : m.kind = 6
  · simp only [h6]; refine one_at (AtN m) ?_ k; exact rfl
  intro h
  simp [h1, h6] at h
theorem valid_fits {m : Ms} (h : validM m = true) : fitsB m = true := by unfold validM at h; rw [Bool.and_eq_true] at h; exact h.1
theorem valid_bare {m : Ms} (h : validM m = true) : bareM m = zeroM m.kind := by unfold validM at h; rw [Bool.and_eq_true, decide_eq_true_eq] at h; exact h.2
/-- Of a valid message the texts are short, the numbers small. -/
theorem valid_small {m : Ms} (h : validM m = true) : (∀ s ∈ fieldsT m, s.length ≤ 65535) ∧ (∀ n ∈ fieldsN m, 0 ≤ n ∧ n ≤ 1000000000) ∧ 0 ≤ m.kind ∧ m.kind ≤ 6 := by
  have hf := valid_fits h
  have hk := kind_cases m h
  unfold fitsB at hf
  unfold fieldsT fieldsN
  unfold keyB stampB spanB apartB frontB at hf
  rcases hk with h1 | h1 | h1 | h1 | h1 | h1
  all_goals
    simp [h1] at hf
    refine ⟨?_, ?_, by omega, by omega⟩
    · intro s hs; simp [h1] at hs; first | (rcases hs with rfl | rfl <;> omega) | (subst hs; omega)
    · intro n hn; simp [h1] at hn; try (subst hn; omega)
theorem flat_take (f : Bs → Bs) (l : List Bs) (k : Nat) (h : k < l.length) : (l.take (k + 1)).flatMap f = (l.take k).flatMap f ++ f l[k] := by
  rw [List.take_add_one, List.getElem?_eq_getElem h, List.flatMap_append]; simp
theorem flat_takeN (f : Int → Bs) (l : List Int) (k : Nat) (h : k < l.length) : (l.take (k + 1)).flatMap f = (l.take k).flatMap f ++ f l[k] := by
  rw [List.take_add_one, List.getElem?_eq_getElem h, List.flatMap_append]; simp
theorem flat_len (l : List Bs) (hs : ∀ s ∈ l, s.length ≤ 65535) : (l.flatMap textB).length ≤ l.length * 65537 := by
  induction l with
  | nil => simp
  | cons s l ih =>
    rw [List.flatMap_cons, List.length_append, List.length_cons]
    have h1 := hs s (by simp)
    have h2 := ih fun t ht => hs t (by simp [ht])
    have h3 : (textB s).length = 2 + s.length := by unfold textB; rw [List.length_append, bytesN_len]
    omega
theorem flat_lenN (l : List Int) : (l.flatMap fun n => bytesN 4 n.toNat).length = l.length * 4 := by
  induction l with
  | nil => simp
  | cons s l ih => rw [List.flatMap_cons, List.length_append, List.length_cons, ih, bytesN_len]; omega
theorem fields_few (m : Ms) : (fieldsT m).length ≤ 2 ∧ (fieldsN m).length ≤ 1 := by
  unfold fieldsT fieldsN
  constructor
  · split
    · simp
    split
    · simp
    split
    · simp
    split
    · simp
    split
    · simp
    split
    · simp
    simp
  · split
    · simp
    split
    · simp
    simp
def BytesOut (B : Nat) (w : World) (l : Bs) (e : Ending) (w' : World) : Prop := ∃ v', e = .returned v' ∧ OwnB w' B v' l ∧ Below B w w'
theorem strCells_Str (s : Bs) : Lib.strCells (Str s) = s.map fun c => Value.int .u8 c.toNat := rfl
theorem MBlk.keep {w w' : World} {b : Nat} {m : Ms} (h : MBlk w b m) (hk : KeepB w w') : MBlk w' b m := hk b _ _ (by decide) h
end Go.Proofs.Ythpajecigkfajaa
namespace Go.Proofs.Ythpajecigkfajaa
open Go.RowKit Go.Sort
set_option linter.unusedVariables false

/-- Only block b may have turned. -/
structure Only (b : Nat) (w w' : World) : Prop where
  os : w'.os = w.os
  tape : w'.tape = w.tape
  output : w'.output = w.output
  size : w'.heap.size = w.heap.size
  block : ∀ k, k ≠ b → w'.heap[k]? = w.heap[k]?
theorem Only.refl (b : Nat) (w : World) : Only b w w := ⟨rfl, rfl, rfl, rfl, fun _ _ => rfl⟩
theorem Only.trans {b : Nat} {x y z : World} (h : Only b x y) (k : Only b y z) : Only b x z :=
  ⟨k.os.trans h.os, k.tape.trans h.tape, k.output.trans h.output, k.size.trans h.size, fun i hi => (k.block i hi).trans (h.block i hi)⟩
theorem Only.setCell (b i : Nat) (v : Value) (w : World) : Only b w (w.setCell ⟨b, i, none⟩ v) :=
  ⟨rfl, rfl, rfl, by simp [World.setCell], fun k hk => Below.heap_setCell _ _ _ _ hk⟩
theorem Only.drewN (b n : Nat) (w : World) : Only b w (w.drewN n) := ⟨rfl, rfl, rfl, rfl, fun _ _ => rfl⟩
theorem Only.below {b B : Nat} {w w' : World} (h : Only b w w') (hB : B ≤ b) : Below B w w' :=
  ⟨h.os, h.tape, h.output, Nat.le_of_eq h.size.symm, fun k hk => h.block k (by omega)⟩
theorem Blk.only {w w' : World} {b c : Nat} {T : TypeId} {cs : Array Value} (h : Blk w b T cs) (ho : Only c w w') (hc : b ≠ c) : Blk w' b T cs := by
  unfold Blk; rw [ho.block b hc]; exact h
/-- A slice of bytes. -/
def IsBytes (w : World) (v : Value) (l : Bs) : Prop :=
  ∃ a cap, v = .slice a l.length cap ∧ l.length ≤ cap ∧ cap ≤ maxLen ∧ (l ≠ [] → ∃ b off, a = some ⟨b, off, none⟩ ∧ b < w.heap.size ∧ ∀ i (h : i < l.length), w.cell? ⟨b, off + i, none⟩ = some (.int .u8 (l[i].toNat)))
theorem IsBytes.below {w w' : World} {v : Value} {l : Bs} (h : IsBytes w v l) (hb : Below w.heap.size w w') : IsBytes w' v l := by
  obtain ⟨a, cap, h1, h2, h3, h4⟩ := h
  refine ⟨a, cap, h1, h2, h3, fun hl => ?_⟩
  obtain ⟨b, off, e, hlt, hc⟩ := h4 hl
  exact ⟨b, off, e, Nat.lt_of_lt_of_le hlt hb.size, fun i hi => by rw [hb.cell (by exact hlt)]; exact hc i hi⟩
theorem IsBytes.form {w : World} {v : Value} {l : Bs} (h : IsBytes w v l) : ∃ b off cap a, v = .slice a l.length cap ∧ l.length ≤ cap ∧ cap ≤ maxLen ∧ (l ≠ [] → a = some ⟨b, off, none⟩ ∧ b < w.heap.size) ∧
    ∀ i (h : i < l.length), a = some ⟨b, off, none⟩ ∧ w.cell? ⟨b, off + i, none⟩ = some (.int .u8 (l[i].toNat)) := by
  obtain ⟨a, cap, h1, h2, h3, h4⟩ := h
  by_cases hl : l = []
  · subst hl; exact ⟨0, 0, cap, a, h1, h2, h3, fun h => absurd rfl h, fun i hi => absurd hi (by simp)⟩
  · obtain ⟨b, off, e, hlt, hc⟩ := h4 hl
    exact ⟨b, off, cap, a, h1, h2, h3, fun _ => ⟨e, hlt⟩, fun i hi => ⟨e, hc i hi⟩⟩
theorem IsBytes.nil (w : World) : IsBytes w (.slice none 0 0) [] := ⟨none, 0, rfl, Nat.le_refl _, by unfold maxLen; omega, fun h => absurd rfl h⟩
theorem IsBytes.only {w w' : World} {v x : Value} {l : Bs} {rb : Nat} {T : TypeId} {y : Bool} (h : IsBytes w v l) (hb : Blk w rb T #[x, .bool y]) (hx : ∃ p n c, x = .slice p n c) (ho : Only rb w w') : IsBytes w' v l := by
  obtain ⟨a, cap, h1, h2, h3, h4⟩ := h
  refine ⟨a, cap, h1, h2, h3, fun hl => ?_⟩
  obtain ⟨b, off, e, hlt, hc⟩ := h4 hl
  have hne : b ≠ rb := by
    rintro rfl
    obtain ⟨p, n, c, rfl⟩ := hx
    have h0 := hc 0 (List.length_pos_iff.2 hl)
    rw [hb.cell] at h0
    have h01 : off = 0 ∨ off = 1 ∨ 2 ≤ off := by omega
    rcases h01 with rfl | rfl | h2
    · simp at h0
    · simp at h0
    · rw [Array.getElem?_eq_none (by simp; omega)] at h0; cases h0
  refine ⟨b, off, e, by rw [ho.size]; exact hlt, fun i hi => ?_⟩
  have := hc i hi
  unfold World.cell? at this ⊢
  simp only at this ⊢
  rw [ho.block b hne]; exact this
theorem IsBytes.sliced {w : World} {a : Option Addr} {n cap : Nat} {l : Bs} (h : IsBytes w (.slice a n cap) l) (lo hi : Nat) (h1 : lo ≤ hi) (h2 : hi ≤ l.length) :
    IsBytes w (sliced a lo hi cap 1) ((l.take hi).drop lo) := by
  obtain ⟨a', cap', e, hlc, hcm, hc⟩ := h
  cases e
  have hll : ((l.take hi).drop lo).length = hi - lo := by rw [List.length_drop, List.length_take]; omega
  refine ⟨_, cap - lo, by rw [hll]; rfl, by omega, by omega, fun hne => ?_⟩
  have hlt : lo < hi := by
    rcases Nat.lt_or_ge lo hi with h | h
    · exact h
    · exfalso; apply hne; apply List.length_eq_zero_iff.1; omega
  obtain ⟨b, off, rfl, hb, hcell⟩ := hc (by rintro rfl; simp at h2; omega)
  have hadd : (⟨b, off, none⟩ : Addr).add lo = ⟨b, off + lo, none⟩ := by unfold Addr.add; split <;> simp_all
  refine ⟨b, off + lo, by rw [if_neg (by omega)]; simp [hadd], hb, fun i hi' => ?_⟩
  have hc3 := hcell (lo + i) (by rw [hll] at hi'; omega)
  rw [Nat.add_assoc, hc3]
  simp
theorem sizeB : (sizeOf (Try.prog.elem 47)) = sizeOf 5 := by
  rw [show Try.prog.elem 47 = 5 by kernel_rfl]
theorem elemB : Try.prog.underlying 47 = some (.slice (Try.prog.elem 47)) := by
  rw [show Try.prog.elem 47 = 5 by kernel_rfl]; exact Try.underlying47
theorem bslice_h (a : Option Addr) (n cap hi : Nat) (h2 : hi ≤ cap) (h3 : cap ≤ maxLen) (w : World) : (Instr.slice 47 (.slice a n cap) none (some (.int .i64 hi)) none).run Try.prog w = .ok (sliced a 0 hi cap 1) w := by
  rw [run_slice_h w 47 a n cap elemB .i64 hi (by omega) (by omega), sizeB, Try.sizeOf5]; rfl
theorem bslice_l (a : Option Addr) (n cap lo : Nat) (h2 : lo ≤ n) (w : World) : (Instr.slice 47 (.slice a n cap) (some (.int .i64 lo)) none none).run Try.prog w = .ok (sliced a lo n cap 1) w := by
  rw [run_slice_l w 47 a n cap elemB .i64 lo (by omega) (by omega), sizeB, Try.sizeOf5]; rfl

/-- What is left, and whether there was too little. -/
abbrev RS := Bs × Bool
def takeP (k : Nat) (s : RS) : Bs × RS := if s.1.length < k then ([], (s.1, true)) else (s.1.take k, (s.1.drop k, s.2))
def numP (k : Nat) (s : RS) : Nat × RS := (numF (takeP k s).1, (takeP k s).2)
def textP (s : RS) : Bs × RS := takeP (numP 2 s).1 (numP 2 s).2
end Go.Proofs.Ythpajecigkfajaa
namespace Go.Proofs.Ythpajecigkfajaa
open Go.RowKit Go.Sort
set_option linter.unusedVariables false

theorem takeP_len (k : Nat) (s : RS) : (takeP k s).1.length ≤ k := by
  unfold takeP; split
  · simp
  · simp only [List.length_take]; omega
theorem take_nat (l : Bs) (k : Nat) (h : k < l.length) : l.take (k + 1) = l.take k ++ [l[k]] := by
  rw [List.take_add_one, List.getElem?_eq_getElem h]; rfl
theorem numP2_lt (s : RS) : (numP 2 s).1 < 65536 := by
  have h := numF_lt (takeP 2 s).1
  have h2 := takeP_len 2 s
  exact Nat.lt_of_lt_of_le h (Nat.pow_le_pow_right (n := 256) (by decide) h2)
theorem conv_bytes {v : Value} {l : Bs} {w : World} (h : IsBytes w v l) : (convert 47 9 v).run Try.prog w = .ok (.string (Str l)) w := by
  obtain ⟨a, cap, rfl, hlc, hcm, hc⟩ := h
  cases a with
  | none =>
    have hl : l = [] := by
      cases l with
      | nil => rfl
      | cons x r => obtain ⟨b, off, e, _⟩ := hc (by simp); cases e
    subst hl
    exact run_convert_bytes_nil (P := Try.prog) w 47 5 Try.underlying47 Try.underlying5 _ _ 9 Try.underlying9
  | some ad =>
    refine run_convert_bytes_back w 47 9 5 ad cap l Try.underlying47 Try.underlying5 Try.underlying9 fun j hj => ?_
    obtain ⟨b, off, e, -, hcc⟩ := hc (by rintro rfl; simp at hj)
    cases e
    have hadd : (⟨b, off, none⟩ : Addr).add j = ⟨b, off + j, none⟩ := by unfold Addr.add; split <;> simp_all
    rw [hadd]; exact hcc j hj
end Go.Proofs.Ythpajecigkfajaa
