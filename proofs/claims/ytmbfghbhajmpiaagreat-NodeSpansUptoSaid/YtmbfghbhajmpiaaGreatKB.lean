/-
  Walks: numbers and texts as bytes; Bytes. Walks: Bytes. Walks: the reader of bytes. Walks: numbers and texts that are read.
-/
import Derived.Test.YtmbfghbhajmpiaaGreatKQ
import Derived.Lib.AppendStr
namespace Go.Proofs.YtmbfghbhajmpiaaGreat
open Go.RowKit Go.Sort
set_option linter.unusedVariables false

theorem numF_snoc (l : Bs) (c : UInt8) : numF (l ++ [c]) = 256 * numF l + c.toNat := by simp [numF]
theorem numF_lt (l : Bs) : numF l < 256 ^ l.length := by
  suffices h : ∀ (k : Nat) (l : Bs), l.length = k → numF l < 256 ^ k from h _ l rfl
  intro k
  induction k with
  | zero => intro l h; rw [List.length_eq_zero_iff.1 h]; decide
  | succ k ih =>
    intro l h
    obtain ⟨r, c, rfl⟩ : ∃ r c, l = r ++ [c] := by
      have hne : l ≠ [] := by rintro rfl; simp at h
      exact ⟨l.dropLast, l.getLast hne, (List.dropLast_concat_getLast hne).symm⟩
    rw [numF_snoc, Nat.pow_succ]
    have := ih r (by simp at h; exact h)
    have hc : c.toNat < 256 := c.toNat_lt
    omega
theorem bytesN_len (k n : Nat) : (bytesN k n).length = k := by
  induction k generalizing n with
  | zero => rfl
  | succ k ih => simp [bytesN, ih]
theorem numF_bytesN (k n : Nat) : numF (bytesN k n) = n % 256 ^ k := by
  induction k generalizing n with
  | zero => simp [bytesN, numF, Nat.mod_one]
  | succ k ih =>
    rw [bytesN, numF_snoc, ih]
    have h : ((n % 256).toUInt8).toNat = n % 256 := by simp
    rw [h, Nat.pow_succ, Nat.mul_comm (256 ^ k) 256, Nat.mod_mul, Nat.add_comm]
theorem bytesN_numF (l : Bs) : bytesN l.length (numF l) = l := by
  suffices h : ∀ (k : Nat) (l : Bs), l.length = k → bytesN k (numF l) = l from h _ l rfl
  intro k
  induction k with
  | zero => intro l h; rw [List.length_eq_zero_iff.1 h]; rfl
  | succ k ih =>
    intro l h
    obtain ⟨r, c, rfl⟩ : ∃ r c, l = r ++ [c] := by
      have hne : l ≠ [] := by rintro rfl; simp at h
      exact ⟨l.dropLast, l.getLast hne, (List.dropLast_concat_getLast hne).symm⟩
    have hc : c.toNat < 256 := c.toNat_lt
    rw [bytesN, numF_snoc, show (256 * numF r + c.toNat) / 256 = numF r from by omega, ih r (by simp at h; exact h),
      show (256 * numF r + c.toNat) % 256 = c.toNat from by omega]
    simp
theorem infoU8 : (Tryz.prog.info? 5).map (fun i => (i.zero, i.size, i.bytes)) = some (some (.int .u8 0), 1, 1) := by kernel_rfl
theorem cells_new (W : World) (cs : List Value) (T : TypeId) : ∀ j u, cs[j]? = some u → (W.alloc (.cells cs.toArray T)).cell? ((⟨W.heap.size, 0, none⟩ : Addr).add j) = some u := by
  intro j u hj
  have : (⟨W.heap.size, 0, none⟩ : Addr).add j = ⟨W.heap.size, j, none⟩ := by unfold Addr.add; split <;> simp_all
  rw [this, World.cell?_alloc_new]
  simpa using hj
theorem cells_new' {n : Nat} (W : World) (cs : List Value) (T : TypeId) (hn : n = W.heap.size) : ∀ j u, cs[j]? = some u → (W.alloc (.cells cs.toArray T)).cell? ((⟨n, 0, none⟩ : Addr).add j) = some u := by
  subst hn; exact cells_new W cs T
/-- Bytes that the call laid itself. -/
def OwnB (w : World) (B : Nat) (v : Value) (l : Bs) : Prop := w.ownsRow B 5 1 v l.length (l.map fun c => .int .u8 c.toNat)
theorem OwnB.below {w w' : World} {B : Nat} {v : Value} {l : Bs} (h : OwnB w B v l) (hb : Below w.heap.size w w') : OwnB w' B v l := owns_below h hb
theorem bytesN_get (k n j : Nat) (h : j < k) : (bytesN k n)[j]? = some (n / 256 ^ (k - 1 - j) % 256).toUInt8 := by
  induction k generalizing n with
  | zero => omega
  | succ k ih =>
    rw [bytesN]
    by_cases hj : j < k
    · rw [List.getElem?_append_left (by rw [bytesN_len]; exact hj), ih _ hj]
      congr 2
      rw [Nat.div_div_eq_div_mul, show k + 1 - 1 - j = (k - 1 - j) + 1 from by omega, Nat.pow_succ, Nat.mul_comm]
    · obtain rfl : j = k := by omega
      rw [List.getElem?_append_right (by rw [bytesN_len]; exact Nat.le_refl _), bytesN_len]
      simp
theorem bytesN_take (k n j : Nat) (h : j < k) : (bytesN k n).take (j + 1) = (bytesN k n).take j ++ [(n / 256 ^ (k - 1 - j) % 256).toUInt8] := by
  rw [List.take_add_one, bytesN_get k n j h]; rfl
theorem byte_of (n k j : Nat) (h : j < k) : (n : Int) / 2 ^ (8 * (k - 1 - j)) % 256 = (((n / 256 ^ (k - 1 - j) % 256).toUInt8).toNat : Int) := by
  have e : (2 : Int) ^ (8 * (k - 1 - j)) = ((256 ^ (k - 1 - j) : Nat) : Int) := by
    rw [Int.pow_mul]; simp
  rw [e]
  have h2 : ((n / 256 ^ (k - 1 - j) % 256).toUInt8).toNat = n / 256 ^ (k - 1 - j) % 256 := by simp
  rw [h2]
  omega
/-- Blocks that are not rows of bytes stay as they are. -/
def KeepB (w w' : World) : Prop := ∀ b T cs, T ≠ 5 → Blk w b T cs → Blk w' b T cs
theorem KeepB.refl (w : World) : KeepB w w := fun _ _ _ _ h => h
theorem KeepB.trans {x y z : World} (h : KeepB x y) (k : KeepB y z) : KeepB x z := fun b T cs hT hb => k b T cs hT (h b T cs hT hb)
theorem KeepB.alloc {x y : World} (h : KeepB x y) (o : Obj) : KeepB x (y.alloc o) := fun b T cs hT hb => (h b T cs hT hb).alloc o
theorem own_blk_ne {w : World} {B : Nat} {v : Value} {n : Nat} {xs : List Value} {b : Nat} {T : TypeId} {cs : Array Value} (h : w.ownsRow B 5 1 v n xs) (hg : Blk w b T cs) (hne : T ≠ 5) : v.ownBlock ≠ some b := by
  rcases h.2 with ⟨rfl, _⟩ | ⟨g', cap, cur, rfl, _, hh, _⟩
  · simp [Value.ownBlock]
  · intro he
    have : g' = b := by simpa [Value.ownBlock] using he
    subst this
    unfold Blk at hg
    rw [hh] at hg
    injection hg with hg
    injection hg with _ ht
    exact hne ht.symm
theorem KeepB.grown {w w' : World} {B : Nat} {v : Value} {n : Nat} {xs : List Value} (h : w.ownsRow B 5 1 v n xs) (hg : w.grownBy w' v.ownBlock) : KeepB w w' := fun b T cs hT hb => by
  unfold Blk
  rw [hg.block b hb.lt (fun e => own_blk_ne h hb hT e.symm)]
  exact hb
set_option maxRecDepth 100000 in
set_option maxHeartbeats 400000 in
theorem appendNumber_w (B : Nat) (v : Value) (l : Bs) (n : Int) (k : Nat) (w : World) (hk : k ≤ 4) (hl : l.length ≤ 300000) (ho : OwnB w B v l) (hB : B ≤ w.heap.size) (hn0 : 0 ≤ n) (hn : n < 4294967296) :
    Calls Tryz.prog 103 #[v, .int .i64 n, .int .i64 k] w fun e w' => ∃ v', e = .returned v' ∧ OwnB w' B v' (l ++ bytesN k n.toNat) ∧ Below B w w' ∧ KeepB w w' := by
  obtain ⟨n, rfl⟩ := Int.eq_ofNat_of_zero_le hn0
  rw [Int.toNat_natCast]
  obtain ⟨i0, hi, hz0, hz1, hz2⟩ := info_parts infoU8
  have Ho := Lib.hid ho
  clear ho hn0 hn
  go_enter Tryz.func103, Tryz.ntmps103
  go_wp2
  go_loopw [0, 7] (fun v0 sh wr => ∃ j : Nat, j ≤ k ∧ sh = .int .i64 (8 * ((k : Int) - 1 - j)) ∧ OwnB wr B v0 (l ++ (bytesN k n).take j) ∧ Below B w wr ∧ KeepB w wr) (fun _ sh _ => (8 + intOf sh).toNat)
  case atStart => exact ⟨0, Nat.zero_le _, by simp, by simpa using Ho.out, Below.refl _ _, KeepB.refl _⟩
  case round =>
    obtain ⟨j, hj, rfl, hown, hbel, hkp⟩ := hrel
    have Hkp := Lib.hid hkp
    clear hkp
    by_cases hlt : j < k
    · have hge : 0 ≤ 8 * ((k : Int) - 1 - j) := by omega
      have Hown := Lib.hid hown
      have Hbyte := Lib.hid (byte_of n k j hlt)
      have Htk := Lib.hid (bytesN_take k n j hlt)
      have hlen : ((bytesN k n).take j).length = j := by rw [List.length_take, bytesN_len]; omega
      have Hlen : Hid ((l ++ (bytesN k n).take j).length = l.length + j) := Lib.hid (by rw [List.length_append, hlen])
      have hBw := hbel.size
      have Hbel := Lib.hid hbel
      clear hown hbel hlen
      go_wp2_with (at_builtin; refine wpList_append_own _ rfl _ _ 23 rfl B 5 i0 (.int .u8 0) 1 1 Tryz.underlying23 hi hz0 hz1 hz2 rfl (by decide) _ _ _ rfl (Hown.out.alloc _) ⟨wr.heap.size, 0, none⟩ 1 1 [.int .u8 ((n : Int) / 2 ^ (8 * (k - 1 - j)) % 256)] rfl rfl (cells_new' _ _ _ (by simp)) (by intro u hu; simp at hu; rcases hu with rfl; rfl) (by rw [Hlen.out]; unfold maxLen; omega) (by rw [Hlen.out]; omega) (by simp; omega) ?_; intro v' w2 hown' hgrow _)
      have Hown' := Lib.hid hown'
      have Hb2 : Hid (Below B w w2) := Lib.hid (Below.grown (Hbel.out.alloc (Nat.le_trans hB hBw) _) hgrow (by simp; omega) (fun q hq => (Hown.out.lt q hq).1))
      have Hk2 : Hid (KeepB w w2) := Lib.hid ((Hkp.out.alloc _).trans (KeepB.grown (Hown.out.alloc _) hgrow))
      clear hown' hgrow
      go_wp2
      go_roundw
      case rel =>
        refine ⟨j + 1, by omega, by congr 1; omega, ?_, Hb2.out, Hk2.out⟩
        have h := Hown'.out
        rw [Hbyte.out] at h
        unfold OwnB
        rw [Htk.out, ← List.append_assoc, List.length_append, List.map_append]
        exact h
      case measure => simp [intOf]; omega
    · obtain rfl : j = k := by omega
      have hlt0 : 8 * ((j : Int) - 1 - j) < 0 := by omega
      have Hfin : Hid ((bytesN j n).take j = bytesN j n) := Lib.hid (List.take_of_length_le (by rw [bytesN_len]; exact Nat.le_refl _))
      have Hown := Lib.hid hown
      have Hbel := Lib.hid hbel
      clear hown hbel
      go_wp2
      go_ret
      exact ⟨_, rfl, by have h := Hown.out; rw [Hfin.out] at h; exact h, Hbel.out, Hkp.out⟩

end Go.Proofs.YtmbfghbhajmpiaaGreat
namespace Go.Proofs.YtmbfghbhajmpiaaGreat
open Go.RowKit Go.Sort
set_option linter.unusedVariables false

/-- The texts and numbers of a kind, where they lie. -/
theorem tOff_len (m : Ms) : (tOff m.kind).length = (fieldsT m).length := by
  unfold tOff fieldsT
  by_cases h1 : m.kind = 1
  · simp [h1]
  by_cases h2 : m.kind = 2
  · simp [h2]
  by_cases h3 : m.kind = 3
  · simp [h3]
  by_cases h4 : m.kind = 4
  · simp [h4]
  by_cases h5 : m.kind = 5
  · simp [h5]
  by_cases h6 : m.kind = 6
  · simp [h6]
  simp [h1, h2, h3, h4, h5, h6]
theorem nOff_len (m : Ms) : (nOff m.kind).length = (fieldsN m).length := by
  unfold nOff fieldsN
  by_cases h1 : m.kind = 1
  · simp [h1]
  by_cases h6 : m.kind = 6
  · simp [h6]
  simp [h1, h6]
theorem two_at {α β : Type} (P : α → β → Prop) {a0 a1 : α} {b0 b1 : β} (h0 : P a0 b0) (h1 : P a1 b1) : ∀ k (h : k < [a0, a1].length) (h' : k < [b0, b1].length), P [a0, a1][k] [b0, b1][k] := by
  intro k h h'
  match k, h with
  | 0, _ => exact h0
  | 1, _ => exact h1
theorem one_at {α β : Type} (P : α → β → Prop) {a0 : α} {b0 : β} (h0 : P a0 b0) : ∀ k (h : k < [a0].length) (h' : k < [b0].length), P [a0][k] [b0][k] := by
  intro k h h'
  match k, h with
  | 0, _ => exact h0
def AtT (m : Ms) (o : Nat) (s : Bs) : Prop := (encM m)[o]? = some (.string (Str s))
def AtN (m : Ms) (o : Nat) (n : Int) : Prop := (encM m)[o]? = some (.int .i64 n)
theorem fields_at (m : Ms) (k : Nat) (h : k < (tOff m.kind).length) (h' : k < (fieldsT m).length) : AtT m (tOff m.kind)[k] (fieldsT m)[k] := by
  revert h h'
  unfold tOff fieldsT
  by_cases h1 : m.kind = 1
  · simp only [h1]; refine two_at (AtT m) ?_ ?_ k <;> exact rfl
  by_cases h2 : m.kind = 2
  · simp only [h2]; refine one_at (AtT m) ?_ k; exact rfl
  by_cases h3 : m.kind = 3
  · simp only [h3]; refine two_at (AtT m) ?_ ?_ k <;> exact rfl
  by_cases h4 : m.kind = 4
  · simp only [h4]; refine two_at (AtT m) ?_ ?_ k <;> exact rfl
  by_cases h5 : m.kind = 5
  · simp only [h5]; refine two_at (AtT m) ?_ ?_ k <;> exact rfl
  by_cases h6 : m.kind = 6
  · simp only [h6]; refine two_at (AtT m) ?_ ?_ k <;> exact rfl
  intro h
  simp [h1, h2, h3, h4, h5, h6] at h
theorem numbers_at (m : Ms) (k : Nat) (h : k < (nOff m.kind).length) (h' : k < (fieldsN m).length) : AtN m (nOff m.kind)[k] (fieldsN m)[k] := by
  revert h h'
  unfold nOff fieldsN
  by_cases h1 : m.kind = 1
  · simp only [h1]; refine one_at (AtN m) ?_ k; exact rfl
  by_cases h6 : m.kind = 6
  · simp only [h6]; refine one_at (AtN m) ?_ k; exact rfl
  intro h
  simp [h1, h6] at h
theorem valid_fits {m : Ms} (h : validM m = true) : fitsB m = true := by unfold validM at h; rw [Bool.and_eq_true] at h; exact h.1
/-- Of a valid message the texts are short, the numbers small. -/
theorem valid_small {m : Ms} (h : validM m = true) : (∀ s ∈ fieldsT m, s.length ≤ 65535) ∧ (∀ n ∈ fieldsN m, 0 ≤ n ∧ n ≤ 1000000000) ∧ 0 ≤ m.kind ∧ m.kind ≤ 6 := by
  have hf := valid_fits h
  have hk := kind_cases m h
  unfold fitsB at hf
  unfold fieldsT fieldsN
  unfold keyB stampB spanB apartB frontB at hf
  rcases hk with h1 | h1 | h1 | h1 | h1 | h1
  all_goals
    simp [h1] at hf
    refine ⟨?_, ?_, by omega, by omega⟩
    · intro s hs; simp [h1] at hs; first | (rcases hs with rfl | rfl <;> omega) | (subst hs; omega)
    · intro n hn; simp [h1] at hn; try (subst hn; omega)
theorem flat_take (f : Bs → Bs) (l : List Bs) (k : Nat) (h : k < l.length) : (l.take (k + 1)).flatMap f = (l.take k).flatMap f ++ f l[k] := by
  rw [List.take_add_one, List.getElem?_eq_getElem h, List.flatMap_append]; simp
theorem flat_takeN (f : Int → Bs) (l : List Int) (k : Nat) (h : k < l.length) : (l.take (k + 1)).flatMap f = (l.take k).flatMap f ++ f l[k] := by
  rw [List.take_add_one, List.getElem?_eq_getElem h, List.flatMap_append]; simp
theorem flat_len (l : List Bs) (hs : ∀ s ∈ l, s.length ≤ 65535) : (l.flatMap textB).length ≤ l.length * 65537 := by
  induction l with
  | nil => simp
  | cons s l ih =>
    rw [List.flatMap_cons, List.length_append, List.length_cons]
    have h1 := hs s (by simp)
    have h2 := ih fun t ht => hs t (by simp [ht])
    have h3 : (textB s).length = 2 + s.length := by unfold textB; rw [List.length_append, bytesN_len]
    omega
theorem flat_lenN (l : List Int) : (l.flatMap fun n => bytesN 4 n.toNat).length = l.length * 4 := by
  induction l with
  | nil => simp
  | cons s l ih => rw [List.flatMap_cons, List.length_append, List.length_cons, ih, bytesN_len]; omega
theorem fields_few (m : Ms) : (fieldsT m).length ≤ 2 ∧ (fieldsN m).length ≤ 1 := by
  unfold fieldsT fieldsN
  constructor
  · split
    · simp
    split
    · simp
    split
    · simp
    split
    · simp
    split
    · simp
    split
    · simp
    simp
  · split
    · simp
    split
    · simp
    simp
def BytesOut (B : Nat) (w : World) (l : Bs) (e : Ending) (w' : World) : Prop := ∃ v', e = .returned v' ∧ OwnB w' B v' l ∧ Below B w w'
theorem strCells_Str (s : Bs) : Lib.strCells (Str s) = s.map fun c => Value.int .u8 c.toNat := rfl
theorem MBlk.keep {w w' : World} {b : Nat} {m : Ms} (h : MBlk w b m) (hk : KeepB w w') : MBlk w' b m := hk b _ _ (by decide) h
theorem IsPtrs.keepB {w w' : World} {v : Value} {b : Nat} {os : List Nat} (h : IsPtrs w v b os) (hk : KeepB w w') : IsPtrs w' v b os := h.keep fun g T cs _ hT hc => hk g T cs hT.1 hc

/-- What stays while bytes are laid. -/
structure BySt (B : Nat) (w0 : World) (m : Ms) (v1 v2 : Value) (wx : World) : Prop where
  mb : MBlk wx B m
  p1 : IsPtrs wx v1 B (tOff m.kind)
  p2 : IsPtrs wx v2 B (nOff m.kind)
  g : Below B w0 wx
theorem BySt.step {B : Nat} {w0 wx wy : World} {m : Ms} {v1 v2 : Value} (h : BySt B w0 m v1 v2 wx) (hk : KeepB wx wy) (hb : Below B wx wy) : BySt B w0 m v1 v2 wy :=
  ⟨h.mb.keep hk, h.p1.keepB hk, h.p2.keepB hk, h.g.trans hb⟩

set_option maxRecDepth 100000 in
set_option maxHeartbeats 4000000 in
theorem bytes_w (m : Ms) (w : World) : Calls Tryz.prog 39 #[msgV m] w (BytesOut w.heap.size w (bytesM m)) := by
  obtain ⟨W0, hW0⟩ : ∃ W0, W0 = w.alloc (.cells (encM m) 46) := ⟨_, rfl⟩
  have b0 : MBlk W0 w.heap.size m := by rw [hW0]; exact Blk.new _ _ _
  have g0 : Grown w W0 := by rw [hW0]; exact (Grown.refl w).alloc _
  have HV := Lib.hid (fun wx => valid_w m wx)
  obtain ⟨i0, hi, hz0, hz1, hz2⟩ := info_parts infoU8
  obtain ⟨c0, c1, c2, c3, c4, c5, c6, c7⟩ := b0.plain
  have B0 := Lib.hid b0
  have G0 := Lib.hid g0
  clear b0 g0
  cases hv : validM m with
  | false =>
    rw [hv] at HV
    have H : Hid (bytesM m = []) := Lib.hid (by unfold bytesM; rw [hv]; rfl)
    clear hv
    subst hW0
    go_enter Tryz.func39, Tryz.ntmps39
    go_wp2_with fail
    refine (HV.out _).mono ?_
    rintro e w1 ⟨rfl, g1⟩
    have G1 : Hid (Below w.heap.size w w1) := Lib.hid ((G0.out.trans g1).below (Nat.le_refl _))
    clear g1 c0 c1 c2 c3 c4 c5 c6 c7
    go_wp2
    go_ret
    rw [H.out]
    exact ⟨_, rfl, World.ownsRow_nil _ _ _ _, G1.out⟩
  | true =>
    rw [hv] at HV
    have H : Hid (bytesM m = bytesN 1 m.kind.toNat ++ (fieldsT m).flatMap textB ++ (fieldsN m).flatMap (fun n => bytesN 4 n.toNat)) := Lib.hid (by unfold bytesM; rw [hv]; rfl)
    obtain ⟨hst, hsn, hk0, hk6⟩ := valid_small hv
    have Hst := Lib.hid hst
    have Hsn := Lib.hid hsn
    have hm := disp_fields.m m.kind w.heap.size
    have hc := disp_fields.c m.kind
    have hfew := fields_few m
    have hlt1 := tOff_len m
    have hlt2 := nOff_len m
    have Hl1 := Lib.hid hlt1
    have Hl2 := Lib.hid hlt2
    clear hv hst hsn hlt1 hlt2
    subst hW0
    go_enter Tryz.func39, Tryz.ntmps39
    go_wp2_with fail
    refine (HV.out _).mono ?_
    rintro e w1 ⟨rfl, g1⟩
    have G1 : Hid (Below w.heap.size w w1) := Lib.hid ((G0.out.trans g1).below (Nat.le_refl _))
    have hs1 := G1.out.size
    have B1 := Lib.hid (Grown.blk g1 B0.out)
    have d0 := (MBlk.plain B1.out).1
    clear g1 c0 c1 c2 c3 c4 c5 c6 c7 HV B0
    go_wp2_with fail
    refine (appendNumber_w w.heap.size _ [] m.kind 1 w1 (by omega) (by simp) (World.ownsRow_nil _ _ _ _) hs1 hk0 (by omega)).mono ?_
    rintro e w2 ⟨v3, rfl, ho2, hb2, hk2⟩
    have G2 : Hid (Below w.heap.size w w2) := Lib.hid (G1.out.trans hb2)
    have O2 := Lib.hid ho2
    have B2 := Lib.hid (MBlk.keep B1.out hk2)
    have e0 := (MBlk.plain B2.out).1
    have hs2 := G2.out.size
    clear hb2 hk2 d0 ho2
    go_wp2_with fail
    refine (of_w m.kind w.heap.size w2 e0).mono ?_
    rintro e w3 ⟨rfl, rfl⟩
    clear e0
    go_wp2_with fail
    refine (fieldsF_w m.kind w.heap.size w2 (Blk.lt B2.out)).mono ?_
    rintro e w3 ⟨v1, v2, rfl, q1, q2, hg3⟩
    have HS : Hid (BySt w.heap.size w m v1 v2 w3) := Lib.hid ⟨Grown.blk hg3 B2.out, q1, q2, G2.out.trans (hg3.below hs2)⟩
    have O3 := Lib.hid (OwnB.below O2.out (hg3.below (Nat.le_refl _)))
    obtain ⟨a1, cap1, g1, rfl, l1, m1, hc1⟩ := q1.form
    obtain ⟨a2, cap2, g2, rfl, l2, m2, hc2⟩ := q2.form
    clear q1 q2 hg3 hc1 hc2 hm hc G1 G2 B1 B2 O2
    go_wp2
    go_loopw [3, 23] (fun x i wr => ∃ k : Nat, k ≤ (tOff m.kind).length ∧ i = .int .i64 k ∧ OwnB wr w.heap.size x (bytesN 1 m.kind.toNat ++ ((fieldsT m).take k).flatMap textB) ∧ BySt w.heap.size w m (.slice a1 (tOff m.kind).length cap1) (.slice a2 (nOff m.kind).length cap2) wr) (fun _ i _ => (tOff m.kind).length - (intOf i).toNat)
    case atStart => exact ⟨0, Nat.zero_le _, rfl, by simpa using O3.out, HS.out⟩
    case round =>
      clear HS O3
      obtain ⟨k, hk, rfl, hown, hs⟩ := hrel
      have HS := Lib.hid hs
      have Hown := Lib.hid hown
      have hsz := hs.g.size
      clear hown
      by_cases hlt : k < (tOff m.kind).length
      · obtain ⟨p, cap, g, hv, -, -, hcc⟩ := hs.p1.form
        obtain ⟨rfl, hne, hgl, p0⟩ := hcc k hlt
        injection hv with hv1 hv2 hv3
        subst hv1
        clear hv2 hv3 hcc
        have hltz : (k : Int) < ((tOff m.kind).length : Int) := by omega
        have hlf : k < (fieldsT m).length := by have := Hl1.out; omega
        have hat := fields_at m k hlt hlf
        have HM := Lib.hid (fun wx (hx : BySt w.heap.size w m (.slice (some ⟨g, 0, none⟩) (tOff m.kind).length cap1) (.slice a2 (nOff m.kind).length cap2) wx) => hx.mb.c0 _ _ hat)
        have hcell := HM.out wr hs
        have Htk := Lib.hid (flat_take textB (fieldsT m) k hlf)
        have hsl := Hst.out _ (List.getElem_mem hlf)
        have hpre : (bytesN 1 m.kind.toNat ++ ((fieldsT m).take k).flatMap textB).length ≤ 140000 := by
          rw [List.length_append, bytesN_len]
          have h1 := flat_len ((fieldsT m).take k) (fun s hs => Hst.out s (List.mem_of_mem_take hs))
          have h2 : ((fieldsT m).take k).length ≤ 2 := by rw [List.length_take]; omega
          omega
        clear hs hat
        generalize (tOff m.kind)[k] = o at *
        generalize (fieldsT m)[k] = s at *
        obtain ⟨pre, hpe⟩ : ∃ p, p = bytesN 1 m.kind.toNat ++ ((fieldsT m).take k).flatMap textB := ⟨_, rfl⟩
        rw [← hpe] at hpre Hown
        have Hpe := Lib.hid hpe
        clear hpe
        go_wp2_with fail
        refine (appendNumber_w w.heap.size _ pre _ 2 wr (by omega) (by omega) Hown.out hsz (by omega) (by omega)).mono ?_
        rw [Int.toNat_natCast]
        rintro e w4 ⟨v4, rfl, ho4, hb4, hk4⟩
        have HS4 := Lib.hid (HS.out.step hk4 hb4)
        have hcell4 := HM.out w4 HS4.out
        have hs4 := HS4.out.g.size
        have O4 := Lib.hid ho4
        clear hb4 hk4 ho4 hcell
        go_wp2_with (at_builtin; refine Lib.wpList_append_own_string _ rfl _ _ 23 9 rfl w.heap.size 5 i0 Tryz.underlying23 Tryz.underlying9 hi hz0 hz1 hz2 _ _ _ rfl O4.out (Str s) rfl (by rw [size_Str]; simp only [List.length_append, bytesN_len]; unfold maxLen; omega) (by rw [size_Str]; simp only [List.length_append, bytesN_len]; omega) hs4 ?_; intro v5 w5 hown5 hgrow _)
        have HS5 := Lib.hid (HS4.out.step (KeepB.grown O4.out hgrow) (Below.grown (Below.refl _ _) hgrow hs4 (fun q hq => (O4.out.lt q hq).1)))
        have O5 : Hid (OwnB w5 w.heap.size v5 (pre ++ textB s)) := Lib.hid (by
          unfold OwnB textB
          rw [← List.append_assoc, List.length_append (bs := s), List.map_append (l₂ := s)]
          rw [strCells_Str, size_Str] at hown5
          exact hown5)
        clear hown5 hgrow
        go_wp2
        go_roundw
        case rel => exact ⟨k + 1, by omega, by go_num, by rw [Htk.out, ← List.append_assoc, ← Hpe.out]; exact O5.out, HS5.out⟩
        case measure => simp [intOf]; omega
      · obtain rfl : k = (tOff m.kind).length := by omega
        rw [List.take_of_length_le (by have := Hl1.out; omega)] at Hown
        have hfl : (bytesN 1 m.kind.toNat ++ (fieldsT m).flatMap textB).length ≤ 140000 := by
          rw [List.length_append, bytesN_len]
          have h1 := flat_len (fieldsT m) Hst.out
          omega
        clear hs
        obtain ⟨pre, hpe⟩ : ∃ p, p = bytesN 1 m.kind.toNat ++ (fieldsT m).flatMap textB := ⟨_, rfl⟩
        rw [← hpe] at hfl Hown H
        have Hpe := Lib.hid hpe
        clear hpe
        go_wp2
        go_loopw [3, 41] (fun x i wr => ∃ k : Nat, k ≤ (nOff m.kind).length ∧ i = .int .i64 k ∧ OwnB wr w.heap.size x (pre ++ ((fieldsN m).take k).flatMap (fun n => bytesN 4 n.toNat)) ∧ BySt w.heap.size w m (.slice a1 (tOff m.kind).length cap1) (.slice a2 (nOff m.kind).length cap2) wr) (fun _ i _ => (nOff m.kind).length - (intOf i).toNat)
        case atStart => exact ⟨0, Nat.zero_le _, rfl, by simpa using Hown.out, HS.out⟩
        case round =>
          clear HS Hown
          obtain ⟨k, hk, rfl, hown, hs⟩ := hrel
          have HS := Lib.hid hs
          have Hown := Lib.hid hown
          have hsz := hs.g.size
          clear hown
          by_cases hlt : k < (nOff m.kind).length
          · obtain ⟨p, cap, g, hv, -, -, hcc⟩ := hs.p2.form
            obtain ⟨rfl, hne, hgl, p0⟩ := hcc k hlt
            injection hv with hv1 hv2 hv3
            subst hv1
            clear hv2 hv3 hcc
            have hltz : (k : Int) < ((nOff m.kind).length : Int) := by omega
            have hlf : k < (fieldsN m).length := by have := Hl2.out; omega
            have hcell := hs.mb.c0 _ _ (numbers_at m k hlt hlf)
            have Htk := Lib.hid (flat_takeN (fun n => bytesN 4 n.toNat) (fieldsN m) k hlf)
            obtain ⟨hn0, hn1⟩ := Hsn.out _ (List.getElem_mem hlf)
            have hpre : (pre ++ ((fieldsN m).take k).flatMap (fun n => bytesN 4 n.toNat)).length ≤ 140010 := by
              rw [List.length_append, flat_lenN]
              have h2 : ((fieldsN m).take k).length ≤ 1 := by rw [List.length_take]; omega
              omega
            clear hs
            generalize (nOff m.kind)[k] = o at *
            generalize (fieldsN m)[k] = n at *
            obtain ⟨pre2, hpe2⟩ : ∃ p, p = pre ++ ((fieldsN m).take k).flatMap (fun n => bytesN 4 n.toNat) := ⟨_, rfl⟩
            rw [← hpe2] at hpre Hown
            have Hpe2 := Lib.hid hpe2
            clear hpe2
            go_wp2_with fail
            refine (appendNumber_w w.heap.size _ pre2 n 4 wr (by omega) (by omega) Hown.out hsz hn0 (by omega)).mono ?_
            rintro e w4 ⟨v4, rfl, ho4, hb4, hk4⟩
            have HS4 := Lib.hid (HS.out.step hk4 hb4)
            have O4 := Lib.hid ho4
            clear hb4 hk4 ho4 hcell
            go_wp2
            go_roundw
            case rel => exact ⟨k + 1, by omega, by go_num, by rw [Htk.out, ← List.append_assoc, ← Hpe2.out]; exact O4.out, HS4.out⟩
            case measure => simp [intOf]; omega
          · obtain rfl : k = (nOff m.kind).length := by omega
            rw [List.take_of_length_le (by have := Hl2.out; omega)] at Hown
            clear hs
            go_wp2
            go_ret
            rw [H.out]
            exact ⟨_, rfl, Hown.out, HS.out.g⟩

end Go.Proofs.YtmbfghbhajmpiaaGreat
namespace Go.Proofs.YtmbfghbhajmpiaaGreat
open Go.RowKit Go.Sort
set_option linter.unusedVariables false

/-- Only block b may have turned. -/
structure Only (b : Nat) (w w' : World) : Prop where
  os : w'.os = w.os
  tape : w'.tape = w.tape
  output : w'.output = w.output
  size : w'.heap.size = w.heap.size
  block : ∀ k, k ≠ b → w'.heap[k]? = w.heap[k]?
theorem Only.refl (b : Nat) (w : World) : Only b w w := ⟨rfl, rfl, rfl, rfl, fun _ _ => rfl⟩
theorem Only.trans {b : Nat} {x y z : World} (h : Only b x y) (k : Only b y z) : Only b x z :=
  ⟨k.os.trans h.os, k.tape.trans h.tape, k.output.trans h.output, k.size.trans h.size, fun i hi => (k.block i hi).trans (h.block i hi)⟩
theorem Only.setCell (b i : Nat) (v : Value) (w : World) : Only b w (w.setCell ⟨b, i, none⟩ v) :=
  ⟨rfl, rfl, rfl, by simp [World.setCell], fun k hk => Below.heap_setCell _ _ _ _ hk⟩
theorem Only.drewN (b n : Nat) (w : World) : Only b w (w.drewN n) := ⟨rfl, rfl, rfl, rfl, fun _ _ => rfl⟩
theorem Only.below {b B : Nat} {w w' : World} (h : Only b w w') (hB : B ≤ b) : Below B w w' :=
  ⟨h.os, h.tape, h.output, Nat.le_of_eq h.size.symm, fun k hk => h.block k (by omega)⟩
theorem Blk.only {w w' : World} {b c : Nat} {T : TypeId} {cs : Array Value} (h : Blk w b T cs) (ho : Only c w w') (hc : b ≠ c) : Blk w' b T cs := by
  unfold Blk; rw [ho.block b hc]; exact h
/-- A slice of bytes. -/
def IsBytes (w : World) (v : Value) (l : Bs) : Prop :=
  ∃ a cap, v = .slice a l.length cap ∧ l.length ≤ cap ∧ cap ≤ maxLen ∧ (l ≠ [] → ∃ b off, a = some ⟨b, off, none⟩ ∧ b < w.heap.size ∧ ∀ i (h : i < l.length), w.cell? ⟨b, off + i, none⟩ = some (.int .u8 (l[i].toNat)))
theorem IsBytes.below {w w' : World} {v : Value} {l : Bs} (h : IsBytes w v l) (hb : Below w.heap.size w w') : IsBytes w' v l := by
  obtain ⟨a, cap, h1, h2, h3, h4⟩ := h
  refine ⟨a, cap, h1, h2, h3, fun hl => ?_⟩
  obtain ⟨b, off, e, hlt, hc⟩ := h4 hl
  exact ⟨b, off, e, Nat.lt_of_lt_of_le hlt hb.size, fun i hi => by rw [hb.cell (by exact hlt)]; exact hc i hi⟩
theorem IsBytes.form {w : World} {v : Value} {l : Bs} (h : IsBytes w v l) : ∃ b off cap a, v = .slice a l.length cap ∧ l.length ≤ cap ∧ cap ≤ maxLen ∧ (l ≠ [] → a = some ⟨b, off, none⟩ ∧ b < w.heap.size) ∧
    ∀ i (h : i < l.length), a = some ⟨b, off, none⟩ ∧ w.cell? ⟨b, off + i, none⟩ = some (.int .u8 (l[i].toNat)) := by
  obtain ⟨a, cap, h1, h2, h3, h4⟩ := h
  by_cases hl : l = []
  · subst hl; exact ⟨0, 0, cap, a, h1, h2, h3, fun h => absurd rfl h, fun i hi => absurd hi (by simp)⟩
  · obtain ⟨b, off, e, hlt, hc⟩ := h4 hl
    exact ⟨b, off, cap, a, h1, h2, h3, fun _ => ⟨e, hlt⟩, fun i hi => ⟨e, hc i hi⟩⟩
theorem IsBytes.nil (w : World) : IsBytes w (.slice none 0 0) [] := ⟨none, 0, rfl, Nat.le_refl _, by unfold maxLen; omega, fun h => absurd rfl h⟩
theorem IsBytes.only {w w' : World} {v x : Value} {l : Bs} {rb : Nat} {T : TypeId} {y : Bool} (h : IsBytes w v l) (hb : Blk w rb T #[x, .bool y]) (hx : ∃ p n c, x = .slice p n c) (ho : Only rb w w') : IsBytes w' v l := by
  obtain ⟨a, cap, h1, h2, h3, h4⟩ := h
  refine ⟨a, cap, h1, h2, h3, fun hl => ?_⟩
  obtain ⟨b, off, e, hlt, hc⟩ := h4 hl
  have hne : b ≠ rb := by
    rintro rfl
    obtain ⟨p, n, c, rfl⟩ := hx
    have h0 := hc 0 (List.length_pos_iff.2 hl)
    rw [hb.cell] at h0
    have h01 : off = 0 ∨ off = 1 ∨ 2 ≤ off := by omega
    rcases h01 with rfl | rfl | h2
    · simp at h0
    · simp at h0
    · rw [Array.getElem?_eq_none (by simp; omega)] at h0; cases h0
  refine ⟨b, off, e, by rw [ho.size]; exact hlt, fun i hi => ?_⟩
  have := hc i hi
  unfold World.cell? at this ⊢
  simp only at this ⊢
  rw [ho.block b hne]; exact this
theorem IsBytes.sliced {w : World} {a : Option Addr} {n cap : Nat} {l : Bs} (h : IsBytes w (.slice a n cap) l) (lo hi : Nat) (h1 : lo ≤ hi) (h2 : hi ≤ l.length) :
    IsBytes w (sliced a lo hi cap 1) ((l.take hi).drop lo) := by
  obtain ⟨a', cap', e, hlc, hcm, hc⟩ := h
  cases e
  have hll : ((l.take hi).drop lo).length = hi - lo := by rw [List.length_drop, List.length_take]; omega
  refine ⟨_, cap - lo, by rw [hll]; rfl, by omega, by omega, fun hne => ?_⟩
  have hlt : lo < hi := by
    rcases Nat.lt_or_ge lo hi with h | h
    · exact h
    · exfalso; apply hne; apply List.length_eq_zero_iff.1; omega
  obtain ⟨b, off, rfl, hb, hcell⟩ := hc (by rintro rfl; simp at h2; omega)
  have hadd : (⟨b, off, none⟩ : Addr).add lo = ⟨b, off + lo, none⟩ := by unfold Addr.add; split <;> simp_all
  refine ⟨b, off + lo, by rw [if_neg (by omega)]; simp [hadd], hb, fun i hi' => ?_⟩
  have hc3 := hcell (lo + i) (by rw [hll] at hi'; omega)
  rw [Nat.add_assoc, hc3]
  simp
theorem sizeB : (sizeOf (Tryz.prog.elem 23)) = sizeOf 5 := by
  rw [show Tryz.prog.elem 23 = 5 by kernel_rfl]
theorem elemB : Tryz.prog.underlying 23 = some (.slice (Tryz.prog.elem 23)) := by
  rw [show Tryz.prog.elem 23 = 5 by kernel_rfl]; exact Tryz.underlying23
theorem bslice_h (a : Option Addr) (n cap hi : Nat) (h2 : hi ≤ cap) (h3 : cap ≤ maxLen) (w : World) : (Instr.slice 23 (.slice a n cap) none (some (.int .i64 hi)) none).run Tryz.prog w = .ok (sliced a 0 hi cap 1) w := by
  rw [run_slice_h w 23 a n cap elemB .i64 hi (by omega) (by omega), sizeB, Tryz.sizeOf5]; rfl
theorem bslice_l (a : Option Addr) (n cap lo : Nat) (h2 : lo ≤ n) (w : World) : (Instr.slice 23 (.slice a n cap) (some (.int .i64 lo)) none none).run Tryz.prog w = .ok (sliced a lo n cap 1) w := by
  rw [run_slice_l w 23 a n cap elemB .i64 lo (by omega) (by omega), sizeB, Tryz.sizeOf5]; rfl

/-- What is left, and whether there was too little. -/
abbrev RS := Bs × Bool
def takeP (k : Nat) (s : RS) : Bs × RS := if s.1.length < k then ([], (s.1, true)) else (s.1.take k, (s.1.drop k, s.2))
def numP (k : Nat) (s : RS) : Nat × RS := (numF (takeP k s).1, (takeP k s).2)
def textP (s : RS) : Bs × RS := takeP (numP 2 s).1 (numP 2 s).2
/-- The reader that block rb is. -/
def Rd (w : World) (rb : Nat) (s : RS) : Prop := ∃ p n c, Blk w rb 161 #[.slice p n c, .bool s.2] ∧ IsBytes w (.slice p n c) s.1
def TakeOut (rb : Nat) (w : World) (x : Bs × RS) (e : Ending) (w' : World) : Prop := ∃ v, e = .returned v ∧ IsBytes w' v x.1 ∧ Rd w' rb x.2 ∧ Only rb w w'

set_option maxRecDepth 100000 in
set_option maxHeartbeats 2000000 in
theorem take_w (rb k : Nat) (s : RS) (w : World) (h : Rd w rb s) (hk : k ≤ 100000) : Calls Tryz.prog 164 #[ptrV rb, .int .i64 k] w (TakeOut rb w (takeP k s)) := by
  obtain ⟨l, sh⟩ := s
  obtain ⟨p, n, c, hb, hl⟩ := h
  simp only at hb hl
  have HB := Lib.hid hb
  have HL := Lib.hid hl
  obtain ⟨a', cap', he, hlc, hcm, -⟩ := id hl
  cases he
  have hcm' := hcm
  unfold maxLen at hcm
  have c0 : w.cell? ⟨rb, 0, none⟩ = some (.slice p l.length c) := hb.c0 0 _ rfl
  have c1 : w.cell? ⟨rb, 1, none⟩ = some (.bool sh) := hb.c0 1 _ rfl
  have f0 := hb.free 0
  have f1 := hb.free 1
  clear hb hl
  by_cases hlt : l.length < k
  · have hltz : (l.length : Int) < (k : Int) := by omega
    have H : Hid (takeP k (l, sh) = ([], (l, true))) := Lib.hid (by unfold takeP; rw [if_pos (by exact hlt)])
    go_enter Tryz.func164, Tryz.ntmps164
    go_wp2
    go_ret
    rw [H.out]
    refine ⟨_, rfl, IsBytes.nil _, ⟨p, l.length, c, HB.out.setCell 1 (.bool true), ?_⟩, Only.setCell _ _ _ _⟩
    exact HL.out.only HB.out ⟨_, _, _, rfl⟩ (Only.setCell _ _ _ _)
  · have hkl : k ≤ l.length := by omega
    have hltz : ¬ (l.length : Int) < (k : Int) := by omega
    have H : Hid (takeP k (l, sh) = (l.take k, (l.drop k, sh))) := Lib.hid (by unfold takeP; rw [if_neg (by exact hlt)])
    obtain ⟨p1, m1, c1', hV1⟩ : ∃ p1 m1 c1, Value.slice p1 m1 c1 = sliced p 0 k c 1 := ⟨_, _, _, rfl⟩
    obtain ⟨p2, m2, c2', hV2⟩ : ∃ p2 m2 c2, Value.slice p2 m2 c2 = sliced p k l.length c 1 := ⟨_, _, _, rfl⟩
    have hs1 := bslice_h p l.length c k (by omega) hcm'
    have hs2 := bslice_l p l.length c k hkl
    rw [← hV1] at hs1
    rw [← hV2] at hs2
    have HV1 : Hid (IsBytes w (.slice p1 m1 c1') (l.take k)) := Lib.hid (by rw [hV1]; have := HL.out.sliced 0 k (Nat.zero_le _) hkl; simpa using this)
    have HV2 : Hid (IsBytes w (.slice p2 m2 c2') (l.drop k)) := Lib.hid (by rw [hV2]; have := HL.out.sliced k l.length hkl (Nat.le_refl _); rwa [List.take_length] at this)
    clear hV1 hV2 hlt hcm'
    go_enter Tryz.func164, Tryz.ntmps164
    go_wp2
    go_ret
    rw [H.out]
    refine ⟨_, rfl, HV1.out.only HB.out ⟨_, _, _, rfl⟩ (Only.setCell _ _ _ _), ⟨p2, m2, c2', HB.out.setCell 0 (.slice p2 m2 c2'), ?_⟩, Only.setCell _ _ _ _⟩
    exact HV2.out.only HB.out ⟨_, _, _, rfl⟩ (Only.setCell _ _ _ _)

end Go.Proofs.YtmbfghbhajmpiaaGreat
namespace Go.Proofs.YtmbfghbhajmpiaaGreat
open Go.RowKit Go.Sort
set_option linter.unusedVariables false

theorem takeP_len (k : Nat) (s : RS) : (takeP k s).1.length ≤ k := by
  unfold takeP; split
  · simp
  · simp only [List.length_take]; omega
theorem take_nat (l : Bs) (k : Nat) (h : k < l.length) : l.take (k + 1) = l.take k ++ [l[k]] := by
  rw [List.take_add_one, List.getElem?_eq_getElem h]; rfl
set_option maxRecDepth 100000 in
set_option maxHeartbeats 2000000 in
theorem number_w (rb k : Nat) (s : RS) (w : World) (h : Rd w rb s) (hk : k ≤ 4) : Calls Tryz.prog 106 #[ptrV rb, .int .i64 k] w fun e w' => e = .returned (.int .i64 ((numP k s).1 : Nat)) ∧ Rd w' rb (numP k s).2 ∧ Only rb w w' := by
  have HT := Lib.hid (take_w rb k s w h (by omega))
  have hlen := takeP_len k s
  have H1 : Hid ((numP k s).1 = numF (takeP k s).1) := Lib.hid rfl
  have H2 : Hid ((numP k s).2 = (takeP k s).2) := Lib.hid rfl
  clear h
  generalize takeP k s = r at *
  obtain ⟨l, s2⟩ := r
  simp only at hlen H1 H2
  go_enter Tryz.func106, Tryz.ntmps106
  go_wp2_with fail
  refine HT.out.mono ?_
  rintro e w1 ⟨v, rfl, hv, hr, ho⟩
  simp only at hv hr
  obtain ⟨g, off, cap, p, rfl, hlc, hcm, hpp, hcc⟩ := hv.form
  unfold maxLen at hcm
  have HC := Lib.hid hcc
  have HR := Lib.hid hr
  have HO := Lib.hid ho
  clear hv hpp hcc hr ho HT
  go_wp2
  go_loop [5, 12] (fun x i => ∃ j : Nat, j ≤ l.length ∧ i = .int .i64 j ∧ x = .int .i64 (numF (l.take j) : Nat)) (fun _ i => l.length - (intOf i).toNat)
  case atStart => exact ⟨0, Nat.zero_le _, rfl, rfl⟩
  case round =>
    obtain ⟨j, hj, rfl, rfl⟩ := hrel
    by_cases hlt : j < l.length
    · obtain ⟨rfl, c0⟩ := HC.out j hlt
      have hltz : (j : Int) < (l.length : Int) := by omega
      have hn := numF_snoc (l.take j) l[j]
      rw [← take_nat l j hlt] at hn
      have hb : numF (l.take j) < 16777216 := by
        have h1 := numF_lt (l.take j)
        have h2 : (l.take j).length ≤ 3 := by have := List.length_take_le j l; omega
        exact Nat.lt_of_lt_of_le h1 (Nat.pow_le_pow_right (n := 256) (by decide) h2)
      have hc : l[j].toNat < 256 := l[j].toNat_lt
      have Hn := Lib.hid hn
      clear hn
      generalize l[j] = x at *
      generalize numF (l.take j) = m at *
      generalize hm' : numF (l.take (j + 1)) = m' at *
      have Hm := Lib.hid hm'
      clear hm'
      have e : bits .or .i64 ((m : Int) * 256) x.toNat = (m : Int) * 256 + x.toNat :=
        bits_join .i64 40 (by decide) (fun n h1 h2 => by rw [IntKind.wrap_i64]; omega) 8 _ _ (by omega) (by omega) (by omega) (by omega) (by omega) (by omega)
      have He := Lib.hid e
      clear e
      go_wp2
      go_round
      case rel => exact ⟨j + 1, by omega, by go_num, by rw [He.out, Hm.out, Hn.out]; congr 1; omega⟩
      case measure => simp [intOf]; omega
    · obtain rfl : j = l.length := by omega
      go_wp2
      go_ret
      exact ⟨ret_int (by rw [H1.out]), by rw [H2.out]; exact HR.out, HO.out⟩

theorem numP2_lt (s : RS) : (numP 2 s).1 < 65536 := by
  have h := numF_lt (takeP 2 s).1
  have h2 := takeP_len 2 s
  exact Nat.lt_of_lt_of_le h (Nat.pow_le_pow_right (n := 256) (by decide) h2)
theorem conv_bytes {v : Value} {l : Bs} {w : World} (h : IsBytes w v l) : (convert 23 9 v).run Tryz.prog w = .ok (.string (Str l)) w := by
  obtain ⟨a, cap, rfl, hlc, hcm, hc⟩ := h
  cases a with
  | none =>
    have hl : l = [] := by
      cases l with
      | nil => rfl
      | cons x r => obtain ⟨b, off, e, _⟩ := hc (by simp); cases e
    subst hl
    exact run_convert_bytes_nil (P := Tryz.prog) w 23 5 Tryz.underlying23 Tryz.underlying5 _ _ 9 Tryz.underlying9
  | some ad =>
    refine run_convert_bytes_back w 23 9 5 ad cap l Tryz.underlying23 Tryz.underlying5 Tryz.underlying9 fun j hj => ?_
    obtain ⟨b, off, e, -, hcc⟩ := hc (by rintro rfl; simp at hj)
    cases e
    have hadd : (⟨b, off, none⟩ : Addr).add j = ⟨b, off + j, none⟩ := by unfold Addr.add; split <;> simp_all
    rw [hadd]; exact hcc j hj
set_option maxRecDepth 100000 in
set_option maxHeartbeats 2000000 in
theorem text_w (rb : Nat) (s : RS) (w : World) (h : Rd w rb s) : Calls Tryz.prog 107 #[ptrV rb] w fun e w' => e = .returned (.string (Str (textP s).1)) ∧ Rd w' rb (textP s).2 ∧ Only rb w w' := by
  have HN := Lib.hid (number_w rb 2 s w h (by omega))
  have hlt := numP2_lt s
  have H : Hid (textP s = takeP (numP 2 s).1 (numP 2 s).2) := Lib.hid rfl
  clear h
  generalize textP s = r at *
  generalize numP 2 s = q at *
  obtain ⟨n, s2⟩ := q
  simp only at HN H hlt
  go_enter Tryz.func107, Tryz.ntmps107
  go_wp2_with fail
  refine HN.out.mono ?_
  rintro e w1 ⟨rfl, hr, ho⟩
  have HO := Lib.hid ho
  have HR := Lib.hid hr
  clear hr ho HN
  go_wp2_with fail
  refine (take_w rb n s2 w1 HR.out (by omega)).mono ?_
  rintro e w2 ⟨v, rfl, hv, hr, ho⟩
  have hcv := conv_bytes hv
  have HR2 := Lib.hid hr
  have HO2 := Lib.hid (HO.out.trans ho)
  clear hv hr ho
  go_wp2
  go_ret
  rw [H.out]
  exact ⟨rfl, HR2.out, HO2.out⟩

end Go.Proofs.YtmbfghbhajmpiaaGreat
