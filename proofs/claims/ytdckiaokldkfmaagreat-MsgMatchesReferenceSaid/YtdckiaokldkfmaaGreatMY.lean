/-
  Walks: numbers and texts as bytes; Bytes.
-/
import Derived.Test.YtdckiaokldkfmaaGreatMX
import Derived.Lib.AppendStr
namespace Go.Proofs.YtdckiaokldkfmaaGreat
open Go.RowKit Go.Sort
set_option linter.unusedVariables false

theorem numF_snoc (l : Bs) (c : UInt8) : numF (l ++ [c]) = 256 * numF l + c.toNat := by simp [numF]
theorem numF_lt (l : Bs) : numF l < 256 ^ l.length := by
  suffices h : ∀ (k : Nat) (l : Bs), l.length = k → numF l < 256 ^ k from h _ l rfl
  intro k
  induction k with
  | zero => intro l h; rw [List.length_eq_zero_iff.1 h]; decide
  | succ k ih =>
    intro l h
    obtain ⟨r, c, rfl⟩ : ∃ r c, l = r ++ [c] := by
      have hne : l ≠ [] := by rintro rfl; simp at h
      exact ⟨l.dropLast, l.getLast hne, (List.dropLast_concat_getLast hne).symm⟩
    rw [numF_snoc, Nat.pow_succ]
    have := ih r (by simp at h; exact h)
    have hc : c.toNat < 256 := c.toNat_lt
    omega
theorem bytesN_len (k n : Nat) : (bytesN k n).length = k := by
  induction k generalizing n with
  | zero => rfl
  | succ k ih => simp [bytesN, ih]
theorem numF_bytesN (k n : Nat) : numF (bytesN k n) = n % 256 ^ k := by
  induction k generalizing n with
  | zero => simp [bytesN, numF, Nat.mod_one]
  | succ k ih =>
    rw [bytesN, numF_snoc, ih]
    have h : ((n % 256).toUInt8).toNat = n % 256 := by simp
    rw [h, Nat.pow_succ, Nat.mul_comm (256 ^ k) 256, Nat.mod_mul, Nat.add_comm]
theorem bytesN_numF (l : Bs) : bytesN l.length (numF l) = l := by
  suffices h : ∀ (k : Nat) (l : Bs), l.length = k → bytesN k (numF l) = l from h _ l rfl
  intro k
  induction k with
  | zero => intro l h; rw [List.length_eq_zero_iff.1 h]; rfl
  | succ k ih =>
    intro l h
    obtain ⟨r, c, rfl⟩ : ∃ r c, l = r ++ [c] := by
      have hne : l ≠ [] := by rintro rfl; simp at h
      exact ⟨l.dropLast, l.getLast hne, (List.dropLast_concat_getLast hne).symm⟩
    have hc : c.toNat < 256 := c.toNat_lt
    rw [bytesN, numF_snoc, show (256 * numF r + c.toNat) / 256 = numF r from by omega, ih r (by simp at h; exact h),
      show (256 * numF r + c.toNat) % 256 = c.toNat from by omega]
    simp
theorem infoU8 : (Tryz.prog.info? 5).map (fun i => (i.zero, i.size, i.bytes)) = some (some (.int .u8 0), 1, 1) := by kernel_rfl
theorem cells_new (W : World) (cs : List Value) (T : TypeId) : ∀ j u, cs[j]? = some u → (W.alloc (.cells cs.toArray T)).cell? ((⟨W.heap.size, 0, none⟩ : Addr).add j) = some u := by
  intro j u hj
  have : (⟨W.heap.size, 0, none⟩ : Addr).add j = ⟨W.heap.size, j, none⟩ := by unfold Addr.add; split <;> simp_all
  rw [this, World.cell?_alloc_new]
  simpa using hj
theorem cells_new' {n : Nat} (W : World) (cs : List Value) (T : TypeId) (hn : n = W.heap.size) : ∀ j u, cs[j]? = some u → (W.alloc (.cells cs.toArray T)).cell? ((⟨n, 0, none⟩ : Addr).add j) = some u := by
  subst hn; exact cells_new W cs T
/-- Bytes that the call laid itself. -/
def OwnB (w : World) (B : Nat) (v : Value) (l : Bs) : Prop := w.ownsRow B 5 1 v l.length (l.map fun c => .int .u8 c.toNat)
theorem OwnB.below {w w' : World} {B : Nat} {v : Value} {l : Bs} (h : OwnB w B v l) (hb : Below w.heap.size w w') : OwnB w' B v l := owns_below h hb
theorem bytesN_get (k n j : Nat) (h : j < k) : (bytesN k n)[j]? = some (n / 256 ^ (k - 1 - j) % 256).toUInt8 := by
  induction k generalizing n with
  | zero => omega
  | succ k ih =>
    rw [bytesN]
    by_cases hj : j < k
    · rw [List.getElem?_append_left (by rw [bytesN_len]; exact hj), ih _ hj]
      congr 2
      rw [Nat.div_div_eq_div_mul, show k + 1 - 1 - j = (k - 1 - j) + 1 from by omega, Nat.pow_succ, Nat.mul_comm]
    · obtain rfl : j = k := by omega
      rw [List.getElem?_append_right (by rw [bytesN_len]; exact Nat.le_refl _), bytesN_len]
      simp
theorem bytesN_take (k n j : Nat) (h : j < k) : (bytesN k n).take (j + 1) = (bytesN k n).take j ++ [(n / 256 ^ (k - 1 - j) % 256).toUInt8] := by
  rw [List.take_add_one, bytesN_get k n j h]; rfl
theorem byte_of (n k j : Nat) (h : j < k) : (n : Int) / 2 ^ (8 * (k - 1 - j)) % 256 = (((n / 256 ^ (k - 1 - j) % 256).toUInt8).toNat : Int) := by
  have e : (2 : Int) ^ (8 * (k - 1 - j)) = ((256 ^ (k - 1 - j) : Nat) : Int) := by
    rw [Int.pow_mul]; simp
  rw [e]
  have h2 : ((n / 256 ^ (k - 1 - j) % 256).toUInt8).toNat = n / 256 ^ (k - 1 - j) % 256 := by simp
  rw [h2]
  omega
/-- Blocks that are not rows of bytes stay as they are. -/
def KeepB (w w' : World) : Prop := ∀ b T cs, T ≠ 5 → Blk w b T cs → Blk w' b T cs
theorem KeepB.refl (w : World) : KeepB w w := fun _ _ _ _ h => h
theorem KeepB.trans {x y z : World} (h : KeepB x y) (k : KeepB y z) : KeepB x z := fun b T cs hT hb => k b T cs hT (h b T cs hT hb)
theorem KeepB.alloc {x y : World} (h : KeepB x y) (o : Obj) : KeepB x (y.alloc o) := fun b T cs hT hb => (h b T cs hT hb).alloc o
theorem own_blk_ne {w : World} {B : Nat} {v : Value} {n : Nat} {xs : List Value} {b : Nat} {T : TypeId} {cs : Array Value} (h : w.ownsRow B 5 1 v n xs) (hg : Blk w b T cs) (hne : T ≠ 5) : v.ownBlock ≠ some b := by
  rcases h.2 with ⟨rfl, _⟩ | ⟨g', cap, cur, rfl, _, hh, _⟩
  · simp [Value.ownBlock]
  · intro he
    have : g' = b := by simpa [Value.ownBlock] using he
    subst this
    unfold Blk at hg
    rw [hh] at hg
    injection hg with hg
    injection hg with _ ht
    exact hne ht.symm
theorem KeepB.grown {w w' : World} {B : Nat} {v : Value} {n : Nat} {xs : List Value} (h : w.ownsRow B 5 1 v n xs) (hg : w.grownBy w' v.ownBlock) : KeepB w w' := fun b T cs hT hb => by
  unfold Blk
  rw [hg.block b hb.lt (fun e => own_blk_ne h hb hT e.symm)]
  exact hb
set_option maxRecDepth 100000 in
set_option maxHeartbeats 400000 in
theorem appendNumber_w (B : Nat) (v : Value) (l : Bs) (n : Int) (k : Nat) (w : World) (hk : k ≤ 4) (hl : l.length ≤ 300000) (ho : OwnB w B v l) (hB : B ≤ w.heap.size) (hn0 : 0 ≤ n) (hn : n < 4294967296) :
    Calls Tryz.prog 59 #[v, .int .i64 n, .int .i64 k] w fun e w' => ∃ v', e = .returned v' ∧ OwnB w' B v' (l ++ bytesN k n.toNat) ∧ Below B w w' ∧ KeepB w w' := by
  obtain ⟨n, rfl⟩ := Int.eq_ofNat_of_zero_le hn0
  rw [Int.toNat_natCast]
  obtain ⟨i0, hi, hz0, hz1, hz2⟩ := info_parts infoU8
  have Ho := Lib.hid ho
  clear ho hn0 hn
  go_enter Tryz.func59, Tryz.ntmps59
  go_wp2
  go_loopw [0, 7] (fun v0 sh wr => ∃ j : Nat, j ≤ k ∧ sh = .int .i64 (8 * ((k : Int) - 1 - j)) ∧ OwnB wr B v0 (l ++ (bytesN k n).take j) ∧ Below B w wr ∧ KeepB w wr) (fun _ sh _ => (8 + intOf sh).toNat)
  case atStart => exact ⟨0, Nat.zero_le _, by simp, by simpa using Ho.out, Below.refl _ _, KeepB.refl _⟩
  case round =>
    obtain ⟨j, hj, rfl, hown, hbel, hkp⟩ := hrel
    have Hkp := Lib.hid hkp
    clear hkp
    by_cases hlt : j < k
    · have hge : 0 ≤ 8 * ((k : Int) - 1 - j) := by omega
      have Hown := Lib.hid hown
      have Hbyte := Lib.hid (byte_of n k j hlt)
      have Htk := Lib.hid (bytesN_take k n j hlt)
      have hlen : ((bytesN k n).take j).length = j := by rw [List.length_take, bytesN_len]; omega
      have Hlen : Hid ((l ++ (bytesN k n).take j).length = l.length + j) := Lib.hid (by rw [List.length_append, hlen])
      have hBw := hbel.size
      have Hbel := Lib.hid hbel
      clear hown hbel hlen
      go_wp2_with (at_builtin; refine wpList_append_own _ rfl _ _ 48 rfl B 5 i0 (.int .u8 0) 1 1 Tryz.underlying48 hi hz0 hz1 hz2 rfl (by decide) _ _ _ rfl (Hown.out.alloc _) ⟨wr.heap.size, 0, none⟩ 1 1 [.int .u8 ((n : Int) / 2 ^ (8 * (k - 1 - j)) % 256)] rfl rfl (cells_new' _ _ _ (by simp)) (by intro u hu; simp at hu; rcases hu with rfl; rfl) (by rw [Hlen.out]; unfold maxLen; omega) (by rw [Hlen.out]; omega) (by simp; omega) ?_; intro v' w2 hown' hgrow _)
      have Hown' := Lib.hid hown'
      have Hb2 : Hid (Below B w w2) := Lib.hid (Below.grown (Hbel.out.alloc (Nat.le_trans hB hBw) _) hgrow (by simp; omega) (fun q hq => (Hown.out.lt q hq).1))
      have Hk2 : Hid (KeepB w w2) := Lib.hid ((Hkp.out.alloc _).trans (KeepB.grown (Hown.out.alloc _) hgrow))
      clear hown' hgrow
      go_wp2
      go_roundw
      case rel =>
        refine ⟨j + 1, by omega, by congr 1; omega, ?_, Hb2.out, Hk2.out⟩
        have h := Hown'.out
        rw [Hbyte.out] at h
        unfold OwnB
        rw [Htk.out, ← List.append_assoc, List.length_append, List.map_append]
        exact h
      case measure => simp [intOf]; omega
    · obtain rfl : j = k := by omega
      have hlt0 : 8 * ((j : Int) - 1 - j) < 0 := by omega
      have Hfin : Hid ((bytesN j n).take j = bytesN j n) := Lib.hid (List.take_of_length_le (by rw [bytesN_len]; exact Nat.le_refl _))
      have Hown := Lib.hid hown
      have Hbel := Lib.hid hbel
      clear hown hbel
      go_wp2
      go_ret
      exact ⟨_, rfl, by have h := Hown.out; rw [Hfin.out] at h; exact h, Hbel.out, Hkp.out⟩

end Go.Proofs.YtdckiaokldkfmaaGreat
