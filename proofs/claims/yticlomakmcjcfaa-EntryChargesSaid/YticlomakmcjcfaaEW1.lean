/-
  Walks: leaves of package entry: numbers in ranges, texts, numbers as bytes and back.
-/
import Derived.Test.YticlomakmcjcfaaEW0
import Derived.Test.YticlomakmcjcfaaES
import Derived.Deep.DeepCutAuto
import Derived.Sort.Grow
namespace Go.Proofs.Yticlomakmcjcfaa
open Go.RowKit
set_option linter.unusedVariables false

theorem ret_int {k : IntKind} {a b : Int} (h : a = b) : Ending.returned (.int k a) = .returned (.int k b) := by rw [h]

set_option maxHeartbeats 400000 in
theorem within_w (n m : Int) (w : World) : Calls Try.prog 121 #[.int .i64 n, .int .i64 m] w fun e w' => e = .returned (.bool (inB n m)) ∧ w = w' := by
  by_cases h : 0 ≤ n
  · have H : Hid (inB n m = decide (n ≤ m)) := Lib.hid (by simp [inB, h])
    go_enter Try.func121, Try.ntmps121
    go_wp2
    go_ret
    exact ⟨ret_bool H.out.symm, rfl⟩
  · have H : Hid (inB n m = false) := Lib.hid (by simp [inB, h])
    go_enter Try.func121, Try.ntmps121
    go_wp2
    go_ret
    exact ⟨ret_bool H.out.symm, rfl⟩

theorem textB_bad {l : Bs} (h : l.length < 1 ∨ 50 < l.length) : textB l = false := by
  unfold textB
  rcases h with h | h
  · simp; omega
  · simp; omega
theorem textB_all {l : Bs} (h1 : 1 ≤ l.length) (h2 : l.length ≤ 50) : textB l = l.all prB := by
  unfold textB; simp [h1, h2]
theorem prall_bad {l : Bs} {k : Nat} {c : UInt8} (h : l[k]? = some c) (hc : prB c = false) : l.all prB = false := by
  rw [List.all_eq_false]
  exact ⟨c, List.mem_of_getElem? h, by simp [hc]⟩
theorem prB_no {c : UInt8} (h : (c.toNat : Int) < 32 ∨ 126 < (c.toNat : Int)) : prB c = false := by
  unfold prB; simp; omega
theorem prB_yes {c : UInt8} (h1 : 32 ≤ (c.toNat : Int)) (h2 : (c.toNat : Int) ≤ 126) : prB c = true := by
  unfold prB; simp; omega

set_option maxHeartbeats 400000 in
theorem isText_w (s : ByteArray) (w : World) (hs : s.size ≤ maxLen) :
    Calls Try.prog 150 #[.string s] w fun e w' => e = .returned (.bool (textB s.toList)) ∧ w = w' := by
  unfold maxLen at hs
  have Hz := Lib.hid (size_len s)
  by_cases g : s.size < 1 ∨ 50 < s.size
  · have Hn := Lib.hid (textB_bad (l := s.toList) (by rw [← Hz.out]; exact g))
    rcases g with g | g
    · have g' : (s.size : Int) < 1 := by omega
      go_enter Try.func150, Try.ntmps150
      go_wp2
      go_ret
      exact ⟨ret_bool Hn.out.symm, rfl⟩
    · have g' : 50 < (s.size : Int) := by omega
      have g'' : 1 ≤ (s.size : Int) := by omega
      go_enter Try.func150, Try.ntmps150
      go_wp2
      go_ret
      exact ⟨ret_bool Hn.out.symm, rfl⟩
  · have h1 : 1 ≤ (s.size : Int) := by omega
    have h2 : (s.size : Int) ≤ 50 := by omega
    have Hn := Lib.hid (textB_all (l := s.toList) (by rw [← Hz.out]; omega) (by rw [← Hz.out]; omega))
    clear g
    go_enter Try.func150, Try.ntmps150
    go_wp2
    go_loop [14] (fun i => ∃ k : Nat, k ≤ s.size ∧ i = .int .i64 k ∧ Hid ((s.toList.take k).all prB = true)) (fun i => s.size - (intOf i).toNat)
    case atStart => exact ⟨0, Nat.zero_le _, rfl, Lib.hid rfl⟩
    case round =>
      obtain ⟨k, hk, rfl, hall⟩ := hrel
      by_cases hlt : k < s.size
      · have hg := Lib.hid (get_toList s k hlt)
        have ht := Lib.hid (take_succ' s k hlt)
        go_wp2
        all_goals first
          | (go_ret
             exact ⟨ret_bool (by rw [Hn.out]; exact (prall_bad hg.out (prB_no (by go_light; omega))).symm), rfl⟩)
          | (go_round
             case rel => exact ⟨k + 1, by omega, by go_num, Lib.hid (by
               rw [ht.out, List.all_append, hall.out]
               have : prB s[k] = true := prB_yes (by go_light; omega) (by go_light; omega)
               simp [this])⟩
             case measure => simp [intOf]; omega)
      · obtain rfl : k = s.size := by omega
        go_wp2
        go_ret
        refine ⟨ret_bool ?_, rfl⟩
        rw [Hn.out, ← hall.out, List.take_of_length_le (by rw [Hz.out]; exact Nat.le_refl _)]

theorem infoU8 : (Try.prog.info? 5).map (fun i => (i.zero, i.size, i.bytes)) = some (some (.int .u8 0), 1, 1) := by kernel_rfl
theorem owns_below {w w' : World} {base : Nat} {e : TypeId} {size : Nat} {v : Value} {n : Nat} {xs : List Value} (h : w.ownsRow base e size v n xs) (hb : Below w.heap.size w w') : w'.ownsRow base e size v n xs := by
  refine ⟨h.1, ?_⟩
  rcases h.2 with h2 | ⟨g, cap, cur, h2, h3, h4, h5⟩
  · exact .inl h2
  · exact .inr ⟨g, cap, cur, h2, h3, by rw [hb.block g (by rw [Array.getElem?_eq_some_iff] at h4; exact h4.1)]; exact h4, h5⟩
theorem cells_new (W : World) (cs : List Value) (T : TypeId) : ∀ j u, cs[j]? = some u → (W.alloc (.cells cs.toArray T)).cell? ((⟨W.heap.size, 0, none⟩ : Addr).add j) = some u := by
  intro j u hj
  have : (⟨W.heap.size, 0, none⟩ : Addr).add j = ⟨W.heap.size, j, none⟩ := by unfold Addr.add; split <;> simp_all
  rw [this, World.cell?_alloc_new]
  simpa using hj
theorem cells_new' {n : Nat} (W : World) (cs : List Value) (T : TypeId) (hn : n = W.heap.size) : ∀ j u, cs[j]? = some u → (W.alloc (.cells cs.toArray T)).cell? ((⟨n, 0, none⟩ : Addr).add j) = some u := by
  subst hn; exact cells_new W cs T

/-- Bytes that the call laid itself. -/
def OwnB (w : World) (B : Nat) (v : Value) (l : Bs) : Prop := w.ownsRow B 5 1 v l.length (l.map fun c => .int .u8 c.toNat)
theorem OwnB.below {w w' : World} {B : Nat} {v : Value} {l : Bs} (h : OwnB w B v l) (hb : Below w.heap.size w w') : OwnB w' B v l := owns_below h hb

theorem bytesN_get (k n j : Nat) (h : j < k) : (bytesN k n)[j]? = some (n / 256 ^ (k - 1 - j) % 256).toUInt8 := by
  induction k generalizing n with
  | zero => omega
  | succ k ih =>
    rw [bytesN]
    by_cases hj : j < k
    · rw [List.getElem?_append_left (by rw [bytesN_len]; exact hj), ih _ hj]
      congr 2
      rw [Nat.div_div_eq_div_mul, show k + 1 - 1 - j = (k - 1 - j) + 1 from by omega, Nat.pow_succ, Nat.mul_comm]
    · obtain rfl : j = k := by omega
      rw [List.getElem?_append_right (by rw [bytesN_len]; exact Nat.le_refl _), bytesN_len]
      simp
theorem bytesN_take (k n j : Nat) (h : j < k) : (bytesN k n).take (j + 1) = (bytesN k n).take j ++ [(n / 256 ^ (k - 1 - j) % 256).toUInt8] := by
  rw [List.take_add_one, bytesN_get k n j h]; rfl

theorem byte_of (n k j : Nat) (h : j < k) : (n : Int) / 2 ^ (8 * (k - 1 - j)) % 256 = (((n / 256 ^ (k - 1 - j) % 256).toUInt8).toNat : Int) := by
  have e : (2 : Int) ^ (8 * (k - 1 - j)) = ((256 ^ (k - 1 - j) : Nat) : Int) := by
    rw [Int.pow_mul]; simp
  rw [e]
  have h2 : ((n / 256 ^ (k - 1 - j) % 256).toUInt8).toNat = n / 256 ^ (k - 1 - j) % 256 := by simp
  rw [h2]
  omega

set_option maxHeartbeats 400000 in
theorem number_w (s : ByteArray) (w : World) (hs : s.size ≤ 4) :
    Calls Try.prog 170 #[.string s] w fun e w' => e = .returned (.int .i64 (numF s.toList)) ∧ w = w' := by
  have hs0 : (s.size : Int) ≤ 4 := by omega
  have Hz := Lib.hid (size_len s)
  go_enter Try.func170, Try.ntmps170
  go_wp2
  go_loop [3, 7] (fun n i => ∃ k : Nat, k ≤ s.size ∧ i = .int .i64 k ∧ n = .int .i64 (numF (s.toList.take k))) (fun _ i => s.size - (intOf i).toNat)
  case atStart => exact ⟨0, Nat.zero_le _, rfl, rfl⟩
  case round =>
    obtain ⟨k, hk, rfl, rfl⟩ := hrel
    by_cases hlt : k < s.size
    · have hn := numF_snoc (s.toList.take k) s[k]
      rw [← take_succ' s k hlt] at hn
      have hb : numF (s.toList.take k) < 16777216 := by
        have h1 := numF_lt (s.toList.take k)
        have h2 : (s.toList.take k).length ≤ 3 := by have := List.length_take_le k s.toList; omega
        exact Nat.lt_of_lt_of_le h1 (Nat.pow_le_pow_right (n := 256) (by decide) h2)
      have hc : s[k].toNat < 256 := s[k].toNat_lt
      have Hn := Lib.hid hn
      clear hn
      generalize numF (s.toList.take k) = m at *
      generalize hm' : numF (s.toList.take (k + 1)) = m' at *
      have Hm := Lib.hid hm'
      clear hm'
      have e : bits .or .i64 ((m : Int) * 256) s[k].toNat = (m : Int) * 256 + s[k].toNat :=
        bits_join .i64 40 (by decide) (fun n h1 h2 => by rw [IntKind.wrap_i64]; omega) 8 _ _ (by omega) (by omega) (by omega) (by omega) (by omega) (by omega)
      have He := Lib.hid e
      clear e
      go_wp2
      go_round
      case rel => exact ⟨k + 1, by omega, by go_num, by rw [He.out, Hm.out, Hn.out]; congr 1; omega⟩
      case measure => simp [intOf]; omega
    · obtain rfl : k = s.size := by omega
      go_wp2
      go_ret
      refine ⟨ret_int ?_, rfl⟩
      rw [List.take_of_length_le (by rw [Hz.out]; exact Nat.le_refl _)]

/-- Blocks that are not rows of bytes stay as they are. -/
def KeepB (w w' : World) : Prop := ∀ b T cs, T ≠ 5 → Blk w b T cs → Blk w' b T cs
theorem KeepB.refl (w : World) : KeepB w w := fun _ _ _ _ h => h
theorem KeepB.trans {x y z : World} (h : KeepB x y) (k : KeepB y z) : KeepB x z := fun b T cs hT hb => k b T cs hT (h b T cs hT hb)
theorem KeepB.alloc {x y : World} (h : KeepB x y) (o : Obj) : KeepB x (y.alloc o) := fun b T cs hT hb => (h b T cs hT hb).alloc o
theorem own_blk_ne {w : World} {B : Nat} {v : Value} {n : Nat} {xs : List Value} {b : Nat} {T : TypeId} {cs : Array Value} (h : w.ownsRow B 5 1 v n xs) (hg : Blk w b T cs) (hne : T ≠ 5) : v.ownBlock ≠ some b := by
  rcases h.2 with ⟨rfl, _⟩ | ⟨g', cap, cur, rfl, _, hh, _⟩
  · simp [Value.ownBlock]
  · intro he
    have : g' = b := by simpa [Value.ownBlock] using he
    subst this
    unfold Blk at hg
    rw [hh] at hg
    injection hg with hg
    injection hg with _ ht
    exact hne ht.symm
theorem KeepB.grown {w w' : World} {B : Nat} {v : Value} {n : Nat} {xs : List Value} (h : w.ownsRow B 5 1 v n xs) (hg : w.grownBy w' v.ownBlock) : KeepB w w' := fun b T cs hT hb => by
  unfold Blk
  rw [hg.block b hb.lt (fun e => own_blk_ne h hb hT e.symm)]
  exact hb

set_option maxRecDepth 100000 in
set_option maxHeartbeats 400000 in
theorem appendNumber_w (B : Nat) (v : Value) (l : Bs) (n : Int) (k : Nat) (w : World) (hk : k ≤ 4) (hl : l.length ≤ 10) (ho : OwnB w B v l) (hB : B ≤ w.heap.size) (hn0 : 0 ≤ n) (hn : n < 4294967296) :
    Calls Try.prog 155 #[v, .int .i64 n, .int .i64 k] w fun e w' => ∃ v', e = .returned v' ∧ OwnB w' B v' (l ++ bytesN k n.toNat) ∧ Below B w w' ∧ KeepB w w' := by
  obtain ⟨n, rfl⟩ := Int.eq_ofNat_of_zero_le hn0
  rw [Int.toNat_natCast]
  obtain ⟨i0, hi, hz0, hz1, hz2⟩ := info_parts infoU8
  have Ho := Lib.hid ho
  clear ho hn0 hn
  go_enter Try.func155, Try.ntmps155
  go_wp2
  go_loopw [0, 7] (fun v0 sh wr => ∃ j : Nat, j ≤ k ∧ sh = .int .i64 (8 * ((k : Int) - 1 - j)) ∧ OwnB wr B v0 (l ++ (bytesN k n).take j) ∧ Below B w wr ∧ KeepB w wr) (fun _ sh _ => (8 + intOf sh).toNat)
  case atStart => exact ⟨0, Nat.zero_le _, by simp, by simpa using Ho.out, Below.refl _ _, KeepB.refl _⟩
  case round =>
    obtain ⟨j, hj, rfl, hown, hbel, hkp⟩ := hrel
    have Hkp := Lib.hid hkp
    clear hkp
    by_cases hlt : j < k
    · have hge : 0 ≤ 8 * ((k : Int) - 1 - j) := by omega
      have Hown := Lib.hid hown
      have Hbyte := Lib.hid (byte_of n k j hlt)
      have Htk := Lib.hid (bytesN_take k n j hlt)
      have hlen : ((bytesN k n).take j).length = j := by rw [List.length_take, bytesN_len]; omega
      have Hlen : Hid ((l ++ (bytesN k n).take j).length = l.length + j) := Lib.hid (by rw [List.length_append, hlen])
      have hBw := hbel.size
      have Hbel := Lib.hid hbel
      clear hown hbel hlen
      go_wp2_with (at_builtin; refine wpList_append_own _ rfl _ _ 22 rfl B 5 i0 (.int .u8 0) 1 1 Try.underlying22 hi hz0 hz1 hz2 rfl (by decide) _ _ _ rfl (Hown.out.alloc _) ⟨wr.heap.size, 0, none⟩ 1 1 [.int .u8 ((n : Int) / 2 ^ (8 * (k - 1 - j)) % 256)] rfl rfl (cells_new' _ _ _ (by simp)) (by intro u hu; simp at hu; rcases hu with rfl; rfl) (by rw [Hlen.out]; unfold maxLen; omega) (by rw [Hlen.out]; omega) (by simp; omega) ?_; intro v' w2 hown' hgrow _)
      have Hown' := Lib.hid hown'
      have Hb2 : Hid (Below B w w2) := Lib.hid (Below.grown (Hbel.out.alloc (Nat.le_trans hB hBw) _) hgrow (by simp; omega) (fun q hq => (Hown.out.lt q hq).1))
      have Hk2 : Hid (KeepB w w2) := Lib.hid ((Hkp.out.alloc _).trans (KeepB.grown (Hown.out.alloc _) hgrow))
      clear hown' hgrow
      go_wp2
      go_roundw
      case rel =>
        refine ⟨j + 1, by omega, by congr 1; omega, ?_, Hb2.out, Hk2.out⟩
        have h := Hown'.out
        rw [Hbyte.out] at h
        unfold OwnB
        rw [Htk.out, ← List.append_assoc, List.length_append, List.map_append]
        exact h
      case measure => simp [intOf]; omega
    · obtain rfl : j = k := by omega
      have hlt0 : 8 * ((j : Int) - 1 - j) < 0 := by omega
      have Hfin : Hid ((bytesN j n).take j = bytesN j n) := Lib.hid (List.take_of_length_le (by rw [bytesN_len]; exact Nat.le_refl _))
      have Hown := Lib.hid hown
      have Hbel := Lib.hid hbel
      clear hown hbel
      go_wp2
      go_ret
      exact ⟨_, rfl, by have h := Hown.out; rw [Hfin.out] at h; exact h, Hbel.out, Hkp.out⟩

end Go.Proofs.Yticlomakmcjcfaa
