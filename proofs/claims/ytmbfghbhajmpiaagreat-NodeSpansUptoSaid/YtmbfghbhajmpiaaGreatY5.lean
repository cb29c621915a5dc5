/-
  Walks: the reader of nodes: parts, numbers, texts. Walks: the reader of nodes: pairs, bounds, messages.
-/
import Derived.Test.YtmbfghbhajmpiaaGreatY4
import Derived.Test.YtmbfghbhajmpiaaGreatYJ
namespace Go.Proofs.YtmbfghbhajmpiaaGreat
open Go.RowKit Go.Sort
set_option linter.unusedVariables false

/-- Nothing but block b, and what is new, has changed. -/
structure But (b : Nat) (w w' : World) : Prop where
  os : w'.os = w.os
  tape : w'.tape = w.tape
  output : w'.output = w.output
  size : w.heap.size ≤ w'.heap.size
  block : ∀ k, k < w.heap.size → k ≠ b → w'.heap[k]? = w.heap[k]?
theorem But.refl (b : Nat) (w : World) : But b w w := ⟨rfl, rfl, rfl, Nat.le_refl _, fun _ _ _ => rfl⟩
theorem But.trans {b : Nat} {x y z : World} (h : But b x y) (k : But b y z) : But b x z :=
  ⟨k.os.trans h.os, k.tape.trans h.tape, k.output.trans h.output, Nat.le_trans h.size k.size, fun i hi hb => (k.block i (Nat.lt_of_lt_of_le hi h.size) hb).trans (h.block i hi hb)⟩
theorem But.setCell (b i : Nat) (v : Value) (w : World) : But b w (w.setCell ⟨b, i, none⟩ v) :=
  ⟨rfl, rfl, rfl, by simp [World.setCell], fun k _ hk => Below.heap_setCell _ _ _ _ hk⟩
theorem But.of {b : Nat} {w w' : World} (h : Below w.heap.size w w') : But b w w' := ⟨h.os, h.tape, h.output, h.size, fun k hk _ => h.block k hk⟩
theorem But.only {b : Nat} {w w' : World} (h : Only b w w') : But b w w' := ⟨h.os, h.tape, h.output, Nat.le_of_eq h.size.symm, fun k _ hk => h.block k hk⟩
theorem But.below {b B : Nat} {w w' : World} (h : But b w w') (hB : B ≤ b) (hs : b < w.heap.size) : Below B w w' :=
  ⟨h.os, h.tape, h.output, h.size, fun k hk => h.block k (by omega) (by omega)⟩
theorem But.blk {b c : Nat} {w w' : World} {T : TypeId} {cs : Array Value} (h : But b w w') (hc : Blk w c T cs) (hne : c ≠ b) : Blk w' c T cs := by
  unfold Blk; rw [h.block c hc.lt hne]; exact hc
/-- A store into a block that was not there. -/
theorem But.put {b c i : Nat} {v : Value} {x y : World} (h : But b x y) (hc : x.heap.size ≤ c) : But b x (y.setCell ⟨c, i, none⟩ v) :=
  ⟨h.os, h.tape, h.output, by have := h.size; simp only [World.setCell, Array.size_modify]; exact this, fun k hk hb => by rw [Below.heap_setCell _ _ _ _ (show k ≠ c by omega)]; exact h.block k hk hb⟩
theorem But.alloc {b : Nat} {x y : World} (h : But b x y) (o : Obj) : But b x (y.alloc o) := h.trans (But.of (below_box o))

/-- Bytes that lie below block C. -/
def InB (C : Nat) (w : World) (v : Value) (l : Bs) : Prop :=
  ∃ a cap, v = .slice a l.length cap ∧ l.length ≤ cap ∧ cap ≤ maxLen ∧ (l ≠ [] → ∃ b off, a = some ⟨b, off, none⟩ ∧ b < C ∧ b < w.heap.size ∧ ∀ i (h : i < l.length), w.cell? ⟨b, off + i, none⟩ = some (.int .u8 (l[i].toNat)))
theorem InB.is {C : Nat} {w : World} {v : Value} {l : Bs} (h : InB C w v l) : IsBytes w v l := by
  obtain ⟨a, cap, h1, h2, h3, h4⟩ := h
  exact ⟨a, cap, h1, h2, h3, fun hl => by obtain ⟨b, off, e, _, hlt, hc⟩ := h4 hl; exact ⟨b, off, e, hlt, hc⟩⟩
theorem IsBytes.inB {w : World} {v : Value} {l : Bs} (h : IsBytes w v l) {C : Nat} (hC : w.heap.size ≤ C) : InB C w v l := by
  obtain ⟨a, cap, h1, h2, h3, h4⟩ := h
  exact ⟨a, cap, h1, h2, h3, fun hl => by obtain ⟨b, off, e, hlt, hc⟩ := h4 hl; exact ⟨b, off, e, Nat.lt_of_lt_of_le hlt hC, hlt, hc⟩⟩
theorem InB.nil (C : Nat) (w : World) : InB C w (.slice none 0 0) [] := ⟨none, 0, rfl, Nat.le_refl _, by unfold maxLen; omega, fun h => absurd rfl h⟩
theorem InB.below {C : Nat} {w w' : World} {v : Value} {l : Bs} (h : InB C w v l) (hb : Below C w w') : InB C w' v l := by
  obtain ⟨a, cap, h1, h2, h3, h4⟩ := h
  refine ⟨a, cap, h1, h2, h3, fun hl => ?_⟩
  obtain ⟨b, off, e, hC, hlt, hc⟩ := h4 hl
  exact ⟨b, off, e, hC, Nat.lt_of_lt_of_le hlt hb.size, fun i hi => by rw [hb.cell (by exact hC)]; exact hc i hi⟩
theorem addr_add (b off k : Nat) : (⟨b, off, none⟩ : Addr).add k = ⟨b, off + k, none⟩ := by unfold Addr.add; split <;> simp_all
theorem InB.sliced {C : Nat} {w : World} {a : Option Addr} {n cap : Nat} {l : Bs} (h : InB C w (.slice a n cap) l) (lo hi : Nat) (h1 : lo ≤ hi) (h2 : hi ≤ l.length) :
    InB C w (sliced a lo hi cap 1) ((l.take hi).drop lo) := by
  obtain ⟨a', cap', e, hlc, hcm, hc⟩ := id h
  obtain ⟨a2, cap2, e2, k1, k2, k3⟩ := h.is.sliced lo hi h1 h2
  cases e
  refine ⟨a2, cap2, e2, k1, k2, fun hne => ?_⟩
  obtain ⟨b, off, rfl, hb, hcell⟩ := k3 hne
  obtain ⟨b0, off0, rfl, hC, -, -⟩ := hc (by rintro rfl; simp at hne)
  refine ⟨b, off, rfl, ?_, hb, hcell⟩
  have hlt : lo < hi := by
    rcases Nat.lt_or_ge lo hi with h | h
    · exact h
    · exfalso; apply hne; apply List.length_eq_zero_iff.1; rw [List.length_drop, List.length_take]; omega
  unfold Go.sliced at e2
  injection e2 with e3 e4 e5
  have hadd := addr_add b0 off0 lo
  split at e3
  · cases e3
    exact hC
  · simp [hadd] at e3
    rw [← e3.1]; exact hC

/-- The reader of nodes that block rb is. -/
def RdN (C : Nat) (w : World) (rb : Nat) (s : RS) : Prop := C ≤ rb ∧ ∃ p n c, Blk w rb 123 #[.slice p n c, .bool s.2] ∧ InB C w (.slice p n c) s.1
theorem RdN.lt {C : Nat} {w : World} {rb : Nat} {s : RS} (h : RdN C w rb s) : rb < w.heap.size := by
  obtain ⟨_, p, n, c, hb, _⟩ := h; exact hb.lt
theorem RdN.below {C B : Nat} {w w' : World} {rb : Nat} {s : RS} (h : RdN C w rb s) (hB : rb < B) (hb : Below B w w') : RdN C w' rb s := by
  obtain ⟨h0, p, n, c, h1, h2⟩ := h
  exact ⟨h0, p, n, c, h1.below hb hB, h2.below (hb.mono (by omega))⟩
def TakeN (C rb : Nat) (w : World) (x : Bs × RS) (e : Ending) (w' : World) : Prop := ∃ v, e = .returned v ∧ InB C w' v x.1 ∧ RdN C w' rb x.2 ∧ But rb w w'

set_option maxRecDepth 100000 in
set_option maxHeartbeats 2000000 in
theorem ntake_w (C rb k : Nat) (s : RS) (w : World) (h : RdN C w rb s) (hk : k ≤ 9223372036854775807) : Calls Tryz.prog 190 #[ptrV rb, .int .i64 k] w (TakeN C rb w (takeP k s)) := by
  obtain ⟨l, sh⟩ := s
  obtain ⟨hC, p, n, c, hb, hl⟩ := h
  simp only at hb hl
  have HB := Lib.hid hb
  have HL := Lib.hid hl
  obtain ⟨a', cap', he, hlc, hcm, -⟩ := id hl
  cases he
  have hcm' := hcm
  unfold maxLen at hcm
  have c0 : w.cell? ⟨rb, 0, none⟩ = some (.slice p l.length c) := hb.c0 0 _ rfl
  have c1 : w.cell? ⟨rb, 1, none⟩ = some (.bool sh) := hb.c0 1 _ rfl
  have f0 := hb.free 0
  have f1 := hb.free 1
  clear hb hl
  by_cases hlt : l.length < k
  · have hltz : (l.length : Int) < (k : Int) := by omega
    have H : Hid (takeP k (l, sh) = ([], (l, true))) := Lib.hid (by unfold takeP; rw [if_pos (by exact hlt)])
    go_enter Tryz.func190, Tryz.ntmps190
    go_wp2
    go_ret
    rw [H.out]
    exact ⟨_, rfl, InB.nil _ _, ⟨hC, p, l.length, c, HB.out.setCell 1 (.bool true), HL.out.below ((But.setCell rb 1 (.bool true) w).below hC HB.out.lt)⟩, But.setCell _ _ _ _⟩
  · have hkl : k ≤ l.length := by omega
    have hltz : ¬ (l.length : Int) < (k : Int) := by omega
    have H : Hid (takeP k (l, sh) = (l.take k, (l.drop k, sh))) := Lib.hid (by unfold takeP; rw [if_neg (by exact hlt)])
    obtain ⟨p1, m1, c1', hV1⟩ : ∃ p1 m1 c1, Value.slice p1 m1 c1 = sliced p 0 k c 1 := ⟨_, _, _, rfl⟩
    obtain ⟨p2, m2, c2', hV2⟩ : ∃ p2 m2 c2, Value.slice p2 m2 c2 = sliced p k l.length c 1 := ⟨_, _, _, rfl⟩
    have hs1 := bslice_h p l.length c k (by omega) hcm'
    have hs2 := bslice_l p l.length c k hkl
    rw [← hV1] at hs1
    rw [← hV2] at hs2
    have HV1 : Hid (InB C w (.slice p1 m1 c1') (l.take k)) := Lib.hid (by rw [hV1]; have := HL.out.sliced 0 k (Nat.zero_le _) hkl; simpa using this)
    have HV2 : Hid (InB C w (.slice p2 m2 c2') (l.drop k)) := Lib.hid (by rw [hV2]; have := HL.out.sliced k l.length hkl (Nat.le_refl _); rwa [List.take_length] at this)
    clear hV1 hV2 hlt hcm'
    go_enter Tryz.func190, Tryz.ntmps190
    go_wp2
    go_ret
    rw [H.out]
    exact ⟨_, rfl, HV1.out.below ((But.setCell rb 0 _ w).below hC HB.out.lt), ⟨hC, p2, m2, c2', HB.out.setCell 0 (.slice p2 m2 c2'), HV2.out.below ((But.setCell rb 0 _ w).below hC HB.out.lt)⟩, But.setCell _ _ _ _⟩

/-- A number of at most eight bytes. -/
def numW (k : Nat) (s : RS) : Int × RS := (IntKind.i64.wrap ((numF (takeP k s).1 : Nat) : Int), (takeP k s).2)
theorem wrap_step (m c : Int) : wrap64 (wrap64 m * 256 + c) = wrap64 (256 * m + c) := by unfold wrap64; omega
theorem wrap_mod (n : Int) : (wrap64 n) % 18446744073709551616 = n % 18446744073709551616 := by unfold wrap64; omega
theorem wrap_of_mod (a b : Int) (h : a % 18446744073709551616 = b % 18446744073709551616) : wrap64 a = wrap64 b := by unfold wrap64; omega
theorem toNat_ofI (n : Int) : (((BitVec.ofInt 64 n).toNat : Nat) : Int) = n % 18446744073709551616 := by
  rw [BitVec.toNat_ofInt, Int.toNat_of_nonneg (Int.emod_nonneg _ (by decide))]; rfl
theorem mul_div (x : Nat) (z : Int) (h : (x : Int) = (z * 256) % 18446744073709551616) : x = 2 ^ 8 * (x / 2 ^ 8) := by omega
theorem orW (z : Int) (c : UInt8) : bits .or .i64 (wrap64 (z * 256)) ((c.toNat : Nat) : Int) = wrap64 (z * 256 + ((c.toNat : Nat) : Int)) := by
  have hc : c.toNat < 2 ^ 8 := c.toNat_lt
  have h2 : (BitVec.ofInt 64 ((c.toNat : Nat) : Int)).toNat = c.toNat := by
    rw [BitVec.ofInt_natCast, BitVec.toNat_ofNat]; exact Nat.mod_eq_of_lt (Nat.lt_of_lt_of_le hc (by decide))
  have h3 := toNat_ofI (wrap64 (z * 256))
  rw [wrap_mod] at h3
  have hq := mul_div _ _ h3
  show IntKind.i64.wrap ((BitVec.ofInt 64 (wrap64 (z * 256)) ||| BitVec.ofInt 64 ((c.toNat : Nat) : Int)).toNat : Int) = _
  rw [BitVec.toNat_or, h2, hq, ← Nat.two_pow_add_eq_or_of_lt hc, ← hq, IntWalk.i64_left]
  apply wrap_of_mod
  rw [Int.natCast_add, h3]
  exact Int.emod_add_emod _ _ _

set_option maxRecDepth 100000 in
set_option maxHeartbeats 2000000 in
theorem nnumber_w (C rb k : Nat) (s : RS) (w : World) (h : RdN C w rb s) (hk : k ≤ 8) : Calls Tryz.prog 148 #[ptrV rb, .int .i64 k] w fun e w' => e = .returned (.int .i64 (numW k s).1) ∧ RdN C w' rb (numW k s).2 ∧ But rb w w' := by
  have HT := Lib.hid (ntake_w C rb k s w h (by omega))
  have hlen := takeP_len k s
  have H1 : Hid ((numW k s).1 = IntKind.i64.wrap ((numF (takeP k s).1 : Nat) : Int)) := Lib.hid rfl
  have H2 : Hid ((numW k s).2 = (takeP k s).2) := Lib.hid rfl
  clear h
  generalize takeP k s = r at *
  obtain ⟨l, s2⟩ := r
  simp only at hlen H1 H2
  go_enter Tryz.func148, Tryz.ntmps148
  go_wp2_with fail
  refine HT.out.mono ?_
  rintro e w1 ⟨v, rfl, hv, hr, ho⟩
  simp only at hv hr
  have HC := Lib.hid hv.is
  obtain ⟨p, cap, rfl, hlc, hcm, -⟩ := hv
  unfold maxLen at hcm
  have HR := Lib.hid hr
  have HO := Lib.hid ho
  clear hr ho HT
  go_wp2
  go_loop [5, 12] (fun x i => ∃ (j : Nat) (z : Int), j ≤ l.length ∧ i = .int .i64 j ∧ x = .int .i64 z ∧ Hid (z = wrap64 ((numF (l.take j) : Nat) : Int))) (fun _ i => l.length - (intOf i).toNat)
  case atStart => exact ⟨0, 0, Nat.zero_le _, rfl, rfl, Lib.hid (by simp [numF, wrap64])⟩
  case round =>
    obtain ⟨j, z, hj, rfl, rfl, hz⟩ := hrel
    by_cases hlt : j < l.length
    · obtain ⟨bb, off, cap', he, hbl, hlz, c0⟩ := at_byte HC.out j hlt
      injection he with he1 he2 he3
      subst he1 he3
      clear he2
      have hltz : (j : Int) < (l.length : Int) := by omega
      have hn := numF_snoc (l.take j) l[j]
      rw [← take_nat l j hlt] at hn
      have hc : l[j].toNat < 256 := l[j].toNat_lt
      have Hn := Lib.hid hn
      clear hn
      generalize l[j] = x at *
      have Hz2 : Hid (wrap64 (z * 256 + ((x.toNat : Nat) : Int)) = wrap64 ((numF (l.take (j + 1)) : Nat) : Int)) := Lib.hid (by rw [hz.out, Hn.out, wrap_step, Int.natCast_add, Int.natCast_mul]; rfl)
      have He := Lib.hid (orW z x)
      clear hz
      go_wp2
      go_round
      case rel => exact ⟨j + 1, _, by omega, by go_num, by rw [He.out], Hz2⟩
      case measure => simp [intOf]; omega
    · obtain rfl : j = l.length := by omega
      rw [List.take_length] at hz
      go_wp2
      go_ret
      exact ⟨ret_int (by rw [H1.out, hz.out, IntWalk.i64_left]), by rw [H2.out]; exact HR.out, HO.out⟩

theorem numF_small (k : Nat) (s : RS) (hk : k ≤ 4) : numF (takeP k s).1 < 4294967296 := by
  have h := numF_lt (takeP k s).1
  have h2 := takeP_len k s
  exact Nat.lt_of_lt_of_le h (Nat.pow_le_pow_right (n := 256) (by decide) (show (takeP k s).1.length ≤ 4 by omega))
theorem numW_small (k : Nat) (s : RS) (hk : k ≤ 4) : numW k s = ((((numP k s).1 : Nat) : Int), (numP k s).2) := by
  have h := numF_small k s hk
  unfold numW numP
  simp only
  rw [IntWalk.i64_in _ (by omega)]
theorem nnum_w (C rb k : Nat) (s : RS) (w : World) (h : RdN C w rb s) (hk : k ≤ 4) : Calls Tryz.prog 148 #[ptrV rb, .int .i64 k] w fun e w' => e = .returned (.int .i64 ((numP k s).1 : Nat)) ∧ RdN C w' rb (numP k s).2 ∧ But rb w w' :=
  (nnumber_w C rb k s w h (by omega)).mono fun e w' h2 => by rw [numW_small k s hk] at h2; exact h2
set_option maxHeartbeats 1000000 in
theorem ncount_w (C rb : Nat) (s : RS) (w : World) (h : RdN C w rb s) : Calls Tryz.prog 150 #[ptrV rb] w fun e w' => e = .returned (.int .i64 (num4 s).1) ∧ RdN C w' rb (num4 s).2 ∧ But rb w w' := by
  have HN : Hid (Calls Tryz.prog 148 #[ptrV rb, .int .i64 4] w fun e w' => e = .returned (.int .i64 (num4 s).1) ∧ RdN C w' rb (num4 s).2 ∧ But rb w w') := Lib.hid (nnum_w C rb 4 s w h (by omega))
  generalize num4 s = r at *
  clear h
  go_enter Tryz.func150, Tryz.ntmps150
  go_wp2_with fail
  refine HN.out.mono ?_
  rintro e w1 ⟨rfl, hr, ho⟩
  have HR := Lib.hid hr
  have HO := Lib.hid ho
  clear hr ho HN
  go_wp2
  go_ret
  exact ⟨rfl, HR.out, HO.out⟩
set_option maxRecDepth 100000 in
set_option maxHeartbeats 1000000 in
theorem ntext_w (C rb : Nat) (s : RS) (w : World) (h : RdN C w rb s) : Calls Tryz.prog 191 #[ptrV rb] w fun e w' => e = .returned (.string (Str (textP s).1)) ∧ RdN C w' rb (textP s).2 ∧ But rb w w' := by
  have HN : Hid (Calls Tryz.prog 148 #[ptrV rb, .int .i64 2] w fun e w' => e = .returned (.int .i64 ((numP 2 s).1 : Nat)) ∧ RdN C w' rb (numP 2 s).2 ∧ But rb w w') := Lib.hid (nnum_w C rb 2 s w h (by omega))
  have hlt := numP2_lt s
  have H : Hid (textP s = takeP (numP 2 s).1 (numP 2 s).2) := Lib.hid rfl
  clear h
  generalize textP s = r at *
  generalize numP 2 s = q at *
  obtain ⟨n, s2⟩ := q
  simp only at HN H hlt
  go_enter Tryz.func191, Tryz.ntmps191
  go_wp2_with fail
  refine HN.out.mono ?_
  rintro e w1 ⟨rfl, hr, ho⟩
  have HO := Lib.hid ho
  have HR := Lib.hid hr
  clear hr ho HN
  go_wp2_with fail
  refine (ntake_w C rb n s2 w1 HR.out (by omega)).mono ?_
  rintro e w2 ⟨v, rfl, hv, hr, ho⟩
  have hcv := conv_bytes hv.is
  have HR2 := Lib.hid hr
  have HO2 := Lib.hid (HO.out.trans ho)
  clear hv hr ho
  go_wp2
  go_ret
  rw [H.out]
  exact ⟨rfl, HR2.out, HO2.out⟩

/-- What a reader of one thing does: the thing comes back, the reader goes on. -/
def NextOut {α : Type} (C rb : Nat) (f : RS → α × RS) (val : α → Value) (s : RS) (w : World) (e : Ending) (w' : World) : Prop := e = .returned (val (f s).1) ∧ RdN C w' rb (f s).2 ∧ But rb w w'
def prV (p : Pr) : Value := .agg #[.string (Str p.1), .string (Str p.2.1), .int .i64 p.2.2]
theorem RdN.alloc {C : Nat} {w : World} {rb : Nat} {s : RS} (h : RdN C w rb s) (o : Obj) : RdN C (w.alloc o) rb s := h.below h.lt (below_box o)
theorem RdN.put {C : Nat} {w : World} {rb c i : Nat} {v : Value} {s : RS} (h : RdN C w rb s) (hc : rb < c) : RdN C (w.setCell ⟨c, i, none⟩ v) rb s :=
  h.below (B := rb + 1) (Nat.lt_succ_self _) ((Below.refl (rb + 1) w).setCell (p := ⟨c, i, none⟩) hc v)
theorem RdN.drew {C : Nat} {w : World} {rb : Nat} {s : RS} (h : RdN C w rb s) : RdN C w.drew rb s := h.below h.lt (below_drewN w 1)
theorem But.drew {b : Nat} {x y : World} (h : But b x y) : But b x y.drew := h.trans (But.of (below_drewN y 1))

end Go.Proofs.YtmbfghbhajmpiaaGreat
namespace Go.Proofs.YtmbfghbhajmpiaaGreat
open Go.RowKit Go.Sort
set_option linter.unusedVariables false

set_option maxRecDepth 100000 in
set_option maxHeartbeats 1000000 in
theorem npair_w (C rb : Nat) (s : RS) (w : World) (h : RdN C w rb s) : Calls Tryz.prog 151 #[ptrV rb] w (NextOut C rb pairR prV s w) := by
  have hrl := h.lt
  have HD := Lib.hid (h.alloc (.cells #[.string ⟨#[]⟩, .string ⟨#[]⟩, .int .i64 0] 48))
  have HX : Hid (Blk (w.alloc (.cells #[.string ⟨#[]⟩, .string ⟨#[]⟩, .int .i64 0] 48)) w.heap.size 48 #[.string ⟨#[]⟩, .string ⟨#[]⟩, .int .i64 0]) := Lib.hid (Blk.new _ _ _)
  have H : Hid (pairR s = (((textP s).1, (textP (textP s).2).1, (num4 (textP (textP s).2).2).1), (num4 (textP (textP s).2).2).2)) := Lib.hid rfl
  clear h
  go_enter Tryz.func151, Tryz.ntmps151
  go_wp2_with fail
  refine (ntext_w C rb s _ HD.out).mono ?_
  generalize textP s = r1 at *
  obtain ⟨t1, s1⟩ := r1
  simp only at H
  rintro e w1 ⟨rfl, hr, ho⟩
  have HD1 := Lib.hid hr
  have HO1 : Hid (But rb w w1) := Lib.hid (((But.refl rb w).alloc _).trans ho)
  have HX1 := Lib.hid (ho.blk HX.out (by omega))
  clear hr ho HD HX
  go_wp2_with fail
  refine (ntext_w C rb s1 _ HD1.out).mono ?_
  generalize textP s1 = r2 at *
  obtain ⟨t2, s2⟩ := r2
  simp only at H
  rintro e w2 ⟨rfl, hr, ho⟩
  have HD2 := Lib.hid hr
  have HO2 := Lib.hid (HO1.out.trans ho)
  have HX2 := Lib.hid (ho.blk HX1.out (by omega))
  clear hr ho HD1 HX1 HO1
  go_wp2_with fail
  refine (ncount_w C rb s2 _ HD2.out).mono ?_
  generalize num4 s2 = r3 at *
  obtain ⟨t3, s3⟩ := r3
  simp only at H
  rintro e w3 ⟨rfl, hr, ho⟩
  have HD3 := Lib.hid hr
  have HO3 := Lib.hid (HO2.out.trans ho)
  have HX3 := Lib.hid (ho.blk HX2.out (by omega))
  clear hr ho HD2 HX2 HO2
  have hb := HX3.out
  have x0 := hb.c0 0 _ rfl
  have x1 := hb.c0 1 _ rfl
  have x2 := hb.c0 2 _ rfl
  have y0 := hb.free 0
  have y1 := hb.free 1
  have y2 := hb.free 2
  have hlt := hb.lt
  simp at x0 x1 x2
  clear hb
  go_wp2
  refine bodyPost_ret (v := prV (t1, t2, t3)) (by simp [results, Tryz.results151, go_sem, x0, x1, x2, prV]) rfl ?_
  rw [NextOut, H.out]
  refine ⟨rfl, ?_, ?_⟩
  · exact ((HD3.out.put hrl).put hrl).put hrl
  · exact ((HO3.out.put (Nat.le_refl _)).put (Nat.le_refl _)).put (Nat.le_refl _)

def rgV (r : Rg) : Value := .agg #[.int .i64 r.1, .int .i64 r.2]
theorem nnum8_w (C rb : Nat) (s : RS) (w : World) (h : RdN C w rb s) : Calls Tryz.prog 148 #[ptrV rb, .int .i64 8] w fun e w' => e = .returned (.int .i64 (num8 s).1) ∧ RdN C w' rb (num8 s).2 ∧ But rb w w' := nnumber_w C rb 8 s w h (by omega)
set_option maxRecDepth 100000 in
set_option maxHeartbeats 1000000 in
theorem nbounds_w (C rb : Nat) (s : RS) (w : World) (h : RdN C w rb s) : Calls Tryz.prog 218 #[ptrV rb] w (NextOut C rb boundR rgV s w) := by
  have hrl := h.lt
  have HD := Lib.hid (h.alloc (.cells #[.int .i64 0, .int .i64 0] 50))
  have HX : Hid (Blk (w.alloc (.cells #[.int .i64 0, .int .i64 0] 50)) w.heap.size 50 #[.int .i64 0, .int .i64 0]) := Lib.hid (Blk.new _ _ _)
  have H : Hid (boundR s = (((num8 s).1, (num8 (num8 s).2).1), (num8 (num8 s).2).2)) := Lib.hid rfl
  clear h
  go_enter Tryz.func218, Tryz.ntmps218
  go_wp2_with fail
  refine (nnum8_w C rb s _ HD.out).mono ?_
  generalize num8 s = r1 at *
  obtain ⟨t1, s1⟩ := r1
  simp only at H
  rintro e w1 ⟨rfl, hr, ho⟩
  have HD1 := Lib.hid hr
  have HO1 : Hid (But rb w w1) := Lib.hid (((But.refl rb w).alloc _).trans ho)
  have HX1 := Lib.hid (ho.blk HX.out (by omega))
  clear hr ho HD HX
  go_wp2_with fail
  refine (nnum8_w C rb s1 _ HD1.out).mono ?_
  generalize num8 s1 = r2 at *
  obtain ⟨t2, s2⟩ := r2
  simp only at H
  rintro e w2 ⟨rfl, hr, ho⟩
  have HD2 := Lib.hid hr
  have HO2 := Lib.hid (HO1.out.trans ho)
  have HX2 := Lib.hid (ho.blk HX1.out (by omega))
  clear hr ho HD1 HX1 HO1
  have hb := HX2.out
  have x0 := hb.c0 0 _ rfl
  have x1 := hb.c0 1 _ rfl
  have y0 := hb.free 0
  have y1 := hb.free 1
  have hlt := hb.lt
  simp at x0 x1
  clear hb
  go_wp2
  refine bodyPost_ret (v := rgV (t1, t2)) (by simp [results, Tryz.results218, go_sem, x0, x1, rgV]) rfl ?_
  rw [NextOut, H.out]
  refine ⟨rfl, ?_, ?_⟩
  · exact (HD2.out.put hrl).put hrl
  · exact (HO2.out.put (Nat.le_refl _)).put (Nat.le_refl _)

set_option maxRecDepth 100000 in
set_option maxHeartbeats 4000000 in
theorem nsum_w (C rb : Nat) (s : RS) (w : World) (h : RdN C w rb s) : Calls Tryz.prog 195 #[ptrV rb] w (NextOut C rb sumR smV s w) := by
  have hrl := h.lt
  have HD := Lib.hid (h.alloc (.cells #[.int .i64 0, .int .i64 0, .int .i64 0, .int .i64 0] 52))
  have HX : Hid (Blk (w.alloc (.cells #[.int .i64 0, .int .i64 0, .int .i64 0, .int .i64 0] 52)) w.heap.size 52 #[.int .i64 0, .int .i64 0, .int .i64 0, .int .i64 0]) := Lib.hid (Blk.new _ _ _)
  have H : Hid (sumR s = (((boundR s).1, (boundR (boundR s).2).1), (boundR (boundR s).2).2)) := Lib.hid rfl
  clear h
  go_enter Tryz.func195, Tryz.ntmps195
  go_wp2_with fail
  refine (nbounds_w C rb s _ HD.out).mono ?_
  unfold NextOut rgV
  generalize boundR s = r1 at *
  obtain ⟨⟨ta, tb⟩, s1⟩ := r1
  simp only at H
  rintro e w1 ⟨rfl, hr, ho⟩
  have HD1 := Lib.hid (hr.alloc (.cells #[.int .i64 ta, .int .i64 tb] 50))
  have HO1 : Hid (But rb w w1) := Lib.hid (((But.refl rb w).alloc _).trans ho)
  have HX1 := Lib.hid ((ho.blk HX.out (by omega)).alloc (.cells #[.int .i64 ta, .int .i64 tb] 50))
  have HY1 : Hid (Blk (w1.alloc (.cells #[.int .i64 ta, .int .i64 tb] 50)) w1.heap.size 50 #[.int .i64 ta, .int .i64 tb]) := Lib.hid (Blk.new _ _ _)
  have hs1 : w.heap.size < w1.heap.size := (ho.blk HX.out (by omega)).lt
  clear hr ho HD HX
  go_wp2_with fail
  go_region_with (go_at_call 218; refine (nbounds_w C rb s1 _ HD1.out.drew).mono ?_; unfold NextOut rgV; rintro e w2 ⟨rfl, hr2, ho2⟩; have HD2 := Lib.hid hr2; have HO2 := Lib.hid ((HO1.out.alloc (.cells #[.int .i64 ta, .int .i64 tb] 50)).drew.trans ho2); have hX2 := ho2.blk (HX1.out.drewN 1) (by omega); have hY2 := ho2.blk (HY1.out.drewN 1) (by omega); have x0 := hX2.c0 0 _ rfl; have x1 := hX2.c0 1 _ rfl; have x2 := hX2.c0 2 _ rfl; have x3 := hX2.c0 3 _ rfl; have f0 := hX2.free 0; have f1 := hX2.free 1; have f2 := hX2.free 2; have f3 := hX2.free 3; have y0 := hY2.c0 0 _ rfl; have y1 := hY2.c0 1 _ rfl; simp at x0 x1 x2 x3 y0 y1; clear hr2 ho2 hX2 hY2)
  all_goals
    go_wp2
    refine bodyPost_ret (v := smV ((ta, tb), (boundR s1).1)) (by simp [results, Tryz.results195, go_sem, x0, x1, x2, x3]) rfl ?_
    rw [NextOut, H.out]
    refine ⟨rfl, ?_, ?_⟩
    · exact (((HD2.out.put hrl).put hrl).put hrl).put hrl
    · exact (((HO2.out.put (Nat.le_refl _)).put (Nat.le_refl _)).put (Nat.le_refl _)).put (Nat.le_refl _)

theorem MBlkF {w : World} {b : Nat} {T : TypeId} {cs : Array Value} (h : Blk w b T cs) :
    w.frozen? ⟨b, 0, none⟩ = false ∧ w.frozen? ⟨b, 1, none⟩ = false ∧ w.frozen? ⟨b, 2, none⟩ = false ∧ w.frozen? ⟨b, 3, none⟩ = false ∧ w.frozen? ⟨b, 4, none⟩ = false ∧ w.frozen? ⟨b, 5, none⟩ = false ∧ w.frozen? ⟨b, 6, none⟩ = false ∧ w.frozen? ⟨b, 7, none⟩ = false :=
  ⟨h.free 0, h.free 1, h.free 2, h.free 3, h.free 4, h.free 5, h.free 6, h.free 7⟩
theorem eight_ok {w : World} {b : Nat} {T : TypeId} {x0 x1 x2 x3 x4 x5 x6 x7 : Value} (h : Blk w b T #[x0, x1, x2, x3, x4, x5, x6, x7]) :
    w.cell? ⟨b, 0, none⟩ = some x0 ∧ w.cell? ⟨b, 1, none⟩ = some x1 ∧ w.cell? ⟨b, 2, none⟩ = some x2 ∧ w.cell? ⟨b, 3, none⟩ = some x3 ∧ w.cell? ⟨b, 4, none⟩ = some x4 ∧ w.cell? ⟨b, 5, none⟩ = some x5 ∧ w.cell? ⟨b, 6, none⟩ = some x6 ∧ w.cell? ⟨b, 7, none⟩ = some x7 :=
  ⟨h.c0 0 _ rfl, h.c0 1 _ rfl, h.c0 2 _ rfl, h.c0 3 _ rfl, h.c0 4 _ rfl, h.c0 5 _ rfl, h.c0 6 _ rfl, h.c0 7 _ rfl⟩
set_option maxRecDepth 100000 in
set_option maxHeartbeats 4000000 in
theorem nmessage_w (C rb : Nat) (s : RS) (w : World) (h : RdN C w rb s) : Calls Tryz.prog 197 #[ptrV rb] w (NextOut C rb msgR msgV s w) := by
  have hrl := h.lt
  obtain ⟨l, sh⟩ := s
  obtain ⟨W1, hW1⟩ : ∃ W1, W1 = w.alloc (.cells #[.int .i64 0, .string ⟨#[]⟩, .string ⟨#[]⟩, .string ⟨#[]⟩, .string ⟨#[]⟩, .string ⟨#[]⟩, .string ⟨#[]⟩, .int .i64 0] 46) := ⟨_, rfl⟩
  have HD : Hid (RdN C W1 rb (l, sh)) := Lib.hid (by rw [hW1]; exact h.alloc _)
  have HX : Hid (Blk W1 w.heap.size 46 #[.int .i64 0, .string ⟨#[]⟩, .string ⟨#[]⟩, .string ⟨#[]⟩, .string ⟨#[]⟩, .string ⟨#[]⟩, .string ⟨#[]⟩, .int .i64 0]) := Lib.hid (by rw [hW1]; exact Blk.new _ _ _)
  have HO : Hid (But rb w W1) := Lib.hid (by rw [hW1]; exact (But.refl rb w).alloc _)
  have HW1 := Lib.hid hW1
  have hbw : Below w.heap.size w W1 := by rw [hW1]; exact below_box _
  obtain ⟨hC, p, n, c, hb, hl⟩ := h
  simp only at hb hl
  have c0 := hb.c0 0 _ rfl
  simp at c0
  have HP := Lib.hid (parse_w (.slice p n c) l W1 (hl.is.below hbw))
  obtain ⟨a', cap', he, hlc, hcm, -⟩ := hl
  cases he
  unfold maxLen at hcm
  clear hb hW1 hbw
  cases hp : parseS l with
  | none =>
    have H : Hid (msgR (l, sh) = (zeroM 0, (l, true))) := Lib.hid (by unfold msgR; simp only; rw [hp])
    have e : parseV l = .tuple #[.agg #[.int .i64 0, .string ⟨#[]⟩, .string ⟨#[]⟩, .string ⟨#[]⟩, .string ⟨#[]⟩, .string ⟨#[]⟩, .string ⟨#[]⟩, .int .i64 0], .int .i64 0, .int .i64 3] := by unfold parseV; rw [hp]; rfl
    rw [e] at HP
    clear hp e
    go_enter Tryz.func197, Tryz.ntmps197
    go_wp2_with fail
    rw [← HW1.out]
    refine HP.out.mono ?_
    rintro e w2 ⟨rfl, hbel⟩
    have hX2 := (HX.out.below hbel HX.out.lt).alloc (.cells #[.int .i64 0, .string ⟨#[]⟩, .string ⟨#[]⟩, .string ⟨#[]⟩, .string ⟨#[]⟩, .string ⟨#[]⟩, .string ⟨#[]⟩, .int .i64 0] 46)
    have hD2 := (HD.out.below HD.out.lt hbel).alloc (.cells #[.int .i64 0, .string ⟨#[]⟩, .string ⟨#[]⟩, .string ⟨#[]⟩, .string ⟨#[]⟩, .string ⟨#[]⟩, .string ⟨#[]⟩, .int .i64 0] 46)
    have hY2 : Blk (w2.alloc (.cells #[.int .i64 0, .string ⟨#[]⟩, .string ⟨#[]⟩, .string ⟨#[]⟩, .string ⟨#[]⟩, .string ⟨#[]⟩, .string ⟨#[]⟩, .int .i64 0] 46)) w2.heap.size 46 #[.int .i64 0, .string ⟨#[]⟩, .string ⟨#[]⟩, .string ⟨#[]⟩, .string ⟨#[]⟩, .string ⟨#[]⟩, .string ⟨#[]⟩, .int .i64 0] := Blk.new _ _ _
    have HO2 := Lib.hid ((HO.out.trans (But.of hbel)).alloc (.cells #[.int .i64 0, .string ⟨#[]⟩, .string ⟨#[]⟩, .string ⟨#[]⟩, .string ⟨#[]⟩, .string ⟨#[]⟩, .string ⟨#[]⟩, .int .i64 0] 46))
    have hs2 : w.heap.size < w2.heap.size := (HX.out.below hbel HX.out.lt).lt
    obtain ⟨W3, hW3⟩ : ∃ W3, W3 = (w2.alloc (.cells #[.int .i64 0, .string ⟨#[]⟩, .string ⟨#[]⟩, .string ⟨#[]⟩, .string ⟨#[]⟩, .string ⟨#[]⟩, .string ⟨#[]⟩, .int .i64 0] 46)).setCell ⟨rb, 1, none⟩ (.bool true) := ⟨_, rfl⟩
    have HX3 : Hid (Blk W3 w.heap.size 46 #[.int .i64 0, .string ⟨#[]⟩, .string ⟨#[]⟩, .string ⟨#[]⟩, .string ⟨#[]⟩, .string ⟨#[]⟩, .string ⟨#[]⟩, .int .i64 0]) := Lib.hid (by rw [hW3]; exact hX2.setCell_other (by omega) _ _)
    have HY3 : Hid (Blk W3 w2.heap.size 46 #[.int .i64 0, .string ⟨#[]⟩, .string ⟨#[]⟩, .string ⟨#[]⟩, .string ⟨#[]⟩, .string ⟨#[]⟩, .string ⟨#[]⟩, .int .i64 0]) := Lib.hid (by rw [hW3]; exact hY2.setCell_other (by omega) _ _)
    have HO3 : Hid (But rb w W3) := Lib.hid (by rw [hW3]; exact HO2.out.trans (But.setCell _ _ _ _))
    have HD3 : Hid (RdN C W3 rb (l, true)) := Lib.hid (by
      obtain ⟨k0, p', n', c', k1, k2⟩ := hD2
      rw [hW3]
      exact ⟨k0, p', n', c', k1.setCell 1 (.bool true), k2.below ((But.setCell rb 1 (.bool true) _).below k0 k1.lt)⟩)
    obtain ⟨-, p', n', c', k1, -⟩ := hD2
    have r1 := k1.c0 1 _ rfl
    have g1 := k1.free 1
    simp at r1
    have HW3 := Lib.hid hW3
    clear hbel hX2 hY2 k1 hW3 HX HD HP
    go_wp2_with fail
    rw [← HW3.out]
    refine (ntake_w C rb 0 (l, true) W3 HD3.out (by omega)).mono ?_
    rintro e w4 ⟨v4, rfl, hv4, hr4, ho4⟩
    have HD4 : Hid (RdN C w4 rb (l, true)) := Lib.hid (by simpa [takeP] using hr4)
    have HO4 := Lib.hid (HO3.out.trans ho4)
    obtain ⟨x0, x1, x2, x3, x4, x5, x6, x7⟩ := eight_ok (ho4.blk HX3.out (by omega))
    obtain ⟨f0, f1, f2, f3, f4, f5, f6, f7⟩ := MBlkF (ho4.blk HX3.out (by omega))
    obtain ⟨y0, y1, y2, y3, y4, y5, y6, y7⟩ := eight_ok (ho4.blk HY3.out (by omega))
    clear hv4 hr4 ho4 r1 g1
    go_wp2
    refine bodyPost_ret (v := msgV (zeroM 0)) (by simp [results, Tryz.results197, go_sem, x0, x1, x2, x3, x4, x5, x6, x7, zeroM, Str]) rfl ?_
    rw [NextOut, H.out]
    refine ⟨rfl, ?_, ?_⟩
    · exact (((((((HD4.out.put hrl).put hrl).put hrl).put hrl).put hrl).put hrl).put hrl).put hrl
    · exact (((((((HO4.out.put (Nat.le_refl _)).put (Nat.le_refl _)).put (Nat.le_refl _)).put (Nat.le_refl _)).put (Nat.le_refl _)).put (Nat.le_refl _)).put (Nat.le_refl _)).put (Nat.le_refl _)
  | some x =>
    obtain ⟨m, k⟩ := x
    obtain ⟨-, hk, -⟩ := parseS_snd hp
    have H : Hid (msgR (l, sh) = (m, (takeP k (l, sh)).2)) := Lib.hid (by unfold msgR; simp only; rw [hp])
    have e : parseV l = .tuple #[msgV m, .int .i64 k, .int .i64 0] := by unfold parseV; rw [hp]
    rw [e] at HP
    clear hp e
    obtain ⟨kd, ky, va, lo, hi, sr, ds, nn⟩ := m
    go_enter Tryz.func197, Tryz.ntmps197
    go_wp2_with fail
    rw [← HW1.out]
    refine HP.out.mono ?_
    rintro e w2 ⟨rfl, hbel⟩
    have hX2 := (HX.out.below hbel HX.out.lt).alloc (.cells (encM ⟨kd, ky, va, lo, hi, sr, ds, nn⟩) 46)
    have hD2 := (HD.out.below HD.out.lt hbel).alloc (.cells (encM ⟨kd, ky, va, lo, hi, sr, ds, nn⟩) 46)
    have hY2 : Blk (w2.alloc (.cells (encM ⟨kd, ky, va, lo, hi, sr, ds, nn⟩) 46)) w2.heap.size 46 (encM ⟨kd, ky, va, lo, hi, sr, ds, nn⟩) := Blk.new _ _ _
    have HO2 := Lib.hid ((HO.out.trans (But.of hbel)).alloc (.cells (encM ⟨kd, ky, va, lo, hi, sr, ds, nn⟩) 46))
    have hs2 : w.heap.size < w2.heap.size := (HX.out.below hbel HX.out.lt).lt
    have HX3 := Lib.hid hX2
    have HY3 := Lib.hid hY2
    have HD3 := Lib.hid hD2
    clear hbel hX2 hY2 hD2 HX HD HP
    go_wp2_with fail
    refine (ntake_w C rb k (l, sh) _ HD3.out (by omega)).mono ?_
    rintro e w4 ⟨v4, rfl, hv4, hr4, ho4⟩
    have HD4 := Lib.hid hr4
    have HO4 := Lib.hid (HO2.out.trans ho4)
    obtain ⟨x0, x1, x2, x3, x4, x5, x6, x7⟩ := eight_ok (ho4.blk HX3.out (by omega))
    obtain ⟨f0, f1, f2, f3, f4, f5, f6, f7⟩ := MBlkF (ho4.blk HX3.out (by omega))
    obtain ⟨y0, y1, y2, y3, y4, y5, y6, y7⟩ := eight_ok (ho4.blk HY3.out (by omega))
    clear hv4 hr4 ho4
    go_wp2
    refine bodyPost_ret (v := msgV ⟨kd, ky, va, lo, hi, sr, ds, nn⟩) (by simp [results, Tryz.results197, go_sem, x0, x1, x2, x3, x4, x5, x6, x7]) rfl ?_
    rw [NextOut, H.out]
    refine ⟨rfl, ?_, ?_⟩
    · exact (((((((HD4.out.put hrl).put hrl).put hrl).put hrl).put hrl).put hrl).put hrl).put hrl
    · exact (((((((HO4.out.put (Nat.le_refl _)).put (Nat.le_refl _)).put (Nat.le_refl _)).put (Nat.le_refl _)).put (Nat.le_refl _)).put (Nat.le_refl _)).put (Nat.le_refl _)).put (Nat.le_refl _)

end Go.Proofs.YtmbfghbhajmpiaaGreat
