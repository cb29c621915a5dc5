/-
  Walks: numbers and texts as bytes, in package node. Walks: the bytes of a leaf. Walks: the bytes of a node with kids. Walks: Bytes, Check, Over and Spans of package node.
-/
import Derived.Test.YtmbfghbhajmpiaaGreatY2
import Derived.Test.YtmbfghbhajmpiaaGreatKB
import Derived.Test.YtmbfghbhajmpiaaGreatRBA
namespace Go.Proofs.YtmbfghbhajmpiaaGreat
open Go.RowKit Go.Sort
set_option linter.unusedVariables false

def BytesK (B : Nat) (w : World) (l : Bs) (e : Ending) (w' : World) : Prop := ∃ v', e = .returned v' ∧ OwnB w' B v' l ∧ Below B w w' ∧ KeepB w w'
set_option maxRecDepth 100000 in
set_option maxHeartbeats 1000000 in
theorem nappendNumber_w (B : Nat) (v : Value) (l : Bs) (n : Int) (k : Nat) (w : World) (hk : k ≤ 8) (hl : l.length ≤ 100000000000) (ho : OwnB w B v l) (hB : B ≤ w.heap.size) (hn0 : 0 ≤ n) :
    Calls Tryz.prog 146 #[v, .int .i64 n, .int .i64 k] w (BytesK B w (l ++ bytesN k n.toNat)) := by
  obtain ⟨n, rfl⟩ := Int.eq_ofNat_of_zero_le hn0
  rw [Int.toNat_natCast]
  obtain ⟨i0, hi, hz0, hz1, hz2⟩ := info_parts infoU8
  have Ho := Lib.hid ho
  clear ho hn0
  go_enter Tryz.func146, Tryz.ntmps146
  go_wp2
  go_loopw [0, 9] (fun v0 i wr => ∃ j : Nat, j ≤ k ∧ i = .int .i64 j ∧ OwnB wr B v0 (l ++ (bytesN k n).take j) ∧ Below B w wr ∧ KeepB w wr) (fun _ i _ => k - (intOf i).toNat)
  case atStart => exact ⟨0, Nat.zero_le _, rfl, by simpa using Ho.out, Below.refl _ _, KeepB.refl _⟩
  case round =>
    obtain ⟨j, hj, rfl, hown, hbel, hkp⟩ := hrel
    have Hkp := Lib.hid hkp
    clear hkp
    by_cases hlt : j < k
    · have hge : 0 ≤ (k : Int) - 1 - j := by omega
      have hk1 : 1 ≤ (k : Int) := by omega
      have hltz : (j : Int) < (k : Int) := by omega
      have Hown := Lib.hid hown
      have Hbyte := Lib.hid (byte_of n k j hlt)
      have Htk := Lib.hid (bytesN_take k n j hlt)
      have hlen : ((bytesN k n).take j).length = j := by rw [List.length_take, bytesN_len]; omega
      have Hlen : Hid ((l ++ (bytesN k n).take j).length = l.length + j) := Lib.hid (by rw [List.length_append, hlen])
      have hBw := hbel.size
      have Hbel := Lib.hid hbel
      clear hown hbel hlen
      go_wp2_with (at_builtin; refine wpList_append_own _ rfl _ _ 23 rfl B 5 i0 (.int .u8 0) 1 1 Tryz.underlying23 hi hz0 hz1 hz2 rfl (by decide) _ _ _ rfl (Hown.out.alloc _) ⟨wr.heap.size, 0, none⟩ 1 1 [.int .u8 ((n : Int) / 2 ^ (8 * (k - 1 - j)) % 256)] rfl rfl (cells_new' _ _ _ (by simp)) (by intro u hu; simp at hu; rcases hu with rfl; rfl) (by rw [Hlen.out]; unfold maxLen; omega) (by rw [Hlen.out]; omega) (by simp; omega) ?_; intro v' w2 hown' hgrow _)
      have Hown' := Lib.hid hown'
      have Hb2 : Hid (Below B w w2) := Lib.hid (Below.grown (Hbel.out.alloc (Nat.le_trans hB hBw) _) hgrow (by simp; omega) (fun q hq => (Hown.out.lt q hq).1))
      have Hk2 : Hid (KeepB w w2) := Lib.hid ((Hkp.out.alloc _).trans (KeepB.grown (Hown.out.alloc _) hgrow))
      clear hown' hgrow
      go_wp2
      go_roundw
      case rel =>
        refine ⟨j + 1, by omega, by go_num, ?_, Hb2.out, Hk2.out⟩
        have h := Hown'.out
        rw [Hbyte.out] at h
        unfold OwnB
        rw [Htk.out, ← List.append_assoc, List.length_append, List.map_append]
        exact h
      case measure => simp [intOf]; omega
    · obtain rfl : j = k := by omega
      have Hfin : Hid ((bytesN j n).take j = bytesN j n) := Lib.hid (List.take_of_length_le (by rw [bytesN_len]; exact Nat.le_refl _))
      have Hown := Lib.hid hown
      have Hbel := Lib.hid hbel
      clear hown hbel
      go_wp2
      go_ret
      exact ⟨_, rfl, by have h := Hown.out; rw [Hfin.out] at h; exact h, Hbel.out, Hkp.out⟩

set_option maxRecDepth 100000 in
set_option maxHeartbeats 1000000 in
theorem nappendText_w (B : Nat) (v : Value) (l s : Bs) (w : World) (hl : l.length ≤ 90000000000) (hs : s.length ≤ 1000000000) (ho : OwnB w B v l) (hB : B ≤ w.heap.size) :
    Calls Tryz.prog 147 #[v, .string (Str s)] w (BytesK B w (l ++ textB s)) := by
  obtain ⟨i0, hi, hz0, hz1, hz2⟩ := info_parts infoU8
  have HN := Lib.hid (nappendNumber_w B v l (s.length : Int) 2 w (by omega) (by omega) ho hB (by omega))
  clear ho
  go_enter Tryz.func147, Tryz.ntmps147
  go_wp2_with fail
  refine HN.out.mono ?_
  rw [Int.toNat_natCast]
  rintro e w4 ⟨v4, rfl, ho4, hb4, hk4⟩
  have O4 := Lib.hid ho4
  have HB4 := Lib.hid hb4
  have HK4 := Lib.hid hk4
  have hs4 := hb4.size
  clear ho4 hb4 hk4
  go_wp2_with (at_builtin; refine Lib.wpList_append_own_string _ rfl _ _ 23 9 rfl B 5 i0 Tryz.underlying23 Tryz.underlying9 hi hz0 hz1 hz2 _ _ _ rfl O4.out (Str s) rfl (by rw [size_Str]; simp only [List.length_append, bytesN_len]; unfold maxLen; omega) (by rw [size_Str]; simp only [List.length_append, bytesN_len]; omega) (by omega) ?_; intro v5 w5 hown5 hgrow _)
  have O5 : Hid (OwnB w5 B v5 (l ++ textB s)) := Lib.hid (by
    unfold OwnB textB
    rw [← List.append_assoc, List.length_append (bs := s), List.map_append (l₂ := s)]
    rw [strCells_Str, size_Str] at hown5
    exact hown5)
  have HB5 : Hid (Below B w w5) := Lib.hid (Below.grown HB4.out hgrow (by omega) (fun q hq => (O4.out.lt q hq).1))
  have HK5 : Hid (KeepB w w5) := Lib.hid (HK4.out.trans (KeepB.grown O4.out hgrow))
  clear hown5 hgrow
  go_wp2
  go_ret
  exact ⟨_, rfl, O5.out, HB5.out, HK5.out⟩

end Go.Proofs.YtmbfghbhajmpiaaGreat
namespace Go.Proofs.YtmbfghbhajmpiaaGreat
open Go.RowKit Go.Sort
set_option linter.unusedVariables false

def kidY (k : Int) : Bs := bytesN 4 k.toNat
theorem kidY_len (k : Int) : (kidY k).length = 4 := by unfold kidY; rw [bytesN_len]
def pairY (p : Pr) : Bs := textB p.1 ++ textB p.2.1 ++ bytesN 4 p.2.2.toNat
def sumY (s : Sm) : Bs := bytesN 8 s.1.1.toNat ++ bytesN 8 s.1.2.toNat ++ bytesN 8 s.2.1.toNat ++ bytesN 8 s.2.2.toNat
def leafY (n : Nd) : Bs := [76] ++ bytesN 4 n.pairs.length ++ n.pairs.flatMap pairY
def innerY (n : Nd) : Bs := [78] ++ bytesN 4 n.kids.length ++ n.kids.flatMap kidY ++ n.pivots.flatMap textB ++ n.sums.flatMap sumY ++ bytesN 4 n.buf.length ++ n.buf.flatMap bytesM
def bytesNd (n : Nd) : Bs := if validN n ([], []) && n.pivots.all textFB then (if n.kids = [] then leafY n else innerY n) else []

theorem flat_takeG {α : Type} (f : α → Bs) (l : List α) (k : Nat) (h : k < l.length) : (l.take (k + 1)).flatMap f = (l.take k).flatMap f ++ f l[k] := by
  rw [List.take_add_one, List.getElem?_eq_getElem h, List.flatMap_append]; simp
theorem flat_lenG {α : Type} (f : α → Bs) (c : Nat) (l : List α) (h : ∀ x ∈ l, (f x).length ≤ c) : (l.flatMap f).length ≤ l.length * c := by
  induction l with
  | nil => simp
  | cons s l ih =>
    rw [List.flatMap_cons, List.length_append, List.length_cons]
    have h1 := h s (by simp)
    have h2 := ih fun t ht => h t (by simp [ht])
    rw [Nat.add_mul]; omega
theorem textB_len (s : Bs) : (textB s).length = 2 + s.length := by unfold textB; rw [List.length_append, bytesN_len]
theorem pairB_iff {p : Pr} (h : pairB p = true) : p.1 ≠ [] ∧ p.1.length ≤ 65535 ∧ p.2.1.length ≤ 64 ∧ 0 ≤ p.2.2 ∧ p.2.2 ≤ 1000000000 := by
  unfold pairB at h; rw [decide_eq_true_eq] at h; exact h
theorem pairY_len {p : Pr} (h : pairB p = true) : (pairY p).length ≤ 70000 := by
  have := pairB_iff h
  unfold pairY
  rw [List.length_append, List.length_append, textB_len, textB_len, bytesN_len]; omega
theorem OwnB.new {n : Nat} (W : World) (B : Nat) (l : Bs) (hn : n = W.heap.size) (hB : B ≤ W.heap.size) (hl : l.length ≤ 1000) : OwnB (W.alloc (.cells (l.map fun c => Value.int .u8 c.toNat).toArray 5)) B (.slice (some ⟨n, 0, none⟩) l.length l.length) l := by
  subst hn
  have hb : Blk (W.alloc (.cells (l.map fun c => Value.int .u8 c.toNat).toArray 5)) W.heap.size 5 (l.map fun c => Value.int .u8 c.toNat).toArray := Blk.new _ _ _
  unfold OwnB
  refine ⟨by simp, .inr ⟨W.heap.size, l.length, _, rfl, hB, hb, Nat.le_refl _, by unfold maxLen; omega, by simp, ?_⟩⟩
  rw [List.take_of_length_le (by simp)]
theorem PBlk3 {w : World} {b : Nat} {T : TypeId} {x : Pr} (h : Blk w b T #[.string (Str x.1), .string (Str x.2.1), .int .i64 x.2.2]) :
    w.cell? ⟨b, 0, none⟩ = some (.string (Str x.1)) ∧ w.cell? ⟨b, 1, none⟩ = some (.string (Str x.2.1)) ∧ w.cell? ⟨b, 2, none⟩ = some (.int .i64 x.2.2) := ⟨h.c0 0 _ rfl, h.c0 1 _ rfl, h.c0 2 _ rfl⟩

set_option maxRecDepth 100000 in
set_option maxHeartbeats 4000000 in
theorem leafBytes_w (v : Value) (n : Nd) (w : World) (h : IsNode w v n) (hl : n.pairs.length ≤ 1000000) (hp : ∀ p ∈ n.pairs, pairB p = true) :
    Calls Tryz.prog 71 #[v] w (BytesOut w.heap.size w (leafY n)) := by
  obtain ⟨a, b, c, d, e, rfl, hP, -⟩ := h
  have HF : Hid (leafY n = [76] ++ bytesN 4 n.pairs.length ++ n.pairs.flatMap pairY) := Lib.hid rfl
  generalize leafY n = R at *
  generalize n.pairs = np at *
  have HP := Lib.hid hP
  have Hp := Lib.hid hp
  obtain ⟨pa, ca, rfl, hla, hma, -, -⟩ := hP
  unfold maxLen at hma
  obtain ⟨W1, hW1⟩ : ∃ W1, W1 = (w.alloc (.cells #[.slice pa np.length ca, b, c, d, e] 34)).alloc (.cells #[.int .u8 76] 5) := ⟨_, rfl⟩
  have HM : Hid (Blk W1 w.heap.size 34 #[.slice pa np.length ca, b, c, d, e]) := Lib.hid (by rw [hW1]; exact (Blk.new _ _ _).alloc _)
  have HG : Hid (Below w.heap.size w W1) := Lib.hid (by rw [hW1]; exact (below_box _).alloc (by simp) _)
  have HO : Hid (OwnB W1 w.heap.size (.slice (some ⟨w.heap.size + 1, 0, none⟩) 1 1) [76]) := Lib.hid (by rw [hW1]; exact OwnB.new _ _ [76] (by simp) (by simp) (by decide))
  have n0 := HM.out.c0 0 _ rfl
  have HW1 := Lib.hid hW1
  clear hp hW1
  go_enter Tryz.func71, Tryz.ntmps71
  go_wp2_with fail
  rw [← HW1.out]
  refine (nappendNumber_w w.heap.size _ [76] (np.length : Int) 4 _ (by omega) (by simp) HO.out HG.out.size (by omega)).mono ?_
  rw [Int.toNat_natCast]
  rintro e' w2 ⟨v2, rfl, ho2, hb2, hk2⟩
  have O2 := Lib.hid ho2
  have B2 := Lib.hid (HG.out.trans hb2)
  have n0' := (hk2 _ _ _ (by decide) HM.out).c0 0 _ rfl
  clear ho2 hb2 hk2 n0 HO
  go_wp2
  go_loopw [3, 14] (fun x i wr => ∃ k : Nat, k ≤ np.length ∧ i = .int .i64 k ∧ OwnB wr w.heap.size x ([76] ++ bytesN 4 np.length ++ (np.take k).flatMap pairY) ∧ Below w.heap.size w wr) (fun _ i _ => np.length - (intOf i).toNat)
  case atStart => exact ⟨0, Nat.zero_le _, rfl, by simpa using O2.out, B2.out⟩
  case round =>
    clear O2 B2
    obtain ⟨k, hk, rfl, hown, hbel⟩ := hrel
    have Hown := Lib.hid hown
    have Hbel := Lib.hid hbel
    have hsz := hbel.size
    clear hown hbel
    by_cases hlt : k < np.length
    · obtain ⟨bb, off, cap', he, hbl, hlz, x0, x1, x2⟩ := pair_cells (HP.out.below Hbel.out) k hlt
      injection he with he1 he2 he3
      subst he1 he3
      clear he2
      have hltz : (k : Int) < (np.length : Int) := by omega
      have Htk := Lib.hid (flat_takeG pairY np k hlt)
      have hpr := Hp.out _ (List.getElem_mem hlt)
      have hpre : ([76] ++ bytesN 4 np.length ++ (np.take k).flatMap pairY).length ≤ 80000000000 := by
        have h1 := flat_lenG pairY 70000 (np.take k) (fun x hx => pairY_len (Hp.out x (List.mem_of_mem_take hx)))
        have h2 : (np.take k).length ≤ np.length := by rw [List.length_take]; omega
        have h3 : (np.take k).length * 70000 ≤ 1000000 * 70000 := Nat.mul_le_mul_right _ (by omega)
        rw [List.length_append, List.length_append, bytesN_len]
        simp only [List.length_singleton]
        omega
      generalize np[k] = x at *
      obtain ⟨hx0, hx1, hx2, hx3, hx4⟩ := pairB_iff hpr
      clear hpr hx0
      obtain ⟨pre, hpe⟩ : ∃ p, p = [76] ++ bytesN 4 np.length ++ (np.take k).flatMap pairY := ⟨_, rfl⟩
      rw [← hpe] at hpre Hown
      have Hpe := Lib.hid hpe
      clear hpe
      have HX : Hid (Blk (wr.alloc (.cells #[.string (Str x.1), .string (Str x.2.1), .int .i64 x.2.2] 48)) wr.heap.size 48 #[.string (Str x.1), .string (Str x.2.1), .int .i64 x.2.2]) := Lib.hid (Blk.new _ _ _)
      have Hown1 := Lib.hid (Hown.out.below (below_box (.cells #[.string (Str x.1), .string (Str x.2.1), .int .i64 x.2.2] 48)))
      have Hbel1 := Lib.hid (Hbel.out.alloc hsz (.cells #[.string (Str x.1), .string (Str x.2.1), .int .i64 x.2.2] 48))
      go_wp2_with fail
      refine (nappendText_w w.heap.size _ pre x.1 _ (by omega) (by omega) Hown1.out (by simp; omega)).mono ?_
      rintro e' w4 ⟨v4, rfl, ho4, hb4, hk4⟩
      have O4 := Lib.hid ho4
      have B4 := Lib.hid (Hbel1.out.trans hb4)
      have X4 := Lib.hid (hk4 _ _ _ (by decide) HX.out)
      clear ho4 hb4 hk4 x0 x1 x2
      obtain ⟨y0, y1, y2⟩ := PBlk3 X4.out
      go_wp2_with fail
      refine (nappendText_w w.heap.size _ (pre ++ textB x.1) x.2.1 _ (by rw [List.length_append, textB_len]; omega) (by omega) O4.out B4.out.size).mono ?_
      rintro e' w5 ⟨v5, rfl, ho5, hb5, hk5⟩
      have O5 := Lib.hid ho5
      have B5 := Lib.hid (B4.out.trans hb5)
      have X5 := Lib.hid (hk5 _ _ _ (by decide) X4.out)
      clear ho5 hb5 hk5 y0 y1 y2
      obtain ⟨y0, y1, y2⟩ := PBlk3 X5.out
      go_wp2_with fail
      refine (nappendNumber_w w.heap.size _ (pre ++ textB x.1 ++ textB x.2.1) x.2.2 4 _ (by omega) (by rw [List.length_append, List.length_append, textB_len, textB_len]; omega) O5.out B5.out.size hx3).mono ?_
      rintro e' w6 ⟨v6, rfl, ho6, hb6, hk6⟩
      have O6 := Lib.hid ho6
      have B6 := Lib.hid (B5.out.trans hb6)
      clear ho6 hb6 hk6 y0 y1 y2
      go_wp2
      go_roundw
      case rel => exact ⟨k + 1, by omega, by go_num, by rw [Htk.out, ← List.append_assoc, ← Hpe.out]; unfold pairY; rw [← List.append_assoc, ← List.append_assoc]; exact O6.out, B6.out⟩
      case measure => simp [intOf]; omega
    · obtain rfl : k = np.length := by omega
      rw [List.take_length] at Hown
      go_wp2
      go_ret
      rw [HF.out]
      exact ⟨_, rfl, Hown.out, Hbel.out⟩

end Go.Proofs.YtmbfghbhajmpiaaGreat
namespace Go.Proofs.YtmbfghbhajmpiaaGreat
open Go.RowKit Go.Sort
set_option linter.unusedVariables false

theorem OwnB.is {w : World} {B : Nat} {v : Value} {l : Bs} (h : OwnB w B v l) : IsBytes w v l := by
  unfold OwnB at h
  rcases h.2 with ⟨rfl, h0⟩ | ⟨g, cap, cur, rfl, hb, hg, hn, hm, hsz, htk⟩
  · have h1 : l = [] := by simpa using h0
    subst h1
    exact IsBytes.nil w
  · refine ⟨_, cap, rfl, hn, hm, fun hne => ⟨g, 0, rfl, (Array.getElem?_eq_some_iff.1 hg).1, fun i hi => ?_⟩⟩
    unfold World.cell?
    rw [hg]
    show cur[0 + i]? = _
    have h1 : (cur.toList.take (l.length * 1))[i]? = some (.int .u8 (l[i].toNat)) := by rw [htk]; simp [hi]
    rw [List.getElem?_take] at h1
    split at h1
    · rw [Array.getElem?_toList] at h1; rw [Nat.zero_add]; exact h1
    · cases h1
theorem append_bytesG {w : World} {ops : Array Oper} {rest : List Oper} {o : Oper} {a : Act} {Q : Exit → Act → World → Prop} (hgd : o.guard = none) (s x : Operand)
    (ho : o.op = .call { callee := .builtin .append, args := #[s, x], argTypes := #[23, 23] }) (base : Nat) (v : Value) (l : Bs) (hs : a.eval s = v) (hown : OwnB w base v l)
    (u : Value) (m : Bs) (hx : a.eval x = u) (hp : IsBytes w u m) (hl : l.length + m.length ≤ 1000000000) (hbase : base ≤ w.heap.size)
    (h : ∀ v' w', OwnB w' base v' (l ++ m) → Below base w w' → wpList Tryz.prog ops Q rest (a.put o.dst v') w') : wpList Tryz.prog ops Q (o :: rest) a w := by
  obtain ⟨i0, hi, hz0, hz1, hz2⟩ := info_parts infoU8
  obtain ⟨p, cap, rfl, hlc, hcm, hpp⟩ := hp
  refine append_gen hgd s x 23 5 i0 (.int .u8 0) 1 1 Tryz.underlying23 hi hz0 hz1 hz2 rfl (by decide) (by decide) ho base v l.length _ hs hown p m.length cap (m.map fun c => Value.int .u8 c.toNat) hx (by simp) ?_ ?_ hl hbase ?_
  · intro hm
    obtain ⟨b, off, rfl, hlt, hc⟩ := hpp (by rintro rfl; simp at hm)
    refine ⟨_, rfl, fun j u hj => ?_⟩
    obtain ⟨hj1, rfl⟩ := List.getElem?_eq_some_iff.1 hj
    have hj2 : j < m.length := by simpa using hj1
    have hadd : (⟨b, off, none⟩ : Addr).add j = ⟨b, off + j, none⟩ := by unfold Addr.add; split <;> simp_all
    rw [hadd, hc j hj2]; simp
  · intro u hu
    simp at hu
    obtain ⟨y, _, rfl⟩ := hu
    rfl
  · intro v' w' h2 h3
    refine h v' w' ?_ h3
    unfold OwnB
    rw [List.length_append, List.map_append]; exact h2
theorem bytesM_le (m : Ms) : (bytesM m).length ≤ 140000 := by
  unfold bytesM
  split
  · rename_i h
    obtain ⟨h1, h2, h3, h4⟩ := valid_small h
    have h5 := flat_len (fieldsT m) h1
    have h6 := flat_lenN (fieldsN m)
    have h7 := fields_few m
    rw [List.length_append, List.length_append, bytesN_len]
    omega
  · simp
theorem sumY_len (s : Sm) : (sumY s).length = 32 := by unfold sumY; simp [bytesN_len]
theorem sumB_iff {s : Sm} (h : sumB s = true) : (0 ≤ s.1.1 ∧ s.1.1 ≤ s.1.2 ∧ s.1.2 ≤ 1000000000000000) ∧ 0 ≤ s.2.1 ∧ s.2.1 ≤ s.2.2 ∧ s.2.2 ≤ 1000000000000000 := by
  unfold sumB rangeB at h; rw [Bool.and_eq_true, decide_eq_true_eq, decide_eq_true_eq] at h; exact h
theorem kidB_iff {k : Int} (h : kidB k = true) : 0 ≤ k ∧ k < 4096 := by unfold kidB at h; rw [decide_eq_true_eq] at h; exact h
theorem textFB_iff {s : Bs} (h : textFB s = true) : s.length ≤ 65535 := by unfold textFB at h; rw [decide_eq_true_eq] at h; exact h
theorem flat_lens {α : Type} (f : α → Bs) (c : Nat) (l : List α) (h : ∀ x ∈ l, (f x).length ≤ c) (k : Nat) (hl : l.length ≤ 1000) : ((l.take k).flatMap f).length ≤ 1000 * c := by
  have h1 := flat_lenG f c (l.take k) (fun x hx => h x (List.mem_of_mem_take hx))
  have h2 : (l.take k).length ≤ 1000 := by rw [List.length_take]; omega
  exact Nat.le_trans h1 (Nat.mul_le_mul_right _ h2)
set_option maxRecDepth 100000 in
set_option maxHeartbeats 8000000 in
theorem innerBytes_w (v : Value) (n : Nd) (w : World) (h : IsNode w v n) (hk : n.kids.length ≤ 1000) (hi : n.pivots.length ≤ 1000) (hs : n.sums.length ≤ 1000) (hb : n.buf.length ≤ 1000)
    (qk : ∀ k ∈ n.kids, kidB k = true) (qi : ∀ p ∈ n.pivots, textFB p = true) (qs : ∀ s ∈ n.sums, sumB s = true) :
    Calls Tryz.prog 72 #[v] w (BytesOut w.heap.size w (innerY n)) := by
  obtain ⟨a, b, c, d, e, rfl, -, hI, hK, hS, hB⟩ := h
  obtain ⟨np, ni, nk, ns, nb⟩ := n
  dsimp only at *
  have HF : Hid (innerY ⟨np, ni, nk, ns, nb⟩ = [78] ++ bytesN 4 nk.length ++ nk.flatMap kidY ++ ni.flatMap textB ++ ns.flatMap sumY ++ bytesN 4 nb.length ++ nb.flatMap bytesM) := Lib.hid rfl
  generalize innerY ⟨np, ni, nk, ns, nb⟩ = R at *
  have HI := Lib.hid hI
  have HK := Lib.hid hK
  have HS := Lib.hid hS
  have HB := Lib.hid hB
  have Qk := Lib.hid qk
  have Qi := Lib.hid qi
  have Qs := Lib.hid qs
  obtain ⟨pb, cb, rfl, hlb, hmb, -⟩ := hI
  obtain ⟨pc, cc, rfl, hlc, hmc, -⟩ := hK
  obtain ⟨pd, cd, rfl, hld, hmd, -⟩ := hS
  obtain ⟨pe, ce, rfl, hle, hme, -⟩ := hB
  unfold maxLen at hmb hmc hmd hme
  obtain ⟨W1, hW1⟩ : ∃ W1, W1 = (w.alloc (.cells #[a, .slice pb ni.length cb, .slice pc nk.length cc, .slice pd ns.length cd, .slice pe nb.length ce] 34)).alloc (.cells #[.int .u8 78] 5) := ⟨_, rfl⟩
  have HM : Hid (Blk W1 w.heap.size 34 #[a, .slice pb ni.length cb, .slice pc nk.length cc, .slice pd ns.length cd, .slice pe nb.length ce]) := Lib.hid (by rw [hW1]; exact (Blk.new _ _ _).alloc _)
  have HG : Hid (Below w.heap.size w W1) := Lib.hid (by rw [hW1]; exact (below_box _).alloc (by simp) _)
  have HO : Hid (OwnB W1 w.heap.size (.slice (some ⟨w.heap.size + 1, 0, none⟩) 1 1) [78]) := Lib.hid (by rw [hW1]; exact OwnB.new _ _ [78] (by simp) (by simp) (by decide))
  have n2 := HM.out.c0 2 _ rfl
  have HW1 := Lib.hid hW1
  clear qk qi qs hW1
  go_enter Tryz.func72, Tryz.ntmps72
  go_wp2_with fail
  rw [← HW1.out]
  refine (nappendNumber_w w.heap.size _ [78] (nk.length : Int) 4 _ (by omega) (by simp) HO.out HG.out.size (by omega)).mono ?_
  rw [Int.toNat_natCast]
  rintro e' w2 ⟨v2, rfl, ho2, hb2, hk2⟩
  have O2 := Lib.hid ho2
  have B2 := Lib.hid (HG.out.trans hb2)
  have K2 := Lib.hid hk2
  have n2' := (hk2 _ _ _ (by decide) HM.out).c0 2 _ rfl
  clear ho2 hb2 hk2 n2 HO
  go_wp2
  go_loopw [3, 22] (fun x i wr => ∃ k : Nat, k ≤ nk.length ∧ i = .int .i64 k ∧ OwnB wr w.heap.size x ([78] ++ bytesN 4 nk.length ++ (nk.take k).flatMap kidY) ∧ Below w.heap.size w wr ∧ KeepB W1 wr) (fun _ i _ => nk.length - (intOf i).toNat)
  case atStart => exact ⟨0, Nat.zero_le _, rfl, by simpa using O2.out, B2.out, K2.out⟩
  case round =>
    clear O2 B2 K2 n2'
    obtain ⟨k, hk', rfl, hown, hbel, hkp⟩ := hrel
    have Hown := Lib.hid hown
    have Hbel := Lib.hid hbel
    have Hkp := Lib.hid hkp
    have hsz := hbel.size
    clear hown hbel hkp
    have hpre : ([78] ++ bytesN 4 nk.length ++ (nk.take k).flatMap kidY).length ≤ 5000 := by
      have h1 := flat_lens kidY 4 nk (fun x hx => by rw [kidY_len]; omega) k hk
      rw [List.length_append, List.length_append, bytesN_len]
      simp only [List.length_singleton]
      omega
    by_cases hlt : k < nk.length
    · obtain ⟨bb, off, cap', he, hbl, hlz, x0⟩ := at_int (HK.out.below Hbel.out) k hlt
      injection he with he1 he2 he3
      subst he1 he3
      clear he2
      have hltz : (k : Int) < (nk.length : Int) := by omega
      have Htk := Lib.hid (flat_takeG kidY nk k hlt)
      obtain ⟨hx1, hx2⟩ := kidB_iff (Qk.out _ (List.getElem_mem hlt))
      generalize nk[k] = x at *
      obtain ⟨pre, hpe⟩ : ∃ p, p = [78] ++ bytesN 4 nk.length ++ (nk.take k).flatMap kidY := ⟨_, rfl⟩
      rw [← hpe] at hpre Hown
      have Hpe := Lib.hid hpe
      clear hpe
      go_wp2_with fail
      refine (nappendNumber_w w.heap.size _ pre x 4 _ (by omega) (by omega) Hown.out hsz hx1).mono ?_
      rintro e' w4 ⟨v4, rfl, ho4, hb4, hk4⟩
      have O4 := Lib.hid ho4
      have B4 := Lib.hid (Hbel.out.trans hb4)
      have K4 := Lib.hid (Hkp.out.trans hk4)
      clear ho4 hb4 hk4 x0
      go_wp2
      go_roundw
      case rel => exact ⟨k + 1, by omega, by go_num, by rw [Htk.out, ← List.append_assoc, ← Hpe.out]; exact O4.out, B4.out, K4.out⟩
      case measure => simp [intOf]; omega
    · obtain rfl : k = nk.length := by omega
      rw [List.take_length] at Hown hpre
      obtain ⟨R1, hR1⟩ : ∃ R1, R1 = [78] ++ bytesN 4 nk.length ++ nk.flatMap kidY := ⟨_, rfl⟩
      rw [← hR1] at Hown HF hpre
      have HR1 := Lib.hid hR1
      clear hR1
      have n1 := (Hkp.out _ _ _ (by decide) HM.out).c0 1 _ rfl
      go_wp2
      go_loopw [3, 33] (fun x i wr => ∃ k : Nat, k ≤ ni.length ∧ i = .int .i64 k ∧ OwnB wr w.heap.size x (R1 ++ (ni.take k).flatMap textB) ∧ Below w.heap.size w wr ∧ KeepB W1 wr) (fun _ i _ => ni.length - (intOf i).toNat)
      case atStart => exact ⟨0, Nat.zero_le _, rfl, by simpa using Hown.out, Hbel.out, Hkp.out⟩
      case round =>
        clear Hown Hbel Hkp n1
        obtain ⟨k, hk', rfl, hown, hbel, hkp⟩ := hrel
        have Hown := Lib.hid hown
        have Hbel := Lib.hid hbel
        have Hkp := Lib.hid hkp
        have hsz := hbel.size
        clear hown hbel hkp
        have hpre2 : (R1 ++ (ni.take k).flatMap textB).length ≤ 70000000 := by
          have h1 := flat_lens textB 65537 ni (fun x hx => by rw [textB_len]; have := textFB_iff (Qi.out x hx); omega) k hi
          rw [List.length_append]
          omega
        by_cases hlt : k < ni.length
        · obtain ⟨bb, off, cap', he, hbl, hlz, x0⟩ := at_str (HI.out.below Hbel.out) k hlt
          injection he with he1 he2 he3
          subst he1 he3
          clear he2
          have hltz : (k : Int) < (ni.length : Int) := by omega
          have Htk := Lib.hid (flat_takeG textB ni k hlt)
          have hx1 := textFB_iff (Qi.out _ (List.getElem_mem hlt))
          generalize ni[k] = x at *
          obtain ⟨pre, hpe⟩ : ∃ p, p = R1 ++ (ni.take k).flatMap textB := ⟨_, rfl⟩
          rw [← hpe] at hpre2 Hown
          have Hpe := Lib.hid hpe
          clear hpe
          go_wp2_with fail
          refine (nappendText_w w.heap.size _ pre x _ (by omega) (by omega) Hown.out hsz).mono ?_
          rintro e' w4 ⟨v4, rfl, ho4, hb4, hk4⟩
          have O4 := Lib.hid ho4
          have B4 := Lib.hid (Hbel.out.trans hb4)
          have K4 := Lib.hid (Hkp.out.trans hk4)
          clear ho4 hb4 hk4 x0
          go_wp2
          go_roundw
          case rel => exact ⟨k + 1, by omega, by go_num, by rw [Htk.out, ← List.append_assoc, ← Hpe.out]; exact O4.out, B4.out, K4.out⟩
          case measure => simp [intOf]; omega
        · obtain rfl : k = ni.length := by omega
          rw [List.take_length] at Hown hpre2
          obtain ⟨R2, hR2⟩ : ∃ R2, R2 = R1 ++ ni.flatMap textB := ⟨_, rfl⟩
          rw [← hR2] at Hown HF hpre2
          have HR2 := Lib.hid hR2
          clear hR2
          have n3 := (Hkp.out _ _ _ (by decide) HM.out).c0 3 _ rfl
          go_wp2
          go_loopw [3, 44] (fun x i wr => ∃ k : Nat, k ≤ ns.length ∧ i = .int .i64 k ∧ OwnB wr w.heap.size x (R2 ++ (ns.take k).flatMap sumY) ∧ Below w.heap.size w wr ∧ KeepB W1 wr) (fun _ i _ => ns.length - (intOf i).toNat)
          case atStart => exact ⟨0, Nat.zero_le _, rfl, by simpa using Hown.out, Hbel.out, Hkp.out⟩
          case round =>
            clear Hown Hbel Hkp n3
            obtain ⟨k, hk', rfl, hown, hbel, hkp⟩ := hrel
            have Hown := Lib.hid hown
            have Hbel := Lib.hid hbel
            have Hkp := Lib.hid hkp
            have hsz := hbel.size
            clear hown hbel hkp
            have hpre3 : (R2 ++ (ns.take k).flatMap sumY).length ≤ 71000000 := by
              have h1 := flat_lens sumY 32 ns (fun x hx => by rw [sumY_len]; omega) k hs
              rw [List.length_append]
              omega
            by_cases hlt : k < ns.length
            · obtain ⟨bb, off, cap', he, hbl, hlz, x0, x1, x2, x3⟩ := at_sum (HS.out.below Hbel.out) k hlt
              injection he with he1 he2 he3
              subst he1 he3
              clear he2
              have hltz : (k : Int) < (ns.length : Int) := by omega
              have Htk := Lib.hid (flat_takeG sumY ns k hlt)
              obtain ⟨⟨hx1, hx2, hx3⟩, hx4, hx5, hx6⟩ := sumB_iff (Qs.out _ (List.getElem_mem hlt))
              generalize ns[k] = x at *
              obtain ⟨pre, hpe⟩ : ∃ p, p = R2 ++ (ns.take k).flatMap sumY := ⟨_, rfl⟩
              rw [← hpe] at hpre3 Hown
              have Hpe := Lib.hid hpe
              clear hpe
              obtain ⟨⟨xa, xb⟩, xc, xd⟩ := x
              dsimp only at hx1 hx2 hx3 hx4 hx5 hx6 x0 x1 x2 x3
              obtain ⟨wo, rfl⟩ : ∃ wo : World, wo = wr := ⟨_, rfl⟩
              obtain ⟨W2, hW2⟩ : ∃ W2, W2 = (wo.alloc (.cells #[.int .i64 xa, .int .i64 xb, .int .i64 xc, .int .i64 xd] 52)).alloc (.cells #[.int .i64 xa, .int .i64 xb, .int .i64 xc, .int .i64 xd] 3) := ⟨_, rfl⟩
              have HL : Hid (Blk W2 (wo.heap.size + 1) 3 #[.int .i64 xa, .int .i64 xb, .int .i64 xc, .int .i64 xd]) := Lib.hid (by rw [hW2]; exact Blk.new' _ _ _ (by simp))
              have HOw : Hid (OwnB W2 w.heap.size u3 pre) := Lib.hid (by rw [hW2]; exact (Hown.out.below (below_box _)).below (below_box _))
              have HBe : Hid (Below w.heap.size w W2) := Lib.hid (by rw [hW2]; exact (Hbel.out.alloc hsz _).alloc (by simp; omega) _)
              have HKe : Hid (KeepB W1 W2) := Lib.hid (by rw [hW2]; exact (Hkp.out.alloc _).alloc _)
              have HW2 := Lib.hid hW2
              clear hW2
              go_wp2
              rw [← HW2.out]
              go_loopw [3, 62] (fun x i wr => ∃ j : Nat, j ≤ 4 ∧ i = .int .i64 j ∧ OwnB wr w.heap.size x (pre ++ ([xa, xb, xc, xd].take j).flatMap (fun z => bytesN 8 (Int.toNat z))) ∧ Below w.heap.size w wr ∧ KeepB W2 wr) (fun _ i _ => 4 - (intOf i).toNat)
              case atStart => exact ⟨0, Nat.zero_le _, rfl, by simpa using HOw.out, HBe.out, KeepB.refl _⟩
              case round =>
                clear Hown Hbel
                obtain ⟨j, hj', rfl, hown, hbel, hkp⟩ := hrel
                have Hown := Lib.hid hown
                have Hbel := Lib.hid hbel
                have Hkq := Lib.hid hkp
                have hsz3 := hbel.size
                clear hown hbel hkp
                have HL2 := Lib.hid (Hkq.out _ _ _ (by decide) HL.out)
                have hpre4 : (pre ++ ([xa, xb, xc, xd].take j).flatMap (fun z => bytesN 8 (Int.toNat z))).length ≤ 72000000 := by
                  have h1 := flat_lens (fun z => bytesN 8 (Int.toNat z)) 8 [xa, xb, xc, xd] (fun x hx => by rw [bytesN_len]; omega) j (by simp)
                  rw [List.length_append]
                  omega
                by_cases hlt4 : j < 4
                · have hcell : ∃ z : Int, 0 ≤ z ∧ wr.cell? ⟨wo.heap.size + 1, j, none⟩ = some (.int .i64 z) ∧ Hid (([xa, xb, xc, xd].take (j + 1)).flatMap (fun z => bytesN 8 (Int.toNat z)) = ([xa, xb, xc, xd].take j).flatMap (fun z => bytesN 8 (Int.toNat z)) ++ bytesN 8 (Int.toNat z)) := by
                    match j, hlt4 with
                    | 0, _ => exact ⟨xa, by omega, HL2.out.c0 0 _ rfl, Lib.hid (by simp)⟩
                    | 1, _ => exact ⟨xb, by omega, HL2.out.c0 1 _ rfl, Lib.hid (by simp)⟩
                    | 2, _ => exact ⟨xc, by omega, HL2.out.c0 2 _ rfl, Lib.hid (by simp)⟩
                    | 3, _ => exact ⟨xd, by omega, HL2.out.c0 3 _ rfl, Lib.hid (by simp)⟩
                  obtain ⟨z, hz, hc, Hz⟩ := hcell
                  have hlt4z : (j : Int) < 4 := by omega
                  obtain ⟨pre4, hpe4⟩ : ∃ p, p = pre ++ ([xa, xb, xc, xd].take j).flatMap (fun z => bytesN 8 (Int.toNat z)) := ⟨_, rfl⟩
                  rw [← hpe4] at hpre4 Hown
                  have Hpe4 := Lib.hid hpe4
                  clear hpe4
                  go_wp2_with fail
                  refine (nappendNumber_w w.heap.size _ pre4 z 8 _ (by omega) (by omega) Hown.out hsz3 hz).mono ?_
                  rintro e' w4 ⟨v4, rfl, ho4, hb4, hk4⟩
                  have O4 := Lib.hid ho4
                  have B4 := Lib.hid (Hbel.out.trans hb4)
                  have K4 := Lib.hid (Hkq.out.trans hk4)
                  clear ho4 hb4 hk4 hc
                  go_wp2
                  go_roundw
                  case rel => exact ⟨j + 1, by omega, by go_num, by rw [Hz.out, ← List.append_assoc, ← Hpe4.out]; exact O4.out, B4.out, K4.out⟩
                  case measure => simp [intOf]; omega
                · obtain rfl : j = 4 := by omega
                  have HK4 := Lib.hid (HKe.out.trans Hkq.out)
                  have HO4 : Hid (OwnB wr w.heap.size u3 (pre ++ sumY ((xa, xb), xc, xd))) := Lib.hid (by have h := Hown.out; unfold sumY; simpa using h)
                  go_wp2
                  go_roundw
                  case rel => exact ⟨k + 1, by omega, by go_num, by rw [Htk.out, ← List.append_assoc, ← Hpe.out]; exact HO4.out, Hbel.out, HK4.out⟩
                  case measure => simp [intOf]; omega
            · obtain rfl : k = ns.length := by omega
              rw [List.take_length] at Hown hpre3
              obtain ⟨R3, hR3⟩ : ∃ R3, R3 = R2 ++ ns.flatMap sumY := ⟨_, rfl⟩
              rw [← hR3] at Hown HF hpre3
              have HR3 := Lib.hid hR3
              clear hR3
              have n4 := (Hkp.out _ _ _ (by decide) HM.out).c0 4 _ rfl
              go_wp2_with fail
              refine (nappendNumber_w w.heap.size _ R3 (nb.length : Int) 4 _ (by omega) (by omega) Hown.out hsz (by omega)).mono ?_
              rw [Int.toNat_natCast]
              rintro e' w2 ⟨v2, rfl, ho2, hb2, hk2⟩
              have O2 := Lib.hid ho2
              have B2 := Lib.hid (Hbel.out.trans hb2)
              have n4' := (hk2 _ _ _ (by decide) (Hkp.out _ _ _ (by decide) HM.out)).c0 4 _ rfl
              clear ho2 hb2 hk2 n4 Hown Hbel Hkp
              obtain ⟨R4, hR4⟩ : ∃ R4, R4 = R3 ++ bytesN 4 nb.length := ⟨_, rfl⟩
              have hpre4 : R4.length ≤ 72000000 := by rw [hR4, List.length_append, bytesN_len]; omega
              rw [← hR4] at O2 HF
              have HR4 := Lib.hid hR4
              clear hR4
              go_wp2
              go_loopw [3, 79] (fun x i wr => ∃ k : Nat, k ≤ nb.length ∧ i = .int .i64 k ∧ OwnB wr w.heap.size x (R4 ++ (nb.take k).flatMap bytesM) ∧ Below w.heap.size w wr) (fun _ i _ => nb.length - (intOf i).toNat)
              case atStart => exact ⟨0, Nat.zero_le _, rfl, by simpa using O2.out, B2.out⟩
              case round =>
                clear O2 B2 n4'
                obtain ⟨k, hk', rfl, hown, hbel⟩ := hrel
                have Hown := Lib.hid hown
                have Hbel := Lib.hid hbel
                have hsz2 := hbel.size
                clear hown hbel
                have hpre5 : (R4 ++ (nb.take k).flatMap bytesM).length ≤ 300000000 := by
                  have h1 := flat_lens bytesM 140000 nb (fun x hx => bytesM_le x) k hb
                  rw [List.length_append]
                  omega
                by_cases hlt : k < nb.length
                · obtain ⟨bb, off, cap', he, hbl, hlz, x0, x1, x2, x3, x4, x5, x6, x7⟩ := at_msg (HB.out.below Hbel.out) k hlt
                  injection he with he1 he2 he3
                  subst he1 he3
                  clear he2
                  have hltz : (k : Int) < (nb.length : Int) := by omega
                  have Htk := Lib.hid (flat_takeG bytesM nb k hlt)
                  have hml := bytesM_le (nb[k])
                  generalize nb[k] = x at *
                  obtain ⟨pre, hpe⟩ : ∃ p, p = R4 ++ (nb.take k).flatMap bytesM := ⟨_, rfl⟩
                  rw [← hpe] at hpre5 Hown
                  have Hpe := Lib.hid hpe
                  clear hpe
                  have HBy := Lib.hid (fun wx => bytes_w x wx)
                  obtain ⟨bm, hbm⟩ : ∃ bm, bm = bytesM x := ⟨_, rfl⟩
                  rw [← hbm] at Htk hml HBy
                  clear hbm
                  have Hown1 := Lib.hid (fun o => Hown.out.below (below_box o))
                  have Hbel1 := Lib.hid (fun o => Hbel.out.alloc hsz2 o)
                  obtain ⟨kd, ky, va, lo, hi', sr, ds, nn⟩ := x
                  go_wp2_with fail
                  refine (HBy.out _).mono ?_
                  rintro e' w4 ⟨v4, rfl, ho4, hb4⟩
                  have O4 := Lib.hid ho4
                  have Hown4 := Lib.hid ((Hown1.out _).below hb4)
                  have Hbel4 := Lib.hid ((Hbel1.out _).trans (hb4.mono (by simp; omega)))
                  have hs4 := Hbel4.out.size
                  clear ho4 hb4 x0 x1 x2 x3 x4 x5 x6 x7
                  go_wp2_with (at_builtin; refine append_bytesG rfl _ _ rfl w.heap.size _ pre rfl Hown4.out _ bm rfl O4.out.is (by omega) hs4 ?_; intro v6 w6 hown6 hbel6)
                  have O6 := Lib.hid hown6
                  have B6 := Lib.hid (Hbel4.out.trans hbel6)
                  clear hown6 hbel6
                  go_wp2
                  go_roundw
                  case rel => exact ⟨k + 1, by omega, by go_num, by rw [Htk.out, ← List.append_assoc, ← Hpe.out]; exact O6.out, B6.out⟩
                  case measure => simp [intOf]; omega
                · obtain rfl : k = nb.length := by omega
                  rw [List.take_length] at Hown
                  go_wp2
                  go_ret
                  rw [HF.out]
                  exact ⟨_, rfl, Hown.out, Hbel.out⟩

end Go.Proofs.YtmbfghbhajmpiaaGreat
namespace Go.Proofs.YtmbfghbhajmpiaaGreat
open Go.RowKit Go.Sort
set_option linter.unusedVariables false

theorem owns_base {w : World} {B C : Nat} {v : Value} {l : Bs} (hBC : C ≤ B) (h : OwnB w B v l) : OwnB w C v l := by
  refine ⟨h.1, ?_⟩
  rcases h.2 with h | ⟨g, cp, cur, h2, h3, h4⟩
  · exact .inl h
  · exact .inr ⟨g, cp, cur, h2, Nat.le_trans hBC h3, h4⟩
def SmallN (n : Nd) : Prop := n.pairs.length ≤ 1000000 ∧ n.kids.length ≤ 1000 ∧ n.pivots.length ≤ 1000 ∧ n.sums.length ≤ 1000 ∧ n.buf.length ≤ 1000
theorem valid_leaf {n : Nd} {s : Sp} (h : validN n s = true) (hk : n.kids = []) : n.pivots = [] ∧ n.sums = [] ∧ n.buf = [] ∧ validB n.pairs = true ∧ ∀ p ∈ n.pairs, leafPB s p = true := by
  unfold validN at h
  rw [if_pos hk] at h
  unfold leafB at h
  simp only [Bool.and_eq_true, List.isEmpty_iff, List.all_eq_true] at h
  exact h
theorem valid_inner {n : Nd} {s : Sp} (h : validN n s = true) (hk : n.kids ≠ []) : n.pairs = [] ∧ n.sums.length = n.kids.length ∧ n.pivots.length + 1 = n.kids.length ∧ (∀ k ∈ n.kids, kidB k = true) ∧ pivB s s.1 n.pivots = true ∧ (∀ x ∈ n.sums, sumB x = true) ∧ ∀ m ∈ n.buf, bufB s m = true := by
  unfold validN at h
  rw [if_neg hk] at h
  unfold innerB at h
  simp only [Bool.and_eq_true, List.isEmpty_iff, List.all_eq_true, decide_eq_true_eq] at h
  exact h
theorem leafPB_iff {s : Sp} {p : Pr} (h : leafPB s p = true) : pairB p = true ∧ hasB s p.1 = true := by unfold leafPB at h; rw [Bool.and_eq_true] at h; exact h

set_option maxRecDepth 100000 in
set_option maxHeartbeats 4000000 in
theorem nbytes_w (v : Value) (n : Nd) (w : World) (h : IsNode w v n) (hz : SmallN n) : Calls Tryz.prog 19 #[v] w (BytesOut w.heap.size w (bytesNd n)) := by
  obtain ⟨z1, z2, z3, z4, z5⟩ := hz
  have HV : Hid (∀ wx, Grown w wx → Calls Tryz.prog 17 #[v, .agg #[.string ⟨#[]⟩, .string ⟨#[]⟩]] wx fun e w' => e = .returned (.bool (validN n ([], []))) ∧ Grown wx w') := Lib.hid (fun wx hx => nvalid_w v n ([], []) wx (h.below (hx.below (Nat.le_refl _))) (by omega))
  have HL := Lib.hid (fun wx (hx : Grown w wx) => isLeaf_w v n wx (h.below (hx.below (Nat.le_refl _))))
  have HA := Lib.hid (fun wx (hx : Grown w wx) => leafBytes_w v n wx (h.below (hx.below (Nat.le_refl _))) z1)
  have HB := Lib.hid (fun wx (hx : Grown w wx) => innerBytes_w v n wx (h.below (hx.below (Nat.le_refl _))) z2 z3 z4 z5)
  have HF : Hid (bytesNd n = if validN n ([], []) && n.pivots.all textFB then (if n.kids = [] then leafY n else innerY n) else []) := Lib.hid rfl
  obtain ⟨a, b, c, d, e, rfl, -, hI, -⟩ := h
  have HT := Lib.hid (fun wx (hx : Grown w wx) => everyT b n.pivots textFB wx (hI.below (hx.below (Nat.le_refl _))) (fun wy hy x hx' => fitsText_w x wy))
  clear hI
  obtain ⟨W1, hW1⟩ : ∃ W1, W1 = w.alloc (.cells #[a, b, c, d, e] 34) := ⟨_, rfl⟩
  have HM : Hid (Blk W1 w.heap.size 34 #[a, b, c, d, e]) := Lib.hid (by rw [hW1]; exact Blk.new _ _ _)
  have HG : Hid (Grown w W1) := Lib.hid (by rw [hW1]; exact (Grown.refl w).alloc _)
  have n0 := HM.out.c0 0 _ rfl
  have n1 := HM.out.c0 1 _ rfl
  have n2 := HM.out.c0 2 _ rfl
  have n3 := HM.out.c0 3 _ rfl
  have n4 := HM.out.c0 4 _ rfl
  have HW1 := Lib.hid hW1
  clear hW1
  cases hv : validN n ([], []) with
  | false =>
    rw [hv] at HV HF
    clear hv HL HA HB HT
    go_enter Tryz.func19, Tryz.ntmps19
    go_wp2_with fail
    rw [← HW1.out]
    refine (HV.out _ HG.out).mono ?_
    rintro e' w2 ⟨rfl, hg⟩
    have Hg2 := Lib.hid hg
    clear hg n0 n1 n2 n3 n4
    go_wp2
    go_ret
    rw [HF.out]
    exact ⟨_, rfl, World.ownsRow_nil _ _ _ _, (HG.out.trans Hg2.out).below (Nat.le_refl _)⟩
  | true =>
    have Hv := Lib.hid hv
    rw [hv] at HV HF
    clear hv
    cases ht : n.pivots.all textFB with
    | false =>
      rw [ht] at HT HF
      clear ht HL HA HB
      go_enter Tryz.func19, Tryz.ntmps19
      go_wp2_with fail
      rw [← HW1.out]
      refine (HV.out _ HG.out).mono ?_
      rintro e' w2 ⟨rfl, hg⟩
      have Hg2 := Lib.hid hg
      clear hg n0 n1 n2 n3 n4
      have n1 := (blkG HM.out Hg2.out).c0 1 _ rfl
      go_wp2_with fail
      refine (HT.out _ (HG.out.trans Hg2.out)).mono ?_
      rintro e' w3 ⟨rfl, hg⟩
      have Hg3 := Lib.hid (Hg2.out.trans hg)
      clear hg n1
      go_wp2
      go_ret
      rw [HF.out]
      exact ⟨_, rfl, World.ownsRow_nil _ _ _ _, (HG.out.trans Hg3.out).below (Nat.le_refl _)⟩
    | true =>
      rw [ht] at HT HF
      have Ht := Lib.hid (List.all_eq_true.1 ht)
      clear ht
      by_cases hk : n.kids = []
      · have Hd := Lib.hid (valid_leaf Hv.out hk)
        have HF2 : Hid (bytesNd n = leafY n) := Lib.hid (by rw [HF.out, if_pos hk]; rfl)
        rw [decide_eq_true hk] at HL
        clear hk HF HB
        go_enter Tryz.func19, Tryz.ntmps19
        go_wp2_with fail
        rw [← HW1.out]
        refine (HV.out _ HG.out).mono ?_
        rintro e' w2 ⟨rfl, hg⟩
        have Hg2 := Lib.hid hg
        clear hg n0 n1 n2 n3 n4
        have n1 := (blkG HM.out Hg2.out).c0 1 _ rfl
        go_wp2_with fail
        refine (HT.out _ (HG.out.trans Hg2.out)).mono ?_
        rintro e' w3 ⟨rfl, hg⟩
        have Hg3 := Lib.hid (Hg2.out.trans hg)
        clear hg n1
        have n0 := (blkG HM.out Hg3.out).c0 0 _ rfl
        have n1 := (blkG HM.out Hg3.out).c0 1 _ rfl
        have n2 := (blkG HM.out Hg3.out).c0 2 _ rfl
        have n3 := (blkG HM.out Hg3.out).c0 3 _ rfl
        have n4 := (blkG HM.out Hg3.out).c0 4 _ rfl
        go_wp2_with fail
        refine (HL.out _ (HG.out.trans Hg3.out)).mono ?_
        rintro e' w4 ⟨rfl, hg⟩
        have Hg4 := Lib.hid (Hg3.out.trans hg)
        clear hg n0 n1 n2 n3 n4
        have n0 := (blkG HM.out Hg4.out).c0 0 _ rfl
        have n1 := (blkG HM.out Hg4.out).c0 1 _ rfl
        have n2 := (blkG HM.out Hg4.out).c0 2 _ rfl
        have n3 := (blkG HM.out Hg4.out).c0 3 _ rfl
        have n4 := (blkG HM.out Hg4.out).c0 4 _ rfl
        go_wp2_with fail
        refine (HA.out _ (HG.out.trans Hg4.out) (fun p hp => (leafPB_iff (Hd.out.2.2.2.2 p hp)).1)).mono ?_
        rintro e' w5 ⟨v', rfl, ho, hb⟩
        have Ho := Lib.hid ho
        have Hb := Lib.hid hb
        clear ho hb n0 n1 n2 n3 n4
        go_wp2
        go_ret
        rw [HF2.out]
        have hg := (HG.out.trans Hg4.out).below (B := w.heap.size) (Nat.le_refl _)
        exact ⟨_, rfl, owns_base hg.size Ho.out, hg.trans (Hb.out.mono hg.size)⟩
      · have Hd := Lib.hid (valid_inner Hv.out hk)
        have HF2 : Hid (bytesNd n = innerY n) := Lib.hid (by rw [HF.out, if_neg hk]; rfl)
        rw [decide_eq_false hk] at HL
        clear hk HF HA
        go_enter Tryz.func19, Tryz.ntmps19
        go_wp2_with fail
        rw [← HW1.out]
        refine (HV.out _ HG.out).mono ?_
        rintro e' w2 ⟨rfl, hg⟩
        have Hg2 := Lib.hid hg
        clear hg n0 n1 n2 n3 n4
        have n1 := (blkG HM.out Hg2.out).c0 1 _ rfl
        go_wp2_with fail
        refine (HT.out _ (HG.out.trans Hg2.out)).mono ?_
        rintro e' w3 ⟨rfl, hg⟩
        have Hg3 := Lib.hid (Hg2.out.trans hg)
        clear hg n1
        have n0 := (blkG HM.out Hg3.out).c0 0 _ rfl
        have n1 := (blkG HM.out Hg3.out).c0 1 _ rfl
        have n2 := (blkG HM.out Hg3.out).c0 2 _ rfl
        have n3 := (blkG HM.out Hg3.out).c0 3 _ rfl
        have n4 := (blkG HM.out Hg3.out).c0 4 _ rfl
        go_wp2_with fail
        refine (HL.out _ (HG.out.trans Hg3.out)).mono ?_
        rintro e' w4 ⟨rfl, hg⟩
        have Hg4 := Lib.hid (Hg3.out.trans hg)
        clear hg n0 n1 n2 n3 n4
        have n0 := (blkG HM.out Hg4.out).c0 0 _ rfl
        have n1 := (blkG HM.out Hg4.out).c0 1 _ rfl
        have n2 := (blkG HM.out Hg4.out).c0 2 _ rfl
        have n3 := (blkG HM.out Hg4.out).c0 3 _ rfl
        have n4 := (blkG HM.out Hg4.out).c0 4 _ rfl
        go_wp2_with fail
        refine (HB.out _ (HG.out.trans Hg4.out) Hd.out.2.2.2.1 Ht.out Hd.out.2.2.2.2.2.1).mono ?_
        rintro e' w5 ⟨v', rfl, ho, hb⟩
        have Ho := Lib.hid ho
        have Hb := Lib.hid hb
        clear ho hb n0 n1 n2 n3 n4
        go_wp2
        go_ret
        rw [HF2.out]
        have hg := (HG.out.trans Hg4.out).below (B := w.heap.size) (Nat.le_refl _)
        exact ⟨_, rfl, owns_base hg.size Ho.out, hg.trans (Hb.out.mono hg.size)⟩

end Go.Proofs.YtmbfghbhajmpiaaGreat
