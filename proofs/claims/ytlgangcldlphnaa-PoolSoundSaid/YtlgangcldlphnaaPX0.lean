/-
  Regions that draw with two literals and two appends of numbers.
-/
import Derived.Test.YtlgangcldlphnaaPW
import Derived.Test.YtlgangcldlphnaaPT
import Derived.Test.YtlgangcldlphnaaPL2
namespace Go.Proofs.Ytlgangcldlphnaa
open Go.RowKit Go.Sort
set_option linter.unusedVariables false
set_option maxRecDepth 100000

theorem grown_refl (w : World) (row : Option Nat) : w.grownBy w row := ⟨rfl, rfl, rfl, Nat.le_refl _, fun _ _ _ => rfl⟩
theorem run_intsG (ty : TypeId) {w : World} (base : Nat) (v : Value) (l : List Int) (hown : w.ownsRow base 3 1 v l.length (l.flatMap encI)) (u : Value) (m : List Int) (hp : IsInts w u m) (hl : l.length + m.length ≤ 1000000000) (hbase : base ≤ w.heap.size) :
    ∃ v' w', (Builtin.append_ #[30, 30] ty #[v, u]).run Try.prog w = .ok v' w' ∧ w'.ownsRow base 3 1 v' (l ++ m).length ((l ++ m).flatMap encI) ∧ w.grownBy w' v.ownBlock := by
  obtain ⟨i0, hi, hz0, hz1, hz2⟩ := info_parts infoI
  obtain ⟨p, cap, rfl, hpp⟩ := hp.any
  by_cases hm : m = []
  · subst hm
    refine ⟨v, w, ?_, by simpa using hown, grown_refl _ _⟩
    cases p with
    | none =>
      rcases hown.2 with ⟨rfl, _⟩ | ⟨g, cap', cur, rfl, _, _, hnc, _⟩
      · simp [Builtin.append_, run_underlying Try.underlying30, sizeOf, typeInfo, hi, Builtin.lenOf, Builtin.firstCells]
      · simp [Builtin.append_, run_underlying Try.underlying30, sizeOf, typeInfo, hi, Builtin.lenOf, Builtin.firstCells, hnc, storeCells]
    | some ad =>
      rcases hown.2 with ⟨rfl, _⟩ | ⟨g, cap', cur, rfl, _, _, hnc, _⟩
      · simp [Builtin.append_, run_underlying Try.underlying30, sizeOf, typeInfo, hi, Builtin.lenOf, Builtin.firstCells]
        rfl
      · simp [Builtin.append_, run_underlying Try.underlying30, sizeOf, typeInfo, hi, Builtin.lenOf, Builtin.firstCells, hnc, storeCells, hz1]
        rfl
  · obtain ⟨b, off, rfl, hc⟩ := hpp hm
    have hnews : ∀ j u, (m.flatMap encI)[j]? = some u → w.cell? ((⟨b, off, none⟩ : Addr).add j) = some u := by
      refine cells_at fun j u hj => ?_
      obtain ⟨i, r, hi', rfl, hu⟩ := flat_any encI_len m j u hj
      rw [← Nat.add_assoc]
      exact hc i hi' r u hu
    obtain ⟨v', w', r1, r2, r3, -⟩ := run_append_own (P := Try.prog) w base 30 ty 3 i0 (.int .i64 0) 1 8 Try.underlying30 hi hz0 hz1 hz2 rfl (by decide) v l.length (l.flatMap encI) hown ⟨b, off, none⟩ m.length cap (m.flatMap encI) (flat_lenA encI_len m) hnews (fun u hu => by obtain ⟨y, _, hy⟩ := List.mem_flatMap.1 hu; exact encI_one y u hy) (by unfold maxLen; omega) (by omega) hbase
    exact ⟨v', w', r1, by rw [List.length_append, List.flatMap_append]; exact r2, r3⟩
/-- What such a region keeps: but for the result's block r all that was there is as it was; a box is among it. -/
structure RgS (r : Nat) (w3 : World) (b : Nat) (T : TypeId) (cs : Array Value) (wx : World) : Prop where
  but : ButP r w3 wx
  blk : Blk wx b T cs
theorem RgS.refl {r : Nat} {w3 : World} {b : Nat} {T : TypeId} {cs : Array Value} (hb : Blk w3 b T cs) : RgS r w3 b T cs w3 := ⟨ButP.refl _ _, hb⟩
theorem RgS.sz {r : Nat} {w3 wx : World} {b : Nat} {T : TypeId} {cs : Array Value} (h : RgS r w3 b T cs wx) : w3.heap.size ≤ wx.heap.size := h.but.size
theorem RgS.drew {r : Nat} {w3 wx : World} {b : Nat} {T : TypeId} {cs : Array Value} (h : RgS r w3 b T cs wx) : RgS r w3 b T cs wx.drew := ⟨h.but.trans (ButP.of (below_drewN wx 1)), h.blk⟩
theorem RgS.alloc {r : Nat} {w3 wx : World} {b : Nat} {T : TypeId} {cs : Array Value} (h : RgS r w3 b T cs wx) (o : Obj) : RgS r w3 b T cs (wx.alloc o) := ⟨h.but.trans (ButP.of (below_box o)), h.blk.alloc o⟩
theorem RgS.grown {r : Nat} {w3 wx wy : World} {b : Nat} {T : TypeId} {cs : Array Value} (h : RgS r w3 b T cs wx) {v : Value} (hg : wx.grownBy wy v.ownBlock) (hv : ∀ c, v.ownBlock = some c → w3.heap.size ≤ c) (hb : b < w3.heap.size) : RgS r w3 b T cs wy :=
  ⟨⟨hg.os.trans h.but.os, hg.tape.trans h.but.tape, hg.output.trans h.but.output, Nat.le_trans h.but.size hg.size, fun k hk hr => (hg.block k (Nat.lt_of_lt_of_le hk h.but.size) (fun e => by have := hv k e.symm; omega)).trans (h.but.block k hk hr)⟩, grown_blk hg h.blk (fun e => by have := hv b e; omega)⟩
theorem RgS.set {r : Nat} {w3 wx : World} {b : Nat} {T : TypeId} {cs : Array Value} (h : RgS r w3 b T cs wx) (i : Nat) (u : Value) (hn : b ≠ r) : RgS r w3 b T cs (wx.setCell ⟨r, i, none⟩ u) :=
  ⟨h.but.trans (ButP.setCell r i u wx), h.blk.setCell_other hn _ _⟩
theorem SlF.but {w0 w w' : World} {v : Value} {P : List Sl} {r : Nat} (h : SlF w0 w v P) (hb : ButP r w w') (hne : P ≠ [] → blkOf v ≠ some r) : SlF w0 w' v P := by
  obtain ⟨L, h0, a, cap, rfl, h2, h3, h4⟩ := h
  refine ⟨L, h0, a, cap, rfl, h2, h3, fun hl => ?_⟩
  obtain ⟨b, off, rfl, hlt, hc⟩ := h4 hl
  have hbr : b ≠ r := fun e => hne hl (by rw [e]; rfl)
  refine ⟨b, off, rfl, Nat.lt_of_lt_of_le hlt hb.size, fun i hi => ?_⟩
  have e : ∀ k, w'.cell? ⟨b, k, none⟩ = w.cell? ⟨b, k, none⟩ := fun k => by
    unfold World.cell?; rw [hb.block b hlt hbr]
  have := hc i hi
  unfold VAt at *
  simp only [e]; exact this
theorem slots_blk {w : World} {v : Value} {P : List Sl} (h : IsSlots w v P) (hne : P ≠ []) : ∀ c, blkOf v = some c → c < w.heap.size := by
  obtain ⟨L, h0, a, cap, rfl, h2, h3, h4⟩ := h
  obtain ⟨b, off, rfl, hlt, hc⟩ := h4 hne
  intro c hc
  injection hc with hc
  rw [← hc]; exact hlt
/-- The pool that a call gave does not lie in an own block that was there before the call. -/
theorem SlOut.far {w w1 w2 : World} {v v' : Value} {P P' : List Sl} {r : Nat} (h : SlOut w w1 w2 v v' P') (H : IsSlots w v P) (hr : w.heap.size ≤ r) (hr2 : r < w1.heap.size) : P' ≠ [] → blkOf v' ≠ some r := by
  intro hne e
  rcases h.blk r e with h1 | h1
  · have hl : P'.length = P.length := by
      obtain ⟨L, _, a, cap, e1, _⟩ := h.sl
      obtain ⟨L2, _, a2, cap2, e2, _⟩ := H
      rw [h1, e2] at e1
      injection e1 with _ e1
      exact e1.symm
    have hP : P ≠ [] := by intro e3; rw [e3] at hl; exact hne (List.length_eq_zero_iff.1 hl)
    rw [h1] at e
    have := slots_blk H hP r e
    omega
  · omega
theorem ints_grown {w w' : World} {v : Value} {l : List Int} {row : Option Nat} (h : IsInts w v l) (hg : w.grownBy w' row) (hne : ∀ b, blkOf v = some b → row ≠ some b) : IsInts w' v l := by
  obtain ⟨a, cap, rfl, h2, h3, h4⟩ := h
  refine ⟨a, cap, rfl, h2, h3, fun hl => ?_⟩
  obtain ⟨b, off, rfl, hlt, hc⟩ := h4 hl
  refine ⟨b, off, rfl, Nat.lt_of_lt_of_le hlt hg.size, fun i hi => ?_⟩
  have := hc i hi
  unfold World.cell? at this ⊢
  rw [hg.block b hlt (fun e => hne b rfl e.symm)]; exact this
/-- The first append: onto an empty literal, which lies at e; the other literal may lie there already. -/
theorem step_ints1 {ops : Array Oper} {o : Oper} {a : Act} {w : World} {K : Act → World → Prop} {Q : Exit → Act → World → Prop} {E : Prop} (hg : o.guard = none) (s x : Operand)
    (hop : o.op = .call { callee := .builtin .append, args := #[s, x], argTypes := #[30, 30] }) (base : Nat) (v : Value) (l : List Int) (hs : a.eval s = v) (hown : w.ownsRow base 3 1 v l.length (l.flatMap encI))
    (u : Value) (m : List Int) (hx : a.eval x = u) (hp : IsInts w u m) (hl : l.length + m.length ≤ 1000000000) (hbase : base ≤ w.heap.size)
    (hK : ∀ v' w', w'.ownsRow base 3 1 v' (l ++ m).length ((l ++ m).flatMap encI) → w.grownBy w' v.ownBlock → K (a.put o.dst v') w') : if Region.wanted o (yielded ops a.tmps) = true then Oper.wp Try.prog o a w K Q else E := by
  have hw : Region.wanted o (yielded ops a.tmps) = true := by simp [Region.wanted, hg]
  rw [if_pos hw]
  obtain ⟨v', w', hrun, r1, r2⟩ := run_intsG o.type base v l hown u m hp hl hbase
  unfold Oper.wp
  simp [execOp, hop, resolve, invoke, builtin, hs, hx, hrun, Result.andThen]
  exact hK v' w' r1 r2
/-- The literals, wherever they lie: one way for each order. -/
theorem lit_own {w : World} {n : Nat} {base : Nat} (hn : n = w.heap.size) (hb : base ≤ n) : (w.alloc (.cells #[] 3)).ownsRow base 3 1 (.slice (some ⟨n, 0, none⟩) 0 0) ([] : List Int).length (([] : List Int).flatMap encI) := by
  subst hn; exact own_emptyI w base hb
theorem own_blkOf2 {w : World} {base : Nat} {e : TypeId} {size : Nat} {v : Value} {n : Nat} {xs : List Value} (h : w.ownsRow base e size v n xs) : ∀ c, v.ownBlock = some c → base ≤ c := fun c hc => (h.lt c hc).1
theorem lit_A (W : World) (x : Int) : IsInts ((W.alloc (.cells #[] 3)).alloc (.cells #[.int .i64 x] 3)) (.slice (some ⟨W.heap.size + 1, 0, none⟩) 1 1) [x] := isInts_lit (w := W.alloc (.cells #[] 3)) [x] (by simp) (by simp) (by simp)
theorem lit_Ad (W : World) (x : Int) : IsInts ((W.alloc (.cells #[] 3)).alloc (.cells #[.int .i64 x] 3)).drew (.slice (some ⟨W.heap.size + 1, 0, none⟩) 1 1) [x] := (lit_A W x).below (below_drewN _ 1)
theorem lit_B (W : World) (x : Int) : IsInts ((W.alloc (.cells #[.int .i64 x] 3)).alloc (.cells #[] 3)) (.slice (some ⟨W.heap.size, 0, none⟩) 1 1) [x] := (isInts_lit (w := W) [x] rfl (by simp) (by simp)).below (below_box _)
theorem lit_Bd (W : World) (x : Int) : IsInts ((W.alloc (.cells #[.int .i64 x] 3)).alloc (.cells #[] 3)).drew (.slice (some ⟨W.heap.size, 0, none⟩) 1 1) [x] := (lit_B W x).below (below_drewN _ 1)
theorem neA (W : World) (n c : Nat) : ∀ b, blkOf (.slice (some ⟨W.heap.size + 1, 0, none⟩) 1 1) = some b → (Value.slice (some ⟨W.heap.size, 0, none⟩) n c).ownBlock ≠ some b := fun b hb e => by
  have e : W.heap.size = b := Option.some.inj e
  have hb : W.heap.size + 1 = b := Option.some.inj hb
  omega
theorem neB (W : World) (n c : Nat) : ∀ b, blkOf (.slice (some ⟨W.heap.size, 0, none⟩) 1 1) = some b → (Value.slice (some ⟨W.heap.size + 1, 0, none⟩) n c).ownBlock ≠ some b := fun b hb e => by
  have e : W.heap.size + 1 = b := Option.some.inj e
  have hb : W.heap.size = b := Option.some.inj hb
  omega
theorem own_blkE {e : Nat} {n c : Nat} : (Value.slice (some ⟨e, 0, none⟩) n c).ownBlock = some e := rfl

/-- A list of numbers, of pairs does not lie in a box of two slices. -/
theorem ints_off {w : World} {v : Value} {l : List Int} {r : Nat} {T : TypeId} {x0 x1 : Value} (h : IsInts w v l) (hr : Blk w r T #[x0, x1]) (h0 : ∀ i, x0 ≠ .int .i64 i) (h1 : ∀ i, x1 ≠ .int .i64 i) : l ≠ [] → blkOf v ≠ some r := by
  intro hne e
  obtain ⟨a, cap, rfl, h2, h3, h4⟩ := h
  obtain ⟨b, off, rfl, hlt, hc⟩ := h4 hne
  have hb : b = r := Option.some.inj e
  subst hb
  have := hc 0 (List.length_pos_iff.2 hne)
  rw [hr.cell] at this
  match off, this with
  | 0, this => exact h0 _ (Option.some.inj this)
  | 1, this => exact h1 _ (Option.some.inj this)
  | k + 2, this => simp at this
theorem pairs_off {w : World} {v : Value} {l : List Pr} {r : Nat} {T : TypeId} {x0 x1 : Value} (h : IsPairs w v l) (hr : Blk w r T #[x0, x1]) (h0 : ∀ i, x0 ≠ .string i) (h1 : ∀ i, x1 ≠ .string i) : l ≠ [] → blkOf v ≠ some r := by
  intro hne e
  obtain ⟨a, cap, rfl, h2, h3, hs, h4⟩ := h
  obtain ⟨b, off, rfl, hlt, hc⟩ := h4 hne
  have hb : b = r := Option.some.inj e
  subst hb
  have := (hc 0 (List.length_pos_iff.2 hne)).1
  rw [hr.cell] at this
  match off, this with
  | 0, this => exact h0 _ (Option.some.inj this)
  | 1, this => exact h1 _ (Option.some.inj this)
  | k + 2, this => simp at this
theorem but_cell {w w' : World} {r b : Nat} (hb : ButP r w w') (hl : b < w.heap.size) (hne : b ≠ r) (o : Nat) : w'.cell? ⟨b, o, none⟩ = w.cell? ⟨b, o, none⟩ := by
  unfold World.cell?; rw [hb.block b hl hne]
theorem ints_but {w w' : World} {v : Value} {l : List Int} {r : Nat} (h : IsInts w v l) (hb : ButP r w w') (hne : l ≠ [] → blkOf v ≠ some r) : IsInts w' v l := by
  obtain ⟨a, cap, rfl, h2, h3, h4⟩ := h
  refine ⟨a, cap, rfl, h2, h3, fun hl => ?_⟩
  obtain ⟨b, off, rfl, hlt, hc⟩ := h4 hl
  have hbr : b ≠ r := fun e => hne hl (by rw [e]; rfl)
  exact ⟨b, off, rfl, Nat.lt_of_lt_of_le hlt hb.size, fun i hi => by rw [but_cell hb hlt hbr]; exact hc i hi⟩
theorem pairs_but {w w' : World} {v : Value} {l : List Pr} {r : Nat} (h : IsPairs w v l) (hb : ButP r w w') (hne : l ≠ [] → blkOf v ≠ some r) : IsPairs w' v l := by
  obtain ⟨a, cap, rfl, h2, h3, hs, h4⟩ := h
  refine ⟨a, cap, rfl, h2, h3, hs, fun hl => ?_⟩
  obtain ⟨b, off, rfl, hlt, hc⟩ := h4 hl
  have hbr : b ≠ r := fun e => hne hl (by rw [e]; rfl)
  exact ⟨b, off, rfl, Nat.lt_of_lt_of_le hlt hb.size, fun i hi => by rw [but_cell hb hlt hbr, but_cell hb hlt hbr, but_cell hb hlt hbr]; exact hc i hi⟩
theorem isSl_but {w w' : World} {v : Sv} {s : Sl} {r : Nat} {T : TypeId} {a0 a1 : Option Addr} {n0 n1 c0 c1 : Nat} (h : IsSl w v s) (hs : Bare s.node) (hr : Blk w r T #[.slice a0 n0 c0, .slice a1 n1 c1]) (hb : ButP r w w') : IsSl w' v s := by
  obtain ⟨h1, h2, h3, h4, h5, h6, h7, h8⟩ := h
  obtain ⟨e1, e2, e3⟩ := hs
  refine ⟨h1, h2, h3, pairs_but h4 hb (pairs_off h4 hr (fun i e => by cases e) (fun i e => by cases e)), ?_, ints_but h6 hb (ints_off h6 hr (fun i e => by cases e) (fun i e => by cases e)), ?_, ?_⟩
  · rw [e1] at h5 ⊢
    obtain ⟨a, cap, e, x1, x2, -⟩ := h5
    exact ⟨a, cap, e, x1, x2, fun h => absurd rfl h⟩
  · rw [e2] at h7 ⊢
    obtain ⟨a, cap, e, x1, x2, -⟩ := h7
    exact ⟨a, cap, e, x1, x2, fun h => absurd rfl h⟩
  · rw [e3] at h8 ⊢
    obtain ⟨a, cap, e, x1, x2, -⟩ := h8
    exact ⟨a, cap, e, x1, x2, fun h => absurd rfl h⟩
/-- Slots stay, but for a store into a box of two slices. -/
theorem slots_but {w w' : World} {v : Value} {P : List Sl} {r : Nat} {T : TypeId} {a0 a1 : Option Addr} {n0 n1 c0 c1 : Nat} (h : IsSlots w v P) (hbare : ∀ i, Bare (atP P i).node) (hr : Blk w r T #[.slice a0 n0 c0, .slice a1 n1 c1]) (hb : ButP r w w') (hne : P ≠ [] → blkOf v ≠ some r) : IsSlots w' v P := by
  have h2 := h.slF.but hb hne
  obtain ⟨L, h3, h4⟩ := h2
  exact ⟨L, ⟨h3.1, fun i => isSl_but (h3.2 i) (hbare i) hr hb⟩, h4⟩
theorem ints_to {w : World} {b off n cap : Nat} {l : List Int} (h : IsInts w (.slice (some ⟨b, off, none⟩) n cap) l) (k : Nat) (hk : k ≤ l.length) :
    (∀ wx : World, (Instr.slice 30 (.slice (some ⟨b, off, none⟩) n cap) none (some (.int .i64 (k : Int))) none).run Try.prog wx = .ok (.slice (some ⟨b, off, none⟩) k cap) wx) ∧ IsInts w (.slice (some ⟨b, off, none⟩) k cap) (l.take k) := by
  obtain ⟨a, cap', e, h2, h3, h4⟩ := h
  injection e with e1 e2 e3
  subst e1 e2 e3
  constructor
  · intro wx
    have e : Try.prog.elem 30 = 3 := by kernel_rfl
    rw [run_slice_h wx 30 (some ⟨b, off, none⟩) l.length cap (by rw [e]; exact Try.underlying30) .i64 (k : Int) (by omega) (by omega), e, Try.sizeOf3]
    have hadd : (⟨b, off, none⟩ : Addr).add 0 = ⟨b, off, none⟩ := by unfold Addr.add; split <;> simp_all
    simp only [Result.andThen, sliced]
    simp [hadd]
  · refine ⟨_, cap, by rw [List.length_take, Nat.min_eq_left hk], by rw [List.length_take]; omega, h3, fun hne => ?_⟩
    have hl : l ≠ [] := by rintro rfl; simp at hne
    obtain ⟨b', off', e', hlt, hc⟩ := h4 hl
    refine ⟨b', off', e', hlt, fun i hi => ?_⟩
    rw [List.getElem_take]
    exact hc i (by rw [List.length_take] at hi; omega)
theorem ints_from {w : World} {b off n cap : Nat} {l : List Int} (h : IsInts w (.slice (some ⟨b, off, none⟩) n cap) l) (k : Nat) (hk : k ≤ l.length) :
    ∃ a' c', (∀ wx : World, (Instr.slice 30 (.slice (some ⟨b, off, none⟩) n cap) (some (.int .i64 (k : Int))) none none).run Try.prog wx = .ok (.slice a' (l.drop k).length c') wx) ∧ IsInts w (.slice a' (l.drop k).length c') (l.drop k) := by
  obtain ⟨a, cap', e, h2, h3, h4⟩ := h
  injection e with e1 e2 e3
  subst e1 e2 e3
  have hadd : ∀ i, (⟨b, off, none⟩ : Addr).add i = ⟨b, off + i, none⟩ := by intro i; unfold Addr.add; split <;> simp_all
  refine ⟨if cap = k then some ⟨b, off, none⟩ else some ⟨b, off + k, none⟩, cap - k, fun wx => ?_, _, cap - k, rfl, by rw [List.length_drop]; omega, by omega, fun hne => ?_⟩
  · have e : Try.prog.elem 30 = 3 := by kernel_rfl
    rw [run_slice_l wx 30 (some ⟨b, off, none⟩) l.length cap (by rw [e]; exact Try.underlying30) .i64 (k : Int) (by omega) (by omega), e, Try.sizeOf3]
    simp only [Result.andThen, sliced]
    simp [hadd]
  · have hl : l ≠ [] := by rintro rfl; simp at hne
    have hpos := List.length_pos_iff.2 hne
    rw [List.length_drop] at hpos
    obtain ⟨b', off', e', hlt, hc⟩ := h4 hl
    injection e' with e'
    injection e' with e1 e2
    subst e1 e2
    rw [if_neg (by omega)]
    refine ⟨b, off + k, rfl, hlt, fun i hi => ?_⟩
    rw [List.getElem_drop, Nat.add_assoc]
    exact hc (k + i) (by rw [List.length_drop] at hi; omega)

end Go.Proofs.Ytlgangcldlphnaa
