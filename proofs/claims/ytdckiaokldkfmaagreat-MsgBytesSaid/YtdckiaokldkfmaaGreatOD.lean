/-
  Walks: region 4 of the law MsgBytes, one lemma a state; a slice of bytes as an argument; append of bytes.
-/
import Derived.Test.YtdckiaokldkfmaaGreatNY
import Derived.Test.YtdckiaokldkfmaaGreatNI
import Derived.Test.YtdckiaokldkfmaaGreatNJ
namespace Go.Proofs.YtdckiaokldkfmaaGreat
open Go.ChangeShapes Go.WideShapes Go.ChangeAt Go.RowKit Go.Deep Go.Sort
open Go.ChangeMaps (open_string shut_string)
set_option linter.unusedVariables false
set_option maxRecDepth 100000

section
variable {H : Type} {enc : TypeId × Value → H} {W : World} {base : Nat} {r : Reach} {v : Value} {d : DataW H} {p : List MemPlace}
theorem cells_bytes {fuel : Nat} {c : Value} {y : DataW H × List MemPlace} (hf : DataW.trod enc Tryz.prog W 0 (fun _ => true) true fuel 48 [c] = some y) : ∃ l, IsBytes W c l := by
  rcases open_ints Tryz.underlying48 Tryz.underlying5 (by kernel_rfl) hf with ⟨hcs, _⟩ | ⟨x, len, cap, zs, hcs, _, hl, hm, hz, _, hcell, hwz⟩
  · simp only [List.cons.injEq, and_true] at hcs
    subst hcs
    exact ⟨[], none, 0, rfl, Nat.le_refl _, by unfold maxLen; omega, fun h => absurd rfl h⟩
  · simp only [List.cons.injEq, and_true] at hcs
    subst hcs
    simp only [↓reduceIte] at hz
    refine ⟨(zs.take len).map fun n => UInt8.ofNat n.toNat, some x, cap, ?_, ?_, hm, fun hne => ?_⟩
    · simp; omega
    · simp; omega
    · have hlen : ((zs.take len).map fun n => UInt8.ofNat n.toNat).length = len := by simp; omega
      have h0 : 0 < len := by
        rcases Nat.eq_zero_or_pos len with h | h
        · subst h; exact absurd rfl hne
        · exact h
      obtain ⟨b, off, spot⟩ := x
      have hc := hcell 0 (by omega)
      have hspot : spot = none := by simpa [Addr.add] using World.cell?_spot hc
      subst hspot
      have hc0 := hc
      simp only [Addr.add, Nat.add_zero] at hc0
      refine ⟨b, off, rfl, cell_lt hc0, fun i hi => ?_⟩
      have hi' : i < len := by omega
      have hci := hcell i (by omega)
      have hadd : (⟨b, off, none⟩ : Addr).add i = ⟨b, off + i, none⟩ := by unfold Addr.add; split <;> simp_all
      rw [hadd] at hci
      have hmem : zs.getD i 0 ∈ zs := by rw [List.getD_eq_getElem?_getD, List.getElem?_eq_getElem (by omega)]; exact List.getElem_mem _
      have hw := bounds_u8 (hwz _ hmem)
      refine Eq.trans hci ?_
      simp only [List.getElem_map, List.getElem_take]
      rw [List.getD_eq_getElem?_getD, List.getElem?_eq_getElem (by omega)] at hw ⊢
      simp only [Option.getD_some] at hw ⊢
      congr 2
      rw [UInt8.toNat_ofNat']
      omega
theorem open_bytes (hval : Value.okWide Tryz.prog W r base 48 v) (hd : DataW.Trod enc Tryz.prog W 0 (fun _ => true) true 48 v d p) : ∃ l, IsBytes W v l := by
  obtain ⟨a, len, cap, rfl⟩ := okWide_slice Tryz.underlying48 hval
  obtain ⟨fuel, hf⟩ := hd
  exact cells_bytes (c := .slice a len cap) (by simpa [Value.cells] using hf)
end
/-- Two raw messages' block. -/
structure By12 (w : World) (a1 a2 a3 a4 a5 a6 g1 g2 g3 g4 g5 g6 : Nat) (wr : World) : Prop where
  b : Blk wr w.heap.size 57 #[.int .u8 a1, .int .u8 a2, .int .u8 a3, .int .u8 a4, .int .u8 a5, .int .u8 a6, .int .u8 g1, .int .u8 g2, .int .u8 g3, .int .u8 g4, .int .u8 g5, .int .u8 g6]
  g : Below w.heap.size w wr
section
variable {w wx wy : World} {a1 a2 a3 a4 a5 a6 g1 g2 g3 g4 g5 g6 : Nat}
theorem By12.below (h : By12 w a1 a2 a3 a4 a5 a6 g1 g2 g3 g4 g5 g6 wx) (hb : Below wx.heap.size wx wy) : By12 w a1 a2 a3 a4 a5 a6 g1 g2 g3 g4 g5 g6 wy := ⟨h.b.below hb h.b.lt, h.g.trans (hb.mono h.g.size)⟩
theorem By12.drew (h : By12 w a1 a2 a3 a4 a5 a6 g1 g2 g3 g4 g5 g6 wx) : By12 w a1 a2 a3 a4 a5 a6 g1 g2 g3 g4 g5 g6 wx.drew := h.below (below_drewN wx 1)
theorem By12.alloc (h : By12 w a1 a2 a3 a4 a5 a6 g1 g2 g3 g4 g5 g6 wx) (o : Obj) : By12 w a1 a2 a3 a4 a5 a6 g1 g2 g3 g4 g5 g6 (wx.alloc o) := h.below (below_box _)
theorem By12.st8 (h : By12 w a1 a2 a3 a4 a5 a6 g1 g2 g3 g4 g5 g6 wx) (n : Nat) (hn : w.heap.size < n) (m : Ms) : By12 w a1 a2 a3 a4 a5 a6 g1 g2 g3 g4 g5 g6 (Go.Proofs.YtdckiaokldkfmaaGreat.st8 wx n m) := ⟨h.b.other8 (Nat.ne_of_lt hn) _, below_st8 h.g (Nat.le_of_lt hn) _⟩
end
theorem own_emptyB (W : World) (B : Nat) (hB : B ≤ W.heap.size) : OwnB (W.alloc (.cells #[] 5)) B (.slice (some ⟨W.heap.size, 0, none⟩) 0 0) [] :=
  ⟨rfl, .inr ⟨W.heap.size, 0, #[], rfl, hB, Blk.new _ _ _, Nat.le_refl _, by unfold maxLen; omega, rfl, rfl⟩⟩
theorem append_bytes {w : World} {ops : Array Oper} {rest : List Oper} {o : Oper} {a : Act} {Q : Exit → Act → World → Prop} (hgd : o.guard = none) (s x : Operand)
    (ho : o.op = .call { callee := .builtin .append, args := #[s, x], argTypes := #[48, 48] }) (base : Nat) (v : Value) (l : Bs) (hs : a.eval s = v) (hown : OwnB w base v l)
    (u : Value) (m : Bs) (hx : a.eval x = u) (hp : IsBytes w u m) (hl : l.length + m.length ≤ 100000) (hbase : base ≤ w.heap.size)
    (h : ∀ v' w', OwnB w' base v' (l ++ m) → Below base w w' → wpList Tryz.prog ops Q rest (a.put o.dst v') w') : wpList Tryz.prog ops Q (o :: rest) a w := by
  obtain ⟨i0, hi, hz0, hz1, hz2⟩ := info_parts infoU8
  obtain ⟨p, cap, rfl, hlc, hcm, hpp⟩ := hp
  refine append_gen hgd s x 48 5 i0 (.int .u8 0) 1 1 Tryz.underlying48 hi hz0 hz1 hz2 rfl (by decide) (by decide) ho base v l.length _ hs hown p m.length cap (m.map fun c => Value.int .u8 c.toNat) hx (by simp) ?_ ?_ hl hbase ?_
  · intro hm
    obtain ⟨b, off, rfl, hlt, hc⟩ := hpp (by rintro rfl; simp at hm)
    refine ⟨_, rfl, fun j u hj => ?_⟩
    obtain ⟨hj1, rfl⟩ := List.getElem?_eq_some_iff.1 hj
    have hj2 : j < m.length := by simpa using hj1
    have hadd : (⟨b, off, none⟩ : Addr).add j = ⟨b, off + j, none⟩ := by unfold Addr.add; split <;> simp_all
    rw [hadd, hc j hj2]; simp
  · intro u hu
    simp at hu
    obtain ⟨y, _, rfl⟩ := hu
    rfl
  · intro v' w' h2 h3
    refine h v' w' ?_ h3
    unfold OwnB
    rw [List.length_append, List.map_append]; exact h2
noncomputable def by4R : Code := ((Tryz.f10.body.bind (codeReg 4)).getD .skip)
set_option maxRecDepth 1000000 in
set_option maxHeartbeats 8000000 in
theorem by4_2_01 (w : World) (a1 a2 a3 a4 a5 a6 g1 g2 g3 g4 g5 g6 : Nat) (m o : Ms) (Hm1 : ∀ wr, Calls Tryz.prog 29 #[.agg #[.int .u8 a1, .int .u8 a2, .int .u8 a3, .int .u8 a4, .int .u8 a5, .int .u8 a6]] wr fun e w' => e = .returned (msgV m) ∧ Below wr.heap.size wr w') (Hm2 : ∀ wr, Calls Tryz.prog 29 #[.agg #[.int .u8 g1, .int .u8 g2, .int .u8 g3, .int .u8 g4, .int .u8 g5, .int .u8 g6]] wr fun e w' => e = .returned (msgV o) ∧ Below wr.heap.size wr w') (s0 s1 s3 s4 s5 s8 s9 s10 s11 s12 s13 s14 s15 s16 s17 s18 s19 s20 s27 s28 s29 s30 s31 s32 s33 s34 s35 s36 s37 s38 s39 s40 s41 s42 s43 s44 s45 s46 s47 s48 s49 s50 s51 s52 s53 s54 s55 s56 s57 s58 s59 s60 s61 s62 s63 s64 s65 s66 s67 s68 s69 s70 s71 s72 s73 s74 s75 s76 s77 s78 s79 s80 s81 s82 s83 s84 s85 s86 s87 : Value) (Q : Exit → Act → World → Prop) (hQ : ∀ (u21 u22 u23 u24 u25 u26 : Value) (b6 b7 : Nat) (wx : World), Lw w [] [(b7, o), (b6, m)] [] wx → Q .normal ⟨#[s0, s1, .pointer (some ⟨w.heap.size, 0, none⟩), s3, s4, s5, .pointer (some ⟨b6, 0, none⟩), .pointer (some ⟨b7, 0, none⟩), s8, s9, s10, s11, s12, s13, s14, s15, s16, s17, s18, s19, s20, u21, u22, u23, u24, u25, u26, s27, s28, s29, s30, s31, s32, s33, s34, s35, s36, s37, s38, s39, s40, s41, s42, s43, s44, s45, s46, s47, s48, s49, s50, s51, s52, s53, s54, s55, s56, s57, s58, s59, s60, s61, s62, s63, s64, s65, s66, s67, s68, s69, s70, s71, s72, s73, s74, s75, s76, s77, s78, s79, s80, s81, s82, s83, s84, s85, s86, s87], []⟩ wx)
     (wx : World) (hHeld : By12 w a1 a2 a3 a4 a5 a6 g1 g2 g3 g4 g5 g6 wx) (b6 : Nat) (hz0 : Blk wx b6 34 #[.int .i64 0, .string ⟨#[]⟩, .string ⟨#[]⟩, .string ⟨#[]⟩, .string ⟨#[]⟩, .string ⟨#[]⟩, .string ⟨#[]⟩, .int .i64 0]) (hl0 : w.heap.size < b6) (b7 : Nat) (hz1 : Blk wx b7 34 #[.int .i64 0, .string ⟨#[]⟩, .string ⟨#[]⟩, .string ⟨#[]⟩, .string ⟨#[]⟩, .string ⟨#[]⟩, .string ⟨#[]⟩, .int .i64 0]) (hl1 : w.heap.size < b7) (hn01 : b6 ≠ b7) :
    wpAnyH Tryz.prog .any (codeOps by4R) (NoPanic Q) (fun wr => By12 w a1 a2 a3 a4 a5 a6 g1 g2 g3 g4 g5 g6 wr) 2 #[true, true, true, true, true, true, true, true, false, false] ⟨#[s0, s1, .pointer (some ⟨w.heap.size, 0, none⟩), s3, s4, s5, .pointer (some ⟨b6, 0, none⟩), .pointer (some ⟨b7, 0, none⟩), s8, s9, s10, s11, s12, s13, s14, s15, s16, s17, s18, s19, s20, .pointer (some ⟨w.heap.size, 0, none⟩), .agg #[.int .u8 a1, .int .u8 a2, .int .u8 a3, .int .u8 a4, .int .u8 a5, .int .u8 a6], msgV m, .pointer (some ⟨w.heap.size, 6, none⟩), .agg #[.int .u8 g1, .int .u8 g2, .int .u8 g3, .int .u8 g4, .int .u8 g5, .int .u8 g6], msgV o, s27, s28, s29, s30, s31, s32, s33, s34, s35, s36, s37, s38, s39, s40, s41, s42, s43, s44, s45, s46, s47, s48, s49, s50, s51, s52, s53, s54, s55, s56, s57, s58, s59, s60, s61, s62, s63, s64, s65, s66, s67, s68, s69, s70, s71, s72, s73, s74, s75, s76, s77, s78, s79, s80, s81, s82, s83, s84, s85, s86, s87], []⟩ wx := by
  have HQ := Lib.hid hQ
  clear hQ
  conv => arg 3; arg 1; whnf
  dsimp only [codeOps]
  have d0 := hz0.c0 0 _ rfl
  have g0 := hz0.free 0
  have d1 := hz0.c0 1 _ rfl
  have g1 := hz0.free 1
  have d2 := hz0.c0 2 _ rfl
  have g2 := hz0.free 2
  have d3 := hz0.c0 3 _ rfl
  have g3 := hz0.free 3
  have d4 := hz0.c0 4 _ rfl
  have g4 := hz0.free 4
  have d5 := hz0.c0 5 _ rfl
  have g5 := hz0.free 5
  have d6 := hz0.c0 6 _ rfl
  have g6 := hz0.free 6
  have d7 := hz0.c0 7 _ rfl
  have g7 := hz0.free 7
  refine wpAnyH_ready (rs := [8]) (by kernel_rfl) (by simp) ?_
  refine AllReadyH.cons (o := _) rfl (fun K hK => ?_) AllReadyH.nil
  go_simp
  clear d0 g0 d1 g1 d2 g2 d3 g3 d4 g4 d5 g5 d6 g6 d7 g7
  refine hK.out _ _ (by with_reducible exact By12.st8 (by with_reducible assumption) b6 hl0 m) (fun hHeld => ?_)
  clear hK K
  try simp only [List.setIfInBounds_toArray, List.set_cons_zero, List.set_cons_succ]
  have hm0 : MBlk ((((((((wx.setCell ⟨b6, 0, none⟩ (.int .i64 m.kind)).setCell ⟨b6, 1, none⟩ (.string (Str m.key))).setCell ⟨b6, 2, none⟩ (.string (Str m.val))).setCell ⟨b6, 3, none⟩ (.string (Str m.lo))).setCell ⟨b6, 4, none⟩ (.string (Str m.hi))).setCell ⟨b6, 5, none⟩ (.string (Str m.src))).setCell ⟨b6, 6, none⟩ (.string (Str m.dst))).setCell ⟨b6, 7, none⟩ (.int .i64 m.n)) _ _ := MBlk.st8 (m0 := zeroM 0) hz0 m
  have hz1 : Blk ((((((((wx.setCell ⟨b6, 0, none⟩ (.int .i64 m.kind)).setCell ⟨b6, 1, none⟩ (.string (Str m.key))).setCell ⟨b6, 2, none⟩ (.string (Str m.val))).setCell ⟨b6, 3, none⟩ (.string (Str m.lo))).setCell ⟨b6, 4, none⟩ (.string (Str m.hi))).setCell ⟨b6, 5, none⟩ (.string (Str m.src))).setCell ⟨b6, 6, none⟩ (.string (Str m.dst))).setCell ⟨b6, 7, none⟩ (.int .i64 m.n)) _ _ _ := Blk.other8 hz1 hn01.symm m
  clear hz0
  generalize (((((((wx.setCell ⟨b6, 0, none⟩ (.int .i64 m.kind)).setCell ⟨b6, 1, none⟩ (.string (Str m.key))).setCell ⟨b6, 2, none⟩ (.string (Str m.val))).setCell ⟨b6, 3, none⟩ (.string (Str m.lo))).setCell ⟨b6, 4, none⟩ (.string (Str m.hi))).setCell ⟨b6, 5, none⟩ (.string (Str m.src))).setCell ⟨b6, 6, none⟩ (.string (Str m.dst))).setCell ⟨b6, 7, none⟩ (.int .i64 m.n) = wy0 at *
  have d0 := hz1.c0 0 _ rfl
  have g0 := hz1.free 0
  have d1 := hz1.c0 1 _ rfl
  have g1 := hz1.free 1
  have d2 := hz1.c0 2 _ rfl
  have g2 := hz1.free 2
  have d3 := hz1.c0 3 _ rfl
  have g3 := hz1.free 3
  have d4 := hz1.c0 4 _ rfl
  have g4 := hz1.free 4
  have d5 := hz1.c0 5 _ rfl
  have g5 := hz1.free 5
  have d6 := hz1.c0 6 _ rfl
  have g6 := hz1.free 6
  have d7 := hz1.c0 7 _ rfl
  have g7 := hz1.free 7
  refine wpAnyH_ready (rs := [9]) (by kernel_rfl) (by simp) ?_
  refine AllReadyH.cons (o := _) rfl (fun K hK => ?_) AllReadyH.nil
  go_simp
  clear d0 g0 d1 g1 d2 g2 d3 g3 d4 g4 d5 g5 d6 g6 d7 g7
  refine hK.out _ _ (by with_reducible exact By12.st8 (by with_reducible assumption) b7 hl1 o) (fun hHeld => ?_)
  clear hK K
  try simp only [List.setIfInBounds_toArray, List.set_cons_zero, List.set_cons_succ]
  have hm0 : MBlk ((((((((wy0.setCell ⟨b7, 0, none⟩ (.int .i64 o.kind)).setCell ⟨b7, 1, none⟩ (.string (Str o.key))).setCell ⟨b7, 2, none⟩ (.string (Str o.val))).setCell ⟨b7, 3, none⟩ (.string (Str o.lo))).setCell ⟨b7, 4, none⟩ (.string (Str o.hi))).setCell ⟨b7, 5, none⟩ (.string (Str o.src))).setCell ⟨b7, 6, none⟩ (.string (Str o.dst))).setCell ⟨b7, 7, none⟩ (.int .i64 o.n)) _ _ := Blk.other8 hm0 hn01 o
  have hm1 : MBlk ((((((((wy0.setCell ⟨b7, 0, none⟩ (.int .i64 o.kind)).setCell ⟨b7, 1, none⟩ (.string (Str o.key))).setCell ⟨b7, 2, none⟩ (.string (Str o.val))).setCell ⟨b7, 3, none⟩ (.string (Str o.lo))).setCell ⟨b7, 4, none⟩ (.string (Str o.hi))).setCell ⟨b7, 5, none⟩ (.string (Str o.src))).setCell ⟨b7, 6, none⟩ (.string (Str o.dst))).setCell ⟨b7, 7, none⟩ (.int .i64 o.n)) _ _ := MBlk.st8 (m0 := zeroM 0) hz1 o
  clear hz1
  generalize (((((((wy0.setCell ⟨b7, 0, none⟩ (.int .i64 o.kind)).setCell ⟨b7, 1, none⟩ (.string (Str o.key))).setCell ⟨b7, 2, none⟩ (.string (Str o.val))).setCell ⟨b7, 3, none⟩ (.string (Str o.lo))).setCell ⟨b7, 4, none⟩ (.string (Str o.hi))).setCell ⟨b7, 5, none⟩ (.string (Str o.src))).setCell ⟨b7, 6, none⟩ (.string (Str o.dst))).setCell ⟨b7, 7, none⟩ (.int .i64 o.n) = wy1 at *
  refine wpAnyH_done (by kernel_rfl) (NoPanic.normal (HQ.out _ _ _ _ _ _ b6 b7 _ ?_)) _
  exact ⟨hHeld.g, (fun x hx => by cases hx), (fun x hx => by simp only [List.mem_cons, List.not_mem_nil, or_false] at hx; rcases hx with rfl | rfl <;> assumption), (fun x hx => by cases hx)⟩
set_option maxRecDepth 1000000 in
set_option maxHeartbeats 8000000 in
theorem by4_2_1 (w : World) (a1 a2 a3 a4 a5 a6 g1 g2 g3 g4 g5 g6 : Nat) (m o : Ms) (Hm1 : ∀ wr, Calls Tryz.prog 29 #[.agg #[.int .u8 a1, .int .u8 a2, .int .u8 a3, .int .u8 a4, .int .u8 a5, .int .u8 a6]] wr fun e w' => e = .returned (msgV m) ∧ Below wr.heap.size wr w') (Hm2 : ∀ wr, Calls Tryz.prog 29 #[.agg #[.int .u8 g1, .int .u8 g2, .int .u8 g3, .int .u8 g4, .int .u8 g5, .int .u8 g6]] wr fun e w' => e = .returned (msgV o) ∧ Below wr.heap.size wr w') (s0 s1 s3 s4 s5 s8 s9 s10 s11 s12 s13 s14 s15 s16 s17 s18 s19 s20 s27 s28 s29 s30 s31 s32 s33 s34 s35 s36 s37 s38 s39 s40 s41 s42 s43 s44 s45 s46 s47 s48 s49 s50 s51 s52 s53 s54 s55 s56 s57 s58 s59 s60 s61 s62 s63 s64 s65 s66 s67 s68 s69 s70 s71 s72 s73 s74 s75 s76 s77 s78 s79 s80 s81 s82 s83 s84 s85 s86 s87 : Value) (Q : Exit → Act → World → Prop) (hQ : ∀ (u21 u22 u23 u24 u25 u26 : Value) (b6 b7 : Nat) (wx : World), Lw w [] [(b7, o), (b6, m)] [] wx → Q .normal ⟨#[s0, s1, .pointer (some ⟨w.heap.size, 0, none⟩), s3, s4, s5, .pointer (some ⟨b6, 0, none⟩), .pointer (some ⟨b7, 0, none⟩), s8, s9, s10, s11, s12, s13, s14, s15, s16, s17, s18, s19, s20, u21, u22, u23, u24, u25, u26, s27, s28, s29, s30, s31, s32, s33, s34, s35, s36, s37, s38, s39, s40, s41, s42, s43, s44, s45, s46, s47, s48, s49, s50, s51, s52, s53, s54, s55, s56, s57, s58, s59, s60, s61, s62, s63, s64, s65, s66, s67, s68, s69, s70, s71, s72, s73, s74, s75, s76, s77, s78, s79, s80, s81, s82, s83, s84, s85, s86, s87], []⟩ wx)
    (s6 : Value) (wx : World) (hHeld : By12 w a1 a2 a3 a4 a5 a6 g1 g2 g3 g4 g5 g6 wx) (b7 : Nat) (hz1 : Blk wx b7 34 #[.int .i64 0, .string ⟨#[]⟩, .string ⟨#[]⟩, .string ⟨#[]⟩, .string ⟨#[]⟩, .string ⟨#[]⟩, .string ⟨#[]⟩, .int .i64 0]) (hl1 : w.heap.size < b7) :
    wpAnyH Tryz.prog .any (codeOps by4R) (NoPanic Q) (fun wr => By12 w a1 a2 a3 a4 a5 a6 g1 g2 g3 g4 g5 g6 wr) 3 #[true, true, true, true, true, true, false, true, false, false] ⟨#[s0, s1, .pointer (some ⟨w.heap.size, 0, none⟩), s3, s4, s5, s6, .pointer (some ⟨b7, 0, none⟩), s8, s9, s10, s11, s12, s13, s14, s15, s16, s17, s18, s19, s20, .pointer (some ⟨w.heap.size, 0, none⟩), .agg #[.int .u8 a1, .int .u8 a2, .int .u8 a3, .int .u8 a4, .int .u8 a5, .int .u8 a6], msgV m, .pointer (some ⟨w.heap.size, 6, none⟩), .agg #[.int .u8 g1, .int .u8 g2, .int .u8 g3, .int .u8 g4, .int .u8 g5, .int .u8 g6], msgV o, s27, s28, s29, s30, s31, s32, s33, s34, s35, s36, s37, s38, s39, s40, s41, s42, s43, s44, s45, s46, s47, s48, s49, s50, s51, s52, s53, s54, s55, s56, s57, s58, s59, s60, s61, s62, s63, s64, s65, s66, s67, s68, s69, s70, s71, s72, s73, s74, s75, s76, s77, s78, s79, s80, s81, s82, s83, s84, s85, s86, s87], []⟩ wx := by
  have HN0 := Lib.hid (by4_2_01 w a1 a2 a3 a4 a5 a6 g1 g2 g3 g4 g5 g6 m o Hm1 Hm2 s0 s1 s3 s4 s5 s8 s9 s10 s11 s12 s13 s14 s15 s16 s17 s18 s19 s20 s27 s28 s29 s30 s31 s32 s33 s34 s35 s36 s37 s38 s39 s40 s41 s42 s43 s44 s45 s46 s47 s48 s49 s50 s51 s52 s53 s54 s55 s56 s57 s58 s59 s60 s61 s62 s63 s64 s65 s66 s67 s68 s69 s70 s71 s72 s73 s74 s75 s76 s77 s78 s79 s80 s81 s82 s83 s84 s85 s86 s87 Q hQ)
  clear hQ
  have hltw := hHeld.b.lt
  conv => arg 3; arg 1; whnf
  dsimp only [codeOps]
  refine wpAnyH_ready (rs := [6]) (by kernel_rfl) (by simp) ?_
  refine AllReadyH.cons (o := _) rfl (fun K hK => ?_) AllReadyH.nil
  · go_simp
    refine hK.out _ _ (by (first | with_reducible assumption | with_reducible exact By12.below (by with_reducible assumption) (by with_reducible assumption) | with_reducible exact By12.alloc (by with_reducible assumption) _)) (fun hHeld => ?_)
    clear hK K
    try simp only [List.setIfInBounds_toArray, List.set_cons_zero, List.set_cons_succ]
    exact wpAnyH_listed (by kernel_rfl) (HN0.out  _ (by with_reducible assumption) _ (Blk.new _ _ _) hltw _ (hz1.alloc _) hl1 (Nat.ne_of_gt hz1.lt))
set_option maxRecDepth 1000000 in
set_option maxHeartbeats 8000000 in
theorem by4_2_0 (w : World) (a1 a2 a3 a4 a5 a6 g1 g2 g3 g4 g5 g6 : Nat) (m o : Ms) (Hm1 : ∀ wr, Calls Tryz.prog 29 #[.agg #[.int .u8 a1, .int .u8 a2, .int .u8 a3, .int .u8 a4, .int .u8 a5, .int .u8 a6]] wr fun e w' => e = .returned (msgV m) ∧ Below wr.heap.size wr w') (Hm2 : ∀ wr, Calls Tryz.prog 29 #[.agg #[.int .u8 g1, .int .u8 g2, .int .u8 g3, .int .u8 g4, .int .u8 g5, .int .u8 g6]] wr fun e w' => e = .returned (msgV o) ∧ Below wr.heap.size wr w') (s0 s1 s3 s4 s5 s8 s9 s10 s11 s12 s13 s14 s15 s16 s17 s18 s19 s20 s27 s28 s29 s30 s31 s32 s33 s34 s35 s36 s37 s38 s39 s40 s41 s42 s43 s44 s45 s46 s47 s48 s49 s50 s51 s52 s53 s54 s55 s56 s57 s58 s59 s60 s61 s62 s63 s64 s65 s66 s67 s68 s69 s70 s71 s72 s73 s74 s75 s76 s77 s78 s79 s80 s81 s82 s83 s84 s85 s86 s87 : Value) (Q : Exit → Act → World → Prop) (hQ : ∀ (u21 u22 u23 u24 u25 u26 : Value) (b6 b7 : Nat) (wx : World), Lw w [] [(b7, o), (b6, m)] [] wx → Q .normal ⟨#[s0, s1, .pointer (some ⟨w.heap.size, 0, none⟩), s3, s4, s5, .pointer (some ⟨b6, 0, none⟩), .pointer (some ⟨b7, 0, none⟩), s8, s9, s10, s11, s12, s13, s14, s15, s16, s17, s18, s19, s20, u21, u22, u23, u24, u25, u26, s27, s28, s29, s30, s31, s32, s33, s34, s35, s36, s37, s38, s39, s40, s41, s42, s43, s44, s45, s46, s47, s48, s49, s50, s51, s52, s53, s54, s55, s56, s57, s58, s59, s60, s61, s62, s63, s64, s65, s66, s67, s68, s69, s70, s71, s72, s73, s74, s75, s76, s77, s78, s79, s80, s81, s82, s83, s84, s85, s86, s87], []⟩ wx)
    (s7 : Value) (wx : World) (hHeld : By12 w a1 a2 a3 a4 a5 a6 g1 g2 g3 g4 g5 g6 wx) (b6 : Nat) (hz0 : Blk wx b6 34 #[.int .i64 0, .string ⟨#[]⟩, .string ⟨#[]⟩, .string ⟨#[]⟩, .string ⟨#[]⟩, .string ⟨#[]⟩, .string ⟨#[]⟩, .int .i64 0]) (hl0 : w.heap.size < b6) :
    wpAnyH Tryz.prog .any (codeOps by4R) (NoPanic Q) (fun wr => By12 w a1 a2 a3 a4 a5 a6 g1 g2 g3 g4 g5 g6 wr) 3 #[true, true, true, true, true, true, true, false, false, false] ⟨#[s0, s1, .pointer (some ⟨w.heap.size, 0, none⟩), s3, s4, s5, .pointer (some ⟨b6, 0, none⟩), s7, s8, s9, s10, s11, s12, s13, s14, s15, s16, s17, s18, s19, s20, .pointer (some ⟨w.heap.size, 0, none⟩), .agg #[.int .u8 a1, .int .u8 a2, .int .u8 a3, .int .u8 a4, .int .u8 a5, .int .u8 a6], msgV m, .pointer (some ⟨w.heap.size, 6, none⟩), .agg #[.int .u8 g1, .int .u8 g2, .int .u8 g3, .int .u8 g4, .int .u8 g5, .int .u8 g6], msgV o, s27, s28, s29, s30, s31, s32, s33, s34, s35, s36, s37, s38, s39, s40, s41, s42, s43, s44, s45, s46, s47, s48, s49, s50, s51, s52, s53, s54, s55, s56, s57, s58, s59, s60, s61, s62, s63, s64, s65, s66, s67, s68, s69, s70, s71, s72, s73, s74, s75, s76, s77, s78, s79, s80, s81, s82, s83, s84, s85, s86, s87], []⟩ wx := by
  have HN0 := Lib.hid (by4_2_01 w a1 a2 a3 a4 a5 a6 g1 g2 g3 g4 g5 g6 m o Hm1 Hm2 s0 s1 s3 s4 s5 s8 s9 s10 s11 s12 s13 s14 s15 s16 s17 s18 s19 s20 s27 s28 s29 s30 s31 s32 s33 s34 s35 s36 s37 s38 s39 s40 s41 s42 s43 s44 s45 s46 s47 s48 s49 s50 s51 s52 s53 s54 s55 s56 s57 s58 s59 s60 s61 s62 s63 s64 s65 s66 s67 s68 s69 s70 s71 s72 s73 s74 s75 s76 s77 s78 s79 s80 s81 s82 s83 s84 s85 s86 s87 Q hQ)
  clear hQ
  have hltw := hHeld.b.lt
  conv => arg 3; arg 1; whnf
  dsimp only [codeOps]
  refine wpAnyH_ready (rs := [7]) (by kernel_rfl) (by simp) ?_
  refine AllReadyH.cons (o := _) rfl (fun K hK => ?_) AllReadyH.nil
  · go_simp
    refine hK.out _ _ (by (first | with_reducible assumption | with_reducible exact By12.below (by with_reducible assumption) (by with_reducible assumption) | with_reducible exact By12.alloc (by with_reducible assumption) _)) (fun hHeld => ?_)
    clear hK K
    try simp only [List.setIfInBounds_toArray, List.set_cons_zero, List.set_cons_succ]
    exact wpAnyH_listed (by kernel_rfl) (HN0.out  _ (by with_reducible assumption) _ (hz0.alloc _) hl0 _ (Blk.new _ _ _) hltw (Nat.ne_of_lt hz0.lt))
set_option maxRecDepth 1000000 in
set_option maxHeartbeats 8000000 in
theorem by4_2_n (w : World) (a1 a2 a3 a4 a5 a6 g1 g2 g3 g4 g5 g6 : Nat) (m o : Ms) (Hm1 : ∀ wr, Calls Tryz.prog 29 #[.agg #[.int .u8 a1, .int .u8 a2, .int .u8 a3, .int .u8 a4, .int .u8 a5, .int .u8 a6]] wr fun e w' => e = .returned (msgV m) ∧ Below wr.heap.size wr w') (Hm2 : ∀ wr, Calls Tryz.prog 29 #[.agg #[.int .u8 g1, .int .u8 g2, .int .u8 g3, .int .u8 g4, .int .u8 g5, .int .u8 g6]] wr fun e w' => e = .returned (msgV o) ∧ Below wr.heap.size wr w') (s0 s1 s3 s4 s5 s8 s9 s10 s11 s12 s13 s14 s15 s16 s17 s18 s19 s20 s27 s28 s29 s30 s31 s32 s33 s34 s35 s36 s37 s38 s39 s40 s41 s42 s43 s44 s45 s46 s47 s48 s49 s50 s51 s52 s53 s54 s55 s56 s57 s58 s59 s60 s61 s62 s63 s64 s65 s66 s67 s68 s69 s70 s71 s72 s73 s74 s75 s76 s77 s78 s79 s80 s81 s82 s83 s84 s85 s86 s87 : Value) (Q : Exit → Act → World → Prop) (hQ : ∀ (u21 u22 u23 u24 u25 u26 : Value) (b6 b7 : Nat) (wx : World), Lw w [] [(b7, o), (b6, m)] [] wx → Q .normal ⟨#[s0, s1, .pointer (some ⟨w.heap.size, 0, none⟩), s3, s4, s5, .pointer (some ⟨b6, 0, none⟩), .pointer (some ⟨b7, 0, none⟩), s8, s9, s10, s11, s12, s13, s14, s15, s16, s17, s18, s19, s20, u21, u22, u23, u24, u25, u26, s27, s28, s29, s30, s31, s32, s33, s34, s35, s36, s37, s38, s39, s40, s41, s42, s43, s44, s45, s46, s47, s48, s49, s50, s51, s52, s53, s54, s55, s56, s57, s58, s59, s60, s61, s62, s63, s64, s65, s66, s67, s68, s69, s70, s71, s72, s73, s74, s75, s76, s77, s78, s79, s80, s81, s82, s83, s84, s85, s86, s87], []⟩ wx)
    (s6 s7 : Value) (wx : World) (hHeld : By12 w a1 a2 a3 a4 a5 a6 g1 g2 g3 g4 g5 g6 wx)  :
    wpAnyH Tryz.prog .any (codeOps by4R) (NoPanic Q) (fun wr => By12 w a1 a2 a3 a4 a5 a6 g1 g2 g3 g4 g5 g6 wr) 4 #[true, true, true, true, true, true, false, false, false, false] ⟨#[s0, s1, .pointer (some ⟨w.heap.size, 0, none⟩), s3, s4, s5, s6, s7, s8, s9, s10, s11, s12, s13, s14, s15, s16, s17, s18, s19, s20, .pointer (some ⟨w.heap.size, 0, none⟩), .agg #[.int .u8 a1, .int .u8 a2, .int .u8 a3, .int .u8 a4, .int .u8 a5, .int .u8 a6], msgV m, .pointer (some ⟨w.heap.size, 6, none⟩), .agg #[.int .u8 g1, .int .u8 g2, .int .u8 g3, .int .u8 g4, .int .u8 g5, .int .u8 g6], msgV o, s27, s28, s29, s30, s31, s32, s33, s34, s35, s36, s37, s38, s39, s40, s41, s42, s43, s44, s45, s46, s47, s48, s49, s50, s51, s52, s53, s54, s55, s56, s57, s58, s59, s60, s61, s62, s63, s64, s65, s66, s67, s68, s69, s70, s71, s72, s73, s74, s75, s76, s77, s78, s79, s80, s81, s82, s83, s84, s85, s86, s87], []⟩ wx := by
  have HN0 := Lib.hid (by4_2_0 w a1 a2 a3 a4 a5 a6 g1 g2 g3 g4 g5 g6 m o Hm1 Hm2 s0 s1 s3 s4 s5 s8 s9 s10 s11 s12 s13 s14 s15 s16 s17 s18 s19 s20 s27 s28 s29 s30 s31 s32 s33 s34 s35 s36 s37 s38 s39 s40 s41 s42 s43 s44 s45 s46 s47 s48 s49 s50 s51 s52 s53 s54 s55 s56 s57 s58 s59 s60 s61 s62 s63 s64 s65 s66 s67 s68 s69 s70 s71 s72 s73 s74 s75 s76 s77 s78 s79 s80 s81 s82 s83 s84 s85 s86 s87 Q hQ)
  have HN1 := Lib.hid (by4_2_1 w a1 a2 a3 a4 a5 a6 g1 g2 g3 g4 g5 g6 m o Hm1 Hm2 s0 s1 s3 s4 s5 s8 s9 s10 s11 s12 s13 s14 s15 s16 s17 s18 s19 s20 s27 s28 s29 s30 s31 s32 s33 s34 s35 s36 s37 s38 s39 s40 s41 s42 s43 s44 s45 s46 s47 s48 s49 s50 s51 s52 s53 s54 s55 s56 s57 s58 s59 s60 s61 s62 s63 s64 s65 s66 s67 s68 s69 s70 s71 s72 s73 s74 s75 s76 s77 s78 s79 s80 s81 s82 s83 s84 s85 s86 s87 Q hQ)
  clear hQ
  have hltw := hHeld.b.lt
  conv => arg 3; arg 1; whnf
  dsimp only [codeOps]
  refine wpAnyH_ready (rs := [6, 7]) (by kernel_rfl) (by simp) ?_
  refine AllReadyH.cons (o := _) rfl (fun K hK => ?_) (AllReadyH.cons (o := _) rfl (fun K hK => ?_) AllReadyH.nil)
  · go_simp
    refine hK.out _ _ (by (first | with_reducible assumption | with_reducible exact By12.below (by with_reducible assumption) (by with_reducible assumption) | with_reducible exact By12.alloc (by with_reducible assumption) _)) (fun hHeld => ?_)
    clear hK K
    try simp only [List.setIfInBounds_toArray, List.set_cons_zero, List.set_cons_succ]
    exact wpAnyH_listed (by kernel_rfl) (HN0.out _ _ (by with_reducible assumption) _ (Blk.new _ _ _) hltw)
  · go_simp
    refine hK.out _ _ (by (first | with_reducible assumption | with_reducible exact By12.below (by with_reducible assumption) (by with_reducible assumption) | with_reducible exact By12.alloc (by with_reducible assumption) _)) (fun hHeld => ?_)
    clear hK K
    try simp only [List.setIfInBounds_toArray, List.set_cons_zero, List.set_cons_succ]
    exact wpAnyH_listed (by kernel_rfl) (HN1.out _ _ (by with_reducible assumption) _ (Blk.new _ _ _) hltw)
set_option maxRecDepth 1000000 in
set_option maxHeartbeats 8000000 in
theorem by4_1_01 (w : World) (a1 a2 a3 a4 a5 a6 g1 g2 g3 g4 g5 g6 : Nat) (m o : Ms) (Hm1 : ∀ wr, Calls Tryz.prog 29 #[.agg #[.int .u8 a1, .int .u8 a2, .int .u8 a3, .int .u8 a4, .int .u8 a5, .int .u8 a6]] wr fun e w' => e = .returned (msgV m) ∧ Below wr.heap.size wr w') (Hm2 : ∀ wr, Calls Tryz.prog 29 #[.agg #[.int .u8 g1, .int .u8 g2, .int .u8 g3, .int .u8 g4, .int .u8 g5, .int .u8 g6]] wr fun e w' => e = .returned (msgV o) ∧ Below wr.heap.size wr w') (s0 s1 s3 s4 s5 s8 s9 s10 s11 s12 s13 s14 s15 s16 s17 s18 s19 s20 s27 s28 s29 s30 s31 s32 s33 s34 s35 s36 s37 s38 s39 s40 s41 s42 s43 s44 s45 s46 s47 s48 s49 s50 s51 s52 s53 s54 s55 s56 s57 s58 s59 s60 s61 s62 s63 s64 s65 s66 s67 s68 s69 s70 s71 s72 s73 s74 s75 s76 s77 s78 s79 s80 s81 s82 s83 s84 s85 s86 s87 : Value) (Q : Exit → Act → World → Prop) (hQ : ∀ (u21 u22 u23 u24 u25 u26 : Value) (b6 b7 : Nat) (wx : World), Lw w [] [(b7, o), (b6, m)] [] wx → Q .normal ⟨#[s0, s1, .pointer (some ⟨w.heap.size, 0, none⟩), s3, s4, s5, .pointer (some ⟨b6, 0, none⟩), .pointer (some ⟨b7, 0, none⟩), s8, s9, s10, s11, s12, s13, s14, s15, s16, s17, s18, s19, s20, u21, u22, u23, u24, u25, u26, s27, s28, s29, s30, s31, s32, s33, s34, s35, s36, s37, s38, s39, s40, s41, s42, s43, s44, s45, s46, s47, s48, s49, s50, s51, s52, s53, s54, s55, s56, s57, s58, s59, s60, s61, s62, s63, s64, s65, s66, s67, s68, s69, s70, s71, s72, s73, s74, s75, s76, s77, s78, s79, s80, s81, s82, s83, s84, s85, s86, s87], []⟩ wx)
    (s26 : Value) (wx : World) (hHeld : By12 w a1 a2 a3 a4 a5 a6 g1 g2 g3 g4 g5 g6 wx) (b6 : Nat) (hz0 : Blk wx b6 34 #[.int .i64 0, .string ⟨#[]⟩, .string ⟨#[]⟩, .string ⟨#[]⟩, .string ⟨#[]⟩, .string ⟨#[]⟩, .string ⟨#[]⟩, .int .i64 0]) (hl0 : w.heap.size < b6) (b7 : Nat) (hz1 : Blk wx b7 34 #[.int .i64 0, .string ⟨#[]⟩, .string ⟨#[]⟩, .string ⟨#[]⟩, .string ⟨#[]⟩, .string ⟨#[]⟩, .string ⟨#[]⟩, .int .i64 0]) (hl1 : w.heap.size < b7) (hn01 : b6 ≠ b7) :
    wpAnyH Tryz.prog .any (codeOps by4R) (NoPanic Q) (fun wr => By12 w a1 a2 a3 a4 a5 a6 g1 g2 g3 g4 g5 g6 wr) 3 #[true, true, true, true, true, false, true, true, false, false] ⟨#[s0, s1, .pointer (some ⟨w.heap.size, 0, none⟩), s3, s4, s5, .pointer (some ⟨b6, 0, none⟩), .pointer (some ⟨b7, 0, none⟩), s8, s9, s10, s11, s12, s13, s14, s15, s16, s17, s18, s19, s20, .pointer (some ⟨w.heap.size, 0, none⟩), .agg #[.int .u8 a1, .int .u8 a2, .int .u8 a3, .int .u8 a4, .int .u8 a5, .int .u8 a6], msgV m, .pointer (some ⟨w.heap.size, 6, none⟩), .agg #[.int .u8 g1, .int .u8 g2, .int .u8 g3, .int .u8 g4, .int .u8 g5, .int .u8 g6], s26, s27, s28, s29, s30, s31, s32, s33, s34, s35, s36, s37, s38, s39, s40, s41, s42, s43, s44, s45, s46, s47, s48, s49, s50, s51, s52, s53, s54, s55, s56, s57, s58, s59, s60, s61, s62, s63, s64, s65, s66, s67, s68, s69, s70, s71, s72, s73, s74, s75, s76, s77, s78, s79, s80, s81, s82, s83, s84, s85, s86, s87], []⟩ wx := by
  have HN0 := Lib.hid (by4_2_01 w a1 a2 a3 a4 a5 a6 g1 g2 g3 g4 g5 g6 m o Hm1 Hm2 s0 s1 s3 s4 s5 s8 s9 s10 s11 s12 s13 s14 s15 s16 s17 s18 s19 s20 s27 s28 s29 s30 s31 s32 s33 s34 s35 s36 s37 s38 s39 s40 s41 s42 s43 s44 s45 s46 s47 s48 s49 s50 s51 s52 s53 s54 s55 s56 s57 s58 s59 s60 s61 s62 s63 s64 s65 s66 s67 s68 s69 s70 s71 s72 s73 s74 s75 s76 s77 s78 s79 s80 s81 s82 s83 s84 s85 s86 s87 Q hQ)
  clear hQ
  have hltw := hHeld.b.lt
  conv => arg 3; arg 1; whnf
  dsimp only [codeOps]
  refine wpAnyH_ready (rs := [5]) (by kernel_rfl) (by simp) ?_
  refine AllReadyH.cons (o := _) rfl (fun K hK => ?_) AllReadyH.nil
  · go_simp
    (go_at_call 29; (with_reducible refine (Hm2 _).mono ?_); rintro e x2 ⟨rfl, hb⟩)
    refine hK.out _ _ (by (first | with_reducible assumption | with_reducible exact By12.below (by with_reducible assumption) (by with_reducible assumption) | with_reducible exact By12.alloc (by with_reducible assumption) _)) (fun hHeld => ?_)
    clear hK K
    try simp only [List.setIfInBounds_toArray, List.set_cons_zero, List.set_cons_succ]
    exact wpAnyH_listed (by kernel_rfl) (HN0.out  _ (by with_reducible assumption) _ (hz0.below hb hz0.lt) hl0 _ (hz1.below hb hz1.lt) hl1 hn01)
set_option maxRecDepth 1000000 in
set_option maxHeartbeats 8000000 in
theorem by4_1_1 (w : World) (a1 a2 a3 a4 a5 a6 g1 g2 g3 g4 g5 g6 : Nat) (m o : Ms) (Hm1 : ∀ wr, Calls Tryz.prog 29 #[.agg #[.int .u8 a1, .int .u8 a2, .int .u8 a3, .int .u8 a4, .int .u8 a5, .int .u8 a6]] wr fun e w' => e = .returned (msgV m) ∧ Below wr.heap.size wr w') (Hm2 : ∀ wr, Calls Tryz.prog 29 #[.agg #[.int .u8 g1, .int .u8 g2, .int .u8 g3, .int .u8 g4, .int .u8 g5, .int .u8 g6]] wr fun e w' => e = .returned (msgV o) ∧ Below wr.heap.size wr w') (s0 s1 s3 s4 s5 s8 s9 s10 s11 s12 s13 s14 s15 s16 s17 s18 s19 s20 s27 s28 s29 s30 s31 s32 s33 s34 s35 s36 s37 s38 s39 s40 s41 s42 s43 s44 s45 s46 s47 s48 s49 s50 s51 s52 s53 s54 s55 s56 s57 s58 s59 s60 s61 s62 s63 s64 s65 s66 s67 s68 s69 s70 s71 s72 s73 s74 s75 s76 s77 s78 s79 s80 s81 s82 s83 s84 s85 s86 s87 : Value) (Q : Exit → Act → World → Prop) (hQ : ∀ (u21 u22 u23 u24 u25 u26 : Value) (b6 b7 : Nat) (wx : World), Lw w [] [(b7, o), (b6, m)] [] wx → Q .normal ⟨#[s0, s1, .pointer (some ⟨w.heap.size, 0, none⟩), s3, s4, s5, .pointer (some ⟨b6, 0, none⟩), .pointer (some ⟨b7, 0, none⟩), s8, s9, s10, s11, s12, s13, s14, s15, s16, s17, s18, s19, s20, u21, u22, u23, u24, u25, u26, s27, s28, s29, s30, s31, s32, s33, s34, s35, s36, s37, s38, s39, s40, s41, s42, s43, s44, s45, s46, s47, s48, s49, s50, s51, s52, s53, s54, s55, s56, s57, s58, s59, s60, s61, s62, s63, s64, s65, s66, s67, s68, s69, s70, s71, s72, s73, s74, s75, s76, s77, s78, s79, s80, s81, s82, s83, s84, s85, s86, s87], []⟩ wx)
    (s6 s26 : Value) (wx : World) (hHeld : By12 w a1 a2 a3 a4 a5 a6 g1 g2 g3 g4 g5 g6 wx) (b7 : Nat) (hz1 : Blk wx b7 34 #[.int .i64 0, .string ⟨#[]⟩, .string ⟨#[]⟩, .string ⟨#[]⟩, .string ⟨#[]⟩, .string ⟨#[]⟩, .string ⟨#[]⟩, .int .i64 0]) (hl1 : w.heap.size < b7) :
    wpAnyH Tryz.prog .any (codeOps by4R) (NoPanic Q) (fun wr => By12 w a1 a2 a3 a4 a5 a6 g1 g2 g3 g4 g5 g6 wr) 4 #[true, true, true, true, true, false, false, true, false, false] ⟨#[s0, s1, .pointer (some ⟨w.heap.size, 0, none⟩), s3, s4, s5, s6, .pointer (some ⟨b7, 0, none⟩), s8, s9, s10, s11, s12, s13, s14, s15, s16, s17, s18, s19, s20, .pointer (some ⟨w.heap.size, 0, none⟩), .agg #[.int .u8 a1, .int .u8 a2, .int .u8 a3, .int .u8 a4, .int .u8 a5, .int .u8 a6], msgV m, .pointer (some ⟨w.heap.size, 6, none⟩), .agg #[.int .u8 g1, .int .u8 g2, .int .u8 g3, .int .u8 g4, .int .u8 g5, .int .u8 g6], s26, s27, s28, s29, s30, s31, s32, s33, s34, s35, s36, s37, s38, s39, s40, s41, s42, s43, s44, s45, s46, s47, s48, s49, s50, s51, s52, s53, s54, s55, s56, s57, s58, s59, s60, s61, s62, s63, s64, s65, s66, s67, s68, s69, s70, s71, s72, s73, s74, s75, s76, s77, s78, s79, s80, s81, s82, s83, s84, s85, s86, s87], []⟩ wx := by
  have HN0 := Lib.hid (by4_2_1 w a1 a2 a3 a4 a5 a6 g1 g2 g3 g4 g5 g6 m o Hm1 Hm2 s0 s1 s3 s4 s5 s8 s9 s10 s11 s12 s13 s14 s15 s16 s17 s18 s19 s20 s27 s28 s29 s30 s31 s32 s33 s34 s35 s36 s37 s38 s39 s40 s41 s42 s43 s44 s45 s46 s47 s48 s49 s50 s51 s52 s53 s54 s55 s56 s57 s58 s59 s60 s61 s62 s63 s64 s65 s66 s67 s68 s69 s70 s71 s72 s73 s74 s75 s76 s77 s78 s79 s80 s81 s82 s83 s84 s85 s86 s87 Q hQ)
  have HN1 := Lib.hid (by4_1_01 w a1 a2 a3 a4 a5 a6 g1 g2 g3 g4 g5 g6 m o Hm1 Hm2 s0 s1 s3 s4 s5 s8 s9 s10 s11 s12 s13 s14 s15 s16 s17 s18 s19 s20 s27 s28 s29 s30 s31 s32 s33 s34 s35 s36 s37 s38 s39 s40 s41 s42 s43 s44 s45 s46 s47 s48 s49 s50 s51 s52 s53 s54 s55 s56 s57 s58 s59 s60 s61 s62 s63 s64 s65 s66 s67 s68 s69 s70 s71 s72 s73 s74 s75 s76 s77 s78 s79 s80 s81 s82 s83 s84 s85 s86 s87 Q hQ)
  clear hQ
  have hltw := hHeld.b.lt
  conv => arg 3; arg 1; whnf
  dsimp only [codeOps]
  refine wpAnyH_ready (rs := [5, 6]) (by kernel_rfl) (by simp) ?_
  refine AllReadyH.cons (o := _) rfl (fun K hK => ?_) (AllReadyH.cons (o := _) rfl (fun K hK => ?_) AllReadyH.nil)
  · go_simp
    (go_at_call 29; (with_reducible refine (Hm2 _).mono ?_); rintro e x2 ⟨rfl, hb⟩)
    refine hK.out _ _ (by (first | with_reducible assumption | with_reducible exact By12.below (by with_reducible assumption) (by with_reducible assumption) | with_reducible exact By12.alloc (by with_reducible assumption) _)) (fun hHeld => ?_)
    clear hK K
    try simp only [List.setIfInBounds_toArray, List.set_cons_zero, List.set_cons_succ]
    exact wpAnyH_listed (by kernel_rfl) (HN0.out _ _ (by with_reducible assumption) _ (hz1.below hb hz1.lt) hl1)
  · go_simp
    refine hK.out _ _ (by (first | with_reducible assumption | with_reducible exact By12.below (by with_reducible assumption) (by with_reducible assumption) | with_reducible exact By12.alloc (by with_reducible assumption) _)) (fun hHeld => ?_)
    clear hK K
    try simp only [List.setIfInBounds_toArray, List.set_cons_zero, List.set_cons_succ]
    exact wpAnyH_listed (by kernel_rfl) (HN1.out _ _ (by with_reducible assumption) _ (Blk.new _ _ _) hltw _ (hz1.alloc _) hl1 (Nat.ne_of_gt hz1.lt))
set_option maxRecDepth 1000000 in
set_option maxHeartbeats 8000000 in
theorem by4_1_0 (w : World) (a1 a2 a3 a4 a5 a6 g1 g2 g3 g4 g5 g6 : Nat) (m o : Ms) (Hm1 : ∀ wr, Calls Tryz.prog 29 #[.agg #[.int .u8 a1, .int .u8 a2, .int .u8 a3, .int .u8 a4, .int .u8 a5, .int .u8 a6]] wr fun e w' => e = .returned (msgV m) ∧ Below wr.heap.size wr w') (Hm2 : ∀ wr, Calls Tryz.prog 29 #[.agg #[.int .u8 g1, .int .u8 g2, .int .u8 g3, .int .u8 g4, .int .u8 g5, .int .u8 g6]] wr fun e w' => e = .returned (msgV o) ∧ Below wr.heap.size wr w') (s0 s1 s3 s4 s5 s8 s9 s10 s11 s12 s13 s14 s15 s16 s17 s18 s19 s20 s27 s28 s29 s30 s31 s32 s33 s34 s35 s36 s37 s38 s39 s40 s41 s42 s43 s44 s45 s46 s47 s48 s49 s50 s51 s52 s53 s54 s55 s56 s57 s58 s59 s60 s61 s62 s63 s64 s65 s66 s67 s68 s69 s70 s71 s72 s73 s74 s75 s76 s77 s78 s79 s80 s81 s82 s83 s84 s85 s86 s87 : Value) (Q : Exit → Act → World → Prop) (hQ : ∀ (u21 u22 u23 u24 u25 u26 : Value) (b6 b7 : Nat) (wx : World), Lw w [] [(b7, o), (b6, m)] [] wx → Q .normal ⟨#[s0, s1, .pointer (some ⟨w.heap.size, 0, none⟩), s3, s4, s5, .pointer (some ⟨b6, 0, none⟩), .pointer (some ⟨b7, 0, none⟩), s8, s9, s10, s11, s12, s13, s14, s15, s16, s17, s18, s19, s20, u21, u22, u23, u24, u25, u26, s27, s28, s29, s30, s31, s32, s33, s34, s35, s36, s37, s38, s39, s40, s41, s42, s43, s44, s45, s46, s47, s48, s49, s50, s51, s52, s53, s54, s55, s56, s57, s58, s59, s60, s61, s62, s63, s64, s65, s66, s67, s68, s69, s70, s71, s72, s73, s74, s75, s76, s77, s78, s79, s80, s81, s82, s83, s84, s85, s86, s87], []⟩ wx)
    (s7 s26 : Value) (wx : World) (hHeld : By12 w a1 a2 a3 a4 a5 a6 g1 g2 g3 g4 g5 g6 wx) (b6 : Nat) (hz0 : Blk wx b6 34 #[.int .i64 0, .string ⟨#[]⟩, .string ⟨#[]⟩, .string ⟨#[]⟩, .string ⟨#[]⟩, .string ⟨#[]⟩, .string ⟨#[]⟩, .int .i64 0]) (hl0 : w.heap.size < b6) :
    wpAnyH Tryz.prog .any (codeOps by4R) (NoPanic Q) (fun wr => By12 w a1 a2 a3 a4 a5 a6 g1 g2 g3 g4 g5 g6 wr) 4 #[true, true, true, true, true, false, true, false, false, false] ⟨#[s0, s1, .pointer (some ⟨w.heap.size, 0, none⟩), s3, s4, s5, .pointer (some ⟨b6, 0, none⟩), s7, s8, s9, s10, s11, s12, s13, s14, s15, s16, s17, s18, s19, s20, .pointer (some ⟨w.heap.size, 0, none⟩), .agg #[.int .u8 a1, .int .u8 a2, .int .u8 a3, .int .u8 a4, .int .u8 a5, .int .u8 a6], msgV m, .pointer (some ⟨w.heap.size, 6, none⟩), .agg #[.int .u8 g1, .int .u8 g2, .int .u8 g3, .int .u8 g4, .int .u8 g5, .int .u8 g6], s26, s27, s28, s29, s30, s31, s32, s33, s34, s35, s36, s37, s38, s39, s40, s41, s42, s43, s44, s45, s46, s47, s48, s49, s50, s51, s52, s53, s54, s55, s56, s57, s58, s59, s60, s61, s62, s63, s64, s65, s66, s67, s68, s69, s70, s71, s72, s73, s74, s75, s76, s77, s78, s79, s80, s81, s82, s83, s84, s85, s86, s87], []⟩ wx := by
  have HN0 := Lib.hid (by4_2_0 w a1 a2 a3 a4 a5 a6 g1 g2 g3 g4 g5 g6 m o Hm1 Hm2 s0 s1 s3 s4 s5 s8 s9 s10 s11 s12 s13 s14 s15 s16 s17 s18 s19 s20 s27 s28 s29 s30 s31 s32 s33 s34 s35 s36 s37 s38 s39 s40 s41 s42 s43 s44 s45 s46 s47 s48 s49 s50 s51 s52 s53 s54 s55 s56 s57 s58 s59 s60 s61 s62 s63 s64 s65 s66 s67 s68 s69 s70 s71 s72 s73 s74 s75 s76 s77 s78 s79 s80 s81 s82 s83 s84 s85 s86 s87 Q hQ)
  have HN1 := Lib.hid (by4_1_01 w a1 a2 a3 a4 a5 a6 g1 g2 g3 g4 g5 g6 m o Hm1 Hm2 s0 s1 s3 s4 s5 s8 s9 s10 s11 s12 s13 s14 s15 s16 s17 s18 s19 s20 s27 s28 s29 s30 s31 s32 s33 s34 s35 s36 s37 s38 s39 s40 s41 s42 s43 s44 s45 s46 s47 s48 s49 s50 s51 s52 s53 s54 s55 s56 s57 s58 s59 s60 s61 s62 s63 s64 s65 s66 s67 s68 s69 s70 s71 s72 s73 s74 s75 s76 s77 s78 s79 s80 s81 s82 s83 s84 s85 s86 s87 Q hQ)
  clear hQ
  have hltw := hHeld.b.lt
  conv => arg 3; arg 1; whnf
  dsimp only [codeOps]
  refine wpAnyH_ready (rs := [5, 7]) (by kernel_rfl) (by simp) ?_
  refine AllReadyH.cons (o := _) rfl (fun K hK => ?_) (AllReadyH.cons (o := _) rfl (fun K hK => ?_) AllReadyH.nil)
  · go_simp
    (go_at_call 29; (with_reducible refine (Hm2 _).mono ?_); rintro e x2 ⟨rfl, hb⟩)
    refine hK.out _ _ (by (first | with_reducible assumption | with_reducible exact By12.below (by with_reducible assumption) (by with_reducible assumption) | with_reducible exact By12.alloc (by with_reducible assumption) _)) (fun hHeld => ?_)
    clear hK K
    try simp only [List.setIfInBounds_toArray, List.set_cons_zero, List.set_cons_succ]
    exact wpAnyH_listed (by kernel_rfl) (HN0.out _ _ (by with_reducible assumption) _ (hz0.below hb hz0.lt) hl0)
  · go_simp
    refine hK.out _ _ (by (first | with_reducible assumption | with_reducible exact By12.below (by with_reducible assumption) (by with_reducible assumption) | with_reducible exact By12.alloc (by with_reducible assumption) _)) (fun hHeld => ?_)
    clear hK K
    try simp only [List.setIfInBounds_toArray, List.set_cons_zero, List.set_cons_succ]
    exact wpAnyH_listed (by kernel_rfl) (HN1.out _ _ (by with_reducible assumption) _ (hz0.alloc _) hl0 _ (Blk.new _ _ _) hltw (Nat.ne_of_lt hz0.lt))
set_option maxRecDepth 1000000 in
set_option maxHeartbeats 8000000 in
theorem by4_1_n (w : World) (a1 a2 a3 a4 a5 a6 g1 g2 g3 g4 g5 g6 : Nat) (m o : Ms) (Hm1 : ∀ wr, Calls Tryz.prog 29 #[.agg #[.int .u8 a1, .int .u8 a2, .int .u8 a3, .int .u8 a4, .int .u8 a5, .int .u8 a6]] wr fun e w' => e = .returned (msgV m) ∧ Below wr.heap.size wr w') (Hm2 : ∀ wr, Calls Tryz.prog 29 #[.agg #[.int .u8 g1, .int .u8 g2, .int .u8 g3, .int .u8 g4, .int .u8 g5, .int .u8 g6]] wr fun e w' => e = .returned (msgV o) ∧ Below wr.heap.size wr w') (s0 s1 s3 s4 s5 s8 s9 s10 s11 s12 s13 s14 s15 s16 s17 s18 s19 s20 s27 s28 s29 s30 s31 s32 s33 s34 s35 s36 s37 s38 s39 s40 s41 s42 s43 s44 s45 s46 s47 s48 s49 s50 s51 s52 s53 s54 s55 s56 s57 s58 s59 s60 s61 s62 s63 s64 s65 s66 s67 s68 s69 s70 s71 s72 s73 s74 s75 s76 s77 s78 s79 s80 s81 s82 s83 s84 s85 s86 s87 : Value) (Q : Exit → Act → World → Prop) (hQ : ∀ (u21 u22 u23 u24 u25 u26 : Value) (b6 b7 : Nat) (wx : World), Lw w [] [(b7, o), (b6, m)] [] wx → Q .normal ⟨#[s0, s1, .pointer (some ⟨w.heap.size, 0, none⟩), s3, s4, s5, .pointer (some ⟨b6, 0, none⟩), .pointer (some ⟨b7, 0, none⟩), s8, s9, s10, s11, s12, s13, s14, s15, s16, s17, s18, s19, s20, u21, u22, u23, u24, u25, u26, s27, s28, s29, s30, s31, s32, s33, s34, s35, s36, s37, s38, s39, s40, s41, s42, s43, s44, s45, s46, s47, s48, s49, s50, s51, s52, s53, s54, s55, s56, s57, s58, s59, s60, s61, s62, s63, s64, s65, s66, s67, s68, s69, s70, s71, s72, s73, s74, s75, s76, s77, s78, s79, s80, s81, s82, s83, s84, s85, s86, s87], []⟩ wx)
    (s6 s7 s26 : Value) (wx : World) (hHeld : By12 w a1 a2 a3 a4 a5 a6 g1 g2 g3 g4 g5 g6 wx)  :
    wpAnyH Tryz.prog .any (codeOps by4R) (NoPanic Q) (fun wr => By12 w a1 a2 a3 a4 a5 a6 g1 g2 g3 g4 g5 g6 wr) 5 #[true, true, true, true, true, false, false, false, false, false] ⟨#[s0, s1, .pointer (some ⟨w.heap.size, 0, none⟩), s3, s4, s5, s6, s7, s8, s9, s10, s11, s12, s13, s14, s15, s16, s17, s18, s19, s20, .pointer (some ⟨w.heap.size, 0, none⟩), .agg #[.int .u8 a1, .int .u8 a2, .int .u8 a3, .int .u8 a4, .int .u8 a5, .int .u8 a6], msgV m, .pointer (some ⟨w.heap.size, 6, none⟩), .agg #[.int .u8 g1, .int .u8 g2, .int .u8 g3, .int .u8 g4, .int .u8 g5, .int .u8 g6], s26, s27, s28, s29, s30, s31, s32, s33, s34, s35, s36, s37, s38, s39, s40, s41, s42, s43, s44, s45, s46, s47, s48, s49, s50, s51, s52, s53, s54, s55, s56, s57, s58, s59, s60, s61, s62, s63, s64, s65, s66, s67, s68, s69, s70, s71, s72, s73, s74, s75, s76, s77, s78, s79, s80, s81, s82, s83, s84, s85, s86, s87], []⟩ wx := by
  have HN0 := Lib.hid (by4_2_n w a1 a2 a3 a4 a5 a6 g1 g2 g3 g4 g5 g6 m o Hm1 Hm2 s0 s1 s3 s4 s5 s8 s9 s10 s11 s12 s13 s14 s15 s16 s17 s18 s19 s20 s27 s28 s29 s30 s31 s32 s33 s34 s35 s36 s37 s38 s39 s40 s41 s42 s43 s44 s45 s46 s47 s48 s49 s50 s51 s52 s53 s54 s55 s56 s57 s58 s59 s60 s61 s62 s63 s64 s65 s66 s67 s68 s69 s70 s71 s72 s73 s74 s75 s76 s77 s78 s79 s80 s81 s82 s83 s84 s85 s86 s87 Q hQ)
  have HN1 := Lib.hid (by4_1_0 w a1 a2 a3 a4 a5 a6 g1 g2 g3 g4 g5 g6 m o Hm1 Hm2 s0 s1 s3 s4 s5 s8 s9 s10 s11 s12 s13 s14 s15 s16 s17 s18 s19 s20 s27 s28 s29 s30 s31 s32 s33 s34 s35 s36 s37 s38 s39 s40 s41 s42 s43 s44 s45 s46 s47 s48 s49 s50 s51 s52 s53 s54 s55 s56 s57 s58 s59 s60 s61 s62 s63 s64 s65 s66 s67 s68 s69 s70 s71 s72 s73 s74 s75 s76 s77 s78 s79 s80 s81 s82 s83 s84 s85 s86 s87 Q hQ)
  have HN2 := Lib.hid (by4_1_1 w a1 a2 a3 a4 a5 a6 g1 g2 g3 g4 g5 g6 m o Hm1 Hm2 s0 s1 s3 s4 s5 s8 s9 s10 s11 s12 s13 s14 s15 s16 s17 s18 s19 s20 s27 s28 s29 s30 s31 s32 s33 s34 s35 s36 s37 s38 s39 s40 s41 s42 s43 s44 s45 s46 s47 s48 s49 s50 s51 s52 s53 s54 s55 s56 s57 s58 s59 s60 s61 s62 s63 s64 s65 s66 s67 s68 s69 s70 s71 s72 s73 s74 s75 s76 s77 s78 s79 s80 s81 s82 s83 s84 s85 s86 s87 Q hQ)
  clear hQ
  have hltw := hHeld.b.lt
  conv => arg 3; arg 1; whnf
  dsimp only [codeOps]
  refine wpAnyH_ready (rs := [5, 6, 7]) (by kernel_rfl) (by simp) ?_
  refine AllReadyH.cons (o := _) rfl (fun K hK => ?_) (AllReadyH.cons (o := _) rfl (fun K hK => ?_) (AllReadyH.cons (o := _) rfl (fun K hK => ?_) AllReadyH.nil))
  · go_simp
    (go_at_call 29; (with_reducible refine (Hm2 _).mono ?_); rintro e x2 ⟨rfl, hb⟩)
    refine hK.out _ _ (by (first | with_reducible assumption | with_reducible exact By12.below (by with_reducible assumption) (by with_reducible assumption) | with_reducible exact By12.alloc (by with_reducible assumption) _)) (fun hHeld => ?_)
    clear hK K
    try simp only [List.setIfInBounds_toArray, List.set_cons_zero, List.set_cons_succ]
    exact wpAnyH_listed (by kernel_rfl) (HN0.out _ _ _ (by with_reducible assumption) )
  · go_simp
    refine hK.out _ _ (by (first | with_reducible assumption | with_reducible exact By12.below (by with_reducible assumption) (by with_reducible assumption) | with_reducible exact By12.alloc (by with_reducible assumption) _)) (fun hHeld => ?_)
    clear hK K
    try simp only [List.setIfInBounds_toArray, List.set_cons_zero, List.set_cons_succ]
    exact wpAnyH_listed (by kernel_rfl) (HN1.out _ _ _ (by with_reducible assumption) _ (Blk.new _ _ _) hltw)
  · go_simp
    refine hK.out _ _ (by (first | with_reducible assumption | with_reducible exact By12.below (by with_reducible assumption) (by with_reducible assumption) | with_reducible exact By12.alloc (by with_reducible assumption) _)) (fun hHeld => ?_)
    clear hK K
    try simp only [List.setIfInBounds_toArray, List.set_cons_zero, List.set_cons_succ]
    exact wpAnyH_listed (by kernel_rfl) (HN2.out _ _ _ (by with_reducible assumption) _ (Blk.new _ _ _) hltw)
set_option maxRecDepth 1000000 in
set_option maxHeartbeats 8000000 in
theorem by4_0_01 (w : World) (a1 a2 a3 a4 a5 a6 g1 g2 g3 g4 g5 g6 : Nat) (m o : Ms) (Hm1 : ∀ wr, Calls Tryz.prog 29 #[.agg #[.int .u8 a1, .int .u8 a2, .int .u8 a3, .int .u8 a4, .int .u8 a5, .int .u8 a6]] wr fun e w' => e = .returned (msgV m) ∧ Below wr.heap.size wr w') (Hm2 : ∀ wr, Calls Tryz.prog 29 #[.agg #[.int .u8 g1, .int .u8 g2, .int .u8 g3, .int .u8 g4, .int .u8 g5, .int .u8 g6]] wr fun e w' => e = .returned (msgV o) ∧ Below wr.heap.size wr w') (s0 s1 s3 s4 s5 s8 s9 s10 s11 s12 s13 s14 s15 s16 s17 s18 s19 s20 s27 s28 s29 s30 s31 s32 s33 s34 s35 s36 s37 s38 s39 s40 s41 s42 s43 s44 s45 s46 s47 s48 s49 s50 s51 s52 s53 s54 s55 s56 s57 s58 s59 s60 s61 s62 s63 s64 s65 s66 s67 s68 s69 s70 s71 s72 s73 s74 s75 s76 s77 s78 s79 s80 s81 s82 s83 s84 s85 s86 s87 : Value) (Q : Exit → Act → World → Prop) (hQ : ∀ (u21 u22 u23 u24 u25 u26 : Value) (b6 b7 : Nat) (wx : World), Lw w [] [(b7, o), (b6, m)] [] wx → Q .normal ⟨#[s0, s1, .pointer (some ⟨w.heap.size, 0, none⟩), s3, s4, s5, .pointer (some ⟨b6, 0, none⟩), .pointer (some ⟨b7, 0, none⟩), s8, s9, s10, s11, s12, s13, s14, s15, s16, s17, s18, s19, s20, u21, u22, u23, u24, u25, u26, s27, s28, s29, s30, s31, s32, s33, s34, s35, s36, s37, s38, s39, s40, s41, s42, s43, s44, s45, s46, s47, s48, s49, s50, s51, s52, s53, s54, s55, s56, s57, s58, s59, s60, s61, s62, s63, s64, s65, s66, s67, s68, s69, s70, s71, s72, s73, s74, s75, s76, s77, s78, s79, s80, s81, s82, s83, s84, s85, s86, s87], []⟩ wx)
    (s23 s26 : Value) (wx : World) (hHeld : By12 w a1 a2 a3 a4 a5 a6 g1 g2 g3 g4 g5 g6 wx) (b6 : Nat) (hz0 : Blk wx b6 34 #[.int .i64 0, .string ⟨#[]⟩, .string ⟨#[]⟩, .string ⟨#[]⟩, .string ⟨#[]⟩, .string ⟨#[]⟩, .string ⟨#[]⟩, .int .i64 0]) (hl0 : w.heap.size < b6) (b7 : Nat) (hz1 : Blk wx b7 34 #[.int .i64 0, .string ⟨#[]⟩, .string ⟨#[]⟩, .string ⟨#[]⟩, .string ⟨#[]⟩, .string ⟨#[]⟩, .string ⟨#[]⟩, .int .i64 0]) (hl1 : w.heap.size < b7) (hn01 : b6 ≠ b7) :
    wpAnyH Tryz.prog .any (codeOps by4R) (NoPanic Q) (fun wr => By12 w a1 a2 a3 a4 a5 a6 g1 g2 g3 g4 g5 g6 wr) 4 #[true, true, false, true, true, false, true, true, false, false] ⟨#[s0, s1, .pointer (some ⟨w.heap.size, 0, none⟩), s3, s4, s5, .pointer (some ⟨b6, 0, none⟩), .pointer (some ⟨b7, 0, none⟩), s8, s9, s10, s11, s12, s13, s14, s15, s16, s17, s18, s19, s20, .pointer (some ⟨w.heap.size, 0, none⟩), .agg #[.int .u8 a1, .int .u8 a2, .int .u8 a3, .int .u8 a4, .int .u8 a5, .int .u8 a6], s23, .pointer (some ⟨w.heap.size, 6, none⟩), .agg #[.int .u8 g1, .int .u8 g2, .int .u8 g3, .int .u8 g4, .int .u8 g5, .int .u8 g6], s26, s27, s28, s29, s30, s31, s32, s33, s34, s35, s36, s37, s38, s39, s40, s41, s42, s43, s44, s45, s46, s47, s48, s49, s50, s51, s52, s53, s54, s55, s56, s57, s58, s59, s60, s61, s62, s63, s64, s65, s66, s67, s68, s69, s70, s71, s72, s73, s74, s75, s76, s77, s78, s79, s80, s81, s82, s83, s84, s85, s86, s87], []⟩ wx := by
  have HN0 := Lib.hid (by4_1_01 w a1 a2 a3 a4 a5 a6 g1 g2 g3 g4 g5 g6 m o Hm1 Hm2 s0 s1 s3 s4 s5 s8 s9 s10 s11 s12 s13 s14 s15 s16 s17 s18 s19 s20 s27 s28 s29 s30 s31 s32 s33 s34 s35 s36 s37 s38 s39 s40 s41 s42 s43 s44 s45 s46 s47 s48 s49 s50 s51 s52 s53 s54 s55 s56 s57 s58 s59 s60 s61 s62 s63 s64 s65 s66 s67 s68 s69 s70 s71 s72 s73 s74 s75 s76 s77 s78 s79 s80 s81 s82 s83 s84 s85 s86 s87 Q hQ)
  clear hQ
  have hltw := hHeld.b.lt
  conv => arg 3; arg 1; whnf
  dsimp only [codeOps]
  refine wpAnyH_ready (rs := [2]) (by kernel_rfl) (by simp) ?_
  refine AllReadyH.cons (o := _) rfl (fun K hK => ?_) AllReadyH.nil
  · go_simp
    (go_at_call 29; (with_reducible refine (Hm1 _).mono ?_); rintro e x2 ⟨rfl, hb⟩)
    refine hK.out _ _ (by (first | with_reducible assumption | with_reducible exact By12.below (by with_reducible assumption) (by with_reducible assumption) | with_reducible exact By12.alloc (by with_reducible assumption) _)) (fun hHeld => ?_)
    clear hK K
    try simp only [List.setIfInBounds_toArray, List.set_cons_zero, List.set_cons_succ]
    exact wpAnyH_listed (by kernel_rfl) (HN0.out _ _ (by with_reducible assumption) _ (hz0.below hb hz0.lt) hl0 _ (hz1.below hb hz1.lt) hl1 hn01)
set_option maxRecDepth 1000000 in
set_option maxHeartbeats 8000000 in
theorem by4_0_1 (w : World) (a1 a2 a3 a4 a5 a6 g1 g2 g3 g4 g5 g6 : Nat) (m o : Ms) (Hm1 : ∀ wr, Calls Tryz.prog 29 #[.agg #[.int .u8 a1, .int .u8 a2, .int .u8 a3, .int .u8 a4, .int .u8 a5, .int .u8 a6]] wr fun e w' => e = .returned (msgV m) ∧ Below wr.heap.size wr w') (Hm2 : ∀ wr, Calls Tryz.prog 29 #[.agg #[.int .u8 g1, .int .u8 g2, .int .u8 g3, .int .u8 g4, .int .u8 g5, .int .u8 g6]] wr fun e w' => e = .returned (msgV o) ∧ Below wr.heap.size wr w') (s0 s1 s3 s4 s5 s8 s9 s10 s11 s12 s13 s14 s15 s16 s17 s18 s19 s20 s27 s28 s29 s30 s31 s32 s33 s34 s35 s36 s37 s38 s39 s40 s41 s42 s43 s44 s45 s46 s47 s48 s49 s50 s51 s52 s53 s54 s55 s56 s57 s58 s59 s60 s61 s62 s63 s64 s65 s66 s67 s68 s69 s70 s71 s72 s73 s74 s75 s76 s77 s78 s79 s80 s81 s82 s83 s84 s85 s86 s87 : Value) (Q : Exit → Act → World → Prop) (hQ : ∀ (u21 u22 u23 u24 u25 u26 : Value) (b6 b7 : Nat) (wx : World), Lw w [] [(b7, o), (b6, m)] [] wx → Q .normal ⟨#[s0, s1, .pointer (some ⟨w.heap.size, 0, none⟩), s3, s4, s5, .pointer (some ⟨b6, 0, none⟩), .pointer (some ⟨b7, 0, none⟩), s8, s9, s10, s11, s12, s13, s14, s15, s16, s17, s18, s19, s20, u21, u22, u23, u24, u25, u26, s27, s28, s29, s30, s31, s32, s33, s34, s35, s36, s37, s38, s39, s40, s41, s42, s43, s44, s45, s46, s47, s48, s49, s50, s51, s52, s53, s54, s55, s56, s57, s58, s59, s60, s61, s62, s63, s64, s65, s66, s67, s68, s69, s70, s71, s72, s73, s74, s75, s76, s77, s78, s79, s80, s81, s82, s83, s84, s85, s86, s87], []⟩ wx)
    (s6 s23 s26 : Value) (wx : World) (hHeld : By12 w a1 a2 a3 a4 a5 a6 g1 g2 g3 g4 g5 g6 wx) (b7 : Nat) (hz1 : Blk wx b7 34 #[.int .i64 0, .string ⟨#[]⟩, .string ⟨#[]⟩, .string ⟨#[]⟩, .string ⟨#[]⟩, .string ⟨#[]⟩, .string ⟨#[]⟩, .int .i64 0]) (hl1 : w.heap.size < b7) :
    wpAnyH Tryz.prog .any (codeOps by4R) (NoPanic Q) (fun wr => By12 w a1 a2 a3 a4 a5 a6 g1 g2 g3 g4 g5 g6 wr) 5 #[true, true, false, true, true, false, false, true, false, false] ⟨#[s0, s1, .pointer (some ⟨w.heap.size, 0, none⟩), s3, s4, s5, s6, .pointer (some ⟨b7, 0, none⟩), s8, s9, s10, s11, s12, s13, s14, s15, s16, s17, s18, s19, s20, .pointer (some ⟨w.heap.size, 0, none⟩), .agg #[.int .u8 a1, .int .u8 a2, .int .u8 a3, .int .u8 a4, .int .u8 a5, .int .u8 a6], s23, .pointer (some ⟨w.heap.size, 6, none⟩), .agg #[.int .u8 g1, .int .u8 g2, .int .u8 g3, .int .u8 g4, .int .u8 g5, .int .u8 g6], s26, s27, s28, s29, s30, s31, s32, s33, s34, s35, s36, s37, s38, s39, s40, s41, s42, s43, s44, s45, s46, s47, s48, s49, s50, s51, s52, s53, s54, s55, s56, s57, s58, s59, s60, s61, s62, s63, s64, s65, s66, s67, s68, s69, s70, s71, s72, s73, s74, s75, s76, s77, s78, s79, s80, s81, s82, s83, s84, s85, s86, s87], []⟩ wx := by
  have HN0 := Lib.hid (by4_1_1 w a1 a2 a3 a4 a5 a6 g1 g2 g3 g4 g5 g6 m o Hm1 Hm2 s0 s1 s3 s4 s5 s8 s9 s10 s11 s12 s13 s14 s15 s16 s17 s18 s19 s20 s27 s28 s29 s30 s31 s32 s33 s34 s35 s36 s37 s38 s39 s40 s41 s42 s43 s44 s45 s46 s47 s48 s49 s50 s51 s52 s53 s54 s55 s56 s57 s58 s59 s60 s61 s62 s63 s64 s65 s66 s67 s68 s69 s70 s71 s72 s73 s74 s75 s76 s77 s78 s79 s80 s81 s82 s83 s84 s85 s86 s87 Q hQ)
  have HN1 := Lib.hid (by4_0_01 w a1 a2 a3 a4 a5 a6 g1 g2 g3 g4 g5 g6 m o Hm1 Hm2 s0 s1 s3 s4 s5 s8 s9 s10 s11 s12 s13 s14 s15 s16 s17 s18 s19 s20 s27 s28 s29 s30 s31 s32 s33 s34 s35 s36 s37 s38 s39 s40 s41 s42 s43 s44 s45 s46 s47 s48 s49 s50 s51 s52 s53 s54 s55 s56 s57 s58 s59 s60 s61 s62 s63 s64 s65 s66 s67 s68 s69 s70 s71 s72 s73 s74 s75 s76 s77 s78 s79 s80 s81 s82 s83 s84 s85 s86 s87 Q hQ)
  clear hQ
  have hltw := hHeld.b.lt
  conv => arg 3; arg 1; whnf
  dsimp only [codeOps]
  refine wpAnyH_ready (rs := [2, 6]) (by kernel_rfl) (by simp) ?_
  refine AllReadyH.cons (o := _) rfl (fun K hK => ?_) (AllReadyH.cons (o := _) rfl (fun K hK => ?_) AllReadyH.nil)
  · go_simp
    (go_at_call 29; (with_reducible refine (Hm1 _).mono ?_); rintro e x2 ⟨rfl, hb⟩)
    refine hK.out _ _ (by (first | with_reducible assumption | with_reducible exact By12.below (by with_reducible assumption) (by with_reducible assumption) | with_reducible exact By12.alloc (by with_reducible assumption) _)) (fun hHeld => ?_)
    clear hK K
    try simp only [List.setIfInBounds_toArray, List.set_cons_zero, List.set_cons_succ]
    exact wpAnyH_listed (by kernel_rfl) (HN0.out _ _ _ (by with_reducible assumption) _ (hz1.below hb hz1.lt) hl1)
  · go_simp
    refine hK.out _ _ (by (first | with_reducible assumption | with_reducible exact By12.below (by with_reducible assumption) (by with_reducible assumption) | with_reducible exact By12.alloc (by with_reducible assumption) _)) (fun hHeld => ?_)
    clear hK K
    try simp only [List.setIfInBounds_toArray, List.set_cons_zero, List.set_cons_succ]
    exact wpAnyH_listed (by kernel_rfl) (HN1.out _ _ _ (by with_reducible assumption) _ (Blk.new _ _ _) hltw _ (hz1.alloc _) hl1 (Nat.ne_of_gt hz1.lt))
set_option maxRecDepth 1000000 in
set_option maxHeartbeats 8000000 in
theorem by4_0_0 (w : World) (a1 a2 a3 a4 a5 a6 g1 g2 g3 g4 g5 g6 : Nat) (m o : Ms) (Hm1 : ∀ wr, Calls Tryz.prog 29 #[.agg #[.int .u8 a1, .int .u8 a2, .int .u8 a3, .int .u8 a4, .int .u8 a5, .int .u8 a6]] wr fun e w' => e = .returned (msgV m) ∧ Below wr.heap.size wr w') (Hm2 : ∀ wr, Calls Tryz.prog 29 #[.agg #[.int .u8 g1, .int .u8 g2, .int .u8 g3, .int .u8 g4, .int .u8 g5, .int .u8 g6]] wr fun e w' => e = .returned (msgV o) ∧ Below wr.heap.size wr w') (s0 s1 s3 s4 s5 s8 s9 s10 s11 s12 s13 s14 s15 s16 s17 s18 s19 s20 s27 s28 s29 s30 s31 s32 s33 s34 s35 s36 s37 s38 s39 s40 s41 s42 s43 s44 s45 s46 s47 s48 s49 s50 s51 s52 s53 s54 s55 s56 s57 s58 s59 s60 s61 s62 s63 s64 s65 s66 s67 s68 s69 s70 s71 s72 s73 s74 s75 s76 s77 s78 s79 s80 s81 s82 s83 s84 s85 s86 s87 : Value) (Q : Exit → Act → World → Prop) (hQ : ∀ (u21 u22 u23 u24 u25 u26 : Value) (b6 b7 : Nat) (wx : World), Lw w [] [(b7, o), (b6, m)] [] wx → Q .normal ⟨#[s0, s1, .pointer (some ⟨w.heap.size, 0, none⟩), s3, s4, s5, .pointer (some ⟨b6, 0, none⟩), .pointer (some ⟨b7, 0, none⟩), s8, s9, s10, s11, s12, s13, s14, s15, s16, s17, s18, s19, s20, u21, u22, u23, u24, u25, u26, s27, s28, s29, s30, s31, s32, s33, s34, s35, s36, s37, s38, s39, s40, s41, s42, s43, s44, s45, s46, s47, s48, s49, s50, s51, s52, s53, s54, s55, s56, s57, s58, s59, s60, s61, s62, s63, s64, s65, s66, s67, s68, s69, s70, s71, s72, s73, s74, s75, s76, s77, s78, s79, s80, s81, s82, s83, s84, s85, s86, s87], []⟩ wx)
    (s7 s23 s26 : Value) (wx : World) (hHeld : By12 w a1 a2 a3 a4 a5 a6 g1 g2 g3 g4 g5 g6 wx) (b6 : Nat) (hz0 : Blk wx b6 34 #[.int .i64 0, .string ⟨#[]⟩, .string ⟨#[]⟩, .string ⟨#[]⟩, .string ⟨#[]⟩, .string ⟨#[]⟩, .string ⟨#[]⟩, .int .i64 0]) (hl0 : w.heap.size < b6) :
    wpAnyH Tryz.prog .any (codeOps by4R) (NoPanic Q) (fun wr => By12 w a1 a2 a3 a4 a5 a6 g1 g2 g3 g4 g5 g6 wr) 5 #[true, true, false, true, true, false, true, false, false, false] ⟨#[s0, s1, .pointer (some ⟨w.heap.size, 0, none⟩), s3, s4, s5, .pointer (some ⟨b6, 0, none⟩), s7, s8, s9, s10, s11, s12, s13, s14, s15, s16, s17, s18, s19, s20, .pointer (some ⟨w.heap.size, 0, none⟩), .agg #[.int .u8 a1, .int .u8 a2, .int .u8 a3, .int .u8 a4, .int .u8 a5, .int .u8 a6], s23, .pointer (some ⟨w.heap.size, 6, none⟩), .agg #[.int .u8 g1, .int .u8 g2, .int .u8 g3, .int .u8 g4, .int .u8 g5, .int .u8 g6], s26, s27, s28, s29, s30, s31, s32, s33, s34, s35, s36, s37, s38, s39, s40, s41, s42, s43, s44, s45, s46, s47, s48, s49, s50, s51, s52, s53, s54, s55, s56, s57, s58, s59, s60, s61, s62, s63, s64, s65, s66, s67, s68, s69, s70, s71, s72, s73, s74, s75, s76, s77, s78, s79, s80, s81, s82, s83, s84, s85, s86, s87], []⟩ wx := by
  have HN0 := Lib.hid (by4_1_0 w a1 a2 a3 a4 a5 a6 g1 g2 g3 g4 g5 g6 m o Hm1 Hm2 s0 s1 s3 s4 s5 s8 s9 s10 s11 s12 s13 s14 s15 s16 s17 s18 s19 s20 s27 s28 s29 s30 s31 s32 s33 s34 s35 s36 s37 s38 s39 s40 s41 s42 s43 s44 s45 s46 s47 s48 s49 s50 s51 s52 s53 s54 s55 s56 s57 s58 s59 s60 s61 s62 s63 s64 s65 s66 s67 s68 s69 s70 s71 s72 s73 s74 s75 s76 s77 s78 s79 s80 s81 s82 s83 s84 s85 s86 s87 Q hQ)
  have HN1 := Lib.hid (by4_0_01 w a1 a2 a3 a4 a5 a6 g1 g2 g3 g4 g5 g6 m o Hm1 Hm2 s0 s1 s3 s4 s5 s8 s9 s10 s11 s12 s13 s14 s15 s16 s17 s18 s19 s20 s27 s28 s29 s30 s31 s32 s33 s34 s35 s36 s37 s38 s39 s40 s41 s42 s43 s44 s45 s46 s47 s48 s49 s50 s51 s52 s53 s54 s55 s56 s57 s58 s59 s60 s61 s62 s63 s64 s65 s66 s67 s68 s69 s70 s71 s72 s73 s74 s75 s76 s77 s78 s79 s80 s81 s82 s83 s84 s85 s86 s87 Q hQ)
  clear hQ
  have hltw := hHeld.b.lt
  conv => arg 3; arg 1; whnf
  dsimp only [codeOps]
  refine wpAnyH_ready (rs := [2, 7]) (by kernel_rfl) (by simp) ?_
  refine AllReadyH.cons (o := _) rfl (fun K hK => ?_) (AllReadyH.cons (o := _) rfl (fun K hK => ?_) AllReadyH.nil)
  · go_simp
    (go_at_call 29; (with_reducible refine (Hm1 _).mono ?_); rintro e x2 ⟨rfl, hb⟩)
    refine hK.out _ _ (by (first | with_reducible assumption | with_reducible exact By12.below (by with_reducible assumption) (by with_reducible assumption) | with_reducible exact By12.alloc (by with_reducible assumption) _)) (fun hHeld => ?_)
    clear hK K
    try simp only [List.setIfInBounds_toArray, List.set_cons_zero, List.set_cons_succ]
    exact wpAnyH_listed (by kernel_rfl) (HN0.out _ _ _ (by with_reducible assumption) _ (hz0.below hb hz0.lt) hl0)
  · go_simp
    refine hK.out _ _ (by (first | with_reducible assumption | with_reducible exact By12.below (by with_reducible assumption) (by with_reducible assumption) | with_reducible exact By12.alloc (by with_reducible assumption) _)) (fun hHeld => ?_)
    clear hK K
    try simp only [List.setIfInBounds_toArray, List.set_cons_zero, List.set_cons_succ]
    exact wpAnyH_listed (by kernel_rfl) (HN1.out _ _ _ (by with_reducible assumption) _ (hz0.alloc _) hl0 _ (Blk.new _ _ _) hltw (Nat.ne_of_lt hz0.lt))
set_option maxRecDepth 1000000 in
set_option maxHeartbeats 8000000 in
theorem by4_0_n (w : World) (a1 a2 a3 a4 a5 a6 g1 g2 g3 g4 g5 g6 : Nat) (m o : Ms) (Hm1 : ∀ wr, Calls Tryz.prog 29 #[.agg #[.int .u8 a1, .int .u8 a2, .int .u8 a3, .int .u8 a4, .int .u8 a5, .int .u8 a6]] wr fun e w' => e = .returned (msgV m) ∧ Below wr.heap.size wr w') (Hm2 : ∀ wr, Calls Tryz.prog 29 #[.agg #[.int .u8 g1, .int .u8 g2, .int .u8 g3, .int .u8 g4, .int .u8 g5, .int .u8 g6]] wr fun e w' => e = .returned (msgV o) ∧ Below wr.heap.size wr w') (s0 s1 s3 s4 s5 s8 s9 s10 s11 s12 s13 s14 s15 s16 s17 s18 s19 s20 s27 s28 s29 s30 s31 s32 s33 s34 s35 s36 s37 s38 s39 s40 s41 s42 s43 s44 s45 s46 s47 s48 s49 s50 s51 s52 s53 s54 s55 s56 s57 s58 s59 s60 s61 s62 s63 s64 s65 s66 s67 s68 s69 s70 s71 s72 s73 s74 s75 s76 s77 s78 s79 s80 s81 s82 s83 s84 s85 s86 s87 : Value) (Q : Exit → Act → World → Prop) (hQ : ∀ (u21 u22 u23 u24 u25 u26 : Value) (b6 b7 : Nat) (wx : World), Lw w [] [(b7, o), (b6, m)] [] wx → Q .normal ⟨#[s0, s1, .pointer (some ⟨w.heap.size, 0, none⟩), s3, s4, s5, .pointer (some ⟨b6, 0, none⟩), .pointer (some ⟨b7, 0, none⟩), s8, s9, s10, s11, s12, s13, s14, s15, s16, s17, s18, s19, s20, u21, u22, u23, u24, u25, u26, s27, s28, s29, s30, s31, s32, s33, s34, s35, s36, s37, s38, s39, s40, s41, s42, s43, s44, s45, s46, s47, s48, s49, s50, s51, s52, s53, s54, s55, s56, s57, s58, s59, s60, s61, s62, s63, s64, s65, s66, s67, s68, s69, s70, s71, s72, s73, s74, s75, s76, s77, s78, s79, s80, s81, s82, s83, s84, s85, s86, s87], []⟩ wx)
    (s6 s7 s23 s26 : Value) (wx : World) (hHeld : By12 w a1 a2 a3 a4 a5 a6 g1 g2 g3 g4 g5 g6 wx)  :
    wpAnyH Tryz.prog .any (codeOps by4R) (NoPanic Q) (fun wr => By12 w a1 a2 a3 a4 a5 a6 g1 g2 g3 g4 g5 g6 wr) 6 #[true, true, false, true, true, false, false, false, false, false] ⟨#[s0, s1, .pointer (some ⟨w.heap.size, 0, none⟩), s3, s4, s5, s6, s7, s8, s9, s10, s11, s12, s13, s14, s15, s16, s17, s18, s19, s20, .pointer (some ⟨w.heap.size, 0, none⟩), .agg #[.int .u8 a1, .int .u8 a2, .int .u8 a3, .int .u8 a4, .int .u8 a5, .int .u8 a6], s23, .pointer (some ⟨w.heap.size, 6, none⟩), .agg #[.int .u8 g1, .int .u8 g2, .int .u8 g3, .int .u8 g4, .int .u8 g5, .int .u8 g6], s26, s27, s28, s29, s30, s31, s32, s33, s34, s35, s36, s37, s38, s39, s40, s41, s42, s43, s44, s45, s46, s47, s48, s49, s50, s51, s52, s53, s54, s55, s56, s57, s58, s59, s60, s61, s62, s63, s64, s65, s66, s67, s68, s69, s70, s71, s72, s73, s74, s75, s76, s77, s78, s79, s80, s81, s82, s83, s84, s85, s86, s87], []⟩ wx := by
  have HN0 := Lib.hid (by4_1_n w a1 a2 a3 a4 a5 a6 g1 g2 g3 g4 g5 g6 m o Hm1 Hm2 s0 s1 s3 s4 s5 s8 s9 s10 s11 s12 s13 s14 s15 s16 s17 s18 s19 s20 s27 s28 s29 s30 s31 s32 s33 s34 s35 s36 s37 s38 s39 s40 s41 s42 s43 s44 s45 s46 s47 s48 s49 s50 s51 s52 s53 s54 s55 s56 s57 s58 s59 s60 s61 s62 s63 s64 s65 s66 s67 s68 s69 s70 s71 s72 s73 s74 s75 s76 s77 s78 s79 s80 s81 s82 s83 s84 s85 s86 s87 Q hQ)
  have HN1 := Lib.hid (by4_0_0 w a1 a2 a3 a4 a5 a6 g1 g2 g3 g4 g5 g6 m o Hm1 Hm2 s0 s1 s3 s4 s5 s8 s9 s10 s11 s12 s13 s14 s15 s16 s17 s18 s19 s20 s27 s28 s29 s30 s31 s32 s33 s34 s35 s36 s37 s38 s39 s40 s41 s42 s43 s44 s45 s46 s47 s48 s49 s50 s51 s52 s53 s54 s55 s56 s57 s58 s59 s60 s61 s62 s63 s64 s65 s66 s67 s68 s69 s70 s71 s72 s73 s74 s75 s76 s77 s78 s79 s80 s81 s82 s83 s84 s85 s86 s87 Q hQ)
  have HN2 := Lib.hid (by4_0_1 w a1 a2 a3 a4 a5 a6 g1 g2 g3 g4 g5 g6 m o Hm1 Hm2 s0 s1 s3 s4 s5 s8 s9 s10 s11 s12 s13 s14 s15 s16 s17 s18 s19 s20 s27 s28 s29 s30 s31 s32 s33 s34 s35 s36 s37 s38 s39 s40 s41 s42 s43 s44 s45 s46 s47 s48 s49 s50 s51 s52 s53 s54 s55 s56 s57 s58 s59 s60 s61 s62 s63 s64 s65 s66 s67 s68 s69 s70 s71 s72 s73 s74 s75 s76 s77 s78 s79 s80 s81 s82 s83 s84 s85 s86 s87 Q hQ)
  clear hQ
  have hltw := hHeld.b.lt
  conv => arg 3; arg 1; whnf
  dsimp only [codeOps]
  refine wpAnyH_ready (rs := [2, 6, 7]) (by kernel_rfl) (by simp) ?_
  refine AllReadyH.cons (o := _) rfl (fun K hK => ?_) (AllReadyH.cons (o := _) rfl (fun K hK => ?_) (AllReadyH.cons (o := _) rfl (fun K hK => ?_) AllReadyH.nil))
  · go_simp
    (go_at_call 29; (with_reducible refine (Hm1 _).mono ?_); rintro e x2 ⟨rfl, hb⟩)
    refine hK.out _ _ (by (first | with_reducible assumption | with_reducible exact By12.below (by with_reducible assumption) (by with_reducible assumption) | with_reducible exact By12.alloc (by with_reducible assumption) _)) (fun hHeld => ?_)
    clear hK K
    try simp only [List.setIfInBounds_toArray, List.set_cons_zero, List.set_cons_succ]
    exact wpAnyH_listed (by kernel_rfl) (HN0.out _ _ _ _ (by with_reducible assumption) )
  · go_simp
    refine hK.out _ _ (by (first | with_reducible assumption | with_reducible exact By12.below (by with_reducible assumption) (by with_reducible assumption) | with_reducible exact By12.alloc (by with_reducible assumption) _)) (fun hHeld => ?_)
    clear hK K
    try simp only [List.setIfInBounds_toArray, List.set_cons_zero, List.set_cons_succ]
    exact wpAnyH_listed (by kernel_rfl) (HN1.out _ _ _ _ (by with_reducible assumption) _ (Blk.new _ _ _) hltw)
  · go_simp
    refine hK.out _ _ (by (first | with_reducible assumption | with_reducible exact By12.below (by with_reducible assumption) (by with_reducible assumption) | with_reducible exact By12.alloc (by with_reducible assumption) _)) (fun hHeld => ?_)
    clear hK K
    try simp only [List.setIfInBounds_toArray, List.set_cons_zero, List.set_cons_succ]
    exact wpAnyH_listed (by kernel_rfl) (HN2.out _ _ _ _ (by with_reducible assumption) _ (Blk.new _ _ _) hltw)
set_option maxRecDepth 1000000 in
set_option maxHeartbeats 8000000 in
theorem by4_s (w : World) (a1 a2 a3 a4 a5 a6 g1 g2 g3 g4 g5 g6 : Nat) (m o : Ms) (Hm1 : ∀ wr, Calls Tryz.prog 29 #[.agg #[.int .u8 a1, .int .u8 a2, .int .u8 a3, .int .u8 a4, .int .u8 a5, .int .u8 a6]] wr fun e w' => e = .returned (msgV m) ∧ Below wr.heap.size wr w') (Hm2 : ∀ wr, Calls Tryz.prog 29 #[.agg #[.int .u8 g1, .int .u8 g2, .int .u8 g3, .int .u8 g4, .int .u8 g5, .int .u8 g6]] wr fun e w' => e = .returned (msgV o) ∧ Below wr.heap.size wr w') (s0 s1 s3 s4 s5 s8 s9 s10 s11 s12 s13 s14 s15 s16 s17 s18 s19 s20 s27 s28 s29 s30 s31 s32 s33 s34 s35 s36 s37 s38 s39 s40 s41 s42 s43 s44 s45 s46 s47 s48 s49 s50 s51 s52 s53 s54 s55 s56 s57 s58 s59 s60 s61 s62 s63 s64 s65 s66 s67 s68 s69 s70 s71 s72 s73 s74 s75 s76 s77 s78 s79 s80 s81 s82 s83 s84 s85 s86 s87 : Value) (Q : Exit → Act → World → Prop) (hQ : ∀ (u21 u22 u23 u24 u25 u26 : Value) (b6 b7 : Nat) (wx : World), Lw w [] [(b7, o), (b6, m)] [] wx → Q .normal ⟨#[s0, s1, .pointer (some ⟨w.heap.size, 0, none⟩), s3, s4, s5, .pointer (some ⟨b6, 0, none⟩), .pointer (some ⟨b7, 0, none⟩), s8, s9, s10, s11, s12, s13, s14, s15, s16, s17, s18, s19, s20, u21, u22, u23, u24, u25, u26, s27, s28, s29, s30, s31, s32, s33, s34, s35, s36, s37, s38, s39, s40, s41, s42, s43, s44, s45, s46, s47, s48, s49, s50, s51, s52, s53, s54, s55, s56, s57, s58, s59, s60, s61, s62, s63, s64, s65, s66, s67, s68, s69, s70, s71, s72, s73, s74, s75, s76, s77, s78, s79, s80, s81, s82, s83, s84, s85, s86, s87], []⟩ wx)
    (s6 s7 s21 s22 s23 s24 s25 s26 : Value) (wx : World) (hHeld : By12 w a1 a2 a3 a4 a5 a6 g1 g2 g3 g4 g5 g6 wx)  :
    wpAnyH Tryz.prog .any (codeOps by4R) (NoPanic Q) (fun wr => By12 w a1 a2 a3 a4 a5 a6 g1 g2 g3 g4 g5 g6 wr) 10 #[false, false, false, false, false, false, false, false, false, false] ⟨#[s0, s1, .pointer (some ⟨w.heap.size, 0, none⟩), s3, s4, s5, s6, s7, s8, s9, s10, s11, s12, s13, s14, s15, s16, s17, s18, s19, s20, s21, s22, s23, s24, s25, s26, s27, s28, s29, s30, s31, s32, s33, s34, s35, s36, s37, s38, s39, s40, s41, s42, s43, s44, s45, s46, s47, s48, s49, s50, s51, s52, s53, s54, s55, s56, s57, s58, s59, s60, s61, s62, s63, s64, s65, s66, s67, s68, s69, s70, s71, s72, s73, s74, s75, s76, s77, s78, s79, s80, s81, s82, s83, s84, s85, s86, s87], []⟩ wx := by
  have HN0 := Lib.hid (by4_0_n w a1 a2 a3 a4 a5 a6 g1 g2 g3 g4 g5 g6 m o Hm1 Hm2 s0 s1 s3 s4 s5 s8 s9 s10 s11 s12 s13 s14 s15 s16 s17 s18 s19 s20 s27 s28 s29 s30 s31 s32 s33 s34 s35 s36 s37 s38 s39 s40 s41 s42 s43 s44 s45 s46 s47 s48 s49 s50 s51 s52 s53 s54 s55 s56 s57 s58 s59 s60 s61 s62 s63 s64 s65 s66 s67 s68 s69 s70 s71 s72 s73 s74 s75 s76 s77 s78 s79 s80 s81 s82 s83 s84 s85 s86 s87 Q hQ)
  clear hQ
  conv => arg 3; arg 1; whnf
  dsimp only [codeOps]
  have q0 : ∀ wr, By12 w a1 a2 a3 a4 a5 a6 g1 g2 g3 g4 g5 g6 wr → wr.cell? ⟨w.heap.size, 0, none⟩ = some (.int .u8 a1) := fun wr h => h.b.c0 0 _ rfl
  have q1 : ∀ wr, By12 w a1 a2 a3 a4 a5 a6 g1 g2 g3 g4 g5 g6 wr → wr.cell? ⟨w.heap.size, 1, none⟩ = some (.int .u8 a2) := fun wr h => h.b.c0 1 _ rfl
  have q2 : ∀ wr, By12 w a1 a2 a3 a4 a5 a6 g1 g2 g3 g4 g5 g6 wr → wr.cell? ⟨w.heap.size, 2, none⟩ = some (.int .u8 a3) := fun wr h => h.b.c0 2 _ rfl
  have q3 : ∀ wr, By12 w a1 a2 a3 a4 a5 a6 g1 g2 g3 g4 g5 g6 wr → wr.cell? ⟨w.heap.size, 3, none⟩ = some (.int .u8 a4) := fun wr h => h.b.c0 3 _ rfl
  have q4 : ∀ wr, By12 w a1 a2 a3 a4 a5 a6 g1 g2 g3 g4 g5 g6 wr → wr.cell? ⟨w.heap.size, 4, none⟩ = some (.int .u8 a5) := fun wr h => h.b.c0 4 _ rfl
  have q5 : ∀ wr, By12 w a1 a2 a3 a4 a5 a6 g1 g2 g3 g4 g5 g6 wr → wr.cell? ⟨w.heap.size, 5, none⟩ = some (.int .u8 a6) := fun wr h => h.b.c0 5 _ rfl
  have q6 : ∀ wr, By12 w a1 a2 a3 a4 a5 a6 g1 g2 g3 g4 g5 g6 wr → wr.cell? ⟨w.heap.size, 6, none⟩ = some (.int .u8 g1) := fun wr h => h.b.c0 6 _ rfl
  have q7 : ∀ wr, By12 w a1 a2 a3 a4 a5 a6 g1 g2 g3 g4 g5 g6 wr → wr.cell? ⟨w.heap.size, 7, none⟩ = some (.int .u8 g2) := fun wr h => h.b.c0 7 _ rfl
  have q8 : ∀ wr, By12 w a1 a2 a3 a4 a5 a6 g1 g2 g3 g4 g5 g6 wr → wr.cell? ⟨w.heap.size, 8, none⟩ = some (.int .u8 g3) := fun wr h => h.b.c0 8 _ rfl
  have q9 : ∀ wr, By12 w a1 a2 a3 a4 a5 a6 g1 g2 g3 g4 g5 g6 wr → wr.cell? ⟨w.heap.size, 9, none⟩ = some (.int .u8 g4) := fun wr h => h.b.c0 9 _ rfl
  have q10 : ∀ wr, By12 w a1 a2 a3 a4 a5 a6 g1 g2 g3 g4 g5 g6 wr → wr.cell? ⟨w.heap.size, 10, none⟩ = some (.int .u8 g5) := fun wr h => h.b.c0 10 _ rfl
  have q11 : ∀ wr, By12 w a1 a2 a3 a4 a5 a6 g1 g2 g3 g4 g5 g6 wr → wr.cell? ⟨w.heap.size, 11, none⟩ = some (.int .u8 g6) := fun wr h => h.b.c0 11 _ rfl
  refine wpAnyH_take (i := 0) (oi := _) (v := ?_) rfl (by kernel_rfl) (by kernel_rfl) (by kernel_rfl) (fun _ _ _ h => h) (Or.inl ⟨by rfl, ?_⟩) (by with_reducible assumption) ?_
  rotate_left
  · intro wt hSw
    go_simp
    all_goals with_reducible rfl
  try simp only [Act.put, List.setIfInBounds_toArray, List.set_cons_zero]
  refine wpAnyH_take (i := 1) (oi := _) (v := ?_) rfl (by kernel_rfl) (by kernel_rfl) (by kernel_rfl) (fun _ _ _ h => h) (Or.inl ⟨by rfl, ?_⟩) (by with_reducible assumption) ?_
  rotate_left
  · intro wt hSw
    go_simp
    all_goals with_reducible rfl
  try simp only [Act.put, List.setIfInBounds_toArray, List.set_cons_zero, List.set_cons_succ]
  refine wpAnyH_take (i := 3) (oi := _) (v := ?_) rfl (by kernel_rfl) (by kernel_rfl) (by kernel_rfl) (fun _ _ _ h => h) (Or.inl ⟨by rfl, ?_⟩) (by with_reducible assumption) ?_
  rotate_left
  · intro wt hSw
    go_simp
    all_goals with_reducible rfl
  try simp only [Act.put, List.setIfInBounds_toArray, List.set_cons_zero, List.set_cons_succ]
  refine wpAnyH_take (i := 4) (oi := _) (v := ?_) rfl (by kernel_rfl) (by kernel_rfl) (by kernel_rfl) (fun _ _ _ h => h) (Or.inl ⟨by rfl, ?_⟩) (by with_reducible assumption) ?_
  rotate_left
  · intro wt hSw
    go_simp
    all_goals with_reducible rfl
  try simp only [Act.put, List.setIfInBounds_toArray, List.set_cons_zero, List.set_cons_succ]
  exact wpAnyH_listed (by kernel_rfl) (HN0.out _ _ _ _ _ (by with_reducible assumption))
set_option maxRecDepth 1000000 in
set_option maxHeartbeats 8000000 in
theorem by4_w (w : World) (a1 a2 a3 a4 a5 a6 g1 g2 g3 g4 g5 g6 : Nat) (m o : Ms) (Hm1 : ∀ wr, Calls Tryz.prog 29 #[.agg #[.int .u8 a1, .int .u8 a2, .int .u8 a3, .int .u8 a4, .int .u8 a5, .int .u8 a6]] wr fun e w' => e = .returned (msgV m) ∧ Below wr.heap.size wr w') (Hm2 : ∀ wr, Calls Tryz.prog 29 #[.agg #[.int .u8 g1, .int .u8 g2, .int .u8 g3, .int .u8 g4, .int .u8 g5, .int .u8 g6]] wr fun e w' => e = .returned (msgV o) ∧ Below wr.heap.size wr w') (wa : World) (hS : By12 w a1 a2 a3 a4 a5 a6 g1 g2 g3 g4 g5 g6 wa) (s0 s1 s3 s4 s5 s6 s7 s8 s9 s10 s11 s12 s13 s14 s15 s16 s17 s18 s19 s20 s21 s22 s23 s24 s25 s26 s27 s28 s29 s30 s31 s32 s33 s34 s35 s36 s37 s38 s39 s40 s41 s42 s43 s44 s45 s46 s47 s48 s49 s50 s51 s52 s53 s54 s55 s56 s57 s58 s59 s60 s61 s62 s63 s64 s65 s66 s67 s68 s69 s70 s71 s72 s73 s74 s75 s76 s77 s78 s79 s80 s81 s82 s83 s84 s85 s86 s87 : Value) (Q : Exit → Act → World → Prop)
    (hQ : ∀ (u21 u22 u23 u24 u25 u26 : Value) (b6 b7 : Nat) (wx : World), Lw w [] [(b7, o), (b6, m)] [] wx → Q .normal ⟨#[s0, s1, .pointer (some ⟨w.heap.size, 0, none⟩), s3, s4, s5, .pointer (some ⟨b6, 0, none⟩), .pointer (some ⟨b7, 0, none⟩), s8, s9, s10, s11, s12, s13, s14, s15, s16, s17, s18, s19, s20, u21, u22, u23, u24, u25, u26, s27, s28, s29, s30, s31, s32, s33, s34, s35, s36, s37, s38, s39, s40, s41, s42, s43, s44, s45, s46, s47, s48, s49, s50, s51, s52, s53, s54, s55, s56, s57, s58, s59, s60, s61, s62, s63, s64, s65, s66, s67, s68, s69, s70, s71, s72, s73, s74, s75, s76, s77, s78, s79, s80, s81, s82, s83, s84, s85, s86, s87], []⟩ wx) :
    by4R.wp Tryz.prog Q ⟨#[s0, s1, .pointer (some ⟨w.heap.size, 0, none⟩), s3, s4, s5, s6, s7, s8, s9, s10, s11, s12, s13, s14, s15, s16, s17, s18, s19, s20, s21, s22, s23, s24, s25, s26, s27, s28, s29, s30, s31, s32, s33, s34, s35, s36, s37, s38, s39, s40, s41, s42, s43, s44, s45, s46, s47, s48, s49, s50, s51, s52, s53, s54, s55, s56, s57, s58, s59, s60, s61, s62, s63, s64, s65, s66, s67, s68, s69, s70, s71, s72, s73, s74, s75, s76, s77, s78, s79, s80, s81, s82, s83, s84, s85, s86, s87], []⟩ wa := by
  have h0 := by4_s w a1 a2 a3 a4 a5 a6 g1 g2 g3 g4 g5 g6 m o Hm1 Hm2 s0 s1 s3 s4 s5 s8 s9 s10 s11 s12 s13 s14 s15 s16 s17 s18 s19 s20 s27 s28 s29 s30 s31 s32 s33 s34 s35 s36 s37 s38 s39 s40 s41 s42 s43 s44 s45 s46 s47 s48 s49 s50 s51 s52 s53 s54 s55 s56 s57 s58 s59 s60 s61 s62 s63 s64 s65 s66 s67 s68 s69 s70 s71 s72 s73 s74 s75 s76 s77 s78 s79 s80 s81 s82 s83 s84 s85 s86 s87 Q hQ
  conv => arg 2; whnf
  refine wp_region_noPanic ?_
  refine wp_region_held_drew (S := fun wr => By12 w a1 a2 a3 a4 a5 a6 g1 g2 g3 g4 g5 g6 wr) (by kernel_rfl) (hS.drew) (fun hHeld => ?_)
  exact wpAnyH_listed (by kernel_rfl) (h0 _ _ _ _ _ _ _ _ _ hHeld)
theorem bytes_lw {w wx : World} {L : List (Value × List Pr)} {B : List (Nat × Ms)} {S : List (Value × List Sp)} (h : Lw w L B S wx) (m : Ms) : Calls Tryz.prog 33 #[msgV m] wx fun e w' => ∃ p cap, e = .returned (.slice p (bytesM m).length cap) ∧ IsBytes w' (.slice p (bytesM m).length cap) (bytesM m) ∧ Below wx.heap.size wx w' ∧ Lw w L B S w' :=
  (bytes_w m wx).mono fun e w' ⟨v', h1, h2, h3⟩ => by
    have hb := h2.bytes
    obtain ⟨-, -, cap, p, rfl, -⟩ := hb.form
    exact ⟨p, cap, h1, hb, h3, h.below h3⟩
set_option maxRecDepth 100000 in
set_option maxHeartbeats 8000000 in
theorem msgBytes_walk0 (hsan : SanityW) (w : World) (v0 : Value) (y : R6 × R6) (h0 : IsRaw6x2 w v0 y) (v1 : Value) (more : Bs) (h1 : IsBytes w v1 more) :
    Calls Tryz.prog 10 #[v0, v1] w fun e w' => e = .returned (.bool true) ∧ Below w.heap.size w w' := by
  obtain ⟨⟨a1, a2, a3, a4, a5, a6⟩, g1, g2, g3, g4, g5, g6⟩ := y
  obtain ⟨rfl, hsm1, hsm2⟩ := h0
  change Small6 a1 a2 a3 a4 a5 a6 at hsm1
  change Small6 g1 g2 g3 g4 g5 g6 at hsm2
  show Calls _ _ #[.agg #[.int .u8 a1, .int .u8 a2, .int .u8 a3, .int .u8 a4, .int .u8 a5, .int .u8 a6, .int .u8 g1, .int .u8 g2, .int .u8 g3, .int .u8 g4, .int .u8 g5, .int .u8 g6], v1] _ _
  have HM := Lib.hid h1
  obtain ⟨-, -, mcap, mp, rfl, hml, hmm, -⟩ := h1.form
  unfold maxLen at hmm
  have Hsan := Lib.hid hsan
  have Hm1 : Hid (∀ wx, Calls Tryz.prog 29 #[.agg #[.int .u8 a1, .int .u8 a2, .int .u8 a3, .int .u8 a4, .int .u8 a5, .int .u8 a6]] wx fun e' w' => e' = .returned (msgV (madeM a1 a2 a3 a4 a5 a6)) ∧ Below wx.heap.size wx w') := Lib.hid (fun wx => made_w a1 a2 a3 a4 a5 a6 wx hsm1)
  have Hm2 : Hid (∀ wx, Calls Tryz.prog 29 #[.agg #[.int .u8 g1, .int .u8 g2, .int .u8 g3, .int .u8 g4, .int .u8 g5, .int .u8 g6]] wx fun e' w' => e' = .returned (msgV (madeM g1 g2 g3 g4 g5 g6)) ∧ Below wx.heap.size wx w') := Lib.hid (fun wx => made_w g1 g2 g3 g4 g5 g6 wx hsm2)
  have Vm := Lib.hid (made_valid a1 a2 a3 a4 a5 a6)
  have Vo := Lib.hid (made_valid g1 g2 g3 g4 g5 g6)
  have nb := bytes_made a1 a2 a3 a4 a5 a6
  clear h1 hsan hsm1 hsm2
  generalize madeM a1 a2 a3 a4 a5 a6 = m at *
  generalize madeM g1 g2 g3 g4 g5 g6 = o at *
  by_cases h40 : more.length ≤ 40
  · have h40z : (more.length : Int) ≤ 40 := by omega
    have hd40 : decide (40 < (more.length : Int)) = false := by simp; omega
    go_enter Tryz.func10, Tryz.ntmps10
    go_wp2_with fail
    refine (Hsan.out _).mono ?_
    rintro e1 w1 ⟨rfl, hb1⟩
    have hs1 : By12 w a1 a2 a3 a4 a5 a6 g1 g2 g3 g4 g5 g6 w1 := ⟨(Blk.new _ _ _).below hb1 (by simp), (below_box _).trans (hb1.mono (by simp))⟩
    have HS1 := Lib.hid hs1
    clear hb1 hs1
    go_upto_region 4 with fail
    go_cut [6, 7] (fun s6 s7 wx => ∃ b6 b7, s6 = .pointer (some ⟨b6, 0, none⟩) ∧ s7 = .pointer (some ⟨b7, 0, none⟩) ∧ Hid (Lw w [] [(b7, o), (b6, m)] [] wx))
    case first =>
      refine by4_w w a1 a2 a3 a4 a5 a6 g1 g2 g3 g4 g5 g6 m o Hm1.out Hm2.out w1 HS1.out _ _ _ _ _ _ _ _ _ _ _ _ _ _ _ _ _ _ _ _ _ _ _ _ _ _ _ _ _ _ _ _ _ _ _ _ _ _ _ _ _ _ _ _ _ _ _ _ _ _ _ _ _ _ _ _ _ _ _ _ _ _ _ _ _ _ _ _ _ _ _ _ _ _ _ _ _ _ _ _ _ _ _ _ _ _ _ _ (fun u21 u22 u23 u24 u25 u26 b6 b7 wx hL => ?_)
      have HL := Lib.hid hL
      clear hL
      go_wp2_with fail
      go_meet
      exact ⟨b6, b7, rfl, rfl, HL⟩
    case rest =>
      obtain ⟨b6, b7, rfl, rfl, HL⟩ := hcut
      clear HS1 Hm1 Hm2
      have HP1 := Lib.hid (parse_app m more Vm.out)
      have HP2 := Lib.hid (parse_short m Vm.out)
      have HX : Hid (decide (bytesM m = bytesM o) = decide (m = o)) := Lib.hid (by
        rw [decide_eq_decide]
        exact ⟨fun h => bytes_inj Vm.out Vo.out h, fun h => by rw [h]⟩)
      have HB1 : Hid (∀ wr, Lw w [] [(b7, o), (b6, m)] [] wr → _) := Lib.hid (fun wr h => bytes_lw (w := w) (L := []) (B := [(b7, o), (b6, m)]) (S := []) (wx := wr) h m)
      have HB2 : Hid (∀ wr, Lw w [] [(b7, o), (b6, m)] [] wr → _) := Lib.hid (fun wr h => bytes_lw (w := w) (L := []) (B := [(b7, o), (b6, m)]) (S := []) (wx := wr) h o)
      have HV1 : Hid (parseV (bytesM m ++ more) = .tuple #[msgV m, .int .i64 (bytesM m).length, .int .i64 0]) := Lib.hid (by unfold parseV; rw [HP1.out])
      have HV2 : Hid (∀ i, i < (bytesM m).length → parseV ((bytesM m).take i) = .tuple #[.agg #[.int .i64 0, .string ⟨#[]⟩, .string ⟨#[]⟩, .string ⟨#[]⟩, .string ⟨#[]⟩, .string ⟨#[]⟩, .string ⟨#[]⟩, .int .i64 0], .int .i64 0, .int .i64 3]) := Lib.hid (fun i hi => by unfold parseV; rw [HP2.out i hi]; rfl)
      clear HP1 HP2
      generalize bytesM m = bm at *
      generalize bytesM o = bo at *
      obtain ⟨q0, q1, q2, q3, q4, q5, q6, q7⟩ := (HL.out.msg (n := b6) (m := m) (by simp)).plain
      go_wp2_with fail
      refine (HB1.out _ HL.out).mono ?_
      rintro e2 w2 ⟨p2, c2, rfl, hq2, -, hL2⟩
      have HQ2 := Lib.hid hq2
      have HL2 := Lib.hid hL2
      obtain ⟨bb0, bo0, cc0, aa0, hv, hcb, hcm, -⟩ := id hq2.form
      injection hv with hv1 hv2 hv3
      subst hv1 hv3
      clear hv2 hq2 hL2 HL q0 q1 q2 q3 q4 q5 q6 q7
      unfold maxLen at hcm
      have hn2 : w2.heap.size ≤ (w2.alloc (.cells #[] 5)).heap.size := by simp
      go_wp2_with (at_builtin; first
        | (refine append_bytes rfl _ _ rfl w2.heap.size _ [] rfl (own_emptyB w2 w2.heap.size (Nat.le_refl _)) _ bm rfl (HQ2.out.below (below_box _)) (by simp; omega) hn2 ?_; intro v3 w3 hown3 hb3; have Hown3 : Hid (OwnB w3 w2.heap.size v3 bm) := Lib.hid (by simpa using hown3); have Hb3 : Hid (Below w2.heap.size w2 w3) := Lib.hid ((below_box _).trans hb3); clear hown3 hb3)
        | (refine append_bytes rfl _ _ rfl w2.heap.size _ bm rfl Hown3.out _ more rfl (HM.out.below (HL2.out.below Hb3.out).g) (by omega) Hb3.out.size ?_; intro v4 w4 hown4 hb4; have HQ4 := Lib.hid (OwnB.bytes hown4); have HL4 := Lib.hid (HL2.out.below (Hb3.out.trans hb4)); have HB4 := Lib.hid (HQ2.out.below (Hb3.out.trans hb4)); clear hown4 hb4))
      refine (parse_w v4 _ w4 HQ4.out).mono ?_
      rw [HV1.out]
      rintro e3 w5 ⟨rfl, hb5⟩
      have HL5 := Lib.hid (HL4.out.below hb5)
      have HQ5 := Lib.hid (HB4.out.below hb5)
      clear hb5 hn2 HL4 HB4 HQ4 Hown3 Hb3 HL2 HQ2 HV1 HM
      obtain ⟨m0, m1, m2, m3, m4, m5, m6, m7⟩ := (HL5.out.msg (n := b6) (m := m) (by simp)).plain
      have hl6 := (HL5.out.msg (n := b6) (m := m) (by simp)).lt
      have hne : ∀ wr, (binOp .neq 34 (msgV m) (msgV m)).run Tryz.prog wr = .ok (.bool false) wr := fun wr => (neq_msg m m wr).trans (by simp)
      have hz200 : (bm.length : Int) ≤ 200 := by omega
      have hd200 : decide (200 < (bm.length : Int)) = false := by simp; omega
      go_upto_region 9 with fail
      have HL6 : Hid (Lw w [] [(b7, o), (b6, m)] [] (w5.alloc (.cells (encM m) 34))) := Lib.hid (HL5.out.alloc _)
      have HQ6 : Hid (IsBytes (w5.alloc (.cells (encM m) 34)) (.slice p2 bm.length c2) bm) := Lib.hid (HQ5.out.below (below_box _))
      clear m0 m1 m2 m3 m4 m5 m6 m7 hl6 hne hz200 hd200 HL5 HQ5
      generalize (w5.alloc (.cells (encM m) 34)) = w6 at *
      go_wp2_with fail
      go_loopw [12] (fun i wr => ∃ k : Nat, k ≤ bm.length ∧ i = .int .i64 k ∧ Hid (Lw w [] [(b7, o), (b6, m)] [] wr) ∧ Hid (IsBytes wr (.slice p2 bm.length c2) bm)) (fun i _ => bm.length - (intOf i).toNat)
      case atStart => exact ⟨0, Nat.zero_le _, rfl, HL6, HQ6⟩
      case round =>
        clear HL6 HQ6
        obtain ⟨k, hk, rfl, HL6, HQ6⟩ := hrel
        by_cases hlt : k < bm.length
        · have hltz : (k : Int) < (bm.length : Int) := by omega
          obtain ⟨p1, n1, c1, hV1⟩ : ∃ p1 n1 c1, Value.slice p1 n1 c1 = sliced p2 0 k c2 1 := ⟨_, _, _, rfl⟩
          have hs := fun wx => bslice_h p2 bm.length c2 k (by omega) (by unfold maxLen; omega) wx
          have hq := HQ6.out.sliced 0 k (Nat.zero_le _) hk
          rw [List.drop_zero, ← hV1] at hq
          rw [← hV1] at hs
          have HQ7 := Lib.hid hq
          clear hV1
          have HV := Lib.hid (HV2.out k hlt)
          clear hq
          go_wp2_with fail
          refine (parse_w _ _ _ HQ7.out).mono ?_
          rw [HV.out]
          rintro e4 x4 ⟨rfl, hb4⟩
          have HL8 := Lib.hid ((HL6.out.below hb4).alloc (.cells #[.int .i64 0, .string ⟨#[]⟩, .string ⟨#[]⟩, .string ⟨#[]⟩, .string ⟨#[]⟩, .string ⟨#[]⟩, .string ⟨#[]⟩, .int .i64 0] 34))
          have HQ8 := Lib.hid ((HQ6.out.below hb4).below (below_box (.cells #[.int .i64 0, .string ⟨#[]⟩, .string ⟨#[]⟩, .string ⟨#[]⟩, .string ⟨#[]⟩, .string ⟨#[]⟩, .string ⟨#[]⟩, .int .i64 0] 34)))
          clear hb4 HL6 HQ6 HQ7 HV hs
          go_wp2
          go_roundw
          case rel => exact ⟨k + 1, by omega, by go_num, HL8, HQ8⟩
          case measure => simp [intOf]; omega
        · obtain rfl : k = bm.length := by omega
          clear hlt HV2
          have HB3 : Hid (∀ wr, Lw w [] [(b7, o), (b6, m)] [] wr → Calls Tryz.prog 33 #[msgV o] wr fun e w' => ∃ p cap, e = .returned (.slice p bo.length cap) ∧ IsBytes w' (.slice p bo.length cap) bo ∧ Below wr.heap.size wr w' ∧ Lw w [] [(b7, o), (b6, m)] [] w') := HB2
          have heq := fun wr => eql_msg m o wr
          obtain ⟨bb, hbb⟩ : ∃ bb, bb = decide (m = o) := ⟨_, rfl⟩
          rw [← hbb] at heq HX
          clear hbb
          have HSB : Hid (∀ wr v u, IsBytes wr v bm → IsBytes wr u bo → Calls Tryz.prog 32 #[v, u] wr fun e w' => e = .returned (.bool bb) ∧ wr = w') := Lib.hid (fun wr v u h1 h2 => by rw [← HX.out]; exact samebytes_w v u bm bo wr h1 h2)
          clear HX HB1 HB2
          go_upto_region 15 with fail
          have qm0 : ∀ wr, Lw w [] [(b7, o), (b6, m)] [] wr → wr.cell? ⟨b6, 0, none⟩ = some (.int .i64 m.kind) := fun wr h => (h.msg (n := b6) (m := m) (by simp)).c0 0 _ rfl
          have qm1 : ∀ wr, Lw w [] [(b7, o), (b6, m)] [] wr → wr.cell? ⟨b6, 1, none⟩ = some (.string (Str m.key)) := fun wr h => (h.msg (n := b6) (m := m) (by simp)).c0 1 _ rfl
          have qm2 : ∀ wr, Lw w [] [(b7, o), (b6, m)] [] wr → wr.cell? ⟨b6, 2, none⟩ = some (.string (Str m.val)) := fun wr h => (h.msg (n := b6) (m := m) (by simp)).c0 2 _ rfl
          have qm3 : ∀ wr, Lw w [] [(b7, o), (b6, m)] [] wr → wr.cell? ⟨b6, 3, none⟩ = some (.string (Str m.lo)) := fun wr h => (h.msg (n := b6) (m := m) (by simp)).c0 3 _ rfl
          have qm4 : ∀ wr, Lw w [] [(b7, o), (b6, m)] [] wr → wr.cell? ⟨b6, 4, none⟩ = some (.string (Str m.hi)) := fun wr h => (h.msg (n := b6) (m := m) (by simp)).c0 4 _ rfl
          have qm5 : ∀ wr, Lw w [] [(b7, o), (b6, m)] [] wr → wr.cell? ⟨b6, 5, none⟩ = some (.string (Str m.src)) := fun wr h => (h.msg (n := b6) (m := m) (by simp)).c0 5 _ rfl
          have qm6 : ∀ wr, Lw w [] [(b7, o), (b6, m)] [] wr → wr.cell? ⟨b6, 6, none⟩ = some (.string (Str m.dst)) := fun wr h => (h.msg (n := b6) (m := m) (by simp)).c0 6 _ rfl
          have qm7 : ∀ wr, Lw w [] [(b7, o), (b6, m)] [] wr → wr.cell? ⟨b6, 7, none⟩ = some (.int .i64 m.n) := fun wr h => (h.msg (n := b6) (m := m) (by simp)).c0 7 _ rfl
          have qo0 : ∀ wr, Lw w [] [(b7, o), (b6, m)] [] wr → wr.cell? ⟨b7, 0, none⟩ = some (.int .i64 o.kind) := fun wr h => (h.msg (n := b7) (m := o) (by simp)).c0 0 _ rfl
          have qo1 : ∀ wr, Lw w [] [(b7, o), (b6, m)] [] wr → wr.cell? ⟨b7, 1, none⟩ = some (.string (Str o.key)) := fun wr h => (h.msg (n := b7) (m := o) (by simp)).c0 1 _ rfl
          have qo2 : ∀ wr, Lw w [] [(b7, o), (b6, m)] [] wr → wr.cell? ⟨b7, 2, none⟩ = some (.string (Str o.val)) := fun wr h => (h.msg (n := b7) (m := o) (by simp)).c0 2 _ rfl
          have qo3 : ∀ wr, Lw w [] [(b7, o), (b6, m)] [] wr → wr.cell? ⟨b7, 3, none⟩ = some (.string (Str o.lo)) := fun wr h => (h.msg (n := b7) (m := o) (by simp)).c0 3 _ rfl
          have qo4 : ∀ wr, Lw w [] [(b7, o), (b6, m)] [] wr → wr.cell? ⟨b7, 4, none⟩ = some (.string (Str o.hi)) := fun wr h => (h.msg (n := b7) (m := o) (by simp)).c0 4 _ rfl
          have qo5 : ∀ wr, Lw w [] [(b7, o), (b6, m)] [] wr → wr.cell? ⟨b7, 5, none⟩ = some (.string (Str o.src)) := fun wr h => (h.msg (n := b7) (m := o) (by simp)).c0 5 _ rfl
          have qo6 : ∀ wr, Lw w [] [(b7, o), (b6, m)] [] wr → wr.cell? ⟨b7, 6, none⟩ = some (.string (Str o.dst)) := fun wr h => (h.msg (n := b7) (m := o) (by simp)).c0 6 _ rfl
          have qo7 : ∀ wr, Lw w [] [(b7, o), (b6, m)] [] wr → wr.cell? ⟨b7, 7, none⟩ = some (.int .i64 o.n) := fun wr h => (h.msg (n := b7) (m := o) (by simp)).c0 7 _ rfl
          have HQd := Lib.hid (HQ6.out.below (below_drewN wr 1))
          cases bb with
          | true =>
            go_region_held3 (fun wr => Lw w [] [(b7, o), (b6, m)] [] wr) (first | with_reducible assumption | with_reducible exact HL6.out.drew)
              (first
                | (go_at_call 33; (with_reducible refine (HB3.out _ (by with_reducible assumption)).mono ?_); rintro e5 x5 ⟨p5, c5, rfl, hq5, hb5, hL5⟩; have hqb := IsBytes.below HQd.out hb5)
                | (go_at_call 32; (with_reducible refine (HSB.out _ _ _ hqb hq5).mono ?_); rintro e6 x6 ⟨rfl, rfl⟩)
                | fail "no arm")
            all_goals
              have Hg := Lib.hid (Lw.g (by with_reducible assumption : Lw w [] [(b7, o), (b6, m)] [] x5))
              go_wp2
              go_ret
              exact ⟨rfl, Hg.out⟩
          | false =>
            go_region_held3 (fun wr => Lw w [] [(b7, o), (b6, m)] [] wr) (first | with_reducible assumption | with_reducible exact HL6.out.drew)
              (first
                | (go_at_call 33; (with_reducible refine (HB3.out _ (by with_reducible assumption)).mono ?_); rintro e5 x5 ⟨p5, c5, rfl, hq5, hb5, hL5⟩; have hqb := IsBytes.below HQd.out hb5)
                | (go_at_call 32; (with_reducible refine (HSB.out _ _ _ hqb hq5).mono ?_); rintro e6 x6 ⟨rfl, rfl⟩)
                | fail "no arm")
            all_goals
              have Hg := Lib.hid (Lw.g (by with_reducible assumption : Lw w [] [(b7, o), (b6, m)] [] x5))
              go_wp2
              go_ret
              exact ⟨rfl, Hg.out⟩
  · have h40z : (40 : Int) < (more.length : Int) := by omega
    have hd40 : decide (40 < (more.length : Int)) = true := by simp; omega
    go_enter Tryz.func10, Tryz.ntmps10
    go_wp2_with fail
    refine (Hsan.out _).mono ?_
    rintro e1 w1 ⟨rfl, hb1⟩
    have Hg : Hid (Below w.heap.size w w1) := Lib.hid ((below_box _).trans (hb1.mono (by simp)))
    clear hb1
    go_wp2
    go_ret
    exact ⟨rfl, Hg.out⟩

end Go.Proofs.YtdckiaokldkfmaaGreat
