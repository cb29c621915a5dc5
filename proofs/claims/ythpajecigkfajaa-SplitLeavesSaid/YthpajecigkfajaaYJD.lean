/-
  Walks: what reference 10's Made works on, in memory. Walks: the region of reference 10's Made that appends to the last two lists of the node. Walks: the region of reference 10's Made that lays the node.
-/
import Derived.Test.YthpajecigkfajaaYDC
import Derived.Lib.MinMax
import Derived.Deep.RegionHeld3
namespace Go.Proofs.Ythpajecigkfajaa
open Go.RowKit Go.Sort
set_option linter.unusedVariables false

/-- A slice of four bytes each. -/
def IsQ4s (w : World) (v : Value) (l : List Q4) : Prop :=
  ∃ a cap, v = .slice a l.length cap ∧ l.length ≤ cap ∧ cap ≤ maxLen ∧ (∀ q ∈ l, q.1 < 256 ∧ q.2.1 < 256 ∧ q.2.2.1 < 256 ∧ q.2.2.2 < 256) ∧ (l ≠ [] → ∃ b off, a = some ⟨b, off, none⟩ ∧ b < w.heap.size ∧
    ∀ i (h : i < l.length), w.cell? ⟨b, off + i * 4, none⟩ = some (.int .u8 l[i].1) ∧ w.cell? ⟨b, off + i * 4 + 1, none⟩ = some (.int .u8 l[i].2.1) ∧ w.cell? ⟨b, off + i * 4 + 2, none⟩ = some (.int .u8 l[i].2.2.1) ∧ w.cell? ⟨b, off + i * 4 + 3, none⟩ = some (.int .u8 l[i].2.2.2))
theorem IsQ4s.below {w w' : World} {v : Value} {l : List Q4} (h : IsQ4s w v l) (hb : Below w.heap.size w w') : IsQ4s w' v l := by
  obtain ⟨a, cap, h1, h2, h3, h5, h4⟩ := h
  refine ⟨a, cap, h1, h2, h3, h5, fun hl => ?_⟩
  obtain ⟨b, off, e, hlt, hc⟩ := h4 hl
  exact ⟨b, off, e, Nat.lt_of_lt_of_le hlt hb.size, fun i hi => ⟨by rw [hb.cell (by exact hlt)]; exact (hc i hi).1, by rw [hb.cell (by exact hlt)]; exact (hc i hi).2.1, by rw [hb.cell (by exact hlt)]; exact (hc i hi).2.2.1, by rw [hb.cell (by exact hlt)]; exact (hc i hi).2.2.2⟩⟩
theorem IsQ4s.form {w : World} {v : Value} {l : List Q4} (h : IsQ4s w v l) : ∃ b off cap a, v = .slice a l.length cap ∧ l.length ≤ cap ∧ cap ≤ maxLen ∧ (l ≠ [] → a = some ⟨b, off, none⟩ ∧ b < w.heap.size) ∧
    ∀ i (h : i < l.length), a = some ⟨b, off, none⟩ ∧ w.cell? ⟨b, off + i * 4, none⟩ = some (.int .u8 l[i].1) ∧ w.cell? ⟨b, off + i * 4 + 1, none⟩ = some (.int .u8 l[i].2.1) ∧ w.cell? ⟨b, off + i * 4 + 2, none⟩ = some (.int .u8 l[i].2.2.1) ∧ w.cell? ⟨b, off + i * 4 + 3, none⟩ = some (.int .u8 l[i].2.2.2) := by
  obtain ⟨a, cap, h1, h2, h3, h5, h4⟩ := h
  by_cases hl : l = []
  · subst hl; exact ⟨0, 0, cap, a, h1, h2, h3, fun h => absurd rfl h, fun i hi => absurd hi (by simp)⟩
  · obtain ⟨b, off, e, hlt, hc⟩ := h4 hl
    exact ⟨b, off, cap, a, h1, h2, h3, fun _ => ⟨e, hlt⟩, fun i hi => ⟨e, hc i hi⟩⟩
/-- What describes a node, in memory. -/
def IsRq (w : World) (v : Value) (x : Rq) : Prop := ∃ a b c d e, v = .agg #[a, b, c, d, e] ∧ T4.IsRaws w a x.pairs ∧ IsBytes w b x.kids ∧ IsBytes w c x.pivs ∧ IsQ4s w d x.sums ∧ IsR6s w e x.buf ∧ x.pivs.length ≤ 1048576
theorem IsRq.below {w w' : World} {v : Value} {x : Rq} (h : IsRq w v x) (hb : Below w.heap.size w w') : IsRq w' v x := by
  obtain ⟨a, b, c, d, e, rfl, h1, h2, h3, h4, h5, h6⟩ := h
  exact ⟨a, b, c, d, e, rfl, h1.below hb, h2.below hb, h3.below hb, h4.below hb, h5.below hb, h6⟩
theorem IsRq.small {w : World} {v : Value} {x : Rq} (h : IsRq w v x) : SmallQ x := by
  obtain ⟨a, b, c, d, e, rfl, h1, h2, h3, ⟨_, _, _, _, _, h4, _⟩, h5, h6⟩ := h
  exact h4

/-- A node as Made gives it: its bounds and messages lie in rows of their own. -/
def OwnMade (w : World) (B : Nat) (v : Value) (n : Nd) : Prop := ∃ a b c d e, v = .agg #[a, b, c, d, e] ∧ IsNode w (.agg #[a, b, c, d, e]) n ∧ w.ownsRow B 72 4 d n.sums.length (n.sums.flatMap encSm) ∧ OwnM w B e n.buf
theorem made_nil (w : World) (B : Nat) {a b c : Value} {n : Nd} (hs : n.sums = []) (hm : n.buf = []) (h : IsNode w (.agg #[a, b, c, .slice none 0 0, .slice none 0 0]) n) : OwnMade w B (.agg #[a, b, c, .slice none 0 0, .slice none 0 0]) n :=
  ⟨a, b, c, _, _, rfl, h, by rw [hs]; exact World.ownsRow_nil _ _ _ _, by rw [hm]; exact World.ownsRow_nil _ _ _ _⟩
theorem keepAQ {W wx : World} (h : Below W.heap.size W wx) (o : Obj) : Below W.heap.size W (wx.alloc o) := h.alloc h.size o
theorem blk_st5 {w : World} {b : Nat} {T : TypeId} {x0 x1 x2 x3 x4 y0 y1 y2 y3 y4 : Value} (h : Blk w b T #[x0, x1, x2, x3, x4]) : Blk (st5 w b y0 y1 y2 y3 y4) b T #[y0, y1, y2, y3, y4] :=
  ((((h.setCell 0 y0).setCell 1 y1).setCell 2 y2).setCell 3 y3).setCell 4 y4
def kidsQ (x : Rq) (k : Nat) : List Int := (x.kids.take k).map fun c => ((c.toNat : Nat) : Int)
def sumsQ (x : Rq) (k : Nat) : List Sm := (List.range k).map (sumAt x.sums)
theorem wraps_q (q : Q4) (h : q.1 < 256 ∧ q.2.1 < 256 ∧ q.2.2.1 < 256 ∧ q.2.2.2 < 256) : wrap64 (q.1 : Int) = (q.1 : Int) ∧ wrap64 (q.2.1 : Int) = (q.2.1 : Int) ∧ wrap64 (q.2.2.1 : Int) = (q.2.2.1 : Int) ∧ wrap64 (q.2.2.2 : Int) = (q.2.2.2 : Int) ∧ wrap64 ((q.1 : Int) + (q.2.1 : Int)) = (q.1 : Int) + (q.2.1 : Int) ∧ wrap64 ((q.2.2.1 : Int) + (q.2.2.2 : Int)) = (q.2.2.1 : Int) + (q.2.2.2 : Int) := by
  obtain ⟨h1, h2, h3, h4⟩ := h
  unfold wrap64
  refine ⟨?_, ?_, ?_, ?_, ?_, ?_⟩ <;> omega
theorem own_slice {w : World} {B size n : Nat} {T : TypeId} {v : Value} {xs : List Value} (h : w.ownsRow B T size v n xs) : ∃ p c, v = .slice p n c := by
  rcases h.2 with ⟨rfl, h0⟩ | ⟨g, cap, cur, rfl, _⟩
  · exact ⟨none, 0, by rw [h0]⟩
  · exact ⟨_, _, rfl⟩
theorem strs_take {w : World} {p : Option Addr} {n c : Nat} {l : List Bs} (h : IsStrs w (.slice p n c) l) (k : Nat) (hk : k ≤ l.length) : IsStrs w (.slice p k c) (l.take k) := by
  obtain ⟨p', c', e, h1, h2, h3⟩ := h
  injection e with e1 e2 e3
  subst e1 e3
  refine ⟨p, c, by rw [List.length_take, Nat.min_eq_left hk], by rw [List.length_take]; omega, h2, fun hne => ?_⟩
  obtain ⟨b, off, e, hlt, hc⟩ := h3 (by rintro rfl; simp at hne)
  refine ⟨b, off, e, hlt, fun i hi => ?_⟩
  rw [List.length_take] at hi
  rw [List.getElem_take]
  exact hc i (by omega)
theorem st5_heap (w : World) (b k : Nat) (y0 y1 y2 y3 y4 : Value) (h : k ≠ b) : (st5 w b y0 y1 y2 y3 y4).heap[k]? = w.heap[k]? := by
  unfold st5
  rw [Below.heap_setCell _ _ _ _ h, Below.heap_setCell _ _ _ _ h, Below.heap_setCell _ _ _ _ h, Below.heap_setCell _ _ _ _ h, Below.heap_setCell _ _ _ _ h]
theorem st5_size (w : World) (b : Nat) (y0 y1 y2 y3 y4 : Value) : (st5 w b y0 y1 y2 y3 y4).heap.size = w.heap.size := by
  unfold st5; simp
theorem strs_st5 {w : World} {b : Nat} {T : TypeId} {v : Value} {l : List Bs} {y0 y1 y2 y3 y4 : Value} {p0 p1 p2 p3 p4 : Option Addr} {n0 n1 n2 n3 n4 c0 c1 c2 c3 c4 : Nat} (h : IsStrs w v l) (hc : Blk w b T #[.slice p0 n0 c0, .slice p1 n1 c1, .slice p2 n2 c2, .slice p3 n3 c3, .slice p4 n4 c4]) : IsStrs (st5 w b y0 y1 y2 y3 y4) v l := by
  obtain ⟨p', c', e, h1, h2, h3⟩ := h
  refine ⟨p', c', e, h1, h2, fun hne => ?_⟩
  obtain ⟨g, off, e, hlt, hcc⟩ := h3 hne
  have hgb : g ≠ b := by
    rintro rfl
    have h0 := hcc 0 (List.length_pos_iff.2 hne)
    rw [hc.cell, Nat.add_zero] at h0
    match off, h0 with
    | 0, h0 => simp at h0
    | 1, h0 => simp at h0
    | 2, h0 => simp at h0
    | 3, h0 => simp at h0
    | 4, h0 => simp at h0
    | k + 5, h0 => simp at h0
  have hz := st5_size w b y0 y1 y2 y3 y4
  have hk := st5_heap w b g y0 y1 y2 y3 y4 hgb
  generalize st5 w b y0 y1 y2 y3 y4 = W at *
  exact ⟨g, off, e, by rw [hz]; exact hlt, fun i hi => Eq.trans (World.cell?_of_block hk) (hcc i hi)⟩
/-- While the last two lists of a node grow: the node's box, the bounds' box, what lies below. -/
structure Mid (w5 : World) (b sb : Nat) (cs : Array Value) (sm : Sm) (wx : World) : Prop where
  n : Blk wx b 43 cs
  s : Blk wx sb 72 #[.int .i64 sm.1.1, .int .i64 sm.1.2, .int .i64 sm.2.1, .int .i64 sm.2.2]
  g : Below w5.heap.size w5 wx
section
variable {w5 wx wy : World} {b sb : Nat} {cs : Array Value} {sm : Sm}
theorem Mid.alloc (h : Mid w5 b sb cs sm wx) (o : Obj) : Mid w5 b sb cs sm (wx.alloc o) := ⟨h.n.alloc o, h.s.alloc o, keepAQ h.g o⟩
theorem Mid.drew (h : Mid w5 b sb cs sm wx) : Mid w5 b sb cs sm wx.drew := ⟨h.n, h.s, h.g.drew⟩
theorem Mid.newBlk (h : Mid w5 b sb cs sm wx) (T : TypeId) (ds : Array Value) : Blk (wx.alloc (.cells ds T)) wx.heap.size T ds := Blk.new _ _ _
theorem Mid.grown {row : Option Nat} (h : Mid w5 b sb cs sm wx) (hg : wx.grownBy wy row) (h1 : row ≠ some b) (h2 : row ≠ some sb) (h3 : ∀ j, row = some j → w5.heap.size ≤ j) : Mid w5 b sb cs sm wy :=
  ⟨grown_blk h.n hg h1, grown_blk h.s hg h2, Below.grown h.g hg h.g.size h3⟩
theorem Mid.own_int {v : Value} {n : Nat} {xs : List Value} (h : Mid w5 b sb cs sm wx) (ho : wx.ownsRow w5.heap.size 3 1 v n xs) : v.ownBlock ≠ some b ∧ v.ownBlock ≠ some sb ∧ ∀ j, v.ownBlock = some j → w5.heap.size ≤ j :=
  ⟨own_type ho h.n (by decide), own_type ho h.s (by decide), fun j hj => (ho.lt j hj).1⟩
theorem Mid.own_sum {v : Value} {n : Nat} {xs : List Value} (h : Mid w5 b sb cs sm wx) (ho : wx.ownsRow w5.heap.size 72 4 v n xs) (hlt : ∀ j, v.ownBlock = some j → j < sb) : v.ownBlock ≠ some b ∧ v.ownBlock ≠ some sb ∧ ∀ j, v.ownBlock = some j → w5.heap.size ≤ j :=
  ⟨own_type ho h.n (by decide), fun e => Nat.lt_irrefl _ (hlt sb e), fun j hj => (ho.lt j hj).1⟩
end
theorem own_drew {w : World} {base size m : Nat} {e : TypeId} {v : Value} {xs : List Value} (h : w.ownsRow base e size v m xs) : w.drew.ownsRow base e size v m xs := h
theorem pairs_form {w : World} {v : Value} {l : List Pr} (h : IsPairs w v l) : ∃ a c, v = .slice a l.length c := by
  obtain ⟨a, c, h1, _⟩ := h
  exact ⟨a, c, h1⟩
/-- One region of a text, by its number. -/
def codeReg (n : Nat) : Code → Option Code
  | .region id ops d => if id = n then some (.region id ops d) else none
  | .seq a b => match codeReg n a with
    | some c => some c
    | none => codeReg n b
  | .block _ c => codeReg n c
  | .loop c => codeReg n c
  | .scope c => codeReg n c
  | .cond _ a b => match codeReg n a with
    | some c => some c
    | none => codeReg n b
  | _ => none

end Go.Proofs.Ythpajecigkfajaa
namespace Go.Proofs.Ythpajecigkfajaa
open Go.RowKit Go.Sort
set_option linter.unusedVariables false

theorem len_one {α : Type} (l : List α) (x : α) : (l ++ [x]).length = l.length + 1 := by simp
theorem blk_next (T : TypeId) (cs : Array Value) (w : World) (n : Nat) (h : n = w.heap.size) : Blk (w.alloc (.cells cs T)) n T cs := by subst h; exact Blk.new _ _ _
noncomputable def regM17 : Code := ((Try.f12.body.bind (codeReg 17)).getD .skip)
set_option maxRecDepth 100000 in
set_option maxHeartbeats 16000000 in
theorem regM17_w (w5 w : World) (X b sb k kid bk ok nk c2 B : Nat) (sm : Sm) (y0 y1 y4 vk vs vm : Value) (l : List Int) (m : List Sm) (lm : List Ms) (hBs : B = w5.heap.size)
    (hM0 : Mid w5 b sb #[y0, y1, vk, vs, y4] sm w) (hx1b : ∀ wx, Mid w5 b sb #[y0, y1, vk, vs, y4] sm wx → wx.cell? ⟨X, 1, none⟩ = some (.slice (some ⟨bk, ok, none⟩) nk c2))
    (hkb : ∀ wx, Mid w5 b sb #[y0, y1, vk, vs, y4] sm wx → wx.cell? ⟨bk, ok + k, none⟩ = some (.int .u8 kid)) (hklz : (k : Int) < (nk : Int)) (hnk : (nk : Int) ≤ 9223372036854775807) (hk256 : kid < 256)
    (hI0 : w.ownsRow B 3 1 vk l.length (l.flatMap encI)) (hU0 : w.ownsRow B 72 4 vs m.length (m.flatMap encSm)) (hO0 : OwnM w B vm lm)
    (hVS : ∀ j, vs.ownBlock = some j → j < sb) (hkl : l.length ≤ 1000000) (hsl : m.length ≤ 1000000)
    (s0 s2 s3 s4 s8 s9 s10 s11 s12 s13 s14 s15 s16 s17 s18 s19 s20 s21 s22 s23 s24 s25 s26 s27 s28 s29 s30 s31 s32 s33 s34 s35 s36 s37 s38 s39 s40 s41 s42 s43 s44 s45 s46 s47 s48 s49 s50 s51 s52 s53 s54 s55 s56 s57 s58 s59 s60 s61 s62 s63 s64 s65 s66 s67 s68 s69 s70 s71 s72 s73 s74 s75 s76 s77 s78 s79 s80 s81 s82 s83 s84 s85 s86 s87 s88 s89 s90 s91 s92 s93 s94 s95 s96 s97 s98 s99 s100 s101 s102 s103 s104 s105 s106 s107 s108 : Value) (Q : Exit → Act → World → Prop)
    (hQ : ∀ (t91 t92 t93 t94 t95 t96 t97 t98 t99 t100 t101 t102 t103 t104 t105 t106 t107 : Value) (p9 : Option Addr) (c9 : Nat) (p14 : Option Addr) (c14 : Nat) (wx : World), Mid w5 b sb #[y0, y1, vk, vs, y4] sm wx →
      wx.ownsRow B 3 1 (.slice p9 (l.length + 1) c9) (l.length + 1) ((l ++ [(kid : Int)]).flatMap encI) →
      wx.ownsRow B 72 4 (.slice p14 (m.length + 1) c14) (m.length + 1) ((m ++ [sm]).flatMap encSm) → OwnM wx B vm lm →
      Q .normal ⟨#[s0, .pointer (some ⟨X, 0, none⟩), s2, s3, s4, .pointer (some ⟨b, 0, none⟩), .int .i64 (k : Int), .pointer (some ⟨sb, 0, none⟩), s8, s9, s10, s11, s12, s13, s14, s15, s16, s17, s18, s19, s20, s21, s22, s23, s24, s25, s26, s27, s28, s29, s30, s31, s32, s33, s34, s35, s36, s37, s38, s39, s40, s41, s42, s43, s44, s45, s46, s47, s48, s49, s50, s51, s52, s53, s54, s55, s56, s57, s58, s59, s60, s61, s62, s63, s64, s65, s66, s67, s68, s69, s70, s71, s72, s73, s74, s75, s76, s77, s78, s79, s80, s81, s82, s83, s84, s85, s86, s87, s88, s89, s90, t91, t92, t93, t94, t95, t96, t97, t98, t99, t100, t101, t102, t103, t104, t105, t106, t107, s108], []⟩ ((wx.setCell ⟨b, 2, none⟩ (.slice p9 (l.length + 1) c9)).setCell ⟨b, 3, none⟩ (.slice p14 (m.length + 1) c14))) :
    regM17.wp Try.prog Q ⟨#[s0, .pointer (some ⟨X, 0, none⟩), s2, s3, s4, .pointer (some ⟨b, 0, none⟩), .int .i64 (k : Int), .pointer (some ⟨sb, 0, none⟩), s8, s9, s10, s11, s12, s13, s14, s15, s16, s17, s18, s19, s20, s21, s22, s23, s24, s25, s26, s27, s28, s29, s30, s31, s32, s33, s34, s35, s36, s37, s38, s39, s40, s41, s42, s43, s44, s45, s46, s47, s48, s49, s50, s51, s52, s53, s54, s55, s56, s57, s58, s59, s60, s61, s62, s63, s64, s65, s66, s67, s68, s69, s70, s71, s72, s73, s74, s75, s76, s77, s78, s79, s80, s81, s82, s83, s84, s85, s86, s87, s88, s89, s90, s91, s92, s93, s94, s95, s96, s97, s98, s99, s100, s101, s102, s103, s104, s105, s106, s107, s108], []⟩ w := by
  have mixed := mixedA
  conv => arg 2; whnf
  have HQ := Lib.hid hQ
  have HMID := Lib.hid hM0
  have hF2 : ∀ wx, Mid w5 b sb #[y0, y1, vk, vs, y4] sm wx → wx.cell? ⟨b, 2, none⟩ = some vk := fun wx h => h.n.c0 2 _ rfl
  have hF3 : ∀ wx, Mid w5 b sb #[y0, y1, vk, vs, y4] sm wx → wx.cell? ⟨b, 3, none⟩ = some vs := fun wx h => h.n.c0 3 _ rfl
  have hs0 : ∀ wx, Mid w5 b sb #[y0, y1, vk, vs, y4] sm wx → wx.cell? ⟨sb, 0, none⟩ = some (.int .i64 sm.1.1) := fun wx h => h.s.c0 0 _ rfl
  have hs1 : ∀ wx, Mid w5 b sb #[y0, y1, vk, vs, y4] sm wx → wx.cell? ⟨sb, 1, none⟩ = some (.int .i64 sm.1.2) := fun wx h => h.s.c0 1 _ rfl
  have hs2 : ∀ wx, Mid w5 b sb #[y0, y1, vk, vs, y4] sm wx → wx.cell? ⟨sb, 2, none⟩ = some (.int .i64 sm.2.1) := fun wx h => h.s.c0 2 _ rfl
  have hs3 : ∀ wx, Mid w5 b sb #[y0, y1, vk, vs, y4] sm wx → wx.cell? ⟨sb, 3, none⟩ = some (.int .i64 sm.2.2) := fun wx h => h.s.c0 3 _ rfl
  have hcv : wrap64 (kid : Int) = (kid : Int) := by unfold wrap64; omega
  have hcv2 : IntKind.i64.wrap (kid : Int) = (kid : Int) := by rw [IntKind.wrap_i64]; omega
  have hI := own_drew hI0
  have hU := own_drew hU0
  have hO : OwnM _ _ _ _ := own_drew hO0
  clear hQ hM0 hI0 hU0 hO0
  refine wp_region_noPanic ?_
  refine region_T (n := 16) (S := Mid w5 b sb #[y0, y1, vk, vs, y4] sm) mixed HMID.out.drew (fun hHeld => ?_)
  have hM := hHeld
  clear hHeld
  generalize hwd : w.drew = wd at *
  clear hwd
  refine T_take (i := 0) (oi := _) (v := ?_) rfl (by kernel_rfl) (by kernel_rfl) (by kernel_rfl) (by kernel_rfl) (fun _ _ _ h => h) (Or.inl ⟨by kernel_rfl, ?_⟩) (by with_reducible assumption) ?_
  rotate_left
  · intro wt hSw
    go_simp
    all_goals with_reducible rfl
  try simp only [Act.put, List.setIfInBounds_toArray]
  refine T_take (i := 1) (oi := _) (v := ?_) rfl (by kernel_rfl) (by kernel_rfl) (by kernel_rfl) (by kernel_rfl) (fun _ _ _ h => h) (Or.inl ⟨by kernel_rfl, ?_⟩) (by with_reducible assumption) ?_
  rotate_left
  · intro wt hSw
    go_simp
    all_goals with_reducible rfl
  try simp only [Act.put]
  refine T_take (i := 2) (oi := _) (v := ?_) rfl (by kernel_rfl) (by kernel_rfl) (by kernel_rfl) (by kernel_rfl) (fun _ _ _ h => h) (Or.inl ⟨by kernel_rfl, ?_⟩) (by with_reducible assumption) ?_
  rotate_left
  · intro wt hSw
    go_simp
    all_goals with_reducible rfl
  try simp only [Act.put]
  refine T_take (i := 3) (oi := _) (v := ?_) rfl (by kernel_rfl) (by kernel_rfl) (by kernel_rfl) (by kernel_rfl) (fun _ _ _ h => h) (Or.inl ⟨by kernel_rfl, ?_⟩) (by with_reducible assumption) ?_
  rotate_left
  · intro wt hSw
    go_simp
    all_goals with_reducible rfl
  try simp only [Act.put]
  refine T_take (i := 4) (oi := _) (v := ?_) rfl (by kernel_rfl) (by kernel_rfl) (by kernel_rfl) (by kernel_rfl) (fun _ _ _ h => h) (Or.inl ⟨by kernel_rfl, ?_⟩) (by with_reducible assumption) ?_
  rotate_left
  · intro wt hSw
    go_simp
    all_goals with_reducible rfl
  try simp only [Act.put]
  refine T_take (i := 5) (oi := _) (v := ?_) rfl (by kernel_rfl) (by kernel_rfl) (by kernel_rfl) (by kernel_rfl) (fun _ _ _ h => h) (Or.inl ⟨by kernel_rfl, ?_⟩) (by with_reducible assumption) ?_
  rotate_left
  · intro wt hSw
    go_simp
    all_goals with_reducible rfl
  try simp only [Act.put]
  refine T_take (i := 6) (oi := _) (v := ?_) rfl (by kernel_rfl) (by kernel_rfl) (by kernel_rfl) (by kernel_rfl) (fun _ _ _ h => h) (Or.inl ⟨by kernel_rfl, ?_⟩) (by with_reducible assumption) ?_
  rotate_left
  · intro wt hSw
    go_simp
    all_goals with_reducible rfl
  try simp only [Act.put]
  refine T_take (i := 7) (oi := _) (v := ?_) rfl (by kernel_rfl) (by kernel_rfl) (by kernel_rfl) (by kernel_rfl) (fun _ _ _ h => h) (Or.inl ⟨by kernel_rfl, ?_⟩) (by with_reducible assumption) ?_
  rotate_left
  · intro wt hSw
    go_simp
    all_goals with_reducible rfl
  try simp only [Act.put]
  refine T_take (i := 10) (oi := _) (v := ?_) rfl (by kernel_rfl) (by kernel_rfl) (by kernel_rfl) (by kernel_rfl) (fun _ _ _ h => h) (Or.inl ⟨by kernel_rfl, ?_⟩) (by with_reducible assumption) ?_
  rotate_left
  · intro wt hSw
    go_simp
    all_goals with_reducible rfl
  try simp only [Act.put]
  refine T_take (i := 11) (oi := _) (v := ?_) rfl (by kernel_rfl) (by kernel_rfl) (by kernel_rfl) (by kernel_rfl) (fun _ _ _ h => h) (Or.inl ⟨by kernel_rfl, ?_⟩) (by with_reducible assumption) ?_
  rotate_left
  · intro wt hSw
    go_simp
    all_goals with_reducible rfl
  try simp only [Act.put]
  refine T_ready (rs := [8, 12]) (by kernel_rfl) (by simp) ?_
  refine AllT.cons (o := _) rfl (fun K hK => ?_) (AllT.cons (o := _) rfl (fun K hK => ?_) AllT.nil)
  · go_simp
    refine hK.out _ _ (fun _ => hM.alloc _) ?_
    clear hK K
    try simp only [List.setIfInBounds_toArray, List.set_cons_zero, List.set_cons_succ]
    have hi := hM.newBlk 3 #[.int .i64 (kid : Int)]
    replace hM := hM.alloc (Obj.cells #[.int .i64 (kid : Int)] 3)
    replace hI := own_alloc hI (Obj.cells #[.int .i64 (kid : Int)] 3)
    replace hU := own_alloc hU (Obj.cells #[.int .i64 (kid : Int)] 3)
    replace hO := own_alloc hO (Obj.cells #[.int .i64 (kid : Int)] 3)
    refine T_ready (rs := [9, 12]) (by kernel_rfl) (by simp) ?_
    refine AllT.cons (o := _) rfl (fun K hK => ?_) (AllT.cons (o := _) rfl (fun K hK => ?_) AllT.nil)
    · refine step_int rfl _ _ rfl B vk l rfl hI _ 1 (kid : Int) rfl (hi.c0 0 _ rfl) hkl (hBs ▸ hM.g.size) ?_
      intro v9 w9 ho9 hg9
      have hn9 := hM.own_int (hBs ▸ hI)
      refine hK.out _ _ (fun _ => hM.grown hg9 hn9.1 hn9.2.1 hn9.2.2) ?_
      clear hK K
      try simp only [List.setIfInBounds_toArray, List.set_cons_zero, List.set_cons_succ]
      replace hU := grown_own hU hg9 (own_own hI hU (by decide))
      replace hO := grown_own hO hg9 (own_own hI hO (by decide))
      replace hM := hM.grown hg9 hn9.1 hn9.2.1 hn9.2.2
      obtain ⟨p9, c9, rfl⟩ := own_slice ho9
      clear hi hI hg9 hn9
      refine T_take (i := 15) (oi := _) (v := ?_) rfl (by kernel_rfl) (by kernel_rfl) (by kernel_rfl) (by kernel_rfl) (fun _ _ _ h => h) (Or.inl ⟨by kernel_rfl, ?_⟩) (by with_reducible assumption) ?_
      rotate_left
      · intro wt hSw
        go_simp
        all_goals with_reducible rfl
      try simp only [Act.put, List.setIfInBounds_toArray]
      refine T_ready (rs := [12]) (by kernel_rfl) (by simp) ?_
      refine AllT.cons (o := _) rfl (fun K hK => ?_) AllT.nil
      go_simp
      refine hK.out _ _ (fun _ => hM) ?_
      clear hK K
      try simp only [List.setIfInBounds_toArray, List.set_cons_zero, List.set_cons_succ]
      refine T_ready (rs := [13]) (by kernel_rfl) (by simp) ?_
      refine AllT.cons (o := _) rfl (fun K hK => ?_) AllT.nil
      go_simp
      refine hK.out _ _ (fun _ => hM.alloc _) ?_
      clear hK K
      try simp only [List.setIfInBounds_toArray, List.set_cons_zero, List.set_cons_succ]
      have hu := hM.newBlk 72 #[.int .i64 sm.1.1, .int .i64 sm.1.2, .int .i64 sm.2.1, .int .i64 sm.2.2]
      replace hM := hM.alloc (Obj.cells #[.int .i64 sm.1.1, .int .i64 sm.1.2, .int .i64 sm.2.1, .int .i64 sm.2.2] 72)
      replace ho9 := own_alloc ho9 (Obj.cells #[.int .i64 sm.1.1, .int .i64 sm.1.2, .int .i64 sm.2.1, .int .i64 sm.2.2] 72)
      replace hU := own_alloc hU (Obj.cells #[.int .i64 sm.1.1, .int .i64 sm.1.2, .int .i64 sm.2.1, .int .i64 sm.2.2] 72)
      replace hO := own_alloc hO (Obj.cells #[.int .i64 sm.1.1, .int .i64 sm.1.2, .int .i64 sm.2.1, .int .i64 sm.2.2] 72)
      refine T_ready (rs := [14]) (by kernel_rfl) (by simp) ?_
      refine AllT.cons (o := _) rfl (fun K hK => ?_) AllT.nil
      refine step_sum rfl _ _ rfl B vs m rfl hU _ 1 sm rfl hu hsl (hBs ▸ hM.g.size) ?_
      intro v14 w14 ho14 hg14
      have hn14 := hM.own_sum (hBs ▸ hU) hVS
      refine hK.out _ _ (fun _ => hM.grown hg14 hn14.1 hn14.2.1 hn14.2.2) ?_
      clear hK K
      try simp only [List.setIfInBounds_toArray, List.set_cons_zero, List.set_cons_succ]
      replace hO := grown_own hO hg14 (own_own hU hO (by decide))
      replace ho9 := grown_own ho9 hg14 (own_own hU ho9 (by decide))
      replace hM := hM.grown hg14 hn14.1 hn14.2.1 hn14.2.2
      obtain ⟨p14, c14, rfl⟩ := own_slice ho14
      clear hu hU hg14 hn14
      have m2 := hM.n.c0 2 _ rfl
      have m3 := hM.n.c0 3 _ rfl
      have g2 := hM.n.free 2
      have g3 := hM.n.free 3
      refine T_ready (rs := [16]) (by kernel_rfl) (by simp) ?_
      refine AllT.cons (o := _) rfl (fun K hK => ?_) AllT.nil
      go_simp
      refine hK.out _ _ (fun h => absurd h (by decide)) ?_
      clear hK K
      try simp only [List.setIfInBounds_toArray, List.set_cons_zero, List.set_cons_succ]
      refine T_ready (rs := [17]) (by kernel_rfl) (by simp) ?_
      refine AllT.cons (o := _) rfl (fun K hK => ?_) AllT.nil
      go_simp
      refine hK.out _ _ (fun h => absurd h (by decide)) ?_
      clear hK K
      try simp only [List.setIfInBounds_toArray, List.set_cons_zero, List.set_cons_succ]
      refine T_ready (rs := [18]) (by kernel_rfl) (by simp) ?_
      refine AllT.cons (o := _) rfl (fun K hK => ?_) AllT.nil
      go_simp
      refine hK.out _ _ (fun h => absurd h (by decide)) ?_
      clear hK K
      try simp only [List.setIfInBounds_toArray, List.set_cons_zero, List.set_cons_succ]
      rw [len_one] at ho9 ho14
      exact T_done (by kernel_rfl) (NoPanic.normal (HQ.out _ _ _ _ _ _ _ _ _ _ _ _ _ _ _ _ _ _ _ _ _ _ hM ho9 ho14 hO)) _
    · go_simp
      refine hK.out _ _ (fun _ => hM) ?_
      clear hK K
      try simp only [List.setIfInBounds_toArray, List.set_cons_zero, List.set_cons_succ]
      refine T_ready (rs := [9, 13]) (by kernel_rfl) (by simp) ?_
      refine AllT.cons (o := _) rfl (fun K hK => ?_) (AllT.cons (o := _) rfl (fun K hK => ?_) AllT.nil)
      · refine step_int rfl _ _ rfl B vk l rfl hI _ 1 (kid : Int) rfl (hi.c0 0 _ rfl) hkl (hBs ▸ hM.g.size) ?_
        intro v9 w9 ho9 hg9
        have hn9 := hM.own_int (hBs ▸ hI)
        refine hK.out _ _ (fun _ => hM.grown hg9 hn9.1 hn9.2.1 hn9.2.2) ?_
        clear hK K
        try simp only [List.setIfInBounds_toArray, List.set_cons_zero, List.set_cons_succ]
        replace hU := grown_own hU hg9 (own_own hI hU (by decide))
        replace hO := grown_own hO hg9 (own_own hI hO (by decide))
        replace hM := hM.grown hg9 hn9.1 hn9.2.1 hn9.2.2
        obtain ⟨p9, c9, rfl⟩ := own_slice ho9
        clear hi hI hg9 hn9
        refine T_take (i := 15) (oi := _) (v := ?_) rfl (by kernel_rfl) (by kernel_rfl) (by kernel_rfl) (by kernel_rfl) (fun _ _ _ h => h) (Or.inl ⟨by kernel_rfl, ?_⟩) (by with_reducible assumption) ?_
        rotate_left
        · intro wt hSw
          go_simp
          all_goals with_reducible rfl
        try simp only [Act.put, List.setIfInBounds_toArray]
        refine T_ready (rs := [13]) (by kernel_rfl) (by simp) ?_
        refine AllT.cons (o := _) rfl (fun K hK => ?_) AllT.nil
        go_simp
        refine hK.out _ _ (fun _ => hM.alloc _) ?_
        clear hK K
        try simp only [List.setIfInBounds_toArray, List.set_cons_zero, List.set_cons_succ]
        have hu := hM.newBlk 72 #[.int .i64 sm.1.1, .int .i64 sm.1.2, .int .i64 sm.2.1, .int .i64 sm.2.2]
        replace hM := hM.alloc (Obj.cells #[.int .i64 sm.1.1, .int .i64 sm.1.2, .int .i64 sm.2.1, .int .i64 sm.2.2] 72)
        replace ho9 := own_alloc ho9 (Obj.cells #[.int .i64 sm.1.1, .int .i64 sm.1.2, .int .i64 sm.2.1, .int .i64 sm.2.2] 72)
        replace hU := own_alloc hU (Obj.cells #[.int .i64 sm.1.1, .int .i64 sm.1.2, .int .i64 sm.2.1, .int .i64 sm.2.2] 72)
        replace hO := own_alloc hO (Obj.cells #[.int .i64 sm.1.1, .int .i64 sm.1.2, .int .i64 sm.2.1, .int .i64 sm.2.2] 72)
        refine T_ready (rs := [14]) (by kernel_rfl) (by simp) ?_
        refine AllT.cons (o := _) rfl (fun K hK => ?_) AllT.nil
        refine step_sum rfl _ _ rfl B vs m rfl hU _ 1 sm rfl hu hsl (hBs ▸ hM.g.size) ?_
        intro v14 w14 ho14 hg14
        have hn14 := hM.own_sum (hBs ▸ hU) hVS
        refine hK.out _ _ (fun _ => hM.grown hg14 hn14.1 hn14.2.1 hn14.2.2) ?_
        clear hK K
        try simp only [List.setIfInBounds_toArray, List.set_cons_zero, List.set_cons_succ]
        replace hO := grown_own hO hg14 (own_own hU hO (by decide))
        replace ho9 := grown_own ho9 hg14 (own_own hU ho9 (by decide))
        replace hM := hM.grown hg14 hn14.1 hn14.2.1 hn14.2.2
        obtain ⟨p14, c14, rfl⟩ := own_slice ho14
        clear hu hU hg14 hn14
        have m2 := hM.n.c0 2 _ rfl
        have m3 := hM.n.c0 3 _ rfl
        have g2 := hM.n.free 2
        have g3 := hM.n.free 3
        refine T_ready (rs := [16]) (by kernel_rfl) (by simp) ?_
        refine AllT.cons (o := _) rfl (fun K hK => ?_) AllT.nil
        go_simp
        refine hK.out _ _ (fun h => absurd h (by decide)) ?_
        clear hK K
        try simp only [List.setIfInBounds_toArray, List.set_cons_zero, List.set_cons_succ]
        refine T_ready (rs := [17]) (by kernel_rfl) (by simp) ?_
        refine AllT.cons (o := _) rfl (fun K hK => ?_) AllT.nil
        go_simp
        refine hK.out _ _ (fun h => absurd h (by decide)) ?_
        clear hK K
        try simp only [List.setIfInBounds_toArray, List.set_cons_zero, List.set_cons_succ]
        refine T_ready (rs := [18]) (by kernel_rfl) (by simp) ?_
        refine AllT.cons (o := _) rfl (fun K hK => ?_) AllT.nil
        go_simp
        refine hK.out _ _ (fun h => absurd h (by decide)) ?_
        clear hK K
        try simp only [List.setIfInBounds_toArray, List.set_cons_zero, List.set_cons_succ]
        rw [len_one] at ho9 ho14
        exact T_done (by kernel_rfl) (NoPanic.normal (HQ.out _ _ _ _ _ _ _ _ _ _ _ _ _ _ _ _ _ _ _ _ _ _ hM ho9 ho14 hO)) _
      · go_simp
        refine hK.out _ _ (fun _ => hM.alloc _) ?_
        clear hK K
        try simp only [List.setIfInBounds_toArray, List.set_cons_zero, List.set_cons_succ]
        have hu := blk_next 72 #[.int .i64 sm.1.1, .int .i64 sm.1.2, .int .i64 sm.2.1, .int .i64 sm.2.2] (wd.alloc (.cells #[.int .i64 (kid : Int)] 3)) (wd.heap.size + 1) (by simp)
        replace hM := hM.alloc (Obj.cells #[.int .i64 sm.1.1, .int .i64 sm.1.2, .int .i64 sm.2.1, .int .i64 sm.2.2] 72)
        replace hI := own_alloc hI (Obj.cells #[.int .i64 sm.1.1, .int .i64 sm.1.2, .int .i64 sm.2.1, .int .i64 sm.2.2] 72)
        replace hU := own_alloc hU (Obj.cells #[.int .i64 sm.1.1, .int .i64 sm.1.2, .int .i64 sm.2.1, .int .i64 sm.2.2] 72)
        replace hO := own_alloc hO (Obj.cells #[.int .i64 sm.1.1, .int .i64 sm.1.2, .int .i64 sm.2.1, .int .i64 sm.2.2] 72)
        replace hi := hi.alloc (Obj.cells #[.int .i64 sm.1.1, .int .i64 sm.1.2, .int .i64 sm.2.1, .int .i64 sm.2.2] 72)
        refine T_ready (rs := [9]) (by kernel_rfl) (by simp) ?_
        refine AllT.cons (o := _) rfl (fun K hK => ?_) AllT.nil
        refine step_int rfl _ _ rfl B vk l rfl hI _ 1 (kid : Int) rfl (hi.c0 0 _ rfl) hkl (hBs ▸ hM.g.size) ?_
        intro v9 w9 ho9 hg9
        have hn9 := hM.own_int (hBs ▸ hI)
        refine hK.out _ _ (fun _ => hM.grown hg9 hn9.1 hn9.2.1 hn9.2.2) ?_
        clear hK K
        try simp only [List.setIfInBounds_toArray, List.set_cons_zero, List.set_cons_succ]
        replace hU := grown_own hU hg9 (own_own hI hU (by decide))
        replace hO := grown_own hO hg9 (own_own hI hO (by decide))
        replace hu := grown_blk hu hg9 (own_type hI hu (by decide))
        replace hM := hM.grown hg9 hn9.1 hn9.2.1 hn9.2.2
        obtain ⟨p9, c9, rfl⟩ := own_slice ho9
        clear hi hI hg9 hn9
        refine T_take (i := 15) (oi := _) (v := ?_) rfl (by kernel_rfl) (by kernel_rfl) (by kernel_rfl) (by kernel_rfl) (fun _ _ _ h => h) (Or.inl ⟨by kernel_rfl, ?_⟩) (by with_reducible assumption) ?_
        rotate_left
        · intro wt hSw
          go_simp
          all_goals with_reducible rfl
        try simp only [Act.put, List.setIfInBounds_toArray]
        refine T_ready (rs := [14]) (by kernel_rfl) (by simp) ?_
        refine AllT.cons (o := _) rfl (fun K hK => ?_) AllT.nil
        refine step_sum rfl _ _ rfl B vs m rfl hU _ 1 sm rfl hu hsl (hBs ▸ hM.g.size) ?_
        intro v14 w14 ho14 hg14
        have hn14 := hM.own_sum (hBs ▸ hU) hVS
        refine hK.out _ _ (fun _ => hM.grown hg14 hn14.1 hn14.2.1 hn14.2.2) ?_
        clear hK K
        try simp only [List.setIfInBounds_toArray, List.set_cons_zero, List.set_cons_succ]
        replace hO := grown_own hO hg14 (own_own hU hO (by decide))
        replace ho9 := grown_own ho9 hg14 (own_own hU ho9 (by decide))
        replace hM := hM.grown hg14 hn14.1 hn14.2.1 hn14.2.2
        obtain ⟨p14, c14, rfl⟩ := own_slice ho14
        clear hu hU hg14 hn14
        have m2 := hM.n.c0 2 _ rfl
        have m3 := hM.n.c0 3 _ rfl
        have g2 := hM.n.free 2
        have g3 := hM.n.free 3
        refine T_ready (rs := [16]) (by kernel_rfl) (by simp) ?_
        refine AllT.cons (o := _) rfl (fun K hK => ?_) AllT.nil
        go_simp
        refine hK.out _ _ (fun h => absurd h (by decide)) ?_
        clear hK K
        try simp only [List.setIfInBounds_toArray, List.set_cons_zero, List.set_cons_succ]
        refine T_ready (rs := [17]) (by kernel_rfl) (by simp) ?_
        refine AllT.cons (o := _) rfl (fun K hK => ?_) AllT.nil
        go_simp
        refine hK.out _ _ (fun h => absurd h (by decide)) ?_
        clear hK K
        try simp only [List.setIfInBounds_toArray, List.set_cons_zero, List.set_cons_succ]
        refine T_ready (rs := [18]) (by kernel_rfl) (by simp) ?_
        refine AllT.cons (o := _) rfl (fun K hK => ?_) AllT.nil
        go_simp
        refine hK.out _ _ (fun h => absurd h (by decide)) ?_
        clear hK K
        try simp only [List.setIfInBounds_toArray, List.set_cons_zero, List.set_cons_succ]
        rw [len_one] at ho9 ho14
        exact T_done (by kernel_rfl) (NoPanic.normal (HQ.out _ _ _ _ _ _ _ _ _ _ _ _ _ _ _ _ _ _ _ _ _ _ hM ho9 ho14 hO)) _
  · go_simp
    refine hK.out _ _ (fun _ => hM) ?_
    clear hK K
    try simp only [List.setIfInBounds_toArray, List.set_cons_zero, List.set_cons_succ]
    refine T_ready (rs := [8, 13]) (by kernel_rfl) (by simp) ?_
    refine AllT.cons (o := _) rfl (fun K hK => ?_) (AllT.cons (o := _) rfl (fun K hK => ?_) AllT.nil)
    · go_simp
      refine hK.out _ _ (fun _ => hM.alloc _) ?_
      clear hK K
      try simp only [List.setIfInBounds_toArray, List.set_cons_zero, List.set_cons_succ]
      have hi := hM.newBlk 3 #[.int .i64 (kid : Int)]
      replace hM := hM.alloc (Obj.cells #[.int .i64 (kid : Int)] 3)
      replace hI := own_alloc hI (Obj.cells #[.int .i64 (kid : Int)] 3)
      replace hU := own_alloc hU (Obj.cells #[.int .i64 (kid : Int)] 3)
      replace hO := own_alloc hO (Obj.cells #[.int .i64 (kid : Int)] 3)
      refine T_ready (rs := [9, 13]) (by kernel_rfl) (by simp) ?_
      refine AllT.cons (o := _) rfl (fun K hK => ?_) (AllT.cons (o := _) rfl (fun K hK => ?_) AllT.nil)
      · refine step_int rfl _ _ rfl B vk l rfl hI _ 1 (kid : Int) rfl (hi.c0 0 _ rfl) hkl (hBs ▸ hM.g.size) ?_
        intro v9 w9 ho9 hg9
        have hn9 := hM.own_int (hBs ▸ hI)
        refine hK.out _ _ (fun _ => hM.grown hg9 hn9.1 hn9.2.1 hn9.2.2) ?_
        clear hK K
        try simp only [List.setIfInBounds_toArray, List.set_cons_zero, List.set_cons_succ]
        replace hU := grown_own hU hg9 (own_own hI hU (by decide))
        replace hO := grown_own hO hg9 (own_own hI hO (by decide))
        replace hM := hM.grown hg9 hn9.1 hn9.2.1 hn9.2.2
        obtain ⟨p9, c9, rfl⟩ := own_slice ho9
        clear hi hI hg9 hn9
        refine T_take (i := 15) (oi := _) (v := ?_) rfl (by kernel_rfl) (by kernel_rfl) (by kernel_rfl) (by kernel_rfl) (fun _ _ _ h => h) (Or.inl ⟨by kernel_rfl, ?_⟩) (by with_reducible assumption) ?_
        rotate_left
        · intro wt hSw
          go_simp
          all_goals with_reducible rfl
        try simp only [Act.put, List.setIfInBounds_toArray]
        refine T_ready (rs := [13]) (by kernel_rfl) (by simp) ?_
        refine AllT.cons (o := _) rfl (fun K hK => ?_) AllT.nil
        go_simp
        refine hK.out _ _ (fun _ => hM.alloc _) ?_
        clear hK K
        try simp only [List.setIfInBounds_toArray, List.set_cons_zero, List.set_cons_succ]
        have hu := hM.newBlk 72 #[.int .i64 sm.1.1, .int .i64 sm.1.2, .int .i64 sm.2.1, .int .i64 sm.2.2]
        replace hM := hM.alloc (Obj.cells #[.int .i64 sm.1.1, .int .i64 sm.1.2, .int .i64 sm.2.1, .int .i64 sm.2.2] 72)
        replace ho9 := own_alloc ho9 (Obj.cells #[.int .i64 sm.1.1, .int .i64 sm.1.2, .int .i64 sm.2.1, .int .i64 sm.2.2] 72)
        replace hU := own_alloc hU (Obj.cells #[.int .i64 sm.1.1, .int .i64 sm.1.2, .int .i64 sm.2.1, .int .i64 sm.2.2] 72)
        replace hO := own_alloc hO (Obj.cells #[.int .i64 sm.1.1, .int .i64 sm.1.2, .int .i64 sm.2.1, .int .i64 sm.2.2] 72)
        refine T_ready (rs := [14]) (by kernel_rfl) (by simp) ?_
        refine AllT.cons (o := _) rfl (fun K hK => ?_) AllT.nil
        refine step_sum rfl _ _ rfl B vs m rfl hU _ 1 sm rfl hu hsl (hBs ▸ hM.g.size) ?_
        intro v14 w14 ho14 hg14
        have hn14 := hM.own_sum (hBs ▸ hU) hVS
        refine hK.out _ _ (fun _ => hM.grown hg14 hn14.1 hn14.2.1 hn14.2.2) ?_
        clear hK K
        try simp only [List.setIfInBounds_toArray, List.set_cons_zero, List.set_cons_succ]
        replace hO := grown_own hO hg14 (own_own hU hO (by decide))
        replace ho9 := grown_own ho9 hg14 (own_own hU ho9 (by decide))
        replace hM := hM.grown hg14 hn14.1 hn14.2.1 hn14.2.2
        obtain ⟨p14, c14, rfl⟩ := own_slice ho14
        clear hu hU hg14 hn14
        have m2 := hM.n.c0 2 _ rfl
        have m3 := hM.n.c0 3 _ rfl
        have g2 := hM.n.free 2
        have g3 := hM.n.free 3
        refine T_ready (rs := [16]) (by kernel_rfl) (by simp) ?_
        refine AllT.cons (o := _) rfl (fun K hK => ?_) AllT.nil
        go_simp
        refine hK.out _ _ (fun h => absurd h (by decide)) ?_
        clear hK K
        try simp only [List.setIfInBounds_toArray, List.set_cons_zero, List.set_cons_succ]
        refine T_ready (rs := [17]) (by kernel_rfl) (by simp) ?_
        refine AllT.cons (o := _) rfl (fun K hK => ?_) AllT.nil
        go_simp
        refine hK.out _ _ (fun h => absurd h (by decide)) ?_
        clear hK K
        try simp only [List.setIfInBounds_toArray, List.set_cons_zero, List.set_cons_succ]
        refine T_ready (rs := [18]) (by kernel_rfl) (by simp) ?_
        refine AllT.cons (o := _) rfl (fun K hK => ?_) AllT.nil
        go_simp
        refine hK.out _ _ (fun h => absurd h (by decide)) ?_
        clear hK K
        try simp only [List.setIfInBounds_toArray, List.set_cons_zero, List.set_cons_succ]
        rw [len_one] at ho9 ho14
        exact T_done (by kernel_rfl) (NoPanic.normal (HQ.out _ _ _ _ _ _ _ _ _ _ _ _ _ _ _ _ _ _ _ _ _ _ hM ho9 ho14 hO)) _
      · go_simp
        refine hK.out _ _ (fun _ => hM.alloc _) ?_
        clear hK K
        try simp only [List.setIfInBounds_toArray, List.set_cons_zero, List.set_cons_succ]
        have hu := blk_next 72 #[.int .i64 sm.1.1, .int .i64 sm.1.2, .int .i64 sm.2.1, .int .i64 sm.2.2] (wd.alloc (.cells #[.int .i64 (kid : Int)] 3)) (wd.heap.size + 1) (by simp)
        replace hM := hM.alloc (Obj.cells #[.int .i64 sm.1.1, .int .i64 sm.1.2, .int .i64 sm.2.1, .int .i64 sm.2.2] 72)
        replace hI := own_alloc hI (Obj.cells #[.int .i64 sm.1.1, .int .i64 sm.1.2, .int .i64 sm.2.1, .int .i64 sm.2.2] 72)
        replace hU := own_alloc hU (Obj.cells #[.int .i64 sm.1.1, .int .i64 sm.1.2, .int .i64 sm.2.1, .int .i64 sm.2.2] 72)
        replace hO := own_alloc hO (Obj.cells #[.int .i64 sm.1.1, .int .i64 sm.1.2, .int .i64 sm.2.1, .int .i64 sm.2.2] 72)
        replace hi := hi.alloc (Obj.cells #[.int .i64 sm.1.1, .int .i64 sm.1.2, .int .i64 sm.2.1, .int .i64 sm.2.2] 72)
        refine T_ready (rs := [9]) (by kernel_rfl) (by simp) ?_
        refine AllT.cons (o := _) rfl (fun K hK => ?_) AllT.nil
        refine step_int rfl _ _ rfl B vk l rfl hI _ 1 (kid : Int) rfl (hi.c0 0 _ rfl) hkl (hBs ▸ hM.g.size) ?_
        intro v9 w9 ho9 hg9
        have hn9 := hM.own_int (hBs ▸ hI)
        refine hK.out _ _ (fun _ => hM.grown hg9 hn9.1 hn9.2.1 hn9.2.2) ?_
        clear hK K
        try simp only [List.setIfInBounds_toArray, List.set_cons_zero, List.set_cons_succ]
        replace hU := grown_own hU hg9 (own_own hI hU (by decide))
        replace hO := grown_own hO hg9 (own_own hI hO (by decide))
        replace hu := grown_blk hu hg9 (own_type hI hu (by decide))
        replace hM := hM.grown hg9 hn9.1 hn9.2.1 hn9.2.2
        obtain ⟨p9, c9, rfl⟩ := own_slice ho9
        clear hi hI hg9 hn9
        refine T_take (i := 15) (oi := _) (v := ?_) rfl (by kernel_rfl) (by kernel_rfl) (by kernel_rfl) (by kernel_rfl) (fun _ _ _ h => h) (Or.inl ⟨by kernel_rfl, ?_⟩) (by with_reducible assumption) ?_
        rotate_left
        · intro wt hSw
          go_simp
          all_goals with_reducible rfl
        try simp only [Act.put, List.setIfInBounds_toArray]
        refine T_ready (rs := [14]) (by kernel_rfl) (by simp) ?_
        refine AllT.cons (o := _) rfl (fun K hK => ?_) AllT.nil
        refine step_sum rfl _ _ rfl B vs m rfl hU _ 1 sm rfl hu hsl (hBs ▸ hM.g.size) ?_
        intro v14 w14 ho14 hg14
        have hn14 := hM.own_sum (hBs ▸ hU) hVS
        refine hK.out _ _ (fun _ => hM.grown hg14 hn14.1 hn14.2.1 hn14.2.2) ?_
        clear hK K
        try simp only [List.setIfInBounds_toArray, List.set_cons_zero, List.set_cons_succ]
        replace hO := grown_own hO hg14 (own_own hU hO (by decide))
        replace ho9 := grown_own ho9 hg14 (own_own hU ho9 (by decide))
        replace hM := hM.grown hg14 hn14.1 hn14.2.1 hn14.2.2
        obtain ⟨p14, c14, rfl⟩ := own_slice ho14
        clear hu hU hg14 hn14
        have m2 := hM.n.c0 2 _ rfl
        have m3 := hM.n.c0 3 _ rfl
        have g2 := hM.n.free 2
        have g3 := hM.n.free 3
        refine T_ready (rs := [16]) (by kernel_rfl) (by simp) ?_
        refine AllT.cons (o := _) rfl (fun K hK => ?_) AllT.nil
        go_simp
        refine hK.out _ _ (fun h => absurd h (by decide)) ?_
        clear hK K
        try simp only [List.setIfInBounds_toArray, List.set_cons_zero, List.set_cons_succ]
        refine T_ready (rs := [17]) (by kernel_rfl) (by simp) ?_
        refine AllT.cons (o := _) rfl (fun K hK => ?_) AllT.nil
        go_simp
        refine hK.out _ _ (fun h => absurd h (by decide)) ?_
        clear hK K
        try simp only [List.setIfInBounds_toArray, List.set_cons_zero, List.set_cons_succ]
        refine T_ready (rs := [18]) (by kernel_rfl) (by simp) ?_
        refine AllT.cons (o := _) rfl (fun K hK => ?_) AllT.nil
        go_simp
        refine hK.out _ _ (fun h => absurd h (by decide)) ?_
        clear hK K
        try simp only [List.setIfInBounds_toArray, List.set_cons_zero, List.set_cons_succ]
        rw [len_one] at ho9 ho14
        exact T_done (by kernel_rfl) (NoPanic.normal (HQ.out _ _ _ _ _ _ _ _ _ _ _ _ _ _ _ _ _ _ _ _ _ _ hM ho9 ho14 hO)) _
    · go_simp
      refine hK.out _ _ (fun _ => hM.alloc _) ?_
      clear hK K
      try simp only [List.setIfInBounds_toArray, List.set_cons_zero, List.set_cons_succ]
      have hu := hM.newBlk 72 #[.int .i64 sm.1.1, .int .i64 sm.1.2, .int .i64 sm.2.1, .int .i64 sm.2.2]
      replace hM := hM.alloc (Obj.cells #[.int .i64 sm.1.1, .int .i64 sm.1.2, .int .i64 sm.2.1, .int .i64 sm.2.2] 72)
      replace hI := own_alloc hI (Obj.cells #[.int .i64 sm.1.1, .int .i64 sm.1.2, .int .i64 sm.2.1, .int .i64 sm.2.2] 72)
      replace hU := own_alloc hU (Obj.cells #[.int .i64 sm.1.1, .int .i64 sm.1.2, .int .i64 sm.2.1, .int .i64 sm.2.2] 72)
      replace hO := own_alloc hO (Obj.cells #[.int .i64 sm.1.1, .int .i64 sm.1.2, .int .i64 sm.2.1, .int .i64 sm.2.2] 72)
      refine T_ready (rs := [8]) (by kernel_rfl) (by simp) ?_
      refine AllT.cons (o := _) rfl (fun K hK => ?_) AllT.nil
      go_simp
      refine hK.out _ _ (fun _ => hM.alloc _) ?_
      clear hK K
      try simp only [List.setIfInBounds_toArray, List.set_cons_zero, List.set_cons_succ]
      have hi := blk_next 3 #[.int .i64 (kid : Int)] (wd.alloc (.cells #[.int .i64 sm.1.1, .int .i64 sm.1.2, .int .i64 sm.2.1, .int .i64 sm.2.2] 72)) (wd.heap.size + 1) (by simp)
      replace hM := hM.alloc (Obj.cells #[.int .i64 (kid : Int)] 3)
      replace hI := own_alloc hI (Obj.cells #[.int .i64 (kid : Int)] 3)
      replace hU := own_alloc hU (Obj.cells #[.int .i64 (kid : Int)] 3)
      replace hO := own_alloc hO (Obj.cells #[.int .i64 (kid : Int)] 3)
      replace hu := hu.alloc (Obj.cells #[.int .i64 (kid : Int)] 3)
      refine T_ready (rs := [9]) (by kernel_rfl) (by simp) ?_
      refine AllT.cons (o := _) rfl (fun K hK => ?_) AllT.nil
      refine step_int rfl _ _ rfl B vk l rfl hI _ 1 (kid : Int) rfl (hi.c0 0 _ rfl) hkl (hBs ▸ hM.g.size) ?_
      intro v9 w9 ho9 hg9
      have hn9 := hM.own_int (hBs ▸ hI)
      refine hK.out _ _ (fun _ => hM.grown hg9 hn9.1 hn9.2.1 hn9.2.2) ?_
      clear hK K
      try simp only [List.setIfInBounds_toArray, List.set_cons_zero, List.set_cons_succ]
      replace hU := grown_own hU hg9 (own_own hI hU (by decide))
      replace hO := grown_own hO hg9 (own_own hI hO (by decide))
      replace hu := grown_blk hu hg9 (own_type hI hu (by decide))
      replace hM := hM.grown hg9 hn9.1 hn9.2.1 hn9.2.2
      obtain ⟨p9, c9, rfl⟩ := own_slice ho9
      clear hi hI hg9 hn9
      refine T_take (i := 15) (oi := _) (v := ?_) rfl (by kernel_rfl) (by kernel_rfl) (by kernel_rfl) (by kernel_rfl) (fun _ _ _ h => h) (Or.inl ⟨by kernel_rfl, ?_⟩) (by with_reducible assumption) ?_
      rotate_left
      · intro wt hSw
        go_simp
        all_goals with_reducible rfl
      try simp only [Act.put, List.setIfInBounds_toArray]
      refine T_ready (rs := [14]) (by kernel_rfl) (by simp) ?_
      refine AllT.cons (o := _) rfl (fun K hK => ?_) AllT.nil
      refine step_sum rfl _ _ rfl B vs m rfl hU _ 1 sm rfl hu hsl (hBs ▸ hM.g.size) ?_
      intro v14 w14 ho14 hg14
      have hn14 := hM.own_sum (hBs ▸ hU) hVS
      refine hK.out _ _ (fun _ => hM.grown hg14 hn14.1 hn14.2.1 hn14.2.2) ?_
      clear hK K
      try simp only [List.setIfInBounds_toArray, List.set_cons_zero, List.set_cons_succ]
      replace hO := grown_own hO hg14 (own_own hU hO (by decide))
      replace ho9 := grown_own ho9 hg14 (own_own hU ho9 (by decide))
      replace hM := hM.grown hg14 hn14.1 hn14.2.1 hn14.2.2
      obtain ⟨p14, c14, rfl⟩ := own_slice ho14
      clear hu hU hg14 hn14
      have m2 := hM.n.c0 2 _ rfl
      have m3 := hM.n.c0 3 _ rfl
      have g2 := hM.n.free 2
      have g3 := hM.n.free 3
      refine T_ready (rs := [16]) (by kernel_rfl) (by simp) ?_
      refine AllT.cons (o := _) rfl (fun K hK => ?_) AllT.nil
      go_simp
      refine hK.out _ _ (fun h => absurd h (by decide)) ?_
      clear hK K
      try simp only [List.setIfInBounds_toArray, List.set_cons_zero, List.set_cons_succ]
      refine T_ready (rs := [17]) (by kernel_rfl) (by simp) ?_
      refine AllT.cons (o := _) rfl (fun K hK => ?_) AllT.nil
      go_simp
      refine hK.out _ _ (fun h => absurd h (by decide)) ?_
      clear hK K
      try simp only [List.setIfInBounds_toArray, List.set_cons_zero, List.set_cons_succ]
      refine T_ready (rs := [18]) (by kernel_rfl) (by simp) ?_
      refine AllT.cons (o := _) rfl (fun K hK => ?_) AllT.nil
      go_simp
      refine hK.out _ _ (fun h => absurd h (by decide)) ?_
      clear hK K
      try simp only [List.setIfInBounds_toArray, List.set_cons_zero, List.set_cons_succ]
      rw [len_one] at ho9 ho14
      exact T_done (by kernel_rfl) (NoPanic.normal (HQ.out _ _ _ _ _ _ _ _ _ _ _ _ _ _ _ _ _ _ _ _ _ _ hM ho9 ho14 hO)) _

end Go.Proofs.Ythpajecigkfajaa
namespace Go.Proofs.Ythpajecigkfajaa
open Go.RowKit Go.Sort
set_option linter.unusedVariables false

theorem box_kept {W y : World} {cs0 : Array Value} {T0 : TypeId} (h : ∀ (b : Nat) (T : TypeId) (cs : Array Value), Blk (W.alloc (.cells cs0 T0)).drew b T cs → Blk y b T cs) : Blk y W.heap.size T0 cs0 := h _ _ _ (show Blk (W.alloc (.cells cs0 T0)).drew _ _ _ from Blk.new W T0 cs0)
theorem blk_here (T : TypeId) (cs : Array Value) (w : World) : Blk (w.alloc (.cells cs T)) w.heap.size T cs := Blk.new _ _ _
noncomputable def regM9 : Code := ((Try.f12.body.bind (codeReg 9)).getD .skip)
set_option maxRecDepth 100000 in
set_option maxHeartbeats 8000000 in
theorem regM9_w (w5 : World) (X n2 c2 n5 c5 np c6 K M L : Nat) (p2 p5 p6 : Option Addr) (lm : List Ms)
    (hy1 : ∀ wx, Below w5.heap.size w5 wx → wx.cell? ⟨X, 1, none⟩ = some (.slice p2 n2 c2)) (hy4 : ∀ wx, Below w5.heap.size w5 wx → wx.cell? ⟨X, 4, none⟩ = some (.slice p5 n5 c5))
    (hm1 : min ((n2 : Nat) : Int) 10 = (K : Int)) (hm2 : wrap64 ((K : Int) - 1) = (M : Int)) (hm7 : IntKind.i64.wrap ((K : Int) - 1) = (M : Int)) (hm3 : min ((np : Nat) : Int) (M : Int) = (L : Int)) (hm4 : (0 : Int) ≤ (L : Int)) (hm5 : (L : Int) ≤ (np : Int)) (hm6 : (L : Int) ≤ (c6 : Int))
    (hL : ∀ wx, Below w5.heap.size w5 wx → Calls Try.prog 23 #[.slice p5 n5 c5, .int .i64 12] wx fun e w' => ∃ a c, e = .returned (.slice a lm.length c) ∧ OwnM w' w5.heap.size (.slice a lm.length c) lm ∧ Below w5.heap.size w5 w' ∧ (∀ b T cs, Blk wx b T cs → Blk w' b T cs))
    (s0 s2 s4 s5 s6 s7 s8 s9 s10 s11 s12 s13 s14 s15 s16 s17 s18 s19 s20 s21 s22 s23 s24 s25 s26 s27 s28 s29 s30 s31 s32 s33 s34 s35 s36 s37 s38 s39 s40 s41 s42 s43 s44 s45 s46 s47 s48 s49 s50 s51 s52 s53 s54 s55 s56 s57 s58 s59 s60 s61 s62 s63 s64 s65 s66 s67 s68 s69 s70 s71 s72 s73 s74 s75 s76 s77 s78 s79 s80 s81 s82 s83 s84 s85 s86 s87 s88 s89 s90 s91 s92 s93 s94 s95 s96 s97 s98 s99 s100 s101 s102 s103 s104 s105 s106 s107 s108 : Value) (Q : Exit → Act → World → Prop)
    (hQ : ∀ (t36 t37 t38 t39 t40 t41 t42 t43 t44 t45 t46 t47 t48 t49 : Value) (a : Option Addr) (c b : Nat) (wx : World), w5.heap.size ≤ b → Blk wx b 43 #[.slice none 0 0, .slice p6 L c6, .slice none 0 0, .slice none 0 0, .slice a lm.length c] → OwnM wx w5.heap.size (.slice a lm.length c) lm → Below w5.heap.size w5 wx →
      Q .normal ⟨#[s0, .pointer (some ⟨X, 0, none⟩), s2, .slice p6 np c6, s4, .pointer (some ⟨b, 0, none⟩), s6, s7, s8, s9, s10, s11, s12, s13, s14, s15, s16, s17, s18, s19, s20, s21, s22, s23, s24, s25, s26, s27, s28, s29, s30, s31, s32, s33, s34, s35, t36, t37, t38, t39, t40, t41, t42, t43, t44, t45, t46, t47, t48, t49, s50, s51, s52, s53, s54, s55, s56, s57, s58, s59, s60, s61, s62, s63, s64, s65, s66, s67, s68, s69, s70, s71, s72, s73, s74, s75, s76, s77, s78, s79, s80, s81, s82, s83, s84, s85, s86, s87, s88, s89, s90, s91, s92, s93, s94, s95, s96, s97, s98, s99, s100, s101, s102, s103, s104, s105, s106, s107, s108], []⟩ wx) :
    regM9.wp Try.prog Q ⟨#[s0, .pointer (some ⟨X, 0, none⟩), s2, .slice p6 np c6, s4, s5, s6, s7, s8, s9, s10, s11, s12, s13, s14, s15, s16, s17, s18, s19, s20, s21, s22, s23, s24, s25, s26, s27, s28, s29, s30, s31, s32, s33, s34, s35, s36, s37, s38, s39, s40, s41, s42, s43, s44, s45, s46, s47, s48, s49, s50, s51, s52, s53, s54, s55, s56, s57, s58, s59, s60, s61, s62, s63, s64, s65, s66, s67, s68, s69, s70, s71, s72, s73, s74, s75, s76, s77, s78, s79, s80, s81, s82, s83, s84, s85, s86, s87, s88, s89, s90, s91, s92, s93, s94, s95, s96, s97, s98, s99, s100, s101, s102, s103, s104, s105, s106, s107, s108], []⟩ w5 := by
  have mixed := mixedA
  conv => arg 2; whnf
  have HQ := Lib.hid hQ
  have HL := Lib.hid hL
  have HL0 : Hid (Below w5.heap.size w5 w5) := Lib.hid (Below.refl _ _)
  clear hQ hL
  generalize hlm : lm.length = nm at *
  have HLM := Lib.hid hlm
  clear hlm
  go_region_held3 (fun wx => Below w5.heap.size w5 wx)
    (repeat (first | with_reducible assumption | with_reducible exact HL0.out | with_reducible refine Below.drew ?_ | with_reducible refine keepAQ ?_ _ | with_reducible refine Below.setCell ?_ (by first | exact Nat.le_refl _ | exact Below.size (by with_reducible assumption)) _))
    (first
      | (go_at_call 23; (refine (HL.out _ (by repeat (first | with_reducible assumption | with_reducible exact HL0.out | with_reducible refine Below.drew ?_ | with_reducible refine keepAQ ?_ _))).mono ?_); rintro e y2 ⟨a2, k2, rfl, ho2, hS2, hB2⟩; first | (have hb2 := box_kept hB2; obtain ⟨q0, q1, q2, q3, q4, f0, f1, f2, f3, f4⟩ := five_ok hb2) | skip)
      | fail "no arm")
  all_goals first
    | exact HQ.out _ _ _ _ _ _ _ _ _ _ _ _ _ _ _ _ _ _ hS2.size (blk_here _ _ _) (own_alloc ho2 _) (keepAQ hS2 _)
    | exact HQ.out _ _ _ _ _ _ _ _ _ _ _ _ _ _ _ _ _ _ (Nat.le_refl _) (blk_st5 hb2) (own_st5 ho2 hb2 (by decide)) (below_st5 hS2 (Nat.le_refl _))

end Go.Proofs.Ythpajecigkfajaa
