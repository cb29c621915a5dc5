/-
  Walks: what reference 10's Made works on, in memory.
-/
import Derived.Test.YtmbfghbhajmpiaaGreatYDC
import Derived.Lib.MinMax
namespace Go.Proofs.YtmbfghbhajmpiaaGreat
open Go.RowKit Go.Sort
set_option linter.unusedVariables false

/-- A slice of four bytes each. -/
def IsQ4s (w : World) (v : Value) (l : List Q4) : Prop :=
  ∃ a cap, v = .slice a l.length cap ∧ l.length ≤ cap ∧ cap ≤ maxLen ∧ (∀ q ∈ l, q.1 < 256 ∧ q.2.1 < 256 ∧ q.2.2.1 < 256 ∧ q.2.2.2 < 256) ∧ (l ≠ [] → ∃ b off, a = some ⟨b, off, none⟩ ∧ b < w.heap.size ∧
    ∀ i (h : i < l.length), w.cell? ⟨b, off + i * 4, none⟩ = some (.int .u8 l[i].1) ∧ w.cell? ⟨b, off + i * 4 + 1, none⟩ = some (.int .u8 l[i].2.1) ∧ w.cell? ⟨b, off + i * 4 + 2, none⟩ = some (.int .u8 l[i].2.2.1) ∧ w.cell? ⟨b, off + i * 4 + 3, none⟩ = some (.int .u8 l[i].2.2.2))
theorem IsQ4s.below {w w' : World} {v : Value} {l : List Q4} (h : IsQ4s w v l) (hb : Below w.heap.size w w') : IsQ4s w' v l := by
  obtain ⟨a, cap, h1, h2, h3, h5, h4⟩ := h
  refine ⟨a, cap, h1, h2, h3, h5, fun hl => ?_⟩
  obtain ⟨b, off, e, hlt, hc⟩ := h4 hl
  exact ⟨b, off, e, Nat.lt_of_lt_of_le hlt hb.size, fun i hi => ⟨by rw [hb.cell (by exact hlt)]; exact (hc i hi).1, by rw [hb.cell (by exact hlt)]; exact (hc i hi).2.1, by rw [hb.cell (by exact hlt)]; exact (hc i hi).2.2.1, by rw [hb.cell (by exact hlt)]; exact (hc i hi).2.2.2⟩⟩
theorem IsQ4s.form {w : World} {v : Value} {l : List Q4} (h : IsQ4s w v l) : ∃ b off cap a, v = .slice a l.length cap ∧ l.length ≤ cap ∧ cap ≤ maxLen ∧ (l ≠ [] → a = some ⟨b, off, none⟩ ∧ b < w.heap.size) ∧
    ∀ i (h : i < l.length), a = some ⟨b, off, none⟩ ∧ w.cell? ⟨b, off + i * 4, none⟩ = some (.int .u8 l[i].1) ∧ w.cell? ⟨b, off + i * 4 + 1, none⟩ = some (.int .u8 l[i].2.1) ∧ w.cell? ⟨b, off + i * 4 + 2, none⟩ = some (.int .u8 l[i].2.2.1) ∧ w.cell? ⟨b, off + i * 4 + 3, none⟩ = some (.int .u8 l[i].2.2.2) := by
  obtain ⟨a, cap, h1, h2, h3, h5, h4⟩ := h
  by_cases hl : l = []
  · subst hl; exact ⟨0, 0, cap, a, h1, h2, h3, fun h => absurd rfl h, fun i hi => absurd hi (by simp)⟩
  · obtain ⟨b, off, e, hlt, hc⟩ := h4 hl
    exact ⟨b, off, cap, a, h1, h2, h3, fun _ => ⟨e, hlt⟩, fun i hi => ⟨e, hc i hi⟩⟩
/-- What describes a node, in memory. -/
def IsRq (w : World) (v : Value) (x : Rq) : Prop := ∃ a b c d e, v = .agg #[a, b, c, d, e] ∧ T4.IsRaws w a x.pairs ∧ IsBytes w b x.kids ∧ IsBytes w c x.pivs ∧ IsQ4s w d x.sums ∧ IsR6s w e x.buf ∧ x.pivs.length ≤ 1048576
theorem IsRq.below {w w' : World} {v : Value} {x : Rq} (h : IsRq w v x) (hb : Below w.heap.size w w') : IsRq w' v x := by
  obtain ⟨a, b, c, d, e, rfl, h1, h2, h3, h4, h5, h6⟩ := h
  exact ⟨a, b, c, d, e, rfl, h1.below hb, h2.below hb, h3.below hb, h4.below hb, h5.below hb, h6⟩
theorem IsRq.small {w : World} {v : Value} {x : Rq} (h : IsRq w v x) : SmallQ x := by
  obtain ⟨a, b, c, d, e, rfl, h1, h2, h3, ⟨_, _, _, _, _, h4, _⟩, h5, h6⟩ := h
  exact h4

/-- A node as Made gives it: its bounds and messages lie in rows of their own. -/
def OwnMade (w : World) (B : Nat) (v : Value) (n : Nd) : Prop := ∃ a b c d e, v = .agg #[a, b, c, d, e] ∧ IsNode w (.agg #[a, b, c, d, e]) n ∧ w.ownsRow B 52 4 d n.sums.length (n.sums.flatMap encSm) ∧ OwnM w B e n.buf
theorem made_nil (w : World) (B : Nat) {a b c : Value} {n : Nd} (hs : n.sums = []) (hm : n.buf = []) (h : IsNode w (.agg #[a, b, c, .slice none 0 0, .slice none 0 0]) n) : OwnMade w B (.agg #[a, b, c, .slice none 0 0, .slice none 0 0]) n :=
  ⟨a, b, c, _, _, rfl, h, by rw [hs]; exact World.ownsRow_nil _ _ _ _, by rw [hm]; exact World.ownsRow_nil _ _ _ _⟩
theorem keepAQ {W wx : World} (h : Below W.heap.size W wx) (o : Obj) : Below W.heap.size W (wx.alloc o) := h.alloc h.size o
theorem blk_st5 {w : World} {b : Nat} {T : TypeId} {x0 x1 x2 x3 x4 y0 y1 y2 y3 y4 : Value} (h : Blk w b T #[x0, x1, x2, x3, x4]) : Blk (st5 w b y0 y1 y2 y3 y4) b T #[y0, y1, y2, y3, y4] :=
  ((((h.setCell 0 y0).setCell 1 y1).setCell 2 y2).setCell 3 y3).setCell 4 y4
def kidsQ (x : Rq) (k : Nat) : List Int := (x.kids.take k).map fun c => ((c.toNat : Nat) : Int)
def sumsQ (x : Rq) (k : Nat) : List Sm := (List.range k).map (sumAt x.sums)
theorem wraps_q (q : Q4) (h : q.1 < 256 ∧ q.2.1 < 256 ∧ q.2.2.1 < 256 ∧ q.2.2.2 < 256) : wrap64 (q.1 : Int) = (q.1 : Int) ∧ wrap64 (q.2.1 : Int) = (q.2.1 : Int) ∧ wrap64 (q.2.2.1 : Int) = (q.2.2.1 : Int) ∧ wrap64 (q.2.2.2 : Int) = (q.2.2.2 : Int) ∧ wrap64 ((q.1 : Int) + (q.2.1 : Int)) = (q.1 : Int) + (q.2.1 : Int) ∧ wrap64 ((q.2.2.1 : Int) + (q.2.2.2 : Int)) = (q.2.2.1 : Int) + (q.2.2.2 : Int) := by
  obtain ⟨h1, h2, h3, h4⟩ := h
  unfold wrap64
  refine ⟨?_, ?_, ?_, ?_, ?_, ?_⟩ <;> omega
theorem own_slice {w : World} {B size n : Nat} {T : TypeId} {v : Value} {xs : List Value} (h : w.ownsRow B T size v n xs) : ∃ p c, v = .slice p n c := by
  rcases h.2 with ⟨rfl, h0⟩ | ⟨g, cap, cur, rfl, _⟩
  · exact ⟨none, 0, by rw [h0]⟩
  · exact ⟨_, _, rfl⟩
theorem strs_take {w : World} {p : Option Addr} {n c : Nat} {l : List Bs} (h : IsStrs w (.slice p n c) l) (k : Nat) (hk : k ≤ l.length) : IsStrs w (.slice p k c) (l.take k) := by
  obtain ⟨p', c', e, h1, h2, h3⟩ := h
  injection e with e1 e2 e3
  subst e1 e3
  refine ⟨p, c, by rw [List.length_take, Nat.min_eq_left hk], by rw [List.length_take]; omega, h2, fun hne => ?_⟩
  obtain ⟨b, off, e, hlt, hc⟩ := h3 (by rintro rfl; simp at hne)
  refine ⟨b, off, e, hlt, fun i hi => ?_⟩
  rw [List.length_take] at hi
  rw [List.getElem_take]
  exact hc i (by omega)
theorem st5_heap (w : World) (b k : Nat) (y0 y1 y2 y3 y4 : Value) (h : k ≠ b) : (st5 w b y0 y1 y2 y3 y4).heap[k]? = w.heap[k]? := by
  unfold st5
  rw [Below.heap_setCell _ _ _ _ h, Below.heap_setCell _ _ _ _ h, Below.heap_setCell _ _ _ _ h, Below.heap_setCell _ _ _ _ h, Below.heap_setCell _ _ _ _ h]
theorem st5_size (w : World) (b : Nat) (y0 y1 y2 y3 y4 : Value) : (st5 w b y0 y1 y2 y3 y4).heap.size = w.heap.size := by
  unfold st5; simp
theorem strs_st5 {w : World} {b : Nat} {T : TypeId} {v : Value} {l : List Bs} {y0 y1 y2 y3 y4 : Value} {p0 p1 p2 p3 p4 : Option Addr} {n0 n1 n2 n3 n4 c0 c1 c2 c3 c4 : Nat} (h : IsStrs w v l) (hc : Blk w b T #[.slice p0 n0 c0, .slice p1 n1 c1, .slice p2 n2 c2, .slice p3 n3 c3, .slice p4 n4 c4]) : IsStrs (st5 w b y0 y1 y2 y3 y4) v l := by
  obtain ⟨p', c', e, h1, h2, h3⟩ := h
  refine ⟨p', c', e, h1, h2, fun hne => ?_⟩
  obtain ⟨g, off, e, hlt, hcc⟩ := h3 hne
  have hgb : g ≠ b := by
    rintro rfl
    have h0 := hcc 0 (List.length_pos_iff.2 hne)
    rw [hc.cell, Nat.add_zero] at h0
    match off, h0 with
    | 0, h0 => simp at h0
    | 1, h0 => simp at h0
    | 2, h0 => simp at h0
    | 3, h0 => simp at h0
    | 4, h0 => simp at h0
    | k + 5, h0 => simp at h0
  have hz := st5_size w b y0 y1 y2 y3 y4
  have hk := st5_heap w b g y0 y1 y2 y3 y4 hgb
  generalize st5 w b y0 y1 y2 y3 y4 = W at *
  exact ⟨g, off, e, by rw [hz]; exact hlt, fun i hi => Eq.trans (World.cell?_of_block hk) (hcc i hi)⟩
/-- While the last two lists of a node grow: the node's box, the bounds' box, what lies below. -/
structure Mid (w5 : World) (b sb : Nat) (cs : Array Value) (sm : Sm) (wx : World) : Prop where
  n : Blk wx b 34 cs
  s : Blk wx sb 52 #[.int .i64 sm.1.1, .int .i64 sm.1.2, .int .i64 sm.2.1, .int .i64 sm.2.2]
  g : Below w5.heap.size w5 wx
section
variable {w5 wx wy : World} {b sb : Nat} {cs : Array Value} {sm : Sm}
theorem Mid.alloc (h : Mid w5 b sb cs sm wx) (o : Obj) : Mid w5 b sb cs sm (wx.alloc o) := ⟨h.n.alloc o, h.s.alloc o, keepAQ h.g o⟩
theorem Mid.drew (h : Mid w5 b sb cs sm wx) : Mid w5 b sb cs sm wx.drew := ⟨h.n, h.s, h.g.drew⟩
theorem Mid.newBlk (h : Mid w5 b sb cs sm wx) (T : TypeId) (ds : Array Value) : Blk (wx.alloc (.cells ds T)) wx.heap.size T ds := Blk.new _ _ _
theorem Mid.grown {row : Option Nat} (h : Mid w5 b sb cs sm wx) (hg : wx.grownBy wy row) (h1 : row ≠ some b) (h2 : row ≠ some sb) (h3 : ∀ j, row = some j → w5.heap.size ≤ j) : Mid w5 b sb cs sm wy :=
  ⟨grown_blk h.n hg h1, grown_blk h.s hg h2, Below.grown h.g hg h.g.size h3⟩
theorem Mid.own_int {v : Value} {n : Nat} {xs : List Value} (h : Mid w5 b sb cs sm wx) (ho : wx.ownsRow w5.heap.size 3 1 v n xs) : v.ownBlock ≠ some b ∧ v.ownBlock ≠ some sb ∧ ∀ j, v.ownBlock = some j → w5.heap.size ≤ j :=
  ⟨own_type ho h.n (by decide), own_type ho h.s (by decide), fun j hj => (ho.lt j hj).1⟩
theorem Mid.own_sum {v : Value} {n : Nat} {xs : List Value} (h : Mid w5 b sb cs sm wx) (ho : wx.ownsRow w5.heap.size 52 4 v n xs) (hlt : ∀ j, v.ownBlock = some j → j < sb) : v.ownBlock ≠ some b ∧ v.ownBlock ≠ some sb ∧ ∀ j, v.ownBlock = some j → w5.heap.size ≤ j :=
  ⟨own_type ho h.n (by decide), fun e => Nat.lt_irrefl _ (hlt sb e), fun j hj => (ho.lt j hj).1⟩
end
theorem own_drew {w : World} {base size m : Nat} {e : TypeId} {v : Value} {xs : List Value} (h : w.ownsRow base e size v m xs) : w.drew.ownsRow base e size v m xs := h
theorem pairs_form {w : World} {v : Value} {l : List Pr} (h : IsPairs w v l) : ∃ a c, v = .slice a l.length c := by
  obtain ⟨a, c, h1, _⟩ := h
  exact ⟨a, c, h1⟩
/-- One region of a text, by its number. -/
def codeReg (n : Nat) : Code → Option Code
  | .region id ops d => if id = n then some (.region id ops d) else none
  | .seq a b => match codeReg n a with
    | some c => some c
    | none => codeReg n b
  | .block _ c => codeReg n c
  | .loop c => codeReg n c
  | .scope c => codeReg n c
  | .cond _ a b => match codeReg n a with
    | some c => some c
    | none => codeReg n b
  | _ => none

end Go.Proofs.YtmbfghbhajmpiaaGreat
