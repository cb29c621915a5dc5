/-
  Walks: the fixed examples of package node.
-/
import Derived.Test.YtmbfghbhajmpiaaGreatYAB
import Derived.Test.YtmbfghbhajmpiaaGreatY9
namespace Go.Proofs.YtmbfghbhajmpiaaGreat
open Go.RowKit Go.Sort
set_option linter.unusedVariables false

theorem ints_of {w : World} {b : Nat} {T : TypeId} {l : List Int} (h : Blk w b T (l.map fun x => Value.int .i64 x).toArray) (hl : l.length ≤ 1000) : IsInts w (.slice (some ⟨b, 0, none⟩) l.length l.length) l :=
  ⟨_, _, rfl, Nat.le_refl _, by unfold maxLen; omega, fun _ => ⟨b, 0, rfl, h.lt, fun i hi => by rw [Nat.zero_add, h.cell]; simp [hi]⟩⟩
theorem strs_of {w : World} {b : Nat} {T : TypeId} {l : List Bs} (h : Blk w b T (l.map fun x => Value.string (Str x)).toArray) (hl : l.length ≤ 1000) : IsStrs w (.slice (some ⟨b, 0, none⟩) l.length l.length) l :=
  ⟨_, _, rfl, Nat.le_refl _, by unfold maxLen; omega, fun _ => ⟨b, 0, rfl, h.lt, fun i hi => by rw [Nat.zero_add, h.cell]; simp [hi]⟩⟩
theorem sums_of {w : World} {b : Nat} {T : TypeId} {l : List Sm} (h : Blk w b T (l.flatMap encSm).toArray) (hl : l.length ≤ 1000) : IsSums w (.slice (some ⟨b, 0, none⟩) l.length l.length) l :=
  ⟨_, _, rfl, Nat.le_refl _, by unfold maxLen; omega, fun _ => ⟨b, 0, rfl, h.lt, fun i hi => by
    have g := flatSm_get l i hi
    refine ⟨?_, ?_, ?_, ?_⟩
    · rw [Nat.zero_add, h.cell]; simpa using g.1
    · rw [Nat.zero_add, h.cell]; simpa using g.2.1
    · rw [Nat.zero_add, h.cell]; simpa using g.2.2.1
    · rw [Nat.zero_add, h.cell]; simpa using g.2.2.2⟩⟩
theorem pairs_of {w : World} {b : Nat} {T : TypeId} {l : List Pr} (h : Blk w b T (l.flatMap encP).toArray) (hl : l.length ≤ 1000) (hs : ∀ x ∈ l, x.1.length ≤ maxLen ∧ x.2.1.length ≤ maxLen) : IsPairs w (.slice (some ⟨b, 0, none⟩) l.length l.length) l :=
  ⟨_, _, rfl, Nat.le_refl _, by unfold maxLen; omega, hs, fun _ => ⟨b, 0, rfl, h.lt, fun i hi => by
    have g := flatP_get l i hi
    refine ⟨?_, ?_, ?_⟩
    · rw [Nat.zero_add, h.cell]; simpa using g.1
    · rw [Nat.zero_add, h.cell]; simpa using g.2.1
    · rw [Nat.zero_add, h.cell]; simpa using g.2.2⟩⟩
theorem msg_of {w : World} {b : Nat} {T : TypeId} {m : Ms} (h : Blk w b T (encM m)) : IsMsgs w (.slice (some ⟨b, 0, none⟩) 1 1) [m] :=
  ⟨_, _, rfl, Nat.le_refl _, by unfold maxLen; omega, fun _ => ⟨b, 0, rfl, h.lt, fun i hi => by
    obtain rfl : i = 0 := by simp at hi; omega
    exact MBlk8 h⟩⟩
theorem spans_of {w : World} {b : Nat} {T : TypeId} (s t : Sp) (h : Blk w b T #[.string (Str s.1), .string (Str s.2), .string (Str t.1), .string (Str t.2)]) : IsSpans w (.slice (some ⟨b, 0, none⟩) 2 2) [s, t] :=
  ⟨_, _, rfl, Nat.le_refl _, by unfold maxLen; omega, fun _ => ⟨b, 0, rfl, h.lt, fun i hi => by
    match i, hi with
    | 0, _ => exact ⟨h.c0 0 _ rfl, h.c0 1 _ rfl⟩
    | 1, _ => exact ⟨h.c0 2 _ rfl, h.c0 3 _ rfl⟩⟩⟩
theorem bytes_of (W : World) {n : Nat} (l : Bs) (hn : n = W.heap.size) (hl : l.length ≤ 1000) : IsBytes (W.alloc (.cells (l.map fun c => Value.int .u8 c.toNat).toArray 5)) (.slice (some ⟨n, 0, none⟩) l.length l.length) l := (OwnB.new W 0 l hn (Nat.zero_le _) hl).is

def oneN : Sm := ((2, 3), (10, 20))
def zeroN : Sm := ((0, 0), (0, 0))
def putN : Ms := ⟨1, [97, 47, 2, 0, 0], [49, 50, 51, 52, 53], [], [], [], [], 0⟩
def pairN : Pr := ([107], [118], 258)
def nN : Nd := ⟨[], [[98]], [1, 2], [oneN, oneN], [putN]⟩
def lN : Nd := ⟨[pairN], [], [], [], []⟩
def sN : Nd := ⟨[], [], [4095], [zeroN], []⟩
def oN : Nd := ⟨[], [[98]], [1], [zeroN], []⟩
/-- What lies in memory while the examples are evaluated. -/
structure SanN (w wx : World) : Prop where
  n : Blk wx (w.heap.size + 1 + 1 + 1 + 1 + 1) 34 #[.slice none 0 0, .slice (some ⟨w.heap.size + 1, 0, none⟩) 1 1, .slice (some ⟨w.heap.size + 1 + 1, 0, none⟩) 2 2, .slice (some ⟨w.heap.size + 1 + 1 + 1, 0, none⟩) 2 2, .slice (some ⟨w.heap.size + 1 + 1 + 1 + 1, 0, none⟩) 1 1]
  l : Blk wx (w.heap.size + 1 + 1 + 1 + 1 + 1 + 1 + 1) 34 #[.slice (some ⟨w.heap.size + 1 + 1 + 1 + 1 + 1 + 1, 0, none⟩) 1 1, .slice none 0 0, .slice none 0 0, .slice none 0 0, .slice none 0 0]
  s : Blk wx (w.heap.size + 1 + 1 + 1 + 1 + 1 + 1 + 1 + 1 + 1 + 1) 34 #[.slice none 0 0, .slice none 0 0, .slice (some ⟨w.heap.size + 1 + 1 + 1 + 1 + 1 + 1 + 1 + 1, 0, none⟩) 1 1, .slice (some ⟨w.heap.size + 1 + 1 + 1 + 1 + 1 + 1 + 1 + 1 + 1, 0, none⟩) 1 1, .slice none 0 0]
  o : Blk wx (w.heap.size + 1 + 1 + 1 + 1 + 1 + 1 + 1 + 1 + 1 + 1 + 1 + 1 + 1 + 1) 34 #[.slice none 0 0, .slice (some ⟨w.heap.size + 1 + 1 + 1 + 1 + 1 + 1 + 1 + 1 + 1 + 1 + 1 + 1 + 1, 0, none⟩) 1 1, .slice (some ⟨w.heap.size + 1 + 1 + 1 + 1 + 1 + 1 + 1 + 1 + 1 + 1 + 1, 0, none⟩) 1 1, .slice (some ⟨w.heap.size + 1 + 1 + 1 + 1 + 1 + 1 + 1 + 1 + 1 + 1 + 1 + 1, 0, none⟩) 1 1, .slice none 0 0]
  a1 : IsStrs wx (.slice (some ⟨w.heap.size + 1, 0, none⟩) 1 1) [[98]]
  a2 : IsInts wx (.slice (some ⟨w.heap.size + 1 + 1, 0, none⟩) 2 2) [1, 2]
  a3 : IsSums wx (.slice (some ⟨w.heap.size + 1 + 1 + 1, 0, none⟩) 2 2) [oneN, oneN]
  a4 : IsMsgs wx (.slice (some ⟨w.heap.size + 1 + 1 + 1 + 1, 0, none⟩) 1 1) [putN]
  a6 : IsPairs wx (.slice (some ⟨w.heap.size + 1 + 1 + 1 + 1 + 1 + 1, 0, none⟩) 1 1) [pairN]
  a8 : IsInts wx (.slice (some ⟨w.heap.size + 1 + 1 + 1 + 1 + 1 + 1 + 1 + 1, 0, none⟩) 1 1) [4095]
  a9 : IsSums wx (.slice (some ⟨w.heap.size + 1 + 1 + 1 + 1 + 1 + 1 + 1 + 1 + 1, 0, none⟩) 1 1) [zeroN]
  a11 : IsInts wx (.slice (some ⟨w.heap.size + 1 + 1 + 1 + 1 + 1 + 1 + 1 + 1 + 1 + 1 + 1, 0, none⟩) 1 1) [1]
  a12 : IsSums wx (.slice (some ⟨w.heap.size + 1 + 1 + 1 + 1 + 1 + 1 + 1 + 1 + 1 + 1 + 1 + 1, 0, none⟩) 1 1) [zeroN]
  a13 : IsStrs wx (.slice (some ⟨w.heap.size + 1 + 1 + 1 + 1 + 1 + 1 + 1 + 1 + 1 + 1 + 1 + 1 + 1, 0, none⟩) 1 1) [[98]]
  g : Below w.heap.size w wx
theorem SanN.below {w wx wy : World} (h : SanN w wx) (hb : Below wx.heap.size wx wy) : SanN w wy := ⟨h.n.below hb h.n.lt, h.l.below hb h.l.lt, h.s.below hb h.s.lt, h.o.below hb h.o.lt, h.a1.below hb, h.a2.below hb, h.a3.below hb, h.a4.below hb, h.a6.below hb, h.a8.below hb, h.a9.below hb, h.a11.below hb, h.a12.below hb, h.a13.below hb, h.g.trans (hb.mono h.g.size)⟩
theorem SanN.start (w : World) : SanN w (((((((((((((((w.alloc (.cells #[.int .i64 2, .int .i64 3, .int .i64 10, .int .i64 20] 52)).alloc (.cells #[.string ⟨#[98]⟩] 9)).alloc (.cells #[.int .i64 1, .int .i64 2] 3)).alloc (.cells #[.int .i64 2, .int .i64 3, .int .i64 10, .int .i64 20, .int .i64 2, .int .i64 3, .int .i64 10, .int .i64 20] 52)).alloc (.cells #[.int .i64 1, .string ⟨#[97, 47, 2, 0, 0]⟩, .string ⟨#[49, 50, 51, 52, 53]⟩, .string ⟨#[]⟩, .string ⟨#[]⟩, .string ⟨#[]⟩, .string ⟨#[]⟩, .int .i64 0] 46)).alloc (.cells #[.slice none 0 0, .slice (some ⟨w.heap.size + 1, 0, none⟩) 1 1, .slice (some ⟨w.heap.size + 1 + 1, 0, none⟩) 2 2, .slice (some ⟨w.heap.size + 1 + 1 + 1, 0, none⟩) 2 2, .slice (some ⟨w.heap.size + 1 + 1 + 1 + 1, 0, none⟩) 1 1] 34)).alloc (.cells #[.string ⟨#[107]⟩, .string ⟨#[118]⟩, .int .i64 258] 48)).alloc (.cells #[.slice (some ⟨w.heap.size + 1 + 1 + 1 + 1 + 1 + 1, 0, none⟩) 1 1, .slice none 0 0, .slice none 0 0, .slice none 0 0, .slice none 0 0] 34)).alloc (.cells #[.int .i64 4095] 3)).alloc (.cells #[.int .i64 0, .int .i64 0, .int .i64 0, .int .i64 0] 52)).alloc (.cells #[.slice none 0 0, .slice none 0 0, .slice (some ⟨w.heap.size + 1 + 1 + 1 + 1 + 1 + 1 + 1 + 1, 0, none⟩) 1 1, .slice (some ⟨w.heap.size + 1 + 1 + 1 + 1 + 1 + 1 + 1 + 1 + 1, 0, none⟩) 1 1, .slice none 0 0] 34)).alloc (.cells #[.int .i64 1] 3)).alloc (.cells #[.int .i64 0, .int .i64 0, .int .i64 0, .int .i64 0] 52)).alloc (.cells #[.string ⟨#[98]⟩] 9)).alloc (.cells #[.slice none 0 0, .slice (some ⟨w.heap.size + 1 + 1 + 1 + 1 + 1 + 1 + 1 + 1 + 1 + 1 + 1 + 1 + 1, 0, none⟩) 1 1, .slice (some ⟨w.heap.size + 1 + 1 + 1 + 1 + 1 + 1 + 1 + 1 + 1 + 1 + 1, 0, none⟩) 1 1, .slice (some ⟨w.heap.size + 1 + 1 + 1 + 1 + 1 + 1 + 1 + 1 + 1 + 1 + 1 + 1, 0, none⟩) 1 1, .slice none 0 0] 34)) := by
  have b1 : Blk (((((((((((((((w.alloc (.cells #[.int .i64 2, .int .i64 3, .int .i64 10, .int .i64 20] 52)).alloc (.cells #[.string ⟨#[98]⟩] 9)).alloc (.cells #[.int .i64 1, .int .i64 2] 3)).alloc (.cells #[.int .i64 2, .int .i64 3, .int .i64 10, .int .i64 20, .int .i64 2, .int .i64 3, .int .i64 10, .int .i64 20] 52)).alloc (.cells #[.int .i64 1, .string ⟨#[97, 47, 2, 0, 0]⟩, .string ⟨#[49, 50, 51, 52, 53]⟩, .string ⟨#[]⟩, .string ⟨#[]⟩, .string ⟨#[]⟩, .string ⟨#[]⟩, .int .i64 0] 46)).alloc (.cells #[.slice none 0 0, .slice (some ⟨w.heap.size + 1, 0, none⟩) 1 1, .slice (some ⟨w.heap.size + 1 + 1, 0, none⟩) 2 2, .slice (some ⟨w.heap.size + 1 + 1 + 1, 0, none⟩) 2 2, .slice (some ⟨w.heap.size + 1 + 1 + 1 + 1, 0, none⟩) 1 1] 34)).alloc (.cells #[.string ⟨#[107]⟩, .string ⟨#[118]⟩, .int .i64 258] 48)).alloc (.cells #[.slice (some ⟨w.heap.size + 1 + 1 + 1 + 1 + 1 + 1, 0, none⟩) 1 1, .slice none 0 0, .slice none 0 0, .slice none 0 0, .slice none 0 0] 34)).alloc (.cells #[.int .i64 4095] 3)).alloc (.cells #[.int .i64 0, .int .i64 0, .int .i64 0, .int .i64 0] 52)).alloc (.cells #[.slice none 0 0, .slice none 0 0, .slice (some ⟨w.heap.size + 1 + 1 + 1 + 1 + 1 + 1 + 1 + 1, 0, none⟩) 1 1, .slice (some ⟨w.heap.size + 1 + 1 + 1 + 1 + 1 + 1 + 1 + 1 + 1, 0, none⟩) 1 1, .slice none 0 0] 34)).alloc (.cells #[.int .i64 1] 3)).alloc (.cells #[.int .i64 0, .int .i64 0, .int .i64 0, .int .i64 0] 52)).alloc (.cells #[.string ⟨#[98]⟩] 9)).alloc (.cells #[.slice none 0 0, .slice (some ⟨w.heap.size + 1 + 1 + 1 + 1 + 1 + 1 + 1 + 1 + 1 + 1 + 1 + 1 + 1, 0, none⟩) 1 1, .slice (some ⟨w.heap.size + 1 + 1 + 1 + 1 + 1 + 1 + 1 + 1 + 1 + 1 + 1, 0, none⟩) 1 1, .slice (some ⟨w.heap.size + 1 + 1 + 1 + 1 + 1 + 1 + 1 + 1 + 1 + 1 + 1 + 1, 0, none⟩) 1 1, .slice none 0 0] 34)) (w.heap.size + 1) 9 #[.string ⟨#[98]⟩] := (((((((((((((Blk.new' _ _ _ (by simp)).alloc _).alloc _).alloc _).alloc _).alloc _).alloc _).alloc _).alloc _).alloc _).alloc _).alloc _).alloc _).alloc _
  have b2 : Blk (((((((((((((((w.alloc (.cells #[.int .i64 2, .int .i64 3, .int .i64 10, .int .i64 20] 52)).alloc (.cells #[.string ⟨#[98]⟩] 9)).alloc (.cells #[.int .i64 1, .int .i64 2] 3)).alloc (.cells #[.int .i64 2, .int .i64 3, .int .i64 10, .int .i64 20, .int .i64 2, .int .i64 3, .int .i64 10, .int .i64 20] 52)).alloc (.cells #[.int .i64 1, .string ⟨#[97, 47, 2, 0, 0]⟩, .string ⟨#[49, 50, 51, 52, 53]⟩, .string ⟨#[]⟩, .string ⟨#[]⟩, .string ⟨#[]⟩, .string ⟨#[]⟩, .int .i64 0] 46)).alloc (.cells #[.slice none 0 0, .slice (some ⟨w.heap.size + 1, 0, none⟩) 1 1, .slice (some ⟨w.heap.size + 1 + 1, 0, none⟩) 2 2, .slice (some ⟨w.heap.size + 1 + 1 + 1, 0, none⟩) 2 2, .slice (some ⟨w.heap.size + 1 + 1 + 1 + 1, 0, none⟩) 1 1] 34)).alloc (.cells #[.string ⟨#[107]⟩, .string ⟨#[118]⟩, .int .i64 258] 48)).alloc (.cells #[.slice (some ⟨w.heap.size + 1 + 1 + 1 + 1 + 1 + 1, 0, none⟩) 1 1, .slice none 0 0, .slice none 0 0, .slice none 0 0, .slice none 0 0] 34)).alloc (.cells #[.int .i64 4095] 3)).alloc (.cells #[.int .i64 0, .int .i64 0, .int .i64 0, .int .i64 0] 52)).alloc (.cells #[.slice none 0 0, .slice none 0 0, .slice (some ⟨w.heap.size + 1 + 1 + 1 + 1 + 1 + 1 + 1 + 1, 0, none⟩) 1 1, .slice (some ⟨w.heap.size + 1 + 1 + 1 + 1 + 1 + 1 + 1 + 1 + 1, 0, none⟩) 1 1, .slice none 0 0] 34)).alloc (.cells #[.int .i64 1] 3)).alloc (.cells #[.int .i64 0, .int .i64 0, .int .i64 0, .int .i64 0] 52)).alloc (.cells #[.string ⟨#[98]⟩] 9)).alloc (.cells #[.slice none 0 0, .slice (some ⟨w.heap.size + 1 + 1 + 1 + 1 + 1 + 1 + 1 + 1 + 1 + 1 + 1 + 1 + 1, 0, none⟩) 1 1, .slice (some ⟨w.heap.size + 1 + 1 + 1 + 1 + 1 + 1 + 1 + 1 + 1 + 1 + 1, 0, none⟩) 1 1, .slice (some ⟨w.heap.size + 1 + 1 + 1 + 1 + 1 + 1 + 1 + 1 + 1 + 1 + 1 + 1, 0, none⟩) 1 1, .slice none 0 0] 34)) (w.heap.size + 1 + 1) 3 #[.int .i64 1, .int .i64 2] := ((((((((((((Blk.new' _ _ _ (by simp)).alloc _).alloc _).alloc _).alloc _).alloc _).alloc _).alloc _).alloc _).alloc _).alloc _).alloc _).alloc _
  have b3 : Blk (((((((((((((((w.alloc (.cells #[.int .i64 2, .int .i64 3, .int .i64 10, .int .i64 20] 52)).alloc (.cells #[.string ⟨#[98]⟩] 9)).alloc (.cells #[.int .i64 1, .int .i64 2] 3)).alloc (.cells #[.int .i64 2, .int .i64 3, .int .i64 10, .int .i64 20, .int .i64 2, .int .i64 3, .int .i64 10, .int .i64 20] 52)).alloc (.cells #[.int .i64 1, .string ⟨#[97, 47, 2, 0, 0]⟩, .string ⟨#[49, 50, 51, 52, 53]⟩, .string ⟨#[]⟩, .string ⟨#[]⟩, .string ⟨#[]⟩, .string ⟨#[]⟩, .int .i64 0] 46)).alloc (.cells #[.slice none 0 0, .slice (some ⟨w.heap.size + 1, 0, none⟩) 1 1, .slice (some ⟨w.heap.size + 1 + 1, 0, none⟩) 2 2, .slice (some ⟨w.heap.size + 1 + 1 + 1, 0, none⟩) 2 2, .slice (some ⟨w.heap.size + 1 + 1 + 1 + 1, 0, none⟩) 1 1] 34)).alloc (.cells #[.string ⟨#[107]⟩, .string ⟨#[118]⟩, .int .i64 258] 48)).alloc (.cells #[.slice (some ⟨w.heap.size + 1 + 1 + 1 + 1 + 1 + 1, 0, none⟩) 1 1, .slice none 0 0, .slice none 0 0, .slice none 0 0, .slice none 0 0] 34)).alloc (.cells #[.int .i64 4095] 3)).alloc (.cells #[.int .i64 0, .int .i64 0, .int .i64 0, .int .i64 0] 52)).alloc (.cells #[.slice none 0 0, .slice none 0 0, .slice (some ⟨w.heap.size + 1 + 1 + 1 + 1 + 1 + 1 + 1 + 1, 0, none⟩) 1 1, .slice (some ⟨w.heap.size + 1 + 1 + 1 + 1 + 1 + 1 + 1 + 1 + 1, 0, none⟩) 1 1, .slice none 0 0] 34)).alloc (.cells #[.int .i64 1] 3)).alloc (.cells #[.int .i64 0, .int .i64 0, .int .i64 0, .int .i64 0] 52)).alloc (.cells #[.string ⟨#[98]⟩] 9)).alloc (.cells #[.slice none 0 0, .slice (some ⟨w.heap.size + 1 + 1 + 1 + 1 + 1 + 1 + 1 + 1 + 1 + 1 + 1 + 1 + 1, 0, none⟩) 1 1, .slice (some ⟨w.heap.size + 1 + 1 + 1 + 1 + 1 + 1 + 1 + 1 + 1 + 1 + 1, 0, none⟩) 1 1, .slice (some ⟨w.heap.size + 1 + 1 + 1 + 1 + 1 + 1 + 1 + 1 + 1 + 1 + 1 + 1, 0, none⟩) 1 1, .slice none 0 0] 34)) (w.heap.size + 1 + 1 + 1) 52 #[.int .i64 2, .int .i64 3, .int .i64 10, .int .i64 20, .int .i64 2, .int .i64 3, .int .i64 10, .int .i64 20] := (((((((((((Blk.new' _ _ _ (by simp)).alloc _).alloc _).alloc _).alloc _).alloc _).alloc _).alloc _).alloc _).alloc _).alloc _).alloc _
  have b4 : Blk (((((((((((((((w.alloc (.cells #[.int .i64 2, .int .i64 3, .int .i64 10, .int .i64 20] 52)).alloc (.cells #[.string ⟨#[98]⟩] 9)).alloc (.cells #[.int .i64 1, .int .i64 2] 3)).alloc (.cells #[.int .i64 2, .int .i64 3, .int .i64 10, .int .i64 20, .int .i64 2, .int .i64 3, .int .i64 10, .int .i64 20] 52)).alloc (.cells #[.int .i64 1, .string ⟨#[97, 47, 2, 0, 0]⟩, .string ⟨#[49, 50, 51, 52, 53]⟩, .string ⟨#[]⟩, .string ⟨#[]⟩, .string ⟨#[]⟩, .string ⟨#[]⟩, .int .i64 0] 46)).alloc (.cells #[.slice none 0 0, .slice (some ⟨w.heap.size + 1, 0, none⟩) 1 1, .slice (some ⟨w.heap.size + 1 + 1, 0, none⟩) 2 2, .slice (some ⟨w.heap.size + 1 + 1 + 1, 0, none⟩) 2 2, .slice (some ⟨w.heap.size + 1 + 1 + 1 + 1, 0, none⟩) 1 1] 34)).alloc (.cells #[.string ⟨#[107]⟩, .string ⟨#[118]⟩, .int .i64 258] 48)).alloc (.cells #[.slice (some ⟨w.heap.size + 1 + 1 + 1 + 1 + 1 + 1, 0, none⟩) 1 1, .slice none 0 0, .slice none 0 0, .slice none 0 0, .slice none 0 0] 34)).alloc (.cells #[.int .i64 4095] 3)).alloc (.cells #[.int .i64 0, .int .i64 0, .int .i64 0, .int .i64 0] 52)).alloc (.cells #[.slice none 0 0, .slice none 0 0, .slice (some ⟨w.heap.size + 1 + 1 + 1 + 1 + 1 + 1 + 1 + 1, 0, none⟩) 1 1, .slice (some ⟨w.heap.size + 1 + 1 + 1 + 1 + 1 + 1 + 1 + 1 + 1, 0, none⟩) 1 1, .slice none 0 0] 34)).alloc (.cells #[.int .i64 1] 3)).alloc (.cells #[.int .i64 0, .int .i64 0, .int .i64 0, .int .i64 0] 52)).alloc (.cells #[.string ⟨#[98]⟩] 9)).alloc (.cells #[.slice none 0 0, .slice (some ⟨w.heap.size + 1 + 1 + 1 + 1 + 1 + 1 + 1 + 1 + 1 + 1 + 1 + 1 + 1, 0, none⟩) 1 1, .slice (some ⟨w.heap.size + 1 + 1 + 1 + 1 + 1 + 1 + 1 + 1 + 1 + 1 + 1, 0, none⟩) 1 1, .slice (some ⟨w.heap.size + 1 + 1 + 1 + 1 + 1 + 1 + 1 + 1 + 1 + 1 + 1 + 1, 0, none⟩) 1 1, .slice none 0 0] 34)) (w.heap.size + 1 + 1 + 1 + 1) 46 #[.int .i64 1, .string ⟨#[97, 47, 2, 0, 0]⟩, .string ⟨#[49, 50, 51, 52, 53]⟩, .string ⟨#[]⟩, .string ⟨#[]⟩, .string ⟨#[]⟩, .string ⟨#[]⟩, .int .i64 0] := ((((((((((Blk.new' _ _ _ (by simp)).alloc _).alloc _).alloc _).alloc _).alloc _).alloc _).alloc _).alloc _).alloc _).alloc _
  have b5 : Blk (((((((((((((((w.alloc (.cells #[.int .i64 2, .int .i64 3, .int .i64 10, .int .i64 20] 52)).alloc (.cells #[.string ⟨#[98]⟩] 9)).alloc (.cells #[.int .i64 1, .int .i64 2] 3)).alloc (.cells #[.int .i64 2, .int .i64 3, .int .i64 10, .int .i64 20, .int .i64 2, .int .i64 3, .int .i64 10, .int .i64 20] 52)).alloc (.cells #[.int .i64 1, .string ⟨#[97, 47, 2, 0, 0]⟩, .string ⟨#[49, 50, 51, 52, 53]⟩, .string ⟨#[]⟩, .string ⟨#[]⟩, .string ⟨#[]⟩, .string ⟨#[]⟩, .int .i64 0] 46)).alloc (.cells #[.slice none 0 0, .slice (some ⟨w.heap.size + 1, 0, none⟩) 1 1, .slice (some ⟨w.heap.size + 1 + 1, 0, none⟩) 2 2, .slice (some ⟨w.heap.size + 1 + 1 + 1, 0, none⟩) 2 2, .slice (some ⟨w.heap.size + 1 + 1 + 1 + 1, 0, none⟩) 1 1] 34)).alloc (.cells #[.string ⟨#[107]⟩, .string ⟨#[118]⟩, .int .i64 258] 48)).alloc (.cells #[.slice (some ⟨w.heap.size + 1 + 1 + 1 + 1 + 1 + 1, 0, none⟩) 1 1, .slice none 0 0, .slice none 0 0, .slice none 0 0, .slice none 0 0] 34)).alloc (.cells #[.int .i64 4095] 3)).alloc (.cells #[.int .i64 0, .int .i64 0, .int .i64 0, .int .i64 0] 52)).alloc (.cells #[.slice none 0 0, .slice none 0 0, .slice (some ⟨w.heap.size + 1 + 1 + 1 + 1 + 1 + 1 + 1 + 1, 0, none⟩) 1 1, .slice (some ⟨w.heap.size + 1 + 1 + 1 + 1 + 1 + 1 + 1 + 1 + 1, 0, none⟩) 1 1, .slice none 0 0] 34)).alloc (.cells #[.int .i64 1] 3)).alloc (.cells #[.int .i64 0, .int .i64 0, .int .i64 0, .int .i64 0] 52)).alloc (.cells #[.string ⟨#[98]⟩] 9)).alloc (.cells #[.slice none 0 0, .slice (some ⟨w.heap.size + 1 + 1 + 1 + 1 + 1 + 1 + 1 + 1 + 1 + 1 + 1 + 1 + 1, 0, none⟩) 1 1, .slice (some ⟨w.heap.size + 1 + 1 + 1 + 1 + 1 + 1 + 1 + 1 + 1 + 1 + 1, 0, none⟩) 1 1, .slice (some ⟨w.heap.size + 1 + 1 + 1 + 1 + 1 + 1 + 1 + 1 + 1 + 1 + 1 + 1, 0, none⟩) 1 1, .slice none 0 0] 34)) (w.heap.size + 1 + 1 + 1 + 1 + 1) 34 #[.slice none 0 0, .slice (some ⟨w.heap.size + 1, 0, none⟩) 1 1, .slice (some ⟨w.heap.size + 1 + 1, 0, none⟩) 2 2, .slice (some ⟨w.heap.size + 1 + 1 + 1, 0, none⟩) 2 2, .slice (some ⟨w.heap.size + 1 + 1 + 1 + 1, 0, none⟩) 1 1] := (((((((((Blk.new' _ _ _ (by simp)).alloc _).alloc _).alloc _).alloc _).alloc _).alloc _).alloc _).alloc _).alloc _
  have b6 : Blk (((((((((((((((w.alloc (.cells #[.int .i64 2, .int .i64 3, .int .i64 10, .int .i64 20] 52)).alloc (.cells #[.string ⟨#[98]⟩] 9)).alloc (.cells #[.int .i64 1, .int .i64 2] 3)).alloc (.cells #[.int .i64 2, .int .i64 3, .int .i64 10, .int .i64 20, .int .i64 2, .int .i64 3, .int .i64 10, .int .i64 20] 52)).alloc (.cells #[.int .i64 1, .string ⟨#[97, 47, 2, 0, 0]⟩, .string ⟨#[49, 50, 51, 52, 53]⟩, .string ⟨#[]⟩, .string ⟨#[]⟩, .string ⟨#[]⟩, .string ⟨#[]⟩, .int .i64 0] 46)).alloc (.cells #[.slice none 0 0, .slice (some ⟨w.heap.size + 1, 0, none⟩) 1 1, .slice (some ⟨w.heap.size + 1 + 1, 0, none⟩) 2 2, .slice (some ⟨w.heap.size + 1 + 1 + 1, 0, none⟩) 2 2, .slice (some ⟨w.heap.size + 1 + 1 + 1 + 1, 0, none⟩) 1 1] 34)).alloc (.cells #[.string ⟨#[107]⟩, .string ⟨#[118]⟩, .int .i64 258] 48)).alloc (.cells #[.slice (some ⟨w.heap.size + 1 + 1 + 1 + 1 + 1 + 1, 0, none⟩) 1 1, .slice none 0 0, .slice none 0 0, .slice none 0 0, .slice none 0 0] 34)).alloc (.cells #[.int .i64 4095] 3)).alloc (.cells #[.int .i64 0, .int .i64 0, .int .i64 0, .int .i64 0] 52)).alloc (.cells #[.slice none 0 0, .slice none 0 0, .slice (some ⟨w.heap.size + 1 + 1 + 1 + 1 + 1 + 1 + 1 + 1, 0, none⟩) 1 1, .slice (some ⟨w.heap.size + 1 + 1 + 1 + 1 + 1 + 1 + 1 + 1 + 1, 0, none⟩) 1 1, .slice none 0 0] 34)).alloc (.cells #[.int .i64 1] 3)).alloc (.cells #[.int .i64 0, .int .i64 0, .int .i64 0, .int .i64 0] 52)).alloc (.cells #[.string ⟨#[98]⟩] 9)).alloc (.cells #[.slice none 0 0, .slice (some ⟨w.heap.size + 1 + 1 + 1 + 1 + 1 + 1 + 1 + 1 + 1 + 1 + 1 + 1 + 1, 0, none⟩) 1 1, .slice (some ⟨w.heap.size + 1 + 1 + 1 + 1 + 1 + 1 + 1 + 1 + 1 + 1 + 1, 0, none⟩) 1 1, .slice (some ⟨w.heap.size + 1 + 1 + 1 + 1 + 1 + 1 + 1 + 1 + 1 + 1 + 1 + 1, 0, none⟩) 1 1, .slice none 0 0] 34)) (w.heap.size + 1 + 1 + 1 + 1 + 1 + 1) 48 #[.string ⟨#[107]⟩, .string ⟨#[118]⟩, .int .i64 258] := ((((((((Blk.new' _ _ _ (by simp)).alloc _).alloc _).alloc _).alloc _).alloc _).alloc _).alloc _).alloc _
  have b7 : Blk (((((((((((((((w.alloc (.cells #[.int .i64 2, .int .i64 3, .int .i64 10, .int .i64 20] 52)).alloc (.cells #[.string ⟨#[98]⟩] 9)).alloc (.cells #[.int .i64 1, .int .i64 2] 3)).alloc (.cells #[.int .i64 2, .int .i64 3, .int .i64 10, .int .i64 20, .int .i64 2, .int .i64 3, .int .i64 10, .int .i64 20] 52)).alloc (.cells #[.int .i64 1, .string ⟨#[97, 47, 2, 0, 0]⟩, .string ⟨#[49, 50, 51, 52, 53]⟩, .string ⟨#[]⟩, .string ⟨#[]⟩, .string ⟨#[]⟩, .string ⟨#[]⟩, .int .i64 0] 46)).alloc (.cells #[.slice none 0 0, .slice (some ⟨w.heap.size + 1, 0, none⟩) 1 1, .slice (some ⟨w.heap.size + 1 + 1, 0, none⟩) 2 2, .slice (some ⟨w.heap.size + 1 + 1 + 1, 0, none⟩) 2 2, .slice (some ⟨w.heap.size + 1 + 1 + 1 + 1, 0, none⟩) 1 1] 34)).alloc (.cells #[.string ⟨#[107]⟩, .string ⟨#[118]⟩, .int .i64 258] 48)).alloc (.cells #[.slice (some ⟨w.heap.size + 1 + 1 + 1 + 1 + 1 + 1, 0, none⟩) 1 1, .slice none 0 0, .slice none 0 0, .slice none 0 0, .slice none 0 0] 34)).alloc (.cells #[.int .i64 4095] 3)).alloc (.cells #[.int .i64 0, .int .i64 0, .int .i64 0, .int .i64 0] 52)).alloc (.cells #[.slice none 0 0, .slice none 0 0, .slice (some ⟨w.heap.size + 1 + 1 + 1 + 1 + 1 + 1 + 1 + 1, 0, none⟩) 1 1, .slice (some ⟨w.heap.size + 1 + 1 + 1 + 1 + 1 + 1 + 1 + 1 + 1, 0, none⟩) 1 1, .slice none 0 0] 34)).alloc (.cells #[.int .i64 1] 3)).alloc (.cells #[.int .i64 0, .int .i64 0, .int .i64 0, .int .i64 0] 52)).alloc (.cells #[.string ⟨#[98]⟩] 9)).alloc (.cells #[.slice none 0 0, .slice (some ⟨w.heap.size + 1 + 1 + 1 + 1 + 1 + 1 + 1 + 1 + 1 + 1 + 1 + 1 + 1, 0, none⟩) 1 1, .slice (some ⟨w.heap.size + 1 + 1 + 1 + 1 + 1 + 1 + 1 + 1 + 1 + 1 + 1, 0, none⟩) 1 1, .slice (some ⟨w.heap.size + 1 + 1 + 1 + 1 + 1 + 1 + 1 + 1 + 1 + 1 + 1 + 1, 0, none⟩) 1 1, .slice none 0 0] 34)) (w.heap.size + 1 + 1 + 1 + 1 + 1 + 1 + 1) 34 #[.slice (some ⟨w.heap.size + 1 + 1 + 1 + 1 + 1 + 1, 0, none⟩) 1 1, .slice none 0 0, .slice none 0 0, .slice none 0 0, .slice none 0 0] := (((((((Blk.new' _ _ _ (by simp)).alloc _).alloc _).alloc _).alloc _).alloc _).alloc _).alloc _
  have b8 : Blk (((((((((((((((w.alloc (.cells #[.int .i64 2, .int .i64 3, .int .i64 10, .int .i64 20] 52)).alloc (.cells #[.string ⟨#[98]⟩] 9)).alloc (.cells #[.int .i64 1, .int .i64 2] 3)).alloc (.cells #[.int .i64 2, .int .i64 3, .int .i64 10, .int .i64 20, .int .i64 2, .int .i64 3, .int .i64 10, .int .i64 20] 52)).alloc (.cells #[.int .i64 1, .string ⟨#[97, 47, 2, 0, 0]⟩, .string ⟨#[49, 50, 51, 52, 53]⟩, .string ⟨#[]⟩, .string ⟨#[]⟩, .string ⟨#[]⟩, .string ⟨#[]⟩, .int .i64 0] 46)).alloc (.cells #[.slice none 0 0, .slice (some ⟨w.heap.size + 1, 0, none⟩) 1 1, .slice (some ⟨w.heap.size + 1 + 1, 0, none⟩) 2 2, .slice (some ⟨w.heap.size + 1 + 1 + 1, 0, none⟩) 2 2, .slice (some ⟨w.heap.size + 1 + 1 + 1 + 1, 0, none⟩) 1 1] 34)).alloc (.cells #[.string ⟨#[107]⟩, .string ⟨#[118]⟩, .int .i64 258] 48)).alloc (.cells #[.slice (some ⟨w.heap.size + 1 + 1 + 1 + 1 + 1 + 1, 0, none⟩) 1 1, .slice none 0 0, .slice none 0 0, .slice none 0 0, .slice none 0 0] 34)).alloc (.cells #[.int .i64 4095] 3)).alloc (.cells #[.int .i64 0, .int .i64 0, .int .i64 0, .int .i64 0] 52)).alloc (.cells #[.slice none 0 0, .slice none 0 0, .slice (some ⟨w.heap.size + 1 + 1 + 1 + 1 + 1 + 1 + 1 + 1, 0, none⟩) 1 1, .slice (some ⟨w.heap.size + 1 + 1 + 1 + 1 + 1 + 1 + 1 + 1 + 1, 0, none⟩) 1 1, .slice none 0 0] 34)).alloc (.cells #[.int .i64 1] 3)).alloc (.cells #[.int .i64 0, .int .i64 0, .int .i64 0, .int .i64 0] 52)).alloc (.cells #[.string ⟨#[98]⟩] 9)).alloc (.cells #[.slice none 0 0, .slice (some ⟨w.heap.size + 1 + 1 + 1 + 1 + 1 + 1 + 1 + 1 + 1 + 1 + 1 + 1 + 1, 0, none⟩) 1 1, .slice (some ⟨w.heap.size + 1 + 1 + 1 + 1 + 1 + 1 + 1 + 1 + 1 + 1 + 1, 0, none⟩) 1 1, .slice (some ⟨w.heap.size + 1 + 1 + 1 + 1 + 1 + 1 + 1 + 1 + 1 + 1 + 1 + 1, 0, none⟩) 1 1, .slice none 0 0] 34)) (w.heap.size + 1 + 1 + 1 + 1 + 1 + 1 + 1 + 1) 3 #[.int .i64 4095] := ((((((Blk.new' _ _ _ (by simp)).alloc _).alloc _).alloc _).alloc _).alloc _).alloc _
  have b9 : Blk (((((((((((((((w.alloc (.cells #[.int .i64 2, .int .i64 3, .int .i64 10, .int .i64 20] 52)).alloc (.cells #[.string ⟨#[98]⟩] 9)).alloc (.cells #[.int .i64 1, .int .i64 2] 3)).alloc (.cells #[.int .i64 2, .int .i64 3, .int .i64 10, .int .i64 20, .int .i64 2, .int .i64 3, .int .i64 10, .int .i64 20] 52)).alloc (.cells #[.int .i64 1, .string ⟨#[97, 47, 2, 0, 0]⟩, .string ⟨#[49, 50, 51, 52, 53]⟩, .string ⟨#[]⟩, .string ⟨#[]⟩, .string ⟨#[]⟩, .string ⟨#[]⟩, .int .i64 0] 46)).alloc (.cells #[.slice none 0 0, .slice (some ⟨w.heap.size + 1, 0, none⟩) 1 1, .slice (some ⟨w.heap.size + 1 + 1, 0, none⟩) 2 2, .slice (some ⟨w.heap.size + 1 + 1 + 1, 0, none⟩) 2 2, .slice (some ⟨w.heap.size + 1 + 1 + 1 + 1, 0, none⟩) 1 1] 34)).alloc (.cells #[.string ⟨#[107]⟩, .string ⟨#[118]⟩, .int .i64 258] 48)).alloc (.cells #[.slice (some ⟨w.heap.size + 1 + 1 + 1 + 1 + 1 + 1, 0, none⟩) 1 1, .slice none 0 0, .slice none 0 0, .slice none 0 0, .slice none 0 0] 34)).alloc (.cells #[.int .i64 4095] 3)).alloc (.cells #[.int .i64 0, .int .i64 0, .int .i64 0, .int .i64 0] 52)).alloc (.cells #[.slice none 0 0, .slice none 0 0, .slice (some ⟨w.heap.size + 1 + 1 + 1 + 1 + 1 + 1 + 1 + 1, 0, none⟩) 1 1, .slice (some ⟨w.heap.size + 1 + 1 + 1 + 1 + 1 + 1 + 1 + 1 + 1, 0, none⟩) 1 1, .slice none 0 0] 34)).alloc (.cells #[.int .i64 1] 3)).alloc (.cells #[.int .i64 0, .int .i64 0, .int .i64 0, .int .i64 0] 52)).alloc (.cells #[.string ⟨#[98]⟩] 9)).alloc (.cells #[.slice none 0 0, .slice (some ⟨w.heap.size + 1 + 1 + 1 + 1 + 1 + 1 + 1 + 1 + 1 + 1 + 1 + 1 + 1, 0, none⟩) 1 1, .slice (some ⟨w.heap.size + 1 + 1 + 1 + 1 + 1 + 1 + 1 + 1 + 1 + 1 + 1, 0, none⟩) 1 1, .slice (some ⟨w.heap.size + 1 + 1 + 1 + 1 + 1 + 1 + 1 + 1 + 1 + 1 + 1 + 1, 0, none⟩) 1 1, .slice none 0 0] 34)) (w.heap.size + 1 + 1 + 1 + 1 + 1 + 1 + 1 + 1 + 1) 52 #[.int .i64 0, .int .i64 0, .int .i64 0, .int .i64 0] := (((((Blk.new' _ _ _ (by simp)).alloc _).alloc _).alloc _).alloc _).alloc _
  have b10 : Blk (((((((((((((((w.alloc (.cells #[.int .i64 2, .int .i64 3, .int .i64 10, .int .i64 20] 52)).alloc (.cells #[.string ⟨#[98]⟩] 9)).alloc (.cells #[.int .i64 1, .int .i64 2] 3)).alloc (.cells #[.int .i64 2, .int .i64 3, .int .i64 10, .int .i64 20, .int .i64 2, .int .i64 3, .int .i64 10, .int .i64 20] 52)).alloc (.cells #[.int .i64 1, .string ⟨#[97, 47, 2, 0, 0]⟩, .string ⟨#[49, 50, 51, 52, 53]⟩, .string ⟨#[]⟩, .string ⟨#[]⟩, .string ⟨#[]⟩, .string ⟨#[]⟩, .int .i64 0] 46)).alloc (.cells #[.slice none 0 0, .slice (some ⟨w.heap.size + 1, 0, none⟩) 1 1, .slice (some ⟨w.heap.size + 1 + 1, 0, none⟩) 2 2, .slice (some ⟨w.heap.size + 1 + 1 + 1, 0, none⟩) 2 2, .slice (some ⟨w.heap.size + 1 + 1 + 1 + 1, 0, none⟩) 1 1] 34)).alloc (.cells #[.string ⟨#[107]⟩, .string ⟨#[118]⟩, .int .i64 258] 48)).alloc (.cells #[.slice (some ⟨w.heap.size + 1 + 1 + 1 + 1 + 1 + 1, 0, none⟩) 1 1, .slice none 0 0, .slice none 0 0, .slice none 0 0, .slice none 0 0] 34)).alloc (.cells #[.int .i64 4095] 3)).alloc (.cells #[.int .i64 0, .int .i64 0, .int .i64 0, .int .i64 0] 52)).alloc (.cells #[.slice none 0 0, .slice none 0 0, .slice (some ⟨w.heap.size + 1 + 1 + 1 + 1 + 1 + 1 + 1 + 1, 0, none⟩) 1 1, .slice (some ⟨w.heap.size + 1 + 1 + 1 + 1 + 1 + 1 + 1 + 1 + 1, 0, none⟩) 1 1, .slice none 0 0] 34)).alloc (.cells #[.int .i64 1] 3)).alloc (.cells #[.int .i64 0, .int .i64 0, .int .i64 0, .int .i64 0] 52)).alloc (.cells #[.string ⟨#[98]⟩] 9)).alloc (.cells #[.slice none 0 0, .slice (some ⟨w.heap.size + 1 + 1 + 1 + 1 + 1 + 1 + 1 + 1 + 1 + 1 + 1 + 1 + 1, 0, none⟩) 1 1, .slice (some ⟨w.heap.size + 1 + 1 + 1 + 1 + 1 + 1 + 1 + 1 + 1 + 1 + 1, 0, none⟩) 1 1, .slice (some ⟨w.heap.size + 1 + 1 + 1 + 1 + 1 + 1 + 1 + 1 + 1 + 1 + 1 + 1, 0, none⟩) 1 1, .slice none 0 0] 34)) (w.heap.size + 1 + 1 + 1 + 1 + 1 + 1 + 1 + 1 + 1 + 1) 34 #[.slice none 0 0, .slice none 0 0, .slice (some ⟨w.heap.size + 1 + 1 + 1 + 1 + 1 + 1 + 1 + 1, 0, none⟩) 1 1, .slice (some ⟨w.heap.size + 1 + 1 + 1 + 1 + 1 + 1 + 1 + 1 + 1, 0, none⟩) 1 1, .slice none 0 0] := ((((Blk.new' _ _ _ (by simp)).alloc _).alloc _).alloc _).alloc _
  have b11 : Blk (((((((((((((((w.alloc (.cells #[.int .i64 2, .int .i64 3, .int .i64 10, .int .i64 20] 52)).alloc (.cells #[.string ⟨#[98]⟩] 9)).alloc (.cells #[.int .i64 1, .int .i64 2] 3)).alloc (.cells #[.int .i64 2, .int .i64 3, .int .i64 10, .int .i64 20, .int .i64 2, .int .i64 3, .int .i64 10, .int .i64 20] 52)).alloc (.cells #[.int .i64 1, .string ⟨#[97, 47, 2, 0, 0]⟩, .string ⟨#[49, 50, 51, 52, 53]⟩, .string ⟨#[]⟩, .string ⟨#[]⟩, .string ⟨#[]⟩, .string ⟨#[]⟩, .int .i64 0] 46)).alloc (.cells #[.slice none 0 0, .slice (some ⟨w.heap.size + 1, 0, none⟩) 1 1, .slice (some ⟨w.heap.size + 1 + 1, 0, none⟩) 2 2, .slice (some ⟨w.heap.size + 1 + 1 + 1, 0, none⟩) 2 2, .slice (some ⟨w.heap.size + 1 + 1 + 1 + 1, 0, none⟩) 1 1] 34)).alloc (.cells #[.string ⟨#[107]⟩, .string ⟨#[118]⟩, .int .i64 258] 48)).alloc (.cells #[.slice (some ⟨w.heap.size + 1 + 1 + 1 + 1 + 1 + 1, 0, none⟩) 1 1, .slice none 0 0, .slice none 0 0, .slice none 0 0, .slice none 0 0] 34)).alloc (.cells #[.int .i64 4095] 3)).alloc (.cells #[.int .i64 0, .int .i64 0, .int .i64 0, .int .i64 0] 52)).alloc (.cells #[.slice none 0 0, .slice none 0 0, .slice (some ⟨w.heap.size + 1 + 1 + 1 + 1 + 1 + 1 + 1 + 1, 0, none⟩) 1 1, .slice (some ⟨w.heap.size + 1 + 1 + 1 + 1 + 1 + 1 + 1 + 1 + 1, 0, none⟩) 1 1, .slice none 0 0] 34)).alloc (.cells #[.int .i64 1] 3)).alloc (.cells #[.int .i64 0, .int .i64 0, .int .i64 0, .int .i64 0] 52)).alloc (.cells #[.string ⟨#[98]⟩] 9)).alloc (.cells #[.slice none 0 0, .slice (some ⟨w.heap.size + 1 + 1 + 1 + 1 + 1 + 1 + 1 + 1 + 1 + 1 + 1 + 1 + 1, 0, none⟩) 1 1, .slice (some ⟨w.heap.size + 1 + 1 + 1 + 1 + 1 + 1 + 1 + 1 + 1 + 1 + 1, 0, none⟩) 1 1, .slice (some ⟨w.heap.size + 1 + 1 + 1 + 1 + 1 + 1 + 1 + 1 + 1 + 1 + 1 + 1, 0, none⟩) 1 1, .slice none 0 0] 34)) (w.heap.size + 1 + 1 + 1 + 1 + 1 + 1 + 1 + 1 + 1 + 1 + 1) 3 #[.int .i64 1] := (((Blk.new' _ _ _ (by simp)).alloc _).alloc _).alloc _
  have b12 : Blk (((((((((((((((w.alloc (.cells #[.int .i64 2, .int .i64 3, .int .i64 10, .int .i64 20] 52)).alloc (.cells #[.string ⟨#[98]⟩] 9)).alloc (.cells #[.int .i64 1, .int .i64 2] 3)).alloc (.cells #[.int .i64 2, .int .i64 3, .int .i64 10, .int .i64 20, .int .i64 2, .int .i64 3, .int .i64 10, .int .i64 20] 52)).alloc (.cells #[.int .i64 1, .string ⟨#[97, 47, 2, 0, 0]⟩, .string ⟨#[49, 50, 51, 52, 53]⟩, .string ⟨#[]⟩, .string ⟨#[]⟩, .string ⟨#[]⟩, .string ⟨#[]⟩, .int .i64 0] 46)).alloc (.cells #[.slice none 0 0, .slice (some ⟨w.heap.size + 1, 0, none⟩) 1 1, .slice (some ⟨w.heap.size + 1 + 1, 0, none⟩) 2 2, .slice (some ⟨w.heap.size + 1 + 1 + 1, 0, none⟩) 2 2, .slice (some ⟨w.heap.size + 1 + 1 + 1 + 1, 0, none⟩) 1 1] 34)).alloc (.cells #[.string ⟨#[107]⟩, .string ⟨#[118]⟩, .int .i64 258] 48)).alloc (.cells #[.slice (some ⟨w.heap.size + 1 + 1 + 1 + 1 + 1 + 1, 0, none⟩) 1 1, .slice none 0 0, .slice none 0 0, .slice none 0 0, .slice none 0 0] 34)).alloc (.cells #[.int .i64 4095] 3)).alloc (.cells #[.int .i64 0, .int .i64 0, .int .i64 0, .int .i64 0] 52)).alloc (.cells #[.slice none 0 0, .slice none 0 0, .slice (some ⟨w.heap.size + 1 + 1 + 1 + 1 + 1 + 1 + 1 + 1, 0, none⟩) 1 1, .slice (some ⟨w.heap.size + 1 + 1 + 1 + 1 + 1 + 1 + 1 + 1 + 1, 0, none⟩) 1 1, .slice none 0 0] 34)).alloc (.cells #[.int .i64 1] 3)).alloc (.cells #[.int .i64 0, .int .i64 0, .int .i64 0, .int .i64 0] 52)).alloc (.cells #[.string ⟨#[98]⟩] 9)).alloc (.cells #[.slice none 0 0, .slice (some ⟨w.heap.size + 1 + 1 + 1 + 1 + 1 + 1 + 1 + 1 + 1 + 1 + 1 + 1 + 1, 0, none⟩) 1 1, .slice (some ⟨w.heap.size + 1 + 1 + 1 + 1 + 1 + 1 + 1 + 1 + 1 + 1 + 1, 0, none⟩) 1 1, .slice (some ⟨w.heap.size + 1 + 1 + 1 + 1 + 1 + 1 + 1 + 1 + 1 + 1 + 1 + 1, 0, none⟩) 1 1, .slice none 0 0] 34)) (w.heap.size + 1 + 1 + 1 + 1 + 1 + 1 + 1 + 1 + 1 + 1 + 1 + 1) 52 #[.int .i64 0, .int .i64 0, .int .i64 0, .int .i64 0] := ((Blk.new' _ _ _ (by simp)).alloc _).alloc _
  have b13 : Blk (((((((((((((((w.alloc (.cells #[.int .i64 2, .int .i64 3, .int .i64 10, .int .i64 20] 52)).alloc (.cells #[.string ⟨#[98]⟩] 9)).alloc (.cells #[.int .i64 1, .int .i64 2] 3)).alloc (.cells #[.int .i64 2, .int .i64 3, .int .i64 10, .int .i64 20, .int .i64 2, .int .i64 3, .int .i64 10, .int .i64 20] 52)).alloc (.cells #[.int .i64 1, .string ⟨#[97, 47, 2, 0, 0]⟩, .string ⟨#[49, 50, 51, 52, 53]⟩, .string ⟨#[]⟩, .string ⟨#[]⟩, .string ⟨#[]⟩, .string ⟨#[]⟩, .int .i64 0] 46)).alloc (.cells #[.slice none 0 0, .slice (some ⟨w.heap.size + 1, 0, none⟩) 1 1, .slice (some ⟨w.heap.size + 1 + 1, 0, none⟩) 2 2, .slice (some ⟨w.heap.size + 1 + 1 + 1, 0, none⟩) 2 2, .slice (some ⟨w.heap.size + 1 + 1 + 1 + 1, 0, none⟩) 1 1] 34)).alloc (.cells #[.string ⟨#[107]⟩, .string ⟨#[118]⟩, .int .i64 258] 48)).alloc (.cells #[.slice (some ⟨w.heap.size + 1 + 1 + 1 + 1 + 1 + 1, 0, none⟩) 1 1, .slice none 0 0, .slice none 0 0, .slice none 0 0, .slice none 0 0] 34)).alloc (.cells #[.int .i64 4095] 3)).alloc (.cells #[.int .i64 0, .int .i64 0, .int .i64 0, .int .i64 0] 52)).alloc (.cells #[.slice none 0 0, .slice none 0 0, .slice (some ⟨w.heap.size + 1 + 1 + 1 + 1 + 1 + 1 + 1 + 1, 0, none⟩) 1 1, .slice (some ⟨w.heap.size + 1 + 1 + 1 + 1 + 1 + 1 + 1 + 1 + 1, 0, none⟩) 1 1, .slice none 0 0] 34)).alloc (.cells #[.int .i64 1] 3)).alloc (.cells #[.int .i64 0, .int .i64 0, .int .i64 0, .int .i64 0] 52)).alloc (.cells #[.string ⟨#[98]⟩] 9)).alloc (.cells #[.slice none 0 0, .slice (some ⟨w.heap.size + 1 + 1 + 1 + 1 + 1 + 1 + 1 + 1 + 1 + 1 + 1 + 1 + 1, 0, none⟩) 1 1, .slice (some ⟨w.heap.size + 1 + 1 + 1 + 1 + 1 + 1 + 1 + 1 + 1 + 1 + 1, 0, none⟩) 1 1, .slice (some ⟨w.heap.size + 1 + 1 + 1 + 1 + 1 + 1 + 1 + 1 + 1 + 1 + 1 + 1, 0, none⟩) 1 1, .slice none 0 0] 34)) (w.heap.size + 1 + 1 + 1 + 1 + 1 + 1 + 1 + 1 + 1 + 1 + 1 + 1 + 1) 9 #[.string ⟨#[98]⟩] := (Blk.new' _ _ _ (by simp)).alloc _
  have b14 : Blk (((((((((((((((w.alloc (.cells #[.int .i64 2, .int .i64 3, .int .i64 10, .int .i64 20] 52)).alloc (.cells #[.string ⟨#[98]⟩] 9)).alloc (.cells #[.int .i64 1, .int .i64 2] 3)).alloc (.cells #[.int .i64 2, .int .i64 3, .int .i64 10, .int .i64 20, .int .i64 2, .int .i64 3, .int .i64 10, .int .i64 20] 52)).alloc (.cells #[.int .i64 1, .string ⟨#[97, 47, 2, 0, 0]⟩, .string ⟨#[49, 50, 51, 52, 53]⟩, .string ⟨#[]⟩, .string ⟨#[]⟩, .string ⟨#[]⟩, .string ⟨#[]⟩, .int .i64 0] 46)).alloc (.cells #[.slice none 0 0, .slice (some ⟨w.heap.size + 1, 0, none⟩) 1 1, .slice (some ⟨w.heap.size + 1 + 1, 0, none⟩) 2 2, .slice (some ⟨w.heap.size + 1 + 1 + 1, 0, none⟩) 2 2, .slice (some ⟨w.heap.size + 1 + 1 + 1 + 1, 0, none⟩) 1 1] 34)).alloc (.cells #[.string ⟨#[107]⟩, .string ⟨#[118]⟩, .int .i64 258] 48)).alloc (.cells #[.slice (some ⟨w.heap.size + 1 + 1 + 1 + 1 + 1 + 1, 0, none⟩) 1 1, .slice none 0 0, .slice none 0 0, .slice none 0 0, .slice none 0 0] 34)).alloc (.cells #[.int .i64 4095] 3)).alloc (.cells #[.int .i64 0, .int .i64 0, .int .i64 0, .int .i64 0] 52)).alloc (.cells #[.slice none 0 0, .slice none 0 0, .slice (some ⟨w.heap.size + 1 + 1 + 1 + 1 + 1 + 1 + 1 + 1, 0, none⟩) 1 1, .slice (some ⟨w.heap.size + 1 + 1 + 1 + 1 + 1 + 1 + 1 + 1 + 1, 0, none⟩) 1 1, .slice none 0 0] 34)).alloc (.cells #[.int .i64 1] 3)).alloc (.cells #[.int .i64 0, .int .i64 0, .int .i64 0, .int .i64 0] 52)).alloc (.cells #[.string ⟨#[98]⟩] 9)).alloc (.cells #[.slice none 0 0, .slice (some ⟨w.heap.size + 1 + 1 + 1 + 1 + 1 + 1 + 1 + 1 + 1 + 1 + 1 + 1 + 1, 0, none⟩) 1 1, .slice (some ⟨w.heap.size + 1 + 1 + 1 + 1 + 1 + 1 + 1 + 1 + 1 + 1 + 1, 0, none⟩) 1 1, .slice (some ⟨w.heap.size + 1 + 1 + 1 + 1 + 1 + 1 + 1 + 1 + 1 + 1 + 1 + 1, 0, none⟩) 1 1, .slice none 0 0] 34)) (w.heap.size + 1 + 1 + 1 + 1 + 1 + 1 + 1 + 1 + 1 + 1 + 1 + 1 + 1 + 1) 34 #[.slice none 0 0, .slice (some ⟨w.heap.size + 1 + 1 + 1 + 1 + 1 + 1 + 1 + 1 + 1 + 1 + 1 + 1 + 1, 0, none⟩) 1 1, .slice (some ⟨w.heap.size + 1 + 1 + 1 + 1 + 1 + 1 + 1 + 1 + 1 + 1 + 1, 0, none⟩) 1 1, .slice (some ⟨w.heap.size + 1 + 1 + 1 + 1 + 1 + 1 + 1 + 1 + 1 + 1 + 1 + 1, 0, none⟩) 1 1, .slice none 0 0] := Blk.new' _ _ _ (by simp)
  have hg : Below w.heap.size w (((((((((((((((w.alloc (.cells #[.int .i64 2, .int .i64 3, .int .i64 10, .int .i64 20] 52)).alloc (.cells #[.string ⟨#[98]⟩] 9)).alloc (.cells #[.int .i64 1, .int .i64 2] 3)).alloc (.cells #[.int .i64 2, .int .i64 3, .int .i64 10, .int .i64 20, .int .i64 2, .int .i64 3, .int .i64 10, .int .i64 20] 52)).alloc (.cells #[.int .i64 1, .string ⟨#[97, 47, 2, 0, 0]⟩, .string ⟨#[49, 50, 51, 52, 53]⟩, .string ⟨#[]⟩, .string ⟨#[]⟩, .string ⟨#[]⟩, .string ⟨#[]⟩, .int .i64 0] 46)).alloc (.cells #[.slice none 0 0, .slice (some ⟨w.heap.size + 1, 0, none⟩) 1 1, .slice (some ⟨w.heap.size + 1 + 1, 0, none⟩) 2 2, .slice (some ⟨w.heap.size + 1 + 1 + 1, 0, none⟩) 2 2, .slice (some ⟨w.heap.size + 1 + 1 + 1 + 1, 0, none⟩) 1 1] 34)).alloc (.cells #[.string ⟨#[107]⟩, .string ⟨#[118]⟩, .int .i64 258] 48)).alloc (.cells #[.slice (some ⟨w.heap.size + 1 + 1 + 1 + 1 + 1 + 1, 0, none⟩) 1 1, .slice none 0 0, .slice none 0 0, .slice none 0 0, .slice none 0 0] 34)).alloc (.cells #[.int .i64 4095] 3)).alloc (.cells #[.int .i64 0, .int .i64 0, .int .i64 0, .int .i64 0] 52)).alloc (.cells #[.slice none 0 0, .slice none 0 0, .slice (some ⟨w.heap.size + 1 + 1 + 1 + 1 + 1 + 1 + 1 + 1, 0, none⟩) 1 1, .slice (some ⟨w.heap.size + 1 + 1 + 1 + 1 + 1 + 1 + 1 + 1 + 1, 0, none⟩) 1 1, .slice none 0 0] 34)).alloc (.cells #[.int .i64 1] 3)).alloc (.cells #[.int .i64 0, .int .i64 0, .int .i64 0, .int .i64 0] 52)).alloc (.cells #[.string ⟨#[98]⟩] 9)).alloc (.cells #[.slice none 0 0, .slice (some ⟨w.heap.size + 1 + 1 + 1 + 1 + 1 + 1 + 1 + 1 + 1 + 1 + 1 + 1 + 1, 0, none⟩) 1 1, .slice (some ⟨w.heap.size + 1 + 1 + 1 + 1 + 1 + 1 + 1 + 1 + 1 + 1 + 1, 0, none⟩) 1 1, .slice (some ⟨w.heap.size + 1 + 1 + 1 + 1 + 1 + 1 + 1 + 1 + 1 + 1 + 1 + 1, 0, none⟩) 1 1, .slice none 0 0] 34)) := (((((((((((((((Below.refl w.heap.size w).alloc (by simp; try omega) _).alloc (by simp; try omega) _).alloc (by simp; try omega) _).alloc (by simp; try omega) _).alloc (by simp; try omega) _).alloc (by simp; try omega) _).alloc (by simp; try omega) _).alloc (by simp; try omega) _).alloc (by simp; try omega) _).alloc (by simp; try omega) _).alloc (by simp; try omega) _).alloc (by simp; try omega) _).alloc (by simp; try omega) _).alloc (by simp; try omega) _).alloc (by simp; try omega) _
  have a1 := strs_of (l := [[98]]) b1 (by decide)
  have a2 := ints_of (l := [1, 2]) b2 (by decide)
  have a3 := sums_of (l := [oneN, oneN]) b3 (by decide)
  have a4 := msg_of (m := putN) b4
  have a6 := pairs_of (l := [pairN]) b6 (by decide) (by unfold maxLen; intro x hx; simp [pairN] at hx; subst hx; simp)
  have a8 := ints_of (l := [4095]) b8 (by decide)
  have a9 := sums_of (l := [zeroN]) b9 (by decide)
  have a11 := ints_of (l := [1]) b11 (by decide)
  have a12 := sums_of (l := [zeroN]) b12 (by decide)
  have a13 := strs_of (l := [[98]]) b13 (by decide)
  exact ⟨b5, b7, b10, b14, a1, a2, a3, a4, a6, a8, a9, a11, a12, a13, hg⟩
theorem SanN.node_n {w wx : World} (h : SanN w wx) : IsNode wx (.agg #[.slice none 0 0, .slice (some ⟨w.heap.size + 1, 0, none⟩) 1 1, .slice (some ⟨w.heap.size + 1 + 1, 0, none⟩) 2 2, .slice (some ⟨w.heap.size + 1 + 1 + 1, 0, none⟩) 2 2, .slice (some ⟨w.heap.size + 1 + 1 + 1 + 1, 0, none⟩) 1 1]) nN := ⟨_, _, _, _, _, rfl, nil_pairs wx, h.a1, h.a2, h.a3, h.a4⟩
theorem SanN.node_l {w wx : World} (h : SanN w wx) : IsNode wx (.agg #[.slice (some ⟨w.heap.size + 1 + 1 + 1 + 1 + 1 + 1, 0, none⟩) 1 1, .slice none 0 0, .slice none 0 0, .slice none 0 0, .slice none 0 0]) lN := ⟨_, _, _, _, _, rfl, h.a6, nil_strs wx, nil_ints wx, nil_sums wx, nil_msgs wx⟩
theorem SanN.node_s {w wx : World} (h : SanN w wx) : IsNode wx (.agg #[.slice none 0 0, .slice none 0 0, .slice (some ⟨w.heap.size + 1 + 1 + 1 + 1 + 1 + 1 + 1 + 1, 0, none⟩) 1 1, .slice (some ⟨w.heap.size + 1 + 1 + 1 + 1 + 1 + 1 + 1 + 1 + 1, 0, none⟩) 1 1, .slice none 0 0]) sN := ⟨_, _, _, _, _, rfl, nil_pairs wx, nil_strs wx, h.a8, h.a9, nil_msgs wx⟩
theorem SanN.node_o {w wx : World} (h : SanN w wx) : IsNode wx (.agg #[.slice none 0 0, .slice (some ⟨w.heap.size + 1 + 1 + 1 + 1 + 1 + 1 + 1 + 1 + 1 + 1 + 1 + 1 + 1, 0, none⟩) 1 1, .slice (some ⟨w.heap.size + 1 + 1 + 1 + 1 + 1 + 1 + 1 + 1 + 1 + 1 + 1, 0, none⟩) 1 1, .slice (some ⟨w.heap.size + 1 + 1 + 1 + 1 + 1 + 1 + 1 + 1 + 1 + 1 + 1 + 1, 0, none⟩) 1 1, .slice none 0 0]) oN := ⟨_, _, _, _, _, rfl, nil_pairs wx, h.a13, h.a11, h.a12, nil_msgs wx⟩

theorem putN_ch : MsgCh putN := ch_put _ _ _ _ _ _ _ (by decide) (by decide)
theorem lN_small : SmallN lN := by unfold SmallN; decide
theorem oN_small : SmallN oN := by unfold SmallN; decide
theorem noNd_small : SmallN noNd := by unfold SmallN; decide
theorem oneN_ok : okS oneN := ⟨⟨⟨by decide, by decide⟩, by decide, by decide⟩, ⟨by decide, by decide⟩, by decide, by decide⟩

theorem q_parse0 (w : World) : Calls Tryz.prog 20 #[.slice none 0 0] w fun e w' => ∃ p1 c1 p2 c2 p3 c3 p4 c4 p5 c5, e = .returned (.tuple #[.agg #[.slice p1 0 c1, .slice p2 0 c2, .slice p3 0 c3, .slice p4 0 c4, .slice p5 0 c5], .int .i64 100]) ∧ Below w.heap.size w w' :=
  (nparse_w _ [] w (IsBytes.nil w)).mono fun e w' ⟨v', h1, ⟨p1, c1, p2, c2, p3, c3, p4, c4, p5, c5, h2, h3⟩, h4⟩ => by
    rw [show parseN [] = none from by kernel_rfl] at h1 h2
    subst h2
    exact ⟨p1, c1, p2, c2, p3, c3, p4, c4, p5, c5, h1, h4⟩
theorem q_parse1 (v : Value) (w : World) (h : IsBytes w v [76, 0, 0, 0, 0]) : Calls Tryz.prog 20 #[v] w fun e w' => ∃ p1 c1 p2 c2 p3 c3 p4 c4 p5 c5, e = .returned (.tuple #[.agg #[.slice p1 0 c1, .slice p2 0 c2, .slice p3 0 c3, .slice p4 0 c4, .slice p5 0 c5], .int .i64 0]) ∧ IsNode w' (.agg #[.slice p1 0 c1, .slice p2 0 c2, .slice p3 0 c3, .slice p4 0 c4, .slice p5 0 c5]) noNd ∧ Below w.heap.size w w' :=
  (nparse_w _ _ w h).mono fun e w' ⟨v', h1, ⟨p1, c1, p2, c2, p3, c3, p4, c4, p5, c5, h2, h3⟩, h4⟩ => by
    rw [show parseN [76, 0, 0, 0, 0] = some noNd from by kernel_rfl] at h1 h2 h3
    subst h2
    exact ⟨p1, c1, p2, c2, p3, c3, p4, c4, p5, c5, h1, h3.node.is, h4⟩
theorem q_bytes (v : Value) (n : Nd) (l : Bs) (w : World) (h : IsNode w v n) (hz : SmallN n) (hl : bytesNd n = l) : Calls Tryz.prog 19 #[v] w fun e w' => ∃ p c, e = .returned (.slice p l.length c) ∧ IsBytes w' (.slice p l.length c) l ∧ Below w.heap.size w w' :=
  (nbytes_w v n w h hz).mono fun e w' ⟨v', h1, h2, h3⟩ => by
    rw [hl] at h2
    have h4 := h2.is
    obtain ⟨p, c, rfl, -⟩ := id h4
    exact ⟨p, c, h1, h4, h3⟩
theorem q_same (v u : Value) (w : World) (h : IsNode w v noNd) (k : IsNode w u noNd) : Calls Tryz.prog 21 #[v, u] w fun e w' => e = .returned (.bool true) ∧ Below w.heap.size w w' :=
  (rsame10_w v u noNd noNd w h k).mono fun e w' ⟨h1, h2⟩ => ⟨h1.trans (by rw [(sameN_iff noNd noNd).2 rfl]), h2.below (Nat.le_refl _)⟩
theorem q_sb (v u : Value) (l : Bs) (w : World) (h : IsBytes w v l) (k : IsBytes w u l) : Calls Tryz.prog 22 #[v, u] w fun e w' => e = .returned (.bool true) ∧ w = w' :=
  (samebytes_w v u l l w h k).mono fun e w' ⟨h1, h2⟩ => ⟨h1.trans (by rw [decide_eq_true rfl]), h2⟩
theorem q_valid (v : Value) (n : Nd) (a b : Bs) (r : Bool) (w : World) (h : IsNode w v n) (hl : n.pairs.length ≤ 1000) (hr : validN n (a, b) = r) : Calls Tryz.prog 17 #[v, .agg #[.string (Str a), .string (Str b)]] w fun e w' => e = .returned (.bool r) ∧ Below w.heap.size w w' :=
  (nvalid_w v n (a, b) w h (by omega)).mono fun e w' ⟨h1, h2⟩ => ⟨h1.trans (by rw [hr]), h2.below (Nat.le_refl _)⟩
theorem q_sum (v : Value) (w : World) (h : IsNode w v nN) : Calls Tryz.prog 24 #[v] w fun e w' => e = .returned (.agg #[.int .i64 4, .int .i64 6, .int .i64 0, .int .i64 45]) ∧ Below w.heap.size w w' :=
  (sumInner_w v nN w h (by decide) (by intro s hs; simp [nN] at hs; subst hs; exact oneN_ok) (by intro m hm; simp [nN] at hm; subst hm; exact putN_ch)).mono fun e w' ⟨h1, h2⟩ => ⟨h1.trans (by rw [show sumS nN = ((4, 6), (0, 45)) from by decide +kernel]), h2⟩
theorem q_over (v : Value) (a : Int) (r : Bool) (w : World) (h : IsNode w v lN) (hr : decide (a < 1) = r) : Calls Tryz.prog 57 #[v, .agg #[.int .i64 a, .int .i64 0, .int .i64 0]] w fun e w' => e = .returned (.bool r) ∧ Below w.heap.size w w' :=
  (over_w v lN a 0 0 w h).mono fun e w' ⟨h1, h2⟩ => ⟨h1.trans (by rw [if_pos (by decide), ← hr]; rfl), h2.below (Nat.le_refl _)⟩
theorem q_spans (v : Value) (n : Nd) (l : List Sp) (w : World) (h : IsNode w v n) (hl : n.pivots.length ≤ 1000) (hr : (if n.kids = [] then [] else partsF ([], []) [] n.pivots) = l) : Calls Tryz.prog 33 #[v, .agg #[.string ⟨#[]⟩, .string ⟨#[]⟩]] w fun e w' => ∃ p c, e = .returned (.slice p l.length c) ∧ IsSpans w' (.slice p l.length c) l ∧ Below w.heap.size w w' :=
  (nspans_w v n ([], []) w h hl).mono fun e w' ⟨v', h1, h2, h3⟩ => by
    rw [hr] at h2
    have h4 := IsSpans.owned h2
    obtain ⟨p, c, rfl, -⟩ := id h4
    exact ⟨p, c, h1, h4, h3⟩
theorem q_ssame (v u : Value) (l : List Sp) (w : World) (h : IsSpans w v l) (k : IsSpans w u l) : Calls Tryz.prog 58 #[v, u] w fun e w' => e = .returned (.bool true) ∧ Below w.heap.size w w' :=
  (spsame_w v u l l w h k).mono fun e w' ⟨h1, h2⟩ => ⟨h1.trans (by rw [decide_eq_true rfl]), h2.below (Nat.le_refl _)⟩
theorem q_check (v : Value) (l : Bs) (c : Int) (w : World) (h : IsBytes w v l) (hc : ((checkN l : Nat) : Int) = c) : Calls Tryz.prog 35 #[v] w fun e w' => e = .returned (.int .u64 c) ∧ w = w' :=
  (check_w v l w h).mono fun e w' ⟨h1, h2⟩ => ⟨h1.trans (by rw [hc]), h2⟩
theorem nil_isNode (w : World) : IsNode w (.agg #[.slice none 0 0, .slice none 0 0, .slice none 0 0, .slice none 0 0, .slice none 0 0]) noNd := nil_node w

set_option maxRecDepth 100000 in
set_option maxHeartbeats 8000000 in
theorem nsan_w (w : World) : Calls Tryz.prog 12 #[] w fun e w' => e = .returned (.bool true) ∧ Below w.heap.size w w' := by
  have mixed := mixedA
  obtain ⟨W0, hW0⟩ : ∃ W0, W0 = (((((((((((((((w.alloc (.cells #[.int .i64 2, .int .i64 3, .int .i64 10, .int .i64 20] 52)).alloc (.cells #[.string ⟨#[98]⟩] 9)).alloc (.cells #[.int .i64 1, .int .i64 2] 3)).alloc (.cells #[.int .i64 2, .int .i64 3, .int .i64 10, .int .i64 20, .int .i64 2, .int .i64 3, .int .i64 10, .int .i64 20] 52)).alloc (.cells #[.int .i64 1, .string ⟨#[97, 47, 2, 0, 0]⟩, .string ⟨#[49, 50, 51, 52, 53]⟩, .string ⟨#[]⟩, .string ⟨#[]⟩, .string ⟨#[]⟩, .string ⟨#[]⟩, .int .i64 0] 46)).alloc (.cells #[.slice none 0 0, .slice (some ⟨w.heap.size + 1, 0, none⟩) 1 1, .slice (some ⟨w.heap.size + 1 + 1, 0, none⟩) 2 2, .slice (some ⟨w.heap.size + 1 + 1 + 1, 0, none⟩) 2 2, .slice (some ⟨w.heap.size + 1 + 1 + 1 + 1, 0, none⟩) 1 1] 34)).alloc (.cells #[.string ⟨#[107]⟩, .string ⟨#[118]⟩, .int .i64 258] 48)).alloc (.cells #[.slice (some ⟨w.heap.size + 1 + 1 + 1 + 1 + 1 + 1, 0, none⟩) 1 1, .slice none 0 0, .slice none 0 0, .slice none 0 0, .slice none 0 0] 34)).alloc (.cells #[.int .i64 4095] 3)).alloc (.cells #[.int .i64 0, .int .i64 0, .int .i64 0, .int .i64 0] 52)).alloc (.cells #[.slice none 0 0, .slice none 0 0, .slice (some ⟨w.heap.size + 1 + 1 + 1 + 1 + 1 + 1 + 1 + 1, 0, none⟩) 1 1, .slice (some ⟨w.heap.size + 1 + 1 + 1 + 1 + 1 + 1 + 1 + 1 + 1, 0, none⟩) 1 1, .slice none 0 0] 34)).alloc (.cells #[.int .i64 1] 3)).alloc (.cells #[.int .i64 0, .int .i64 0, .int .i64 0, .int .i64 0] 52)).alloc (.cells #[.string ⟨#[98]⟩] 9)).alloc (.cells #[.slice none 0 0, .slice (some ⟨w.heap.size + 1 + 1 + 1 + 1 + 1 + 1 + 1 + 1 + 1 + 1 + 1 + 1 + 1, 0, none⟩) 1 1, .slice (some ⟨w.heap.size + 1 + 1 + 1 + 1 + 1 + 1 + 1 + 1 + 1 + 1 + 1, 0, none⟩) 1 1, .slice (some ⟨w.heap.size + 1 + 1 + 1 + 1 + 1 + 1 + 1 + 1 + 1 + 1 + 1 + 1, 0, none⟩) 1 1, .slice none 0 0] 34)) := ⟨_, rfl⟩
  have HX0 := Lib.hid (show SanN w W0 by rw [hW0]; exact SanN.start w)
  have HW0 := Lib.hid hW0
  clear hW0
  go_enter Tryz.func12, Tryz.ntmps12
  go_wp2_with fail
  rw [← HW0.out]
  refine (q_parse0 _).mono ?_
  rintro e w1 ⟨p1, c1, p2, c2, p3, c3, p4, c4, p5, c5, rfl, hb⟩
  have HX1 := Lib.hid (HX0.out.below hb)
  clear HX0 HW0 hb
  have HX1a := Lib.hid (HX1.out.below (below_box (.cells #[.slice p1 0 c1, .slice p2 0 c2, .slice p3 0 c3, .slice p4 0 c4, .slice p5 0 c5] 34)))
  go_wp2_with fail
  have hby := bytes_of (w1.alloc (.cells #[.slice p1 0 c1, .slice p2 0 c2, .slice p3 0 c3, .slice p4 0 c4, .slice p5 0 c5] 34)) [76, 0, 0, 0, 0] (n := w1.heap.size + 1) (by simp) (by decide)
  refine (q_parse1 _ _ hby).mono ?_
  clear hby
  rintro e w2 ⟨q1, d1, q2, d2, q3, d3, q4, d4, q5, d5, rfl, hm, hb⟩
  have HX2 := Lib.hid (((HX1a.out.below (below_box _)).below hb).below (below_box (.cells #[.slice q1 0 d1, .slice q2 0 d2, .slice q3 0 d3, .slice q4 0 d4, .slice q5 0 d5] 34)))
  have HM2 := Lib.hid (hm.below (below_box (.cells #[.slice q1 0 d1, .slice q2 0 d2, .slice q3 0 d3, .slice q4 0 d4, .slice q5 0 d5] 34)))
  have HMB2 : Hid (Blk (w2.alloc (.cells #[.slice q1 0 d1, .slice q2 0 d2, .slice q3 0 d3, .slice q4 0 d4, .slice q5 0 d5] 34)) w2.heap.size 34 #[.slice q1 0 d1, .slice q2 0 d2, .slice q3 0 d3, .slice q4 0 d4, .slice q5 0 d5]) := Lib.hid (Blk.new _ _ _)
  clear hb hm HX1 HX1a
  go_wp2_with fail
  refine (q_bytes _ noNd [76, 0, 0, 0, 0] _ (nil_isNode _) noNd_small (by kernel_rfl)).mono ?_
  rintro e w3 ⟨r1, s1, rfl, hby, hb⟩
  have HX3 := Lib.hid (HX2.out.below hb)
  have HM3 := Lib.hid (HM2.out.below hb)
  have HMB3 := Lib.hid (HMB2.out.below hb HMB2.out.lt)
  clear hb HX2 HM2 HMB2
  have HBY := Lib.hid hby
  clear hby
  go_wp2_with fail
  refine (q_sb _ _ [76, 0, 0, 0, 0] _ (HBY.out.below (below_box _)) (bytes_of w3 [76, 0, 0, 0, 0] (n := w3.heap.size) rfl (by decide))).mono ?_
  rintro e w4 ⟨rfl, rfl⟩
  have HX4 := Lib.hid (HX3.out.below (below_box (.cells #[.int .u8 76, .int .u8 0, .int .u8 0, .int .u8 0, .int .u8 0] 5)))
  have HM4 := Lib.hid (HM3.out.below (below_box (.cells #[.int .u8 76, .int .u8 0, .int .u8 0, .int .u8 0, .int .u8 0] 5)))
  have HMB4 := Lib.hid (HMB3.out.alloc (.cells #[.int .u8 76, .int .u8 0, .int .u8 0, .int .u8 0, .int .u8 0] 5))
  clear HX3 HM3 HMB3
  obtain ⟨x0, x1, x2, x3, x4, -, -, -, -, -⟩ := five_ok HX4.out.l
  go_wp2_with fail
  refine (q_bytes _ lN [76, 0, 0, 0, 1, 0, 1, 107, 0, 1, 118, 0, 0, 1, 2] _ HX4.out.node_l lN_small (by decide +kernel)).mono ?_
  rintro e w5 ⟨r2, s2, rfl, hby, hb⟩
  clear x0 x1 x2 x3 x4
  have HX5 := Lib.hid (HX4.out.below hb)
  have HM5 := Lib.hid (HM4.out.below hb)
  have HMB5 := Lib.hid (HMB4.out.below hb HMB4.out.lt)
  clear hb HX4 HM4 HMB4
  have HBY2 := Lib.hid hby
  clear hby HBY
  go_wp2_with fail
  refine (q_sb _ _ [76, 0, 0, 0, 1, 0, 1, 107, 0, 1, 118, 0, 0, 1, 2] _ (HBY2.out.below (below_box _)) (bytes_of w5 [76, 0, 0, 0, 1, 0, 1, 107, 0, 1, 118, 0, 0, 1, 2] (n := w5.heap.size) rfl (by decide))).mono ?_
  rintro e w6 ⟨rfl, rfl⟩
  have HX6 := Lib.hid (HX5.out.below (below_box (.cells #[.int .u8 76, .int .u8 0, .int .u8 0, .int .u8 0, .int .u8 1, .int .u8 0, .int .u8 1, .int .u8 107, .int .u8 0, .int .u8 1, .int .u8 118, .int .u8 0, .int .u8 0, .int .u8 1, .int .u8 2] 5)))
  have HM6 := Lib.hid (HM5.out.below (below_box (.cells #[.int .u8 76, .int .u8 0, .int .u8 0, .int .u8 0, .int .u8 1, .int .u8 0, .int .u8 1, .int .u8 107, .int .u8 0, .int .u8 1, .int .u8 118, .int .u8 0, .int .u8 0, .int .u8 1, .int .u8 2] 5)))
  have HMB6 := Lib.hid (HMB5.out.alloc (.cells #[.int .u8 76, .int .u8 0, .int .u8 0, .int .u8 0, .int .u8 1, .int .u8 0, .int .u8 1, .int .u8 107, .int .u8 0, .int .u8 1, .int .u8 118, .int .u8 0, .int .u8 0, .int .u8 1, .int .u8 2] 5))
  clear HX5 HM5 HMB5
  obtain ⟨x0, x1, x2, x3, x4, -, -, -, -, -⟩ := five_ok HX6.out.o
  go_wp2_with fail
  refine (q_bytes _ oN [] _ HX6.out.node_o oN_small (by decide +kernel)).mono ?_
  rintro e w7 ⟨r3, s3, rfl, hby, hb⟩
  clear x0 x1 x2 x3 x4
  have HX7 := Lib.hid (HX6.out.below hb)
  have HM7 := Lib.hid (HM6.out.below hb)
  have HMB7 := Lib.hid (HMB6.out.below hb HMB6.out.lt)
  clear hb HX6 HM6 HMB6
  clear hby HBY2
  obtain ⟨x0, x1, x2, x3, x4, -, -, -, -, -⟩ := five_ok HMB7.out
  go_wp2_with fail
  refine (q_same _ _ _ HM7.out (nil_isNode _)).mono ?_
  rintro e w8 ⟨rfl, hb⟩
  clear x0 x1 x2 x3 x4
  have HX8 := Lib.hid (HX7.out.below hb)
  clear hb HX7 HM7 HMB7
  obtain ⟨x0, x1, x2, x3, x4, -, -, -, -, -⟩ := five_ok HX8.out.s
  go_wp2_with fail
  refine (q_valid _ sN [] [] true _ HX8.out.node_s (by decide) (by decide +kernel)).mono ?_
  rintro e w9 ⟨rfl, hb⟩
  clear x0 x1 x2 x3 x4
  have HX9 := Lib.hid (HX8.out.below hb)
  clear hb HX8
  obtain ⟨x0, x1, x2, x3, x4, -, -, -, -, -⟩ := five_ok HX9.out.o
  go_wp2_with fail
  refine (q_valid _ oN [] [] false _ HX9.out.node_o (by decide) (by decide +kernel)).mono ?_
  rintro e w10 ⟨rfl, hb⟩
  clear x0 x1 x2 x3 x4
  have HX10 := Lib.hid (HX9.out.below hb)
  clear hb HX9
  obtain ⟨x0, x1, x2, x3, x4, -, -, -, -, -⟩ := five_ok HX10.out.n
  go_wp2_with fail
  refine (q_valid _ nN [] [] true _ HX10.out.node_n (by decide) (by decide +kernel)).mono ?_
  rintro e w11 ⟨rfl, hb⟩
  clear x0 x1 x2 x3 x4
  have HX11 := Lib.hid (HX10.out.below hb)
  clear hb HX10
  obtain ⟨x0, x1, x2, x3, x4, -, -, -, -, -⟩ := five_ok HX11.out.n
  go_wp2_with fail
  refine (q_valid _ nN [98] [] false _ HX11.out.node_n (by decide) (by decide +kernel)).mono ?_
  rintro e w12 ⟨rfl, hb⟩
  clear x0 x1 x2 x3 x4
  have HX12 := Lib.hid (HX11.out.below hb)
  clear hb HX11
  obtain ⟨x0, x1, x2, x3, x4, -, -, -, -, -⟩ := five_ok HX12.out.l
  go_wp2_with fail
  refine (q_valid _ lN [107] [] true _ HX12.out.node_l (by decide) (by decide +kernel)).mono ?_
  rintro e w13 ⟨rfl, hb⟩
  clear x0 x1 x2 x3 x4
  have HX13 := Lib.hid (HX12.out.below hb)
  clear hb HX12
  obtain ⟨x0, x1, x2, x3, x4, -, -, -, -, -⟩ := five_ok HX13.out.l
  go_wp2_with fail
  refine (q_valid _ lN [] [107] false _ HX13.out.node_l (by decide) (by decide +kernel)).mono ?_
  rintro e w14 ⟨rfl, hb⟩
  clear x0 x1 x2 x3 x4
  have HX14 := Lib.hid (HX13.out.below hb)
  clear hb HX13
  obtain ⟨x0, x1, x2, x3, x4, -, -, -, -, -⟩ := five_ok HX14.out.n
  have heq : ∀ wx, (binOp .eql 52 (.agg #[.int .i64 4, .int .i64 6, .int .i64 0, .int .i64 45]) (.agg #[.int .i64 4, .int .i64 6, .int .i64 0, .int .i64 45])).run Tryz.prog wx = .ok (.bool true) wx := fun wx => eql_sum ((4, 6), (0, 45)) ((4, 6), (0, 45)) wx
  have hgd : ∀ x y wx, (eqGuard .eql 52 x y (.agg #[.int .i64 4, .int .i64 6, .int .i64 0, .int .i64 45]) (.agg #[.int .i64 4, .int .i64 6, .int .i64 0, .int .i64 45])).run Tryz.prog wx = .ok () wx := fun x y wx => guard_sum .eql x y _ _ wx
  go_wp2_with fail
  refine (q_sum _ _ HX14.out.node_n).mono ?_
  rintro e w15 ⟨rfl, hb⟩
  clear x0 x1 x2 x3 x4
  have HX15 := Lib.hid (HX14.out.below hb)
  clear hb HX14
  obtain ⟨k1, hk1⟩ : ∃ k1 : Int, k1 = 14695981039346656037 := ⟨_, rfl⟩
  have hq1 : (k1 == 14695981039346656037) = true := by rw [hk1]; rfl
  have HK1 := Lib.hid hk1
  obtain ⟨k2, hk2⟩ : ∃ k2 : Int, k2 = 12638187200555641996 := ⟨_, rfl⟩
  have hq2 : (k2 == 12638187200555641996) = true := by rw [hk2]; rfl
  have HK2 := Lib.hid hk2
  clear hk1 hk2
  go_wp2_with fail
  refine (q_check _ [] k1 _ (IsBytes.nil _) (by rw [HK1.out]; kernel_rfl)).mono ?_
  rintro e w16 ⟨rfl, rfl⟩
  go_wp2_with fail
  refine (q_check _ [97] k2 _ (bytes_of w15 [97] (n := w15.heap.size) rfl (by decide)) (by rw [HK2.out]; kernel_rfl)).mono ?_
  rintro e w17 ⟨rfl, rfl⟩
  have HXc := Lib.hid (HX15.out.below (below_box (.cells #[.int .u8 97] 5)))
  clear HX15 heq hgd
  obtain ⟨x0, x1, x2, x3, x4, -, -, -, -, -⟩ := five_ok HXc.out.l
  go_wp2_with fail
  refine (q_over _ 0 true _ HXc.out.node_l (by decide)).mono ?_
  rintro e w18 ⟨rfl, hb⟩
  clear x0 x1 x2 x3 x4
  have HX18 := Lib.hid (HXc.out.below hb)
  clear hb HXc
  obtain ⟨x0, x1, x2, x3, x4, -, -, -, -, -⟩ := five_ok HX18.out.l
  go_wp2_with fail
  refine (q_over _ 1 false _ HX18.out.node_l (by decide)).mono ?_
  rintro e w19 ⟨rfl, hb⟩
  clear x0 x1 x2 x3 x4
  have HX19 := Lib.hid (HX18.out.below hb)
  clear hb HX18
  obtain ⟨x0, x1, x2, x3, x4, -, -, -, -, -⟩ := five_ok HX19.out.n
  go_wp2_with fail
  refine (q_spans _ nN [([], [98]), ([98], [])] _ HX19.out.node_n (by decide) (by decide +kernel)).mono ?_
  rintro e w20 ⟨r5, s5, rfl, hsp, hb⟩
  clear x0 x1 x2 x3 x4
  have HX20 := Lib.hid (HX19.out.below hb)
  have HSP := Lib.hid hsp
  clear hb hsp HX19
  go_wp2_with fail
  refine (q_ssame _ _ [([], [98]), ([98], [])] _ (HSP.out.below (below_box _)) (spans_of ([], [98]) ([98], []) (Blk.new w20 41 _))).mono ?_
  rintro e w21 ⟨rfl, hb⟩
  have HX21 := Lib.hid ((HX20.out.below (below_box (.cells #[.string ⟨#[]⟩, .string ⟨#[98]⟩, .string ⟨#[98]⟩, .string ⟨#[]⟩] 41))).below hb)
  clear hb HSP HX20
  obtain ⟨x0, x1, x2, x3, x4, -, -, -, -, -⟩ := five_ok HX21.out.l
  go_wp2_with fail
  refine (q_spans _ lN [] _ HX21.out.node_l (by decide) (by decide)).mono ?_
  rintro e w22 ⟨r6, s6, rfl, hsp, hb⟩
  clear x0 x1 x2 x3 x4
  have HX22 := Lib.hid (HX21.out.below hb)
  clear hb hsp HX21
  go_wp2
  go_ret
  exact ⟨by first | rfl | simp, HX22.out.g⟩

end Go.Proofs.YtmbfghbhajmpiaaGreat
