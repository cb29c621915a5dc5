/-
  Walks: the effects of messages. Walks: the effect of a move, of a stamp; Apply and All. Walks: Apply and All.
-/
import Derived.Test.YtmbfghbhajmpiaaGreatMAC
import Derived.Test.YtmbfghbhajmpiaaGreatMRR
import Derived.Test.YtmbfghbhajmpiaaGreatMFG
namespace Go.Proofs.YtmbfghbhajmpiaaGreat
open Go.RowKit Go.Sort
set_option linter.unusedVariables false

/-- Nothing that was there has changed. -/
structure SB (w wx : World) : Prop where
  g : Below w.heap.size w wx
theorem SB.below {w wx wy : World} (h : SB w wx) (hb : Below wx.heap.size wx wy) : SB w wy := ⟨h.g.trans (hb.mono h.g.size)⟩
theorem SB.drew {w wx : World} (h : SB w wx) : SB w wx.drew := h.below (below_drewN wx 1)
theorem SB.refl (w : World) : SB w w := ⟨Below.refl _ _⟩

end Go.Proofs.YtmbfghbhajmpiaaGreat
namespace Go.Proofs.YtmbfghbhajmpiaaGreat
open Go.RowKit Go.Sort
set_option linter.unusedVariables false

/-- What stays while a round of Stamp reads. -/
structure SQ (w : World) (pb : Nat) (x : Pr) (vv : Value) (n : Nat) (xs : List Value) (wx : World) : Prop where
  g : Below w.heap.size w wx
  p : Blk wx pb 48 #[.string (Str x.1), .string (Str x.2.1), .int .i64 x.2.2]
  o : wx.ownsRow w.heap.size 48 3 vv n xs
theorem SQ.below {w wx wy : World} {pb : Nat} {x : Pr} {vv : Value} {n : Nat} {xs : List Value} (h : SQ w pb x vv n xs wx) (hb : Below wx.heap.size wx wy) : SQ w pb x vv n xs wy :=
  ⟨h.g.trans (hb.mono h.g.size), h.p.below hb h.p.lt, owns_below h.o hb⟩
theorem SQ.drew {w wx : World} {pb : Nat} {x : Pr} {vv : Value} {n : Nat} {xs : List Value} (h : SQ w pb x vv n xs wx) : SQ w pb x vv n xs wx.drew := h.below (below_drewN wx 1)

end Go.Proofs.YtmbfghbhajmpiaaGreat
namespace Go.Proofs.YtmbfghbhajmpiaaGreat
open Go.RowKit Go.Sort
set_option linter.unusedVariables false

/-- A slice of messages. -/
def MAt (w : World) (b o : Nat) (m : Ms) : Prop :=
  w.cell? ⟨b, o, none⟩ = some (.int .i64 m.kind) ∧ w.cell? ⟨b, o + 1, none⟩ = some (.string (Str m.key)) ∧ w.cell? ⟨b, o + 2, none⟩ = some (.string (Str m.val)) ∧ w.cell? ⟨b, o + 3, none⟩ = some (.string (Str m.lo)) ∧
  w.cell? ⟨b, o + 4, none⟩ = some (.string (Str m.hi)) ∧ w.cell? ⟨b, o + 5, none⟩ = some (.string (Str m.src)) ∧ w.cell? ⟨b, o + 6, none⟩ = some (.string (Str m.dst)) ∧ w.cell? ⟨b, o + 7, none⟩ = some (.int .i64 m.n)
theorem MAt.below {w w' : World} {b o : Nat} {m : Ms} (h : MAt w b o m) {B : Nat} (hb : Below B w w') (hl : b < B) : MAt w' b o m := by
  have e : ∀ k, w'.cell? ⟨b, k, none⟩ = w.cell? ⟨b, k, none⟩ := fun k => hb.cell (p := ⟨b, k, none⟩) hl
  unfold MAt at *
  simp only [e]; exact h
def IsMsgs (w : World) (v : Value) (l : List Ms) : Prop :=
  ∃ a cap, v = .slice a l.length cap ∧ l.length ≤ cap ∧ cap ≤ maxLen ∧ (l ≠ [] → ∃ b off, a = some ⟨b, off, none⟩ ∧ b < w.heap.size ∧ ∀ i (h : i < l.length), MAt w b (off + i * 8) l[i])
theorem IsMsgs.below {w w' : World} {v : Value} {l : List Ms} (h : IsMsgs w v l) (hb : Below w.heap.size w w') : IsMsgs w' v l := by
  obtain ⟨a, cap, h1, h2, h3, h4⟩ := h
  refine ⟨a, cap, h1, h2, h3, fun hl => ?_⟩
  obtain ⟨b, off, e, hlt, hc⟩ := h4 hl
  exact ⟨b, off, e, Nat.lt_of_lt_of_le hlt hb.size, fun i hi => (hc i hi).below hb hlt⟩
theorem IsMsgs.form {w : World} {v : Value} {l : List Ms} (h : IsMsgs w v l) : ∃ b off cap a, v = .slice a l.length cap ∧ l.length ≤ cap ∧ cap ≤ maxLen ∧ (l ≠ [] → a = some ⟨b, off, none⟩ ∧ b < w.heap.size) ∧
    ∀ i (h : i < l.length), a = some ⟨b, off, none⟩ ∧ MAt w b (off + i * 8) l[i] := by
  obtain ⟨a, cap, h1, h2, h3, h4⟩ := h
  by_cases hl : l = []
  · subst hl; exact ⟨0, 0, cap, a, h1, h2, h3, fun h => absurd rfl h, fun i hi => absurd hi (by simp)⟩
  · obtain ⟨b, off, e, hlt, hc⟩ := h4 hl
    exact ⟨b, off, cap, a, h1, h2, h3, fun _ => ⟨e, hlt⟩, fun i hi => ⟨e, hc i hi⟩⟩

end Go.Proofs.YtmbfghbhajmpiaaGreat
