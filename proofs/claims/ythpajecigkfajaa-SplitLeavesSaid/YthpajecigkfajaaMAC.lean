/-
  Walks: messages in memory, the type of their kind, and its methods. Walks: which fields are in their ranges. Walks: the fields of each kind are in their ranges.
-/
import Derived.Test.YthpajecigkfajaaTX
import Derived.Test.YthpajecigkfajaaPL
namespace Go.Proofs.Ythpajecigkfajaa
open Go.RowKit Go.Sort
set_option linter.unusedVariables false

@[reducible] def msgV (m : Ms) : Value := .agg #[.int .i64 m.kind, .string (Str m.key), .string (Str m.val), .string (Str m.lo), .string (Str m.hi), .string (Str m.src), .string (Str m.dst), .int .i64 m.n]
@[reducible] def encM (m : Ms) : Array Value := #[.int .i64 m.kind, .string (Str m.key), .string (Str m.val), .string (Str m.lo), .string (Str m.hi), .string (Str m.src), .string (Str m.dst), .int .i64 m.n]
@[reducible] def ptrV (b : Nat) : Value := .pointer (some ⟨b, 0, none⟩)

def pickF (a b c d e f g : FuncId) (k : Int) : FuncId := if k = 1 then a else if k = 2 then b else if k = 3 then c else if k = 4 then d else if k = 5 then e else if k = 6 then f else g
theorem kind_split (P : Int → Prop) (h1 : P 1) (h2 : P 2) (h3 : P 3) (h4 : P 4) (h5 : P 5) (h6 : P 6) (h0 : ∀ k, k ≠ 1 → k ≠ 2 → k ≠ 3 → k ≠ 4 → k ≠ 5 → k ≠ 6 → P k) (k : Int) : P k := by
  by_cases g1 : k = 1
  · subst g1; exact h1
  by_cases g2 : k = 2
  · subst g2; exact h2
  by_cases g3 : k = 3
  · subst g3; exact h3
  by_cases g4 : k = 4
  · subst g4; exact h4
  by_cases g5 : k = 5
  · subst g5; exact h5
  by_cases g6 : k = 6
  · subst g6; exact h6
  exact h0 k g1 g2 g3 g4 g5 g6
theorem pick_none {a b c d e f g : FuncId} {k : Int} (g1 : k ≠ 1) (g2 : k ≠ 2) (g3 : k ≠ 3) (g4 : k ≠ 4) (g5 : k ≠ 5) (g6 : k ≠ 6) : pickF a b c d e f g k = g := by
  unfold pickF; rw [if_neg g1, if_neg g2, if_neg g3, if_neg g4, if_neg g5, if_neg g6]

end Go.Proofs.Ythpajecigkfajaa
namespace Go.Proofs.Ythpajecigkfajaa
open Go.RowKit Go.Sort
set_option linter.unusedVariables false

theorem keyB_yes {k : Bs} (h1 : 1 ≤ k.length) (h2 : k.length ≤ 65535) : keyB k = true := by unfold keyB; simp; omega
theorem keyB_no {k : Bs} (h : k.length < 1 ∨ 65535 < k.length) : keyB k = false := by unfold keyB; simp; omega
end Go.Proofs.Ythpajecigkfajaa
namespace Go.Proofs.Ythpajecigkfajaa
open Go.RowKit Go.Sort
set_option linter.unusedVariables false

theorem flipW {P : Program} {f : FuncId} {args : Array Value} {w w0 : World} {v : Value} (h : Calls P f args w fun e w' => e = .returned v ∧ w = w') : Calls P f args w fun e w' => e = .returned v ∧ w' = w :=
  h.mono fun _ _ ⟨a, b⟩ => ⟨a, b.symm⟩
theorem quiet_flip {P : Program} {f : FuncId} {args : Array Value} {w : World} {n : Nat} {v : Value}
    (h : Calls P f args (w.drewN n) fun e w' => e = .returned v ∧ w.drewN n = w') : Calls P f args (w.drewN n) fun e w'' => e = .returned v ∧ ∃ m, w'' = w.drewN m :=
  h.mono fun _ _ ⟨he, hm⟩ => ⟨he, n, hm.symm⟩

/-- The cells of a message that is a block. -/
structure MCells (w : World) (b : Nat) (m : Ms) : Prop where
  c0 : ∀ n, (w.drewN n).cell? ⟨b, 0, none⟩ = some (.int .i64 m.kind)
  c1 : ∀ n, (w.drewN n).cell? ⟨b, 1, none⟩ = some (.string (Str m.key))
  c2 : ∀ n, (w.drewN n).cell? ⟨b, 2, none⟩ = some (.string (Str m.val))
  c3 : ∀ n, (w.drewN n).cell? ⟨b, 3, none⟩ = some (.string (Str m.lo))
  c4 : ∀ n, (w.drewN n).cell? ⟨b, 4, none⟩ = some (.string (Str m.hi))
  c5 : ∀ n, (w.drewN n).cell? ⟨b, 5, none⟩ = some (.string (Str m.src))
  c6 : ∀ n, (w.drewN n).cell? ⟨b, 6, none⟩ = some (.string (Str m.dst))
  c7 : ∀ n, (w.drewN n).cell? ⟨b, 7, none⟩ = some (.int .i64 m.n)
abbrev MBlk (w : World) (b : Nat) (m : Ms) : Prop := Blk w b 59 (encM m)
theorem MBlk.cells {w : World} {b : Nat} {m : Ms} (h : MBlk w b m) : MCells w b m :=
  ⟨fun _ => h.c0 0 _ rfl, fun _ => h.c0 1 _ rfl, fun _ => h.c0 2 _ rfl, fun _ => h.c0 3 _ rfl, fun _ => h.c0 4 _ rfl, fun _ => h.c0 5 _ rfl, fun _ => h.c0 6 _ rfl, fun _ => h.c0 7 _ rfl⟩
theorem MBlk.plain {w : World} {b : Nat} {m : Ms} (h : MBlk w b m) :
    w.cell? ⟨b, 0, none⟩ = some (.int .i64 m.kind) ∧ w.cell? ⟨b, 1, none⟩ = some (.string (Str m.key)) ∧ w.cell? ⟨b, 2, none⟩ = some (.string (Str m.val)) ∧ w.cell? ⟨b, 3, none⟩ = some (.string (Str m.lo)) ∧
    w.cell? ⟨b, 4, none⟩ = some (.string (Str m.hi)) ∧ w.cell? ⟨b, 5, none⟩ = some (.string (Str m.src)) ∧ w.cell? ⟨b, 6, none⟩ = some (.string (Str m.dst)) ∧ w.cell? ⟨b, 7, none⟩ = some (.int .i64 m.n) :=
  ⟨h.c0 0 _ rfl, h.c0 1 _ rfl, h.c0 2 _ rfl, h.c0 3 _ rfl, h.c0 4 _ rfl, h.c0 5 _ rfl, h.c0 6 _ rfl, h.c0 7 _ rfl⟩

end Go.Proofs.Ythpajecigkfajaa
