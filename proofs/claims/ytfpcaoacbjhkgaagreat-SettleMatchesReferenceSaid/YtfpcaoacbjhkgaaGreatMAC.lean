/-
  Walks: messages in memory, the type of their kind, and its methods. Walks: which fields are in their ranges. Walks: the fields of each kind are in their ranges.
-/
import Derived.Test.YtfpcaoacbjhkgaaGreatTX
import Derived.Test.YtfpcaoacbjhkgaaGreatPL
namespace Go.Proofs.YtfpcaoacbjhkgaaGreat
open Go.RowKit Go.Sort
set_option linter.unusedVariables false

@[reducible] def msgV (m : Ms) : Value := .agg #[.int .i64 m.kind, .string (Str m.key), .string (Str m.val), .string (Str m.lo), .string (Str m.hi), .string (Str m.src), .string (Str m.dst), .int .i64 m.n]
@[reducible] def encM (m : Ms) : Array Value := #[.int .i64 m.kind, .string (Str m.key), .string (Str m.val), .string (Str m.lo), .string (Str m.hi), .string (Str m.src), .string (Str m.dst), .int .i64 m.n]
@[reducible] def ptrV (b : Nat) : Value := .pointer (some ⟨b, 0, none⟩)

/-- The type of a kind. -/
def kindT (k : Int) : TypeId := if k = 1 then 129 else if k = 2 then 130 else if k = 3 then 131 else if k = 4 then 132 else if k = 5 then 133 else if k = 6 then 134 else 135
def pickF (a b c d e f g : FuncId) (k : Int) : FuncId := if k = 1 then a else if k = 2 then b else if k = 3 then c else if k = 4 then d else if k = 5 then e else if k = 6 then f else g
def applyF : Int → FuncId := pickF 172 182 190 196 202 210 217
def readsF : Int → FuncId := pickF 176 186 194 200 208 214 221
def writesF : Int → FuncId := pickF 177 187 195 201 209 215 222
set_option maxHeartbeats 2000000 in
theorem of_w (k : Int) (b : Nat) (w : World) (h : w.cell? ⟨b, 0, none⟩ = some (.int .i64 k)) : Calls Tryz.prog 82 #[ptrV b] w fun e w' => e = .returned (.iface (kindT k) (ptrV b)) ∧ w = w' := by
  unfold kindT
  by_cases h1 : k = 1
  · subst h1
    go_enter Tryz.func82, Tryz.ntmps82
    go_wp2
    go_ret
    exact ⟨rfl, rfl⟩
  by_cases h2 : k = 2
  · subst h2
    go_enter Tryz.func82, Tryz.ntmps82
    go_wp2
    go_ret
    exact ⟨rfl, rfl⟩
  by_cases h3 : k = 3
  · subst h3
    go_enter Tryz.func82, Tryz.ntmps82
    go_wp2
    go_ret
    exact ⟨rfl, rfl⟩
  by_cases h4 : k = 4
  · subst h4
    go_enter Tryz.func82, Tryz.ntmps82
    go_wp2
    go_ret
    exact ⟨rfl, rfl⟩
  by_cases h5 : k = 5
  · subst h5
    go_enter Tryz.func82, Tryz.ntmps82
    go_wp2
    go_ret
    exact ⟨rfl, rfl⟩
  by_cases h6 : k = 6
  · subst h6
    go_enter Tryz.func82, Tryz.ntmps82
    go_wp2
    go_ret
    exact ⟨rfl, rfl⟩
  rw [if_neg h1, if_neg h2, if_neg h3, if_neg h4, if_neg h5, if_neg h6]
  have b1 : (k == 1) = false := by simpa using h1
  have b2 : (k == 2) = false := by simpa using h2
  have b3 : (k == 3) = false := by simpa using h3
  have b4 : (k == 4) = false := by simpa using h4
  have b5 : (k == 5) = false := by simpa using h5
  have b6 : (k == 6) = false := by simpa using h6
  clear h1 h2 h3 h4 h5 h6
  go_enter Tryz.func82, Tryz.ntmps82
  go_wp2
  go_ret
  exact ⟨rfl, rfl⟩

/-- A method of the kind is called. -/
structure Disp (name : String) (F : Int → FuncId) : Prop where
  m : ∀ (k : Int) (b : Nat) (w : World), (method 312 (kindT k) (ptrV b) name).run Tryz.prog w = .ok (F k, ptrV b) w
  c : ∀ (k : Int) (args : Array Value) (w : World), (callFunc (F k) args).run Tryz.prog w = .ok (.enter (F k) args) w

theorem kind_split (P : Int → Prop) (h1 : P 1) (h2 : P 2) (h3 : P 3) (h4 : P 4) (h5 : P 5) (h6 : P 6) (h0 : ∀ k, k ≠ 1 → k ≠ 2 → k ≠ 3 → k ≠ 4 → k ≠ 5 → k ≠ 6 → P k) (k : Int) : P k := by
  by_cases g1 : k = 1
  · subst g1; exact h1
  by_cases g2 : k = 2
  · subst g2; exact h2
  by_cases g3 : k = 3
  · subst g3; exact h3
  by_cases g4 : k = 4
  · subst g4; exact h4
  by_cases g5 : k = 5
  · subst g5; exact h5
  by_cases g6 : k = 6
  · subst g6; exact h6
  exact h0 k g1 g2 g3 g4 g5 g6
theorem kindT_none {k : Int} (g1 : k ≠ 1) (g2 : k ≠ 2) (g3 : k ≠ 3) (g4 : k ≠ 4) (g5 : k ≠ 5) (g6 : k ≠ 6) : kindT k = 135 := by
  unfold kindT; rw [if_neg g1, if_neg g2, if_neg g3, if_neg g4, if_neg g5, if_neg g6]
theorem pick_none {a b c d e f g : FuncId} {k : Int} (g1 : k ≠ 1) (g2 : k ≠ 2) (g3 : k ≠ 3) (g4 : k ≠ 4) (g5 : k ≠ 5) (g6 : k ≠ 6) : pickF a b c d e f g k = g := by
  unfold pickF; rw [if_neg g1, if_neg g2, if_neg g3, if_neg g4, if_neg g5, if_neg g6]

theorem disp_apply : Disp "downspout/msg.apply" applyF where
  m := kind_split _ (fun b w => by kernel_rfl) (fun b w => by kernel_rfl) (fun b w => by kernel_rfl) (fun b w => by kernel_rfl) (fun b w => by kernel_rfl) (fun b w => by kernel_rfl)
    (fun k g1 g2 g3 g4 g5 g6 b w => by rw [kindT_none g1 g2 g3 g4 g5 g6, applyF, pick_none g1 g2 g3 g4 g5 g6]; kernel_rfl)
  c := kind_split _ (enters_of Tryz.func172 (by kernel_rfl) rfl) (enters_of Tryz.func182 (by kernel_rfl) rfl) (enters_of Tryz.func190 (by kernel_rfl) rfl) (enters_of Tryz.func196 (by kernel_rfl) rfl) (enters_of Tryz.func202 (by kernel_rfl) rfl) (enters_of Tryz.func210 (by kernel_rfl) rfl)
    (fun k g1 g2 g3 g4 g5 g6 => by rw [applyF, pick_none g1 g2 g3 g4 g5 g6]; exact enters_of Tryz.func217 (by kernel_rfl) rfl)

theorem disp_reads : Disp "downspout/msg.reads" readsF where
  m := kind_split _ (fun b w => by kernel_rfl) (fun b w => by kernel_rfl) (fun b w => by kernel_rfl) (fun b w => by kernel_rfl) (fun b w => by kernel_rfl) (fun b w => by kernel_rfl)
    (fun k g1 g2 g3 g4 g5 g6 b w => by rw [kindT_none g1 g2 g3 g4 g5 g6, readsF, pick_none g1 g2 g3 g4 g5 g6]; kernel_rfl)
  c := kind_split _ (enters_of Tryz.func176 (by kernel_rfl) rfl) (enters_of Tryz.func186 (by kernel_rfl) rfl) (enters_of Tryz.func194 (by kernel_rfl) rfl) (enters_of Tryz.func200 (by kernel_rfl) rfl) (enters_of Tryz.func208 (by kernel_rfl) rfl) (enters_of Tryz.func214 (by kernel_rfl) rfl)
    (fun k g1 g2 g3 g4 g5 g6 => by rw [readsF, pick_none g1 g2 g3 g4 g5 g6]; exact enters_of Tryz.func221 (by kernel_rfl) rfl)

theorem disp_writes : Disp "downspout/msg.writes" writesF where
  m := kind_split _ (fun b w => by kernel_rfl) (fun b w => by kernel_rfl) (fun b w => by kernel_rfl) (fun b w => by kernel_rfl) (fun b w => by kernel_rfl) (fun b w => by kernel_rfl)
    (fun k g1 g2 g3 g4 g5 g6 b w => by rw [kindT_none g1 g2 g3 g4 g5 g6, writesF, pick_none g1 g2 g3 g4 g5 g6]; kernel_rfl)
  c := kind_split _ (enters_of Tryz.func177 (by kernel_rfl) rfl) (enters_of Tryz.func187 (by kernel_rfl) rfl) (enters_of Tryz.func195 (by kernel_rfl) rfl) (enters_of Tryz.func201 (by kernel_rfl) rfl) (enters_of Tryz.func209 (by kernel_rfl) rfl) (enters_of Tryz.func215 (by kernel_rfl) rfl)
    (fun k g1 g2 g3 g4 g5 g6 => by rw [writesF, pick_none g1 g2 g3 g4 g5 g6]; exact enters_of Tryz.func222 (by kernel_rfl) rfl)

end Go.Proofs.YtfpcaoacbjhkgaaGreat
namespace Go.Proofs.YtfpcaoacbjhkgaaGreat
open Go.RowKit Go.Sort
set_option linter.unusedVariables false

theorem keyB_yes {k : Bs} (h1 : 1 ≤ k.length) (h2 : k.length ≤ 65535) : keyB k = true := by unfold keyB; simp; omega
theorem keyB_no {k : Bs} (h : k.length < 1 ∨ 65535 < k.length) : keyB k = false := by unfold keyB; simp; omega
end Go.Proofs.YtfpcaoacbjhkgaaGreat
namespace Go.Proofs.YtfpcaoacbjhkgaaGreat
open Go.RowKit Go.Sort
set_option linter.unusedVariables false

theorem flipW {P : Program} {f : FuncId} {args : Array Value} {w w0 : World} {v : Value} (h : Calls P f args w fun e w' => e = .returned v ∧ w = w') : Calls P f args w fun e w' => e = .returned v ∧ w' = w :=
  h.mono fun _ _ ⟨a, b⟩ => ⟨a, b.symm⟩
theorem quiet_flip {P : Program} {f : FuncId} {args : Array Value} {w : World} {n : Nat} {v : Value}
    (h : Calls P f args (w.drewN n) fun e w' => e = .returned v ∧ w.drewN n = w') : Calls P f args (w.drewN n) fun e w'' => e = .returned v ∧ ∃ m, w'' = w.drewN m :=
  h.mono fun _ _ ⟨he, hm⟩ => ⟨he, n, hm.symm⟩

/-- The cells of a message that is a block. -/
structure MCells (w : World) (b : Nat) (m : Ms) : Prop where
  c0 : ∀ n, (w.drewN n).cell? ⟨b, 0, none⟩ = some (.int .i64 m.kind)
  c1 : ∀ n, (w.drewN n).cell? ⟨b, 1, none⟩ = some (.string (Str m.key))
  c2 : ∀ n, (w.drewN n).cell? ⟨b, 2, none⟩ = some (.string (Str m.val))
  c3 : ∀ n, (w.drewN n).cell? ⟨b, 3, none⟩ = some (.string (Str m.lo))
  c4 : ∀ n, (w.drewN n).cell? ⟨b, 4, none⟩ = some (.string (Str m.hi))
  c5 : ∀ n, (w.drewN n).cell? ⟨b, 5, none⟩ = some (.string (Str m.src))
  c6 : ∀ n, (w.drewN n).cell? ⟨b, 6, none⟩ = some (.string (Str m.dst))
  c7 : ∀ n, (w.drewN n).cell? ⟨b, 7, none⟩ = some (.int .i64 m.n)
abbrev MBlk (w : World) (b : Nat) (m : Ms) : Prop := Blk w b 40 (encM m)
theorem MBlk.cells {w : World} {b : Nat} {m : Ms} (h : MBlk w b m) : MCells w b m :=
  ⟨fun _ => h.c0 0 _ rfl, fun _ => h.c0 1 _ rfl, fun _ => h.c0 2 _ rfl, fun _ => h.c0 3 _ rfl, fun _ => h.c0 4 _ rfl, fun _ => h.c0 5 _ rfl, fun _ => h.c0 6 _ rfl, fun _ => h.c0 7 _ rfl⟩
theorem MBlk.plain {w : World} {b : Nat} {m : Ms} (h : MBlk w b m) :
    w.cell? ⟨b, 0, none⟩ = some (.int .i64 m.kind) ∧ w.cell? ⟨b, 1, none⟩ = some (.string (Str m.key)) ∧ w.cell? ⟨b, 2, none⟩ = some (.string (Str m.val)) ∧ w.cell? ⟨b, 3, none⟩ = some (.string (Str m.lo)) ∧
    w.cell? ⟨b, 4, none⟩ = some (.string (Str m.hi)) ∧ w.cell? ⟨b, 5, none⟩ = some (.string (Str m.src)) ∧ w.cell? ⟨b, 6, none⟩ = some (.string (Str m.dst)) ∧ w.cell? ⟨b, 7, none⟩ = some (.int .i64 m.n) :=
  ⟨h.c0 0 _ rfl, h.c0 1 _ rfl, h.c0 2 _ rfl, h.c0 3 _ rfl, h.c0 4 _ rfl, h.c0 5 _ rfl, h.c0 6 _ rfl, h.c0 7 _ rfl⟩

end Go.Proofs.YtfpcaoacbjhkgaaGreat
