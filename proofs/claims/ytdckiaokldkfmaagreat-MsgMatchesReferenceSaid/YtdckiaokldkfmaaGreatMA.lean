/-
  Walks: messages in memory, the type of their kind, and its methods.
-/
import Derived.Test.YtdckiaokldkfmaaGreatTW4
import Derived.Test.YtdckiaokldkfmaaGreatMS
namespace Go.Proofs.YtdckiaokldkfmaaGreat
open Go.RowKit Go.Sort
set_option linter.unusedVariables false

@[reducible] def msgV (m : Ms) : Value := .agg #[.int .i64 m.kind, .string (Str m.key), .string (Str m.val), .string (Str m.lo), .string (Str m.hi), .string (Str m.src), .string (Str m.dst), .int .i64 m.n]
@[reducible] def encM (m : Ms) : Array Value := #[.int .i64 m.kind, .string (Str m.key), .string (Str m.val), .string (Str m.lo), .string (Str m.hi), .string (Str m.src), .string (Str m.dst), .int .i64 m.n]
@[reducible] def ptrV (b : Nat) : Value := .pointer (some ⟨b, 0, none⟩)

/-- The type of a kind. -/
def kindT (k : Int) : TypeId := if k = 1 then 106 else if k = 2 then 107 else if k = 3 then 108 else if k = 4 then 109 else if k = 5 then 110 else if k = 6 then 111 else 112
def pickF (a b c d e f g : FuncId) (k : Int) : FuncId := if k = 1 then a else if k = 2 then b else if k = 3 then c else if k = 4 then d else if k = 5 then e else if k = 6 then f else g
def fieldsF : Int → FuncId := pickF 100 116 124 131 138 153 160
def fitsF : Int → FuncId := pickF 101 117 125 132 139 154 161
def applyF : Int → FuncId := pickF 99 115 123 130 136 152 159
def readsF : Int → FuncId := pickF 103 119 127 134 150 156 163
def writesF : Int → FuncId := pickF 104 120 128 135 151 157 164
def killsF : Int → FuncId := pickF 102 118 126 133 149 155 162

set_option maxHeartbeats 2000000 in
theorem of_w (k : Int) (b : Nat) (w : World) (h : w.cell? ⟨b, 0, none⟩ = some (.int .i64 k)) : Calls Tryz.prog 49 #[ptrV b] w fun e w' => e = .returned (.iface (kindT k) (ptrV b)) ∧ w = w' := by
  unfold kindT
  by_cases h1 : k = 1
  · subst h1
    go_enter Tryz.func49, Tryz.ntmps49
    go_wp2
    go_ret
    exact ⟨rfl, rfl⟩
  by_cases h2 : k = 2
  · subst h2
    go_enter Tryz.func49, Tryz.ntmps49
    go_wp2
    go_ret
    exact ⟨rfl, rfl⟩
  by_cases h3 : k = 3
  · subst h3
    go_enter Tryz.func49, Tryz.ntmps49
    go_wp2
    go_ret
    exact ⟨rfl, rfl⟩
  by_cases h4 : k = 4
  · subst h4
    go_enter Tryz.func49, Tryz.ntmps49
    go_wp2
    go_ret
    exact ⟨rfl, rfl⟩
  by_cases h5 : k = 5
  · subst h5
    go_enter Tryz.func49, Tryz.ntmps49
    go_wp2
    go_ret
    exact ⟨rfl, rfl⟩
  by_cases h6 : k = 6
  · subst h6
    go_enter Tryz.func49, Tryz.ntmps49
    go_wp2
    go_ret
    exact ⟨rfl, rfl⟩
  rw [if_neg h1, if_neg h2, if_neg h3, if_neg h4, if_neg h5, if_neg h6]
  have b1 : (k == 1) = false := by simpa using h1
  have b2 : (k == 2) = false := by simpa using h2
  have b3 : (k == 3) = false := by simpa using h3
  have b4 : (k == 4) = false := by simpa using h4
  have b5 : (k == 5) = false := by simpa using h5
  have b6 : (k == 6) = false := by simpa using h6
  clear h1 h2 h3 h4 h5 h6
  go_enter Tryz.func49, Tryz.ntmps49
  go_wp2
  go_ret
  exact ⟨rfl, rfl⟩

/-- A method of the kind is called. -/
structure Disp (name : String) (F : Int → FuncId) : Prop where
  m : ∀ (k : Int) (b : Nat) (w : World), (method 260 (kindT k) (ptrV b) name).run Tryz.prog w = .ok (F k, ptrV b) w
  c : ∀ (k : Int) (args : Array Value) (w : World), (callFunc (F k) args).run Tryz.prog w = .ok (.enter (F k) args) w

theorem kind_split (P : Int → Prop) (h1 : P 1) (h2 : P 2) (h3 : P 3) (h4 : P 4) (h5 : P 5) (h6 : P 6) (h0 : ∀ k, k ≠ 1 → k ≠ 2 → k ≠ 3 → k ≠ 4 → k ≠ 5 → k ≠ 6 → P k) (k : Int) : P k := by
  by_cases g1 : k = 1
  · subst g1; exact h1
  by_cases g2 : k = 2
  · subst g2; exact h2
  by_cases g3 : k = 3
  · subst g3; exact h3
  by_cases g4 : k = 4
  · subst g4; exact h4
  by_cases g5 : k = 5
  · subst g5; exact h5
  by_cases g6 : k = 6
  · subst g6; exact h6
  exact h0 k g1 g2 g3 g4 g5 g6
theorem kindT_none {k : Int} (g1 : k ≠ 1) (g2 : k ≠ 2) (g3 : k ≠ 3) (g4 : k ≠ 4) (g5 : k ≠ 5) (g6 : k ≠ 6) : kindT k = 112 := by
  unfold kindT; rw [if_neg g1, if_neg g2, if_neg g3, if_neg g4, if_neg g5, if_neg g6]
theorem pick_none {a b c d e f g : FuncId} {k : Int} (g1 : k ≠ 1) (g2 : k ≠ 2) (g3 : k ≠ 3) (g4 : k ≠ 4) (g5 : k ≠ 5) (g6 : k ≠ 6) : pickF a b c d e f g k = g := by
  unfold pickF; rw [if_neg g1, if_neg g2, if_neg g3, if_neg g4, if_neg g5, if_neg g6]

theorem disp_fields : Disp "downspout/msg.fields" fieldsF where
  m := kind_split _ (fun b w => by kernel_rfl) (fun b w => by kernel_rfl) (fun b w => by kernel_rfl) (fun b w => by kernel_rfl) (fun b w => by kernel_rfl) (fun b w => by kernel_rfl)
    (fun k g1 g2 g3 g4 g5 g6 b w => by rw [kindT_none g1 g2 g3 g4 g5 g6, fieldsF, pick_none g1 g2 g3 g4 g5 g6]; kernel_rfl)
  c := kind_split _ (enters_of Tryz.func100 (by kernel_rfl) rfl) (enters_of Tryz.func116 (by kernel_rfl) rfl) (enters_of Tryz.func124 (by kernel_rfl) rfl) (enters_of Tryz.func131 (by kernel_rfl) rfl) (enters_of Tryz.func138 (by kernel_rfl) rfl) (enters_of Tryz.func153 (by kernel_rfl) rfl)
    (fun k g1 g2 g3 g4 g5 g6 => by rw [fieldsF, pick_none g1 g2 g3 g4 g5 g6]; exact enters_of Tryz.func160 (by kernel_rfl) rfl)

theorem disp_fits : Disp "downspout/msg.fits" fitsF where
  m := kind_split _ (fun b w => by kernel_rfl) (fun b w => by kernel_rfl) (fun b w => by kernel_rfl) (fun b w => by kernel_rfl) (fun b w => by kernel_rfl) (fun b w => by kernel_rfl)
    (fun k g1 g2 g3 g4 g5 g6 b w => by rw [kindT_none g1 g2 g3 g4 g5 g6, fitsF, pick_none g1 g2 g3 g4 g5 g6]; kernel_rfl)
  c := kind_split _ (enters_of Tryz.func101 (by kernel_rfl) rfl) (enters_of Tryz.func117 (by kernel_rfl) rfl) (enters_of Tryz.func125 (by kernel_rfl) rfl) (enters_of Tryz.func132 (by kernel_rfl) rfl) (enters_of Tryz.func139 (by kernel_rfl) rfl) (enters_of Tryz.func154 (by kernel_rfl) rfl)
    (fun k g1 g2 g3 g4 g5 g6 => by rw [fitsF, pick_none g1 g2 g3 g4 g5 g6]; exact enters_of Tryz.func161 (by kernel_rfl) rfl)

theorem disp_apply : Disp "downspout/msg.apply" applyF where
  m := kind_split _ (fun b w => by kernel_rfl) (fun b w => by kernel_rfl) (fun b w => by kernel_rfl) (fun b w => by kernel_rfl) (fun b w => by kernel_rfl) (fun b w => by kernel_rfl)
    (fun k g1 g2 g3 g4 g5 g6 b w => by rw [kindT_none g1 g2 g3 g4 g5 g6, applyF, pick_none g1 g2 g3 g4 g5 g6]; kernel_rfl)
  c := kind_split _ (enters_of Tryz.func99 (by kernel_rfl) rfl) (enters_of Tryz.func115 (by kernel_rfl) rfl) (enters_of Tryz.func123 (by kernel_rfl) rfl) (enters_of Tryz.func130 (by kernel_rfl) rfl) (enters_of Tryz.func136 (by kernel_rfl) rfl) (enters_of Tryz.func152 (by kernel_rfl) rfl)
    (fun k g1 g2 g3 g4 g5 g6 => by rw [applyF, pick_none g1 g2 g3 g4 g5 g6]; exact enters_of Tryz.func159 (by kernel_rfl) rfl)

theorem disp_reads : Disp "downspout/msg.reads" readsF where
  m := kind_split _ (fun b w => by kernel_rfl) (fun b w => by kernel_rfl) (fun b w => by kernel_rfl) (fun b w => by kernel_rfl) (fun b w => by kernel_rfl) (fun b w => by kernel_rfl)
    (fun k g1 g2 g3 g4 g5 g6 b w => by rw [kindT_none g1 g2 g3 g4 g5 g6, readsF, pick_none g1 g2 g3 g4 g5 g6]; kernel_rfl)
  c := kind_split _ (enters_of Tryz.func103 (by kernel_rfl) rfl) (enters_of Tryz.func119 (by kernel_rfl) rfl) (enters_of Tryz.func127 (by kernel_rfl) rfl) (enters_of Tryz.func134 (by kernel_rfl) rfl) (enters_of Tryz.func150 (by kernel_rfl) rfl) (enters_of Tryz.func156 (by kernel_rfl) rfl)
    (fun k g1 g2 g3 g4 g5 g6 => by rw [readsF, pick_none g1 g2 g3 g4 g5 g6]; exact enters_of Tryz.func163 (by kernel_rfl) rfl)

theorem disp_writes : Disp "downspout/msg.writes" writesF where
  m := kind_split _ (fun b w => by kernel_rfl) (fun b w => by kernel_rfl) (fun b w => by kernel_rfl) (fun b w => by kernel_rfl) (fun b w => by kernel_rfl) (fun b w => by kernel_rfl)
    (fun k g1 g2 g3 g4 g5 g6 b w => by rw [kindT_none g1 g2 g3 g4 g5 g6, writesF, pick_none g1 g2 g3 g4 g5 g6]; kernel_rfl)
  c := kind_split _ (enters_of Tryz.func104 (by kernel_rfl) rfl) (enters_of Tryz.func120 (by kernel_rfl) rfl) (enters_of Tryz.func128 (by kernel_rfl) rfl) (enters_of Tryz.func135 (by kernel_rfl) rfl) (enters_of Tryz.func151 (by kernel_rfl) rfl) (enters_of Tryz.func157 (by kernel_rfl) rfl)
    (fun k g1 g2 g3 g4 g5 g6 => by rw [writesF, pick_none g1 g2 g3 g4 g5 g6]; exact enters_of Tryz.func164 (by kernel_rfl) rfl)

theorem disp_kills : Disp "downspout/msg.kills" killsF where
  m := kind_split _ (fun b w => by kernel_rfl) (fun b w => by kernel_rfl) (fun b w => by kernel_rfl) (fun b w => by kernel_rfl) (fun b w => by kernel_rfl) (fun b w => by kernel_rfl)
    (fun k g1 g2 g3 g4 g5 g6 b w => by rw [kindT_none g1 g2 g3 g4 g5 g6, killsF, pick_none g1 g2 g3 g4 g5 g6]; kernel_rfl)
  c := kind_split _ (enters_of Tryz.func102 (by kernel_rfl) rfl) (enters_of Tryz.func118 (by kernel_rfl) rfl) (enters_of Tryz.func126 (by kernel_rfl) rfl) (enters_of Tryz.func133 (by kernel_rfl) rfl) (enters_of Tryz.func149 (by kernel_rfl) rfl) (enters_of Tryz.func155 (by kernel_rfl) rfl)
    (fun k g1 g2 g3 g4 g5 g6 => by rw [killsF, pick_none g1 g2 g3 g4 g5 g6]; exact enters_of Tryz.func162 (by kernel_rfl) rfl)

end Go.Proofs.YtdckiaokldkfmaaGreat
