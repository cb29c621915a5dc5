/-
  Walks: messages in memory, the type of their kind, and its methods. Walks: which fields are in their ranges. Walks: the fields of each kind are in their ranges.
-/
import Derived.Test.YtmbfghbhajmpiaaGreatTX
import Derived.Test.YtmbfghbhajmpiaaGreatPL
namespace Go.Proofs.YtmbfghbhajmpiaaGreat
open Go.RowKit Go.Sort
set_option linter.unusedVariables false

@[reducible] def msgV (m : Ms) : Value := .agg #[.int .i64 m.kind, .string (Str m.key), .string (Str m.val), .string (Str m.lo), .string (Str m.hi), .string (Str m.src), .string (Str m.dst), .int .i64 m.n]
@[reducible] def encM (m : Ms) : Array Value := #[.int .i64 m.kind, .string (Str m.key), .string (Str m.val), .string (Str m.lo), .string (Str m.hi), .string (Str m.src), .string (Str m.dst), .int .i64 m.n]
@[reducible] def ptrV (b : Nat) : Value := .pointer (some ⟨b, 0, none⟩)

/-- The type of a kind. -/
def kindT (k : Int) : TypeId := if k = 1 then 200 else if k = 2 then 201 else if k = 3 then 202 else if k = 4 then 203 else if k = 5 then 204 else if k = 6 then 205 else 206
def pickF (a b c d e f g : FuncId) (k : Int) : FuncId := if k = 1 then a else if k = 2 then b else if k = 3 then c else if k = 4 then d else if k = 5 then e else if k = 6 then f else g
def fieldsF : Int → FuncId := pickF 292 307 315 322 329 342 348
def fitsF : Int → FuncId := pickF 293 308 316 323 330 343 349
def readsF : Int → FuncId := pickF 295 310 318 325 339 345 351
def writesF : Int → FuncId := pickF 296 311 319 326 340 346 352
set_option maxHeartbeats 2000000 in
theorem of_w (k : Int) (b : Nat) (w : World) (h : w.cell? ⟨b, 0, none⟩ = some (.int .i64 k)) : Calls Tryz.prog 101 #[ptrV b] w fun e w' => e = .returned (.iface (kindT k) (ptrV b)) ∧ w = w' := by
  unfold kindT
  by_cases h1 : k = 1
  · subst h1
    go_enter Tryz.func101, Tryz.ntmps101
    go_wp2
    go_ret
    exact ⟨rfl, rfl⟩
  by_cases h2 : k = 2
  · subst h2
    go_enter Tryz.func101, Tryz.ntmps101
    go_wp2
    go_ret
    exact ⟨rfl, rfl⟩
  by_cases h3 : k = 3
  · subst h3
    go_enter Tryz.func101, Tryz.ntmps101
    go_wp2
    go_ret
    exact ⟨rfl, rfl⟩
  by_cases h4 : k = 4
  · subst h4
    go_enter Tryz.func101, Tryz.ntmps101
    go_wp2
    go_ret
    exact ⟨rfl, rfl⟩
  by_cases h5 : k = 5
  · subst h5
    go_enter Tryz.func101, Tryz.ntmps101
    go_wp2
    go_ret
    exact ⟨rfl, rfl⟩
  by_cases h6 : k = 6
  · subst h6
    go_enter Tryz.func101, Tryz.ntmps101
    go_wp2
    go_ret
    exact ⟨rfl, rfl⟩
  rw [if_neg h1, if_neg h2, if_neg h3, if_neg h4, if_neg h5, if_neg h6]
  have b1 : (k == 1) = false := by simpa using h1
  have b2 : (k == 2) = false := by simpa using h2
  have b3 : (k == 3) = false := by simpa using h3
  have b4 : (k == 4) = false := by simpa using h4
  have b5 : (k == 5) = false := by simpa using h5
  have b6 : (k == 6) = false := by simpa using h6
  clear h1 h2 h3 h4 h5 h6
  go_enter Tryz.func101, Tryz.ntmps101
  go_wp2
  go_ret
  exact ⟨rfl, rfl⟩

/-- A method of the kind is called. -/
structure Disp (name : String) (F : Int → FuncId) : Prop where
  m : ∀ (k : Int) (b : Nat) (w : World), (method 422 (kindT k) (ptrV b) name).run Tryz.prog w = .ok (F k, ptrV b) w
  c : ∀ (k : Int) (args : Array Value) (w : World), (callFunc (F k) args).run Tryz.prog w = .ok (.enter (F k) args) w

theorem kind_split (P : Int → Prop) (h1 : P 1) (h2 : P 2) (h3 : P 3) (h4 : P 4) (h5 : P 5) (h6 : P 6) (h0 : ∀ k, k ≠ 1 → k ≠ 2 → k ≠ 3 → k ≠ 4 → k ≠ 5 → k ≠ 6 → P k) (k : Int) : P k := by
  by_cases g1 : k = 1
  · subst g1; exact h1
  by_cases g2 : k = 2
  · subst g2; exact h2
  by_cases g3 : k = 3
  · subst g3; exact h3
  by_cases g4 : k = 4
  · subst g4; exact h4
  by_cases g5 : k = 5
  · subst g5; exact h5
  by_cases g6 : k = 6
  · subst g6; exact h6
  exact h0 k g1 g2 g3 g4 g5 g6
theorem kindT_none {k : Int} (g1 : k ≠ 1) (g2 : k ≠ 2) (g3 : k ≠ 3) (g4 : k ≠ 4) (g5 : k ≠ 5) (g6 : k ≠ 6) : kindT k = 206 := by
  unfold kindT; rw [if_neg g1, if_neg g2, if_neg g3, if_neg g4, if_neg g5, if_neg g6]
theorem pick_none {a b c d e f g : FuncId} {k : Int} (g1 : k ≠ 1) (g2 : k ≠ 2) (g3 : k ≠ 3) (g4 : k ≠ 4) (g5 : k ≠ 5) (g6 : k ≠ 6) : pickF a b c d e f g k = g := by
  unfold pickF; rw [if_neg g1, if_neg g2, if_neg g3, if_neg g4, if_neg g5, if_neg g6]

theorem disp_fields : Disp "downspout/msg.fields" fieldsF where
  m := kind_split _ (fun b w => by kernel_rfl) (fun b w => by kernel_rfl) (fun b w => by kernel_rfl) (fun b w => by kernel_rfl) (fun b w => by kernel_rfl) (fun b w => by kernel_rfl)
    (fun k g1 g2 g3 g4 g5 g6 b w => by rw [kindT_none g1 g2 g3 g4 g5 g6, fieldsF, pick_none g1 g2 g3 g4 g5 g6]; kernel_rfl)
  c := kind_split _ (enters_of Tryz.func292 (by kernel_rfl) rfl) (enters_of Tryz.func307 (by kernel_rfl) rfl) (enters_of Tryz.func315 (by kernel_rfl) rfl) (enters_of Tryz.func322 (by kernel_rfl) rfl) (enters_of Tryz.func329 (by kernel_rfl) rfl) (enters_of Tryz.func342 (by kernel_rfl) rfl)
    (fun k g1 g2 g3 g4 g5 g6 => by rw [fieldsF, pick_none g1 g2 g3 g4 g5 g6]; exact enters_of Tryz.func348 (by kernel_rfl) rfl)

theorem disp_fits : Disp "downspout/msg.fits" fitsF where
  m := kind_split _ (fun b w => by kernel_rfl) (fun b w => by kernel_rfl) (fun b w => by kernel_rfl) (fun b w => by kernel_rfl) (fun b w => by kernel_rfl) (fun b w => by kernel_rfl)
    (fun k g1 g2 g3 g4 g5 g6 b w => by rw [kindT_none g1 g2 g3 g4 g5 g6, fitsF, pick_none g1 g2 g3 g4 g5 g6]; kernel_rfl)
  c := kind_split _ (enters_of Tryz.func293 (by kernel_rfl) rfl) (enters_of Tryz.func308 (by kernel_rfl) rfl) (enters_of Tryz.func316 (by kernel_rfl) rfl) (enters_of Tryz.func323 (by kernel_rfl) rfl) (enters_of Tryz.func330 (by kernel_rfl) rfl) (enters_of Tryz.func343 (by kernel_rfl) rfl)
    (fun k g1 g2 g3 g4 g5 g6 => by rw [fitsF, pick_none g1 g2 g3 g4 g5 g6]; exact enters_of Tryz.func349 (by kernel_rfl) rfl)

theorem disp_reads : Disp "downspout/msg.reads" readsF where
  m := kind_split _ (fun b w => by kernel_rfl) (fun b w => by kernel_rfl) (fun b w => by kernel_rfl) (fun b w => by kernel_rfl) (fun b w => by kernel_rfl) (fun b w => by kernel_rfl)
    (fun k g1 g2 g3 g4 g5 g6 b w => by rw [kindT_none g1 g2 g3 g4 g5 g6, readsF, pick_none g1 g2 g3 g4 g5 g6]; kernel_rfl)
  c := kind_split _ (enters_of Tryz.func295 (by kernel_rfl) rfl) (enters_of Tryz.func310 (by kernel_rfl) rfl) (enters_of Tryz.func318 (by kernel_rfl) rfl) (enters_of Tryz.func325 (by kernel_rfl) rfl) (enters_of Tryz.func339 (by kernel_rfl) rfl) (enters_of Tryz.func345 (by kernel_rfl) rfl)
    (fun k g1 g2 g3 g4 g5 g6 => by rw [readsF, pick_none g1 g2 g3 g4 g5 g6]; exact enters_of Tryz.func351 (by kernel_rfl) rfl)

theorem disp_writes : Disp "downspout/msg.writes" writesF where
  m := kind_split _ (fun b w => by kernel_rfl) (fun b w => by kernel_rfl) (fun b w => by kernel_rfl) (fun b w => by kernel_rfl) (fun b w => by kernel_rfl) (fun b w => by kernel_rfl)
    (fun k g1 g2 g3 g4 g5 g6 b w => by rw [kindT_none g1 g2 g3 g4 g5 g6, writesF, pick_none g1 g2 g3 g4 g5 g6]; kernel_rfl)
  c := kind_split _ (enters_of Tryz.func296 (by kernel_rfl) rfl) (enters_of Tryz.func311 (by kernel_rfl) rfl) (enters_of Tryz.func319 (by kernel_rfl) rfl) (enters_of Tryz.func326 (by kernel_rfl) rfl) (enters_of Tryz.func340 (by kernel_rfl) rfl) (enters_of Tryz.func346 (by kernel_rfl) rfl)
    (fun k g1 g2 g3 g4 g5 g6 => by rw [writesF, pick_none g1 g2 g3 g4 g5 g6]; exact enters_of Tryz.func352 (by kernel_rfl) rfl)

end Go.Proofs.YtmbfghbhajmpiaaGreat
namespace Go.Proofs.YtmbfghbhajmpiaaGreat
open Go.RowKit Go.Sort
set_option linter.unusedVariables false

theorem keyB_yes {k : Bs} (h1 : 1 ≤ k.length) (h2 : k.length ≤ 65535) : keyB k = true := by unfold keyB; simp; omega
set_option maxHeartbeats 400000 in
theorem isKey_w (k : Bs) (w : World) : Calls Tryz.prog 298 #[.string (Str k)] w fun e w' => e = .returned (.bool (keyB k)) ∧ w = w' := by
  have H : Hid (keyB k = (decide (1 ≤ (k.length : Int)) && decide ((k.length : Int) ≤ 65535))) := Lib.hid (by unfold keyB; rw [Bool.eq_iff_iff]; simp; omega)
  by_cases h1 : 1 ≤ (k.length : Int)
  · go_enter Tryz.func298, Tryz.ntmps298
    go_wp2
    go_ret
    exact ⟨ret_bool (by rw [H.out]; simp [h1]), rfl⟩
  · have h2 : decide (1 ≤ (k.length : Int)) = false := by simpa using h1
    go_enter Tryz.func298, Tryz.ntmps298
    go_wp2
    go_ret
    exact ⟨ret_bool (by rw [H.out]; simp [h2]), rfl⟩
set_option maxHeartbeats 400000 in
theorem isStamp_w (n : Int) (w : World) : Calls Tryz.prog 299 #[.int .i64 n] w fun e w' => e = .returned (.bool (stampB n)) ∧ w = w' := by
  have H : Hid (stampB n = (decide (0 ≤ n) && decide (n ≤ 1000000000))) := Lib.hid (by unfold stampB; rw [Bool.eq_iff_iff]; simp)
  by_cases h1 : 0 ≤ n
  · go_enter Tryz.func299, Tryz.ntmps299
    go_wp2
    go_ret
    exact ⟨ret_bool (by rw [H.out]; simp [h1]), rfl⟩
  · have h2 : decide (0 ≤ n) = false := by simpa using h1
    go_enter Tryz.func299, Tryz.ntmps299
    go_wp2
    go_ret
    exact ⟨ret_bool (by rw [H.out]; simp [h2]), rfl⟩
set_option maxHeartbeats 400000 in
theorem isFront_w (k : Bs) (w : World) : Calls Tryz.prog 333 #[.string (Str k)] w fun e w' => e = .returned (.bool (frontB k)) ∧ w = w' := by
  have H : Hid (frontB k = (decide (1 ≤ (k.length : Int)) && decide ((k.length : Int) ≤ 200))) := Lib.hid (by unfold frontB; rw [Bool.eq_iff_iff]; simp; omega)
  by_cases h1 : 1 ≤ (k.length : Int)
  · go_enter Tryz.func333, Tryz.ntmps333
    go_wp2
    go_ret
    exact ⟨ret_bool (by rw [H.out]; simp [h1]), rfl⟩
  · have h2 : decide (1 ≤ (k.length : Int)) = false := by simpa using h1
    go_enter Tryz.func333, Tryz.ntmps333
    go_wp2
    go_ret
    exact ⟨ret_bool (by rw [H.out]; simp [h2]), rfl⟩
theorem hasPre_w (a p : Bs) (w : World) : Calls Tryz.prog 238 #[.string (Str a), .string (Str p)] w fun e w' => e = .returned (.bool (p.isPrefixOf a)) ∧ w = w' := by
  refine (Tryz.strings_HasPrefix (Str a) (Str p) w).mono fun e w' ⟨he, hw⟩ => ⟨?_, hw.symm⟩
  rw [he]; rfl
set_option maxRecDepth 100000 in
set_option maxHeartbeats 1000000 in
theorem isSpan_w (lo hi : Bs) (w : World) : Calls Tryz.prog 320 #[.agg #[.string (Str lo), .string (Str hi)]] w fun e w' => e = .returned (.bool (spanB lo hi)) ∧ Grown w w' := by
  have H : Hid (spanB lo hi = (!emptyB (lo, hi) && (decide ((lo.length : Int) ≤ 65535) && decide ((hi.length : Int) ≤ 65535)))) := Lib.hid (by
    unfold spanB; congr 2
    · rw [Bool.eq_iff_iff]; simp; omega
    · rw [Bool.eq_iff_iff]; simp; omega)
  have he := fun wx => empty_w lo hi wx
  have HB : Hid (Blk (w.alloc (.cells #[.string (Str lo), .string (Str hi)] 41)) w.heap.size 41 #[.string (Str lo), .string (Str hi)]) := Lib.hid (Blk.new _ _ _)
  have mixed := mixedA
  cases hem : emptyB (lo, hi) with
  | true =>
    rw [hem] at he H
    have He := Lib.hid he
    clear he hem
    go_enter Tryz.func320, Tryz.ntmps320
    go_wp2_with fail
    refine (He.out _).mono ?_
    rintro e w1 ⟨rfl, hg⟩
    have Hg : Hid (Grown w w1) := Lib.hid (((Grown.refl w).alloc _).trans hg)
    clear hg
    go_wp2
    go_ret
    exact ⟨ret_bool (by rw [H.out]; rfl), Hg.out⟩
  | false =>
    rw [hem] at he H
    have He := Lib.hid he
    clear he hem
    by_cases h1 : (lo.length : Int) ≤ 65535
    · have hd1 : decide ((lo.length : Int) ≤ 65535) = true := by simpa using h1
      go_enter Tryz.func320, Tryz.ntmps320
      go_wp2_with fail
      refine (He.out _).mono ?_
      rintro e w1 ⟨rfl, hg⟩
      have hB := HB.out.below (hg.below (Nat.le_refl _)) HB.out.lt
      have c0 := hB.c0 0 _ rfl
      have c1 := hB.c0 1 _ rfl
      have Hg : Hid (Grown w w1) := Lib.hid (((Grown.refl w).alloc _).trans hg)
      clear hg hB
      go_wp2
      go_ret
      exact ⟨ret_bool (by rw [H.out, hd1]; rfl), Hg.out⟩
    · have hd1 : decide ((lo.length : Int) ≤ 65535) = false := by simpa using h1
      clear h1
      go_enter Tryz.func320, Tryz.ntmps320
      go_wp2_with fail
      refine (He.out _).mono ?_
      rintro e w1 ⟨rfl, hg⟩
      have hB := HB.out.below (hg.below (Nat.le_refl _)) HB.out.lt
      have c0 := hB.c0 0 _ rfl
      have c1 := hB.c0 1 _ rfl
      have Hg : Hid (Grown w w1) := Lib.hid (((Grown.refl w).alloc _).trans hg)
      clear hg hB
      go_wp2
      go_ret
      exact ⟨ret_bool (by rw [H.out, hd1]; rfl), Hg.out⟩

end Go.Proofs.YtmbfghbhajmpiaaGreat
namespace Go.Proofs.YtmbfghbhajmpiaaGreat
open Go.RowKit Go.Sort
set_option linter.unusedVariables false

theorem quiet_flip {P : Program} {f : FuncId} {args : Array Value} {w : World} {n : Nat} {v : Value}
    (h : Calls P f args (w.drewN n) fun e w' => e = .returned v ∧ w.drewN n = w') : Calls P f args (w.drewN n) fun e w'' => e = .returned v ∧ ∃ m, w'' = w.drewN m :=
  h.mono fun _ _ ⟨he, hm⟩ => ⟨he, n, hm.symm⟩

/-- The cells of a message that is a block. -/
structure MCells (w : World) (b : Nat) (m : Ms) : Prop where
  c0 : ∀ n, (w.drewN n).cell? ⟨b, 0, none⟩ = some (.int .i64 m.kind)
  c1 : ∀ n, (w.drewN n).cell? ⟨b, 1, none⟩ = some (.string (Str m.key))
  c2 : ∀ n, (w.drewN n).cell? ⟨b, 2, none⟩ = some (.string (Str m.val))
  c3 : ∀ n, (w.drewN n).cell? ⟨b, 3, none⟩ = some (.string (Str m.lo))
  c4 : ∀ n, (w.drewN n).cell? ⟨b, 4, none⟩ = some (.string (Str m.hi))
  c5 : ∀ n, (w.drewN n).cell? ⟨b, 5, none⟩ = some (.string (Str m.src))
  c6 : ∀ n, (w.drewN n).cell? ⟨b, 6, none⟩ = some (.string (Str m.dst))
  c7 : ∀ n, (w.drewN n).cell? ⟨b, 7, none⟩ = some (.int .i64 m.n)
abbrev MBlk (w : World) (b : Nat) (m : Ms) : Prop := Blk w b 46 (encM m)
theorem MBlk.cells {w : World} {b : Nat} {m : Ms} (h : MBlk w b m) : MCells w b m :=
  ⟨fun _ => h.c0 0 _ rfl, fun _ => h.c0 1 _ rfl, fun _ => h.c0 2 _ rfl, fun _ => h.c0 3 _ rfl, fun _ => h.c0 4 _ rfl, fun _ => h.c0 5 _ rfl, fun _ => h.c0 6 _ rfl, fun _ => h.c0 7 _ rfl⟩
theorem MBlk.plain {w : World} {b : Nat} {m : Ms} (h : MBlk w b m) :
    w.cell? ⟨b, 0, none⟩ = some (.int .i64 m.kind) ∧ w.cell? ⟨b, 1, none⟩ = some (.string (Str m.key)) ∧ w.cell? ⟨b, 2, none⟩ = some (.string (Str m.val)) ∧ w.cell? ⟨b, 3, none⟩ = some (.string (Str m.lo)) ∧
    w.cell? ⟨b, 4, none⟩ = some (.string (Str m.hi)) ∧ w.cell? ⟨b, 5, none⟩ = some (.string (Str m.src)) ∧ w.cell? ⟨b, 6, none⟩ = some (.string (Str m.dst)) ∧ w.cell? ⟨b, 7, none⟩ = some (.int .i64 m.n) :=
  ⟨h.c0 0 _ rfl, h.c0 1 _ rfl, h.c0 2 _ rfl, h.c0 3 _ rfl, h.c0 4 _ rfl, h.c0 5 _ rfl, h.c0 6 _ rfl, h.c0 7 _ rfl⟩

set_option maxHeartbeats 1000000 in
theorem fits_put (b : Nat) (m : Ms) (w : World) (h : MBlk w b m) : Calls Tryz.prog 293 #[ptrV b] w fun e w' => e = .returned (.bool (keyB m.key && (decide (m.val.length ≤ 64) && stampB m.n))) ∧ Grown w w' := by
  obtain ⟨-, c1, c2, -, -, -, -, c7⟩ := h.plain
  have hk := fun wx => isKey_w m.key wx
  have hs := fun wx => isStamp_w m.n wx
  clear h
  generalize m.key = k at *
  generalize m.val = v at *
  generalize m.n = n at *
  have e64 : decide (v.length ≤ 64) = decide ((v.length : Int) ≤ 64) := by rw [Bool.eq_iff_iff]; simp; omega
  rw [e64]
  clear e64
  cases h1 : keyB k with
  | false =>
    rw [h1] at hk
    clear h1
    go_enter Tryz.func293, Tryz.ntmps293
    go_wp2_with (go_at_call 298; refine (hk _).mono ?_; rintro e w' ⟨rfl, rfl⟩)
    go_ret
    exact ⟨rfl, Grown.refl _⟩
  | true =>
    rw [h1] at hk
    clear h1
    by_cases h2 : (v.length : Int) ≤ 64
    · have hd : decide ((v.length : Int) ≤ 64) = true := by simpa using h2
      rw [hd]
      go_enter Tryz.func293, Tryz.ntmps293
      go_wp2_with (first | (go_at_call 298; refine (hk _).mono ?_; rintro e w' ⟨rfl, rfl⟩) | (go_at_call 299; refine (hs _).mono ?_; rintro e w' ⟨rfl, rfl⟩))
      go_ret
      exact ⟨rfl, Grown.refl _⟩
    · have hd : decide ((v.length : Int) ≤ 64) = false := by simpa using h2
      rw [hd]
      clear h2
      go_enter Tryz.func293, Tryz.ntmps293
      go_wp2_with (first | (go_at_call 298; refine (hk _).mono ?_; rintro e w' ⟨rfl, rfl⟩) | (go_at_call 299; refine (hs _).mono ?_; rintro e w' ⟨rfl, rfl⟩))
      go_ret
      exact ⟨rfl, Grown.refl _⟩
set_option maxHeartbeats 1000000 in
theorem fits_del (b : Nat) (m : Ms) (w : World) (h : MBlk w b m) : Calls Tryz.prog 308 #[ptrV b] w fun e w' => e = .returned (.bool (keyB m.key)) ∧ Grown w w' := by
  obtain ⟨-, c1, -⟩ := h.plain
  clear h
  go_enter Tryz.func308, Tryz.ntmps308
  go_wp2_with (go_at_call 298; refine (isKey_w _ _).mono ?_; rintro e w' ⟨rfl, rfl⟩)
  go_ret
  exact ⟨rfl, Grown.refl _⟩
set_option maxHeartbeats 1000000 in
theorem fits_drop (b : Nat) (m : Ms) (w : World) (h : MBlk w b m) : Calls Tryz.prog 316 #[ptrV b] w fun e w' => e = .returned (.bool (spanB m.lo m.hi)) ∧ Grown w w' := by
  obtain ⟨-, -, -, c3, c4, -⟩ := h.plain
  clear h
  go_enter Tryz.func316, Tryz.ntmps316
  go_wp2_with (go_at_call 320; refine (isSpan_w _ _ _).mono ?_; rintro e w' ⟨rfl, hg⟩)
  go_ret
  exact ⟨rfl, hg⟩
set_option maxHeartbeats 1000000 in
theorem fits_stamp (b : Nat) (m : Ms) (w : World) (h : MBlk w b m) : Calls Tryz.prog 343 #[ptrV b] w fun e w' => e = .returned (.bool (spanB m.lo m.hi && stampB m.n)) ∧ Grown w w' := by
  obtain ⟨-, -, -, c3, c4, -, -, c7⟩ := h.plain
  have HB := Lib.hid h
  have hp := fun wx => isSpan_w m.lo m.hi wx
  have hs := fun wx => isStamp_w m.n wx
  clear h
  cases h1 : spanB m.lo m.hi with
  | false =>
    rw [h1] at hp
    clear h1
    go_enter Tryz.func343, Tryz.ntmps343
    go_wp2_with (go_at_call 320; refine (hp _).mono ?_; rintro e w' ⟨rfl, hg⟩)
    go_ret
    exact ⟨rfl, hg⟩
  | true =>
    rw [h1] at hp
    clear h1
    have Hp := Lib.hid hp
    have Hs := Lib.hid hs
    clear hp hs
    go_enter Tryz.func343, Tryz.ntmps343
    go_wp2_with fail
    refine (Hp.out _).mono ?_
    rintro e w1 ⟨rfl, hg⟩
    have d7 := (HB.out.below (hg.below (Nat.le_refl _)) HB.out.lt).c0 7 _ rfl
    have Hg := Lib.hid hg
    clear hg
    go_wp2_with (go_at_call 299; refine (Hs.out _).mono ?_; rintro e w' ⟨rfl, rfl⟩)
    go_ret
    exact ⟨rfl, Hg.out⟩
set_option maxRecDepth 100000 in
set_option maxHeartbeats 2000000 in
theorem fits_clone (b : Nat) (m : Ms) (w : World) (h : MBlk w b m) : Calls Tryz.prog 330 #[ptrV b] w fun e w' => e = .returned (.bool (apartB m.src m.dst)) ∧ Grown w w' := by
  have hc := h.cells
  have c5 := hc.c5
  have c6 := hc.c6
  have mixed := mixedA
  have H : Hid (apartB m.src m.dst = (frontB m.src && (frontB m.dst && (!m.dst.isPrefixOf m.src && !m.src.isPrefixOf m.dst)))) := Lib.hid rfl
  have f1 := fun wx => isFront_w m.src wx
  have f2 := fun wx => isFront_w m.dst wx
  have f3 := fun wx => hasPre_w m.src m.dst wx
  have f4 := fun wx => hasPre_w m.dst m.src wx
  clear h hc
  generalize m.src = s at *
  generalize m.dst = d at *
  generalize apartB s d = r at *
  cases h1 : frontB s <;> cases h2 : frontB d <;> cases h3 : d.isPrefixOf s <;> cases h4 : s.isPrefixOf d
  all_goals
    rw [h1, h2, h3, h4] at H
    rw [h1] at f1
    rw [h2] at f2
    rw [h3] at f3
    rw [h4] at f4
    have F1 := Lib.hid f1
    have F2 := Lib.hid f2
    have F3 := Lib.hid f3
    have F4 := Lib.hid f4
    clear h1 h2 h3 h4 f1 f2 f3 f4
    go_enter Tryz.func330, Tryz.ntmps330
    go_wp2
    go_quiet ((first
      | (go_at_call_of 333 (Value.string (Str s)); exact quiet_flip (F1.out _))
      | (go_at_call 333; exact quiet_flip (F2.out _))
      | (go_at_call_of 238 (Value.string (Str s)); exact quiet_flip (F3.out _))
      | (go_at_call 238; exact quiet_flip (F4.out _))))
    go_wp2
    go_ret
    exact ⟨ret_bool (by rw [H.out]; rfl), ⟨_, #[], (grow_empty _).symm⟩⟩
set_option maxHeartbeats 1000000 in
theorem fits_move (b : Nat) (m : Ms) (w : World) (h : MBlk w b m) : Calls Tryz.prog 323 #[ptrV b] w fun e w' => e = .returned (.bool (apartB m.src m.dst)) ∧ Grown w w' := by
  have H := Lib.hid (fits_clone b m w h)
  clear h
  go_enter Tryz.func323, Tryz.ntmps323
  go_wp2_with (go_at_call 330; refine H.out.mono ?_; rintro e w' ⟨rfl, hg⟩)
  go_ret
  exact ⟨rfl, hg⟩
theorem fits_none (b : Nat) (w : World) : Calls Tryz.prog 349 #[ptrV b] w fun e w' => e = .returned (.bool false) ∧ Grown w w' := by
  go_enter Tryz.func349, Tryz.ntmps349
  go_wp2
  go_ret
  exact ⟨rfl, Grown.refl _⟩
theorem fits_w (b : Nat) (m : Ms) (w : World) (h : MBlk w b m) : Calls Tryz.prog (fitsF m.kind) #[ptrV b] w fun e w' => e = .returned (.bool (fitsB m)) ∧ Grown w w' := by
  unfold fitsF pickF fitsB
  by_cases h1 : m.kind = 1
  · rw [if_pos h1, if_pos h1]; exact fits_put b m w h
  rw [if_neg h1, if_neg h1]
  by_cases h2 : m.kind = 2
  · rw [if_pos h2, if_pos h2]; exact fits_del b m w h
  rw [if_neg h2, if_neg h2]
  by_cases h3 : m.kind = 3
  · rw [if_pos h3, if_pos h3]; exact fits_drop b m w h
  rw [if_neg h3, if_neg h3]
  by_cases h4 : m.kind = 4
  · rw [if_pos h4, if_pos h4]; exact fits_move b m w h
  rw [if_neg h4, if_neg h4]
  by_cases h5 : m.kind = 5
  · rw [if_pos h5, if_pos h5]; exact fits_clone b m w h
  rw [if_neg h5, if_neg h5]
  by_cases h6 : m.kind = 6
  · rw [if_pos h6, if_pos h6]; exact fits_stamp b m w h
  rw [if_neg h6, if_neg h6]
  exact fits_none b w

end Go.Proofs.YtmbfghbhajmpiaaGreat
