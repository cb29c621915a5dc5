/-
  Walks: the fields of each kind are in their ranges.
-/
import Derived.Test.YtaafckefeejjpaaGreatMB
namespace Go.Proofs.YtaafckefeejjpaaGreat
open Go.RowKit Go.Sort
set_option linter.unusedVariables false

theorem flipW {P : Program} {f : FuncId} {args : Array Value} {w w0 : World} {v : Value} (h : Calls P f args w fun e w' => e = .returned v ∧ w = w') : Calls P f args w fun e w' => e = .returned v ∧ w' = w :=
  h.mono fun _ _ ⟨a, b⟩ => ⟨a, b.symm⟩
theorem quiet_flip {P : Program} {f : FuncId} {args : Array Value} {w : World} {n : Nat} {v : Value}
    (h : Calls P f args (w.drewN n) fun e w' => e = .returned v ∧ w.drewN n = w') : Calls P f args (w.drewN n) fun e w'' => e = .returned v ∧ ∃ m, w'' = w.drewN m :=
  h.mono fun _ _ ⟨he, hm⟩ => ⟨he, n, hm.symm⟩

/-- The cells of a message that is a block. -/
structure MCells (w : World) (b : Nat) (m : Ms) : Prop where
  c0 : ∀ n, (w.drewN n).cell? ⟨b, 0, none⟩ = some (.int .i64 m.kind)
  c1 : ∀ n, (w.drewN n).cell? ⟨b, 1, none⟩ = some (.string (Str m.key))
  c2 : ∀ n, (w.drewN n).cell? ⟨b, 2, none⟩ = some (.string (Str m.val))
  c3 : ∀ n, (w.drewN n).cell? ⟨b, 3, none⟩ = some (.string (Str m.lo))
  c4 : ∀ n, (w.drewN n).cell? ⟨b, 4, none⟩ = some (.string (Str m.hi))
  c5 : ∀ n, (w.drewN n).cell? ⟨b, 5, none⟩ = some (.string (Str m.src))
  c6 : ∀ n, (w.drewN n).cell? ⟨b, 6, none⟩ = some (.string (Str m.dst))
  c7 : ∀ n, (w.drewN n).cell? ⟨b, 7, none⟩ = some (.int .i64 m.n)
abbrev MBlk (w : World) (b : Nat) (m : Ms) : Prop := Blk w b 47 (encM m)
theorem MBlk.cells {w : World} {b : Nat} {m : Ms} (h : MBlk w b m) : MCells w b m :=
  ⟨fun _ => h.c0 0 _ rfl, fun _ => h.c0 1 _ rfl, fun _ => h.c0 2 _ rfl, fun _ => h.c0 3 _ rfl, fun _ => h.c0 4 _ rfl, fun _ => h.c0 5 _ rfl, fun _ => h.c0 6 _ rfl, fun _ => h.c0 7 _ rfl⟩
theorem MBlk.plain {w : World} {b : Nat} {m : Ms} (h : MBlk w b m) :
    w.cell? ⟨b, 0, none⟩ = some (.int .i64 m.kind) ∧ w.cell? ⟨b, 1, none⟩ = some (.string (Str m.key)) ∧ w.cell? ⟨b, 2, none⟩ = some (.string (Str m.val)) ∧ w.cell? ⟨b, 3, none⟩ = some (.string (Str m.lo)) ∧
    w.cell? ⟨b, 4, none⟩ = some (.string (Str m.hi)) ∧ w.cell? ⟨b, 5, none⟩ = some (.string (Str m.src)) ∧ w.cell? ⟨b, 6, none⟩ = some (.string (Str m.dst)) ∧ w.cell? ⟨b, 7, none⟩ = some (.int .i64 m.n) :=
  ⟨h.c0 0 _ rfl, h.c0 1 _ rfl, h.c0 2 _ rfl, h.c0 3 _ rfl, h.c0 4 _ rfl, h.c0 5 _ rfl, h.c0 6 _ rfl, h.c0 7 _ rfl⟩

set_option maxHeartbeats 1000000 in
theorem fits_put (b : Nat) (m : Ms) (w : World) (h : MBlk w b m) : Calls Tryz.prog 161 #[ptrV b] w fun e w' => e = .returned (.bool (keyB m.key && (decide (m.val.length ≤ 64) && stampB m.n))) ∧ Grown w w' := by
  obtain ⟨-, c1, c2, -, -, -, -, c7⟩ := h.plain
  have hk := fun wx => isKey_w m.key wx
  have hs := fun wx => isStamp_w m.n wx
  clear h
  generalize m.key = k at *
  generalize m.val = v at *
  generalize m.n = n at *
  have e64 : decide (v.length ≤ 64) = decide ((v.length : Int) ≤ 64) := by rw [Bool.eq_iff_iff]; simp; omega
  rw [e64]
  clear e64
  cases h1 : keyB k with
  | false =>
    rw [h1] at hk
    clear h1
    go_enter Tryz.func161, Tryz.ntmps161
    go_wp2_with (go_at_call 166; refine (hk _).mono ?_; rintro e w' ⟨rfl, rfl⟩)
    go_ret
    exact ⟨rfl, Grown.refl _⟩
  | true =>
    rw [h1] at hk
    clear h1
    by_cases h2 : (v.length : Int) ≤ 64
    · have hd : decide ((v.length : Int) ≤ 64) = true := by simpa using h2
      rw [hd]
      go_enter Tryz.func161, Tryz.ntmps161
      go_wp2_with (first | (go_at_call 166; refine (hk _).mono ?_; rintro e w' ⟨rfl, rfl⟩) | (go_at_call 167; refine (hs _).mono ?_; rintro e w' ⟨rfl, rfl⟩))
      go_ret
      exact ⟨rfl, Grown.refl _⟩
    · have hd : decide ((v.length : Int) ≤ 64) = false := by simpa using h2
      rw [hd]
      clear h2
      go_enter Tryz.func161, Tryz.ntmps161
      go_wp2_with (first | (go_at_call 166; refine (hk _).mono ?_; rintro e w' ⟨rfl, rfl⟩) | (go_at_call 167; refine (hs _).mono ?_; rintro e w' ⟨rfl, rfl⟩))
      go_ret
      exact ⟨rfl, Grown.refl _⟩
set_option maxHeartbeats 1000000 in
theorem fits_del (b : Nat) (m : Ms) (w : World) (h : MBlk w b m) : Calls Tryz.prog 176 #[ptrV b] w fun e w' => e = .returned (.bool (keyB m.key)) ∧ Grown w w' := by
  obtain ⟨-, c1, -⟩ := h.plain
  clear h
  go_enter Tryz.func176, Tryz.ntmps176
  go_wp2_with (go_at_call 166; refine (isKey_w _ _).mono ?_; rintro e w' ⟨rfl, rfl⟩)
  go_ret
  exact ⟨rfl, Grown.refl _⟩
set_option maxHeartbeats 1000000 in
theorem fits_drop (b : Nat) (m : Ms) (w : World) (h : MBlk w b m) : Calls Tryz.prog 184 #[ptrV b] w fun e w' => e = .returned (.bool (spanB m.lo m.hi)) ∧ Grown w w' := by
  obtain ⟨-, -, -, c3, c4, -⟩ := h.plain
  clear h
  go_enter Tryz.func184, Tryz.ntmps184
  go_wp2_with (go_at_call 188; refine (isSpan_w _ _ _).mono ?_; rintro e w' ⟨rfl, hg⟩)
  go_ret
  exact ⟨rfl, hg⟩
set_option maxHeartbeats 1000000 in
theorem fits_stamp (b : Nat) (m : Ms) (w : World) (h : MBlk w b m) : Calls Tryz.prog 212 #[ptrV b] w fun e w' => e = .returned (.bool (spanB m.lo m.hi && stampB m.n)) ∧ Grown w w' := by
  obtain ⟨-, -, -, c3, c4, -, -, c7⟩ := h.plain
  have HB := Lib.hid h
  have hp := fun wx => isSpan_w m.lo m.hi wx
  have hs := fun wx => isStamp_w m.n wx
  clear h
  cases h1 : spanB m.lo m.hi with
  | false =>
    rw [h1] at hp
    clear h1
    go_enter Tryz.func212, Tryz.ntmps212
    go_wp2_with (go_at_call 188; refine (hp _).mono ?_; rintro e w' ⟨rfl, hg⟩)
    go_ret
    exact ⟨rfl, hg⟩
  | true =>
    rw [h1] at hp
    clear h1
    have Hp := Lib.hid hp
    have Hs := Lib.hid hs
    clear hp hs
    go_enter Tryz.func212, Tryz.ntmps212
    go_wp2_with fail
    refine (Hp.out _).mono ?_
    rintro e w1 ⟨rfl, hg⟩
    have d7 := (HB.out.below (hg.below (Nat.le_refl _)) HB.out.lt).c0 7 _ rfl
    have Hg := Lib.hid hg
    clear hg
    go_wp2_with (go_at_call 167; refine (Hs.out _).mono ?_; rintro e w' ⟨rfl, rfl⟩)
    go_ret
    exact ⟨rfl, Hg.out⟩
set_option maxRecDepth 100000 in
set_option maxHeartbeats 2000000 in
theorem fits_clone (b : Nat) (m : Ms) (w : World) (h : MBlk w b m) : Calls Tryz.prog 198 #[ptrV b] w fun e w' => e = .returned (.bool (apartB m.src m.dst)) ∧ Grown w w' := by
  have hc := h.cells
  have c5 := hc.c5
  have c6 := hc.c6
  have mixed := mixedA
  have H : Hid (apartB m.src m.dst = (frontB m.src && (frontB m.dst && (!m.dst.isPrefixOf m.src && !m.src.isPrefixOf m.dst)))) := Lib.hid rfl
  have f1 := fun wx => isFront_w m.src wx
  have f2 := fun wx => isFront_w m.dst wx
  have f3 := fun wx => hasPre_w m.src m.dst wx
  have f4 := fun wx => hasPre_w m.dst m.src wx
  clear h hc
  generalize m.src = s at *
  generalize m.dst = d at *
  generalize apartB s d = r at *
  cases h1 : frontB s <;> cases h2 : frontB d <;> cases h3 : d.isPrefixOf s <;> cases h4 : s.isPrefixOf d
  all_goals
    rw [h1, h2, h3, h4] at H
    rw [h1] at f1
    rw [h2] at f2
    rw [h3] at f3
    rw [h4] at f4
    have F1 := Lib.hid f1
    have F2 := Lib.hid f2
    have F3 := Lib.hid f3
    have F4 := Lib.hid f4
    clear h1 h2 h3 h4 f1 f2 f3 f4
    go_enter Tryz.func198, Tryz.ntmps198
    go_wp2
    go_quiet ((first
      | (go_at_call_of 200 (Value.string (Str s)); exact quiet_flip (F1.out _))
      | (go_at_call 200; exact quiet_flip (F2.out _))
      | (go_at_call_of 201 (Value.string (Str s)); exact quiet_flip (F3.out _))
      | (go_at_call 201; exact quiet_flip (F4.out _))))
    go_wp2
    go_ret
    exact ⟨ret_bool (by rw [H.out]; rfl), ⟨_, #[], (grow_empty _).symm⟩⟩
set_option maxHeartbeats 1000000 in
theorem fits_move (b : Nat) (m : Ms) (w : World) (h : MBlk w b m) : Calls Tryz.prog 191 #[ptrV b] w fun e w' => e = .returned (.bool (apartB m.src m.dst)) ∧ Grown w w' := by
  have H := Lib.hid (fits_clone b m w h)
  clear h
  go_enter Tryz.func191, Tryz.ntmps191
  go_wp2_with (go_at_call 198; refine H.out.mono ?_; rintro e w' ⟨rfl, hg⟩)
  go_ret
  exact ⟨rfl, hg⟩
theorem fits_none (b : Nat) (w : World) : Calls Tryz.prog 219 #[ptrV b] w fun e w' => e = .returned (.bool false) ∧ Grown w w' := by
  go_enter Tryz.func219, Tryz.ntmps219
  go_wp2
  go_ret
  exact ⟨rfl, Grown.refl _⟩
theorem fits_w (b : Nat) (m : Ms) (w : World) (h : MBlk w b m) : Calls Tryz.prog (fitsF m.kind) #[ptrV b] w fun e w' => e = .returned (.bool (fitsB m)) ∧ Grown w w' := by
  unfold fitsF pickF fitsB
  by_cases h1 : m.kind = 1
  · rw [if_pos h1, if_pos h1]; exact fits_put b m w h
  rw [if_neg h1, if_neg h1]
  by_cases h2 : m.kind = 2
  · rw [if_pos h2, if_pos h2]; exact fits_del b m w h
  rw [if_neg h2, if_neg h2]
  by_cases h3 : m.kind = 3
  · rw [if_pos h3, if_pos h3]; exact fits_drop b m w h
  rw [if_neg h3, if_neg h3]
  by_cases h4 : m.kind = 4
  · rw [if_pos h4, if_pos h4]; exact fits_move b m w h
  rw [if_neg h4, if_neg h4]
  by_cases h5 : m.kind = 5
  · rw [if_pos h5, if_pos h5]; exact fits_clone b m w h
  rw [if_neg h5, if_neg h5]
  by_cases h6 : m.kind = 6
  · rw [if_pos h6, if_pos h6]; exact fits_stamp b m w h
  rw [if_neg h6, if_neg h6]
  exact fits_none b w

end Go.Proofs.YtaafckefeejjpaaGreat
