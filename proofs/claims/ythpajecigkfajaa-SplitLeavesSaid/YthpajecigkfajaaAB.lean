/-
  Walks: clones and slices of lists of five element types (gen_ab.py).
-/
import Derived.Test.YthpajecigkfajaaAA
import Derived.Test.YthpajecigkfajaaYFG
namespace Go.Proofs.Ythpajecigkfajaa
open Go.RowKit Go.Sort
set_option linter.unusedVariables false
set_option maxRecDepth 100000

theorem IsRow.any {α : Type} {B : Nat} {en : α → List Value} {k : Nat} {w : World} {v : Value} {l : List α} (h : IsRow B en k w v l) : IsAny en k w v l := by
  obtain ⟨a, cap, rfl, h2, h3, h4⟩ := h
  refine ⟨a, cap, rfl, fun hne => ?_⟩
  obtain ⟨b, off, e, -, -, hc⟩ := h4 hne
  exact ⟨b, off, e, hc⟩

theorem lenP (x : Pr) : (encP x).length = 3 := rfl
theorem ocP (x : Pr) : ∀ u ∈ encP x, u.oneCell' = true := by
  intro u hu; simp only [encP, List.mem_cons, List.not_mem_nil, or_false] at hu
  rcases hu with rfl | rfl | rfl <;> rfl
theorem emptyP (W : World) (B : Nat) (hB : B ≤ W.heap.size) : (W.alloc (.cells #[] 45)).ownsRow B 45 3 (.slice (some ⟨W.heap.size, 0, none⟩) 0 0) ([] : List Pr).length (([] : List Pr).flatMap encP) :=
  ⟨rfl, .inr ⟨W.heap.size, 0, #[], rfl, hB, Blk.new _ _ _, Nat.le_refl _, by unfold maxLen; omega, rfl, rfl⟩⟩
theorem sizePL : (sizeOf (Try.prog.elem 24)) = sizeOf 45 := by
  rw [show Try.prog.elem 24 = 45 by kernel_rfl]
theorem elemPL : Try.prog.underlying 24 = some (.slice (Try.prog.elem 24)) := by
  rw [show Try.prog.elem 24 = 45 by kernel_rfl]; exact Try.underlying24
theorem sliceHP (a : Option Addr) (n cap hi : Nat) (h2 : hi ≤ cap) (w : World) : (Instr.slice 24 (.slice a n cap) none (some (.int .i64 hi)) none).run Try.prog w = .ok (sliced a 0 hi cap 3) w := by
  rw [run_slice_h w 24 a n cap elemPL .i64 hi (by omega) (by omega), sizePL, Try.sizeOf45]; rfl
theorem sliceLP (a : Option Addr) (n cap lo : Nat) (h2 : lo ≤ n) (w : World) : (Instr.slice 24 (.slice a n cap) (some (.int .i64 lo)) none none).run Try.prog w = .ok (sliced a lo n cap 3) w := by
  rw [run_slice_l w 24 a n cap elemPL .i64 lo (by omega) (by omega), sizePL, Try.sizeOf45]; rfl
set_option maxHeartbeats 2000000 in
theorem cloneP_w (B : Nat) (v : Value) (l : List Pr) (w : World) (h : IsRow B encP 3 w v l) (hl : l.length ≤ 1000000) :
    Calls Try.prog 27 #[v] w fun e w' => ∃ v', e = .returned v' ∧ w'.ownsRow w.heap.size 45 3 v' l.length (l.flatMap encP) ∧ Below w.heap.size w w' := by
  have H := Lib.hid h
  obtain ⟨a, cap, rfl, hle, hcm, hne⟩ := h
  unfold maxLen at hcm
  have HNE := Lib.hid hne
  clear hne
  have q26 : ∀ (w : World) (a : Option Addr) (n c n' c' : Nat), (binOp .eql 24 (.slice a n c) (.slice none n' c')).run Try.prog w = .ok (.bool a.isNone) w := fun w a n c n' c' => Lib.run_eql_slice_nil w _ _ a n c n' c' Try.underlying24
  cases a with
  | none =>
    have hn : l = [] := by
      rcases l with _ | ⟨x, r⟩
      · rfl
      · obtain ⟨b, off, e, _⟩ := HNE.out (by simp); cases e
    subst hn
    go_enter Try.func27, Try.ntmps27
    go_wp2
    go_ret
    exact ⟨_, rfl, World.ownsRow_nil _ _ _ _, Below.refl _ _⟩
  | some ad =>
    have HB := Lib.hid (H.out.below (below_box (.cells #[] 45)))
    go_enter Try.func27, Try.ntmps27
    go_wp2_with (at_builtin; refine append_any (en := encP) rfl _ _ 24 45 _ 3 40 infoP Try.underlying24 rfl (by decide) (by decide) lenP ocP rfl w.heap.size _ [] rfl (emptyP w w.heap.size (Nat.le_refl _)) _ l rfl HB.out.any (by simp; omega) (by simp) ?_; intro v' w1 hown hbel)
    have Hown := Lib.hid hown
    have Hbel : Hid (Below w.heap.size w w1) := Lib.hid ((below_box _).trans hbel)
    clear hown hbel
    go_wp2
    go_ret
    exact ⟨_, rfl, by have := Hown.out; rwa [List.nil_append] at this, Hbel.out⟩

theorem lenS (x : Sm) : (encSm x).length = 4 := rfl
theorem ocS (x : Sm) : ∀ u ∈ encSm x, u.oneCell' = true := by
  intro u hu; simp only [encSm, List.mem_cons, List.not_mem_nil, or_false] at hu
  rcases hu with rfl | rfl | rfl | rfl <;> rfl
theorem emptyS (W : World) (B : Nat) (hB : B ≤ W.heap.size) : (W.alloc (.cells #[] 72)).ownsRow B 72 4 (.slice (some ⟨W.heap.size, 0, none⟩) 0 0) ([] : List Sm).length (([] : List Sm).flatMap encSm) :=
  ⟨rfl, .inr ⟨W.heap.size, 0, #[], rfl, hB, Blk.new _ _ _, Nat.le_refl _, by unfold maxLen; omega, rfl, rfl⟩⟩
theorem sizeSL : (sizeOf (Try.prog.elem 41)) = sizeOf 72 := by
  rw [show Try.prog.elem 41 = 72 by kernel_rfl]
theorem elemSL : Try.prog.underlying 41 = some (.slice (Try.prog.elem 41)) := by
  rw [show Try.prog.elem 41 = 72 by kernel_rfl]; exact Try.underlying41
theorem sliceHS (a : Option Addr) (n cap hi : Nat) (h2 : hi ≤ cap) (w : World) : (Instr.slice 41 (.slice a n cap) none (some (.int .i64 hi)) none).run Try.prog w = .ok (sliced a 0 hi cap 4) w := by
  rw [run_slice_h w 41 a n cap elemSL .i64 hi (by omega) (by omega), sizeSL, Try.sizeOf72]; rfl
theorem sliceLS (a : Option Addr) (n cap lo : Nat) (h2 : lo ≤ n) (w : World) : (Instr.slice 41 (.slice a n cap) (some (.int .i64 lo)) none none).run Try.prog w = .ok (sliced a lo n cap 4) w := by
  rw [run_slice_l w 41 a n cap elemSL .i64 lo (by omega) (by omega), sizeSL, Try.sizeOf72]; rfl
set_option maxHeartbeats 2000000 in
theorem cloneS_w (B : Nat) (v : Value) (l : List Sm) (w : World) (h : IsRow B encSm 4 w v l) (hl : l.length ≤ 1000000) :
    Calls Try.prog 40 #[v] w fun e w' => ∃ v', e = .returned v' ∧ w'.ownsRow w.heap.size 72 4 v' l.length (l.flatMap encSm) ∧ Below w.heap.size w w' := by
  have H := Lib.hid h
  obtain ⟨a, cap, rfl, hle, hcm, hne⟩ := h
  unfold maxLen at hcm
  have HNE := Lib.hid hne
  clear hne
  have q26 : ∀ (w : World) (a : Option Addr) (n c n' c' : Nat), (binOp .eql 41 (.slice a n c) (.slice none n' c')).run Try.prog w = .ok (.bool a.isNone) w := fun w a n c n' c' => Lib.run_eql_slice_nil w _ _ a n c n' c' Try.underlying41
  cases a with
  | none =>
    have hn : l = [] := by
      rcases l with _ | ⟨x, r⟩
      · rfl
      · obtain ⟨b, off, e, _⟩ := HNE.out (by simp); cases e
    subst hn
    go_enter Try.func40, Try.ntmps40
    go_wp2
    go_ret
    exact ⟨_, rfl, World.ownsRow_nil _ _ _ _, Below.refl _ _⟩
  | some ad =>
    have HB := Lib.hid (H.out.below (below_box (.cells #[] 72)))
    go_enter Try.func40, Try.ntmps40
    go_wp2_with (at_builtin; refine append_any (en := encSm) rfl _ _ 41 72 _ 4 32 infoSm Try.underlying41 rfl (by decide) (by decide) lenS ocS rfl w.heap.size _ [] rfl (emptyS w w.heap.size (Nat.le_refl _)) _ l rfl HB.out.any (by simp; omega) (by simp) ?_; intro v' w1 hown hbel)
    have Hown := Lib.hid hown
    have Hbel : Hid (Below w.heap.size w w1) := Lib.hid ((below_box _).trans hbel)
    clear hown hbel
    go_wp2
    go_ret
    exact ⟨_, rfl, by have := Hown.out; rwa [List.nil_append] at this, Hbel.out⟩

theorem lenT (x : Bs) : (encT x).length = 1 := rfl
theorem ocT (x : Bs) : ∀ u ∈ encT x, u.oneCell' = true := by
  intro u hu; simp only [encT, List.mem_cons, List.not_mem_nil, or_false] at hu
  rcases hu with rfl <;> rfl
theorem emptyT (W : World) (B : Nat) (hB : B ≤ W.heap.size) : (W.alloc (.cells #[] 9)).ownsRow B 9 1 (.slice (some ⟨W.heap.size, 0, none⟩) 0 0) ([] : List Bs).length (([] : List Bs).flatMap encT) :=
  ⟨rfl, .inr ⟨W.heap.size, 0, #[], rfl, hB, Blk.new _ _ _, Nat.le_refl _, by unfold maxLen; omega, rfl, rfl⟩⟩
theorem sizeTL : (sizeOf (Try.prog.elem 35)) = sizeOf 9 := by
  rw [show Try.prog.elem 35 = 9 by kernel_rfl]
theorem elemTL : Try.prog.underlying 35 = some (.slice (Try.prog.elem 35)) := by
  rw [show Try.prog.elem 35 = 9 by kernel_rfl]; exact Try.underlying35
theorem sliceHT (a : Option Addr) (n cap hi : Nat) (h2 : hi ≤ cap) (w : World) : (Instr.slice 35 (.slice a n cap) none (some (.int .i64 hi)) none).run Try.prog w = .ok (sliced a 0 hi cap 1) w := by
  rw [run_slice_h w 35 a n cap elemTL .i64 hi (by omega) (by omega), sizeTL, Try.sizeOf9]; rfl
theorem sliceLT (a : Option Addr) (n cap lo : Nat) (h2 : lo ≤ n) (w : World) : (Instr.slice 35 (.slice a n cap) (some (.int .i64 lo)) none none).run Try.prog w = .ok (sliced a lo n cap 1) w := by
  rw [run_slice_l w 35 a n cap elemTL .i64 lo (by omega) (by omega), sizeTL, Try.sizeOf9]; rfl
set_option maxHeartbeats 2000000 in
theorem cloneT_w (B : Nat) (v : Value) (l : List Bs) (w : World) (h : IsRow B encT 1 w v l) (hl : l.length ≤ 1000000) :
    Calls Try.prog 41 #[v] w fun e w' => ∃ v', e = .returned v' ∧ w'.ownsRow w.heap.size 9 1 v' l.length (l.flatMap encT) ∧ Below w.heap.size w w' := by
  have H := Lib.hid h
  obtain ⟨a, cap, rfl, hle, hcm, hne⟩ := h
  unfold maxLen at hcm
  have HNE := Lib.hid hne
  clear hne
  have q26 : ∀ (w : World) (a : Option Addr) (n c n' c' : Nat), (binOp .eql 35 (.slice a n c) (.slice none n' c')).run Try.prog w = .ok (.bool a.isNone) w := fun w a n c n' c' => Lib.run_eql_slice_nil w _ _ a n c n' c' Try.underlying35
  cases a with
  | none =>
    have hn : l = [] := by
      rcases l with _ | ⟨x, r⟩
      · rfl
      · obtain ⟨b, off, e, _⟩ := HNE.out (by simp); cases e
    subst hn
    go_enter Try.func41, Try.ntmps41
    go_wp2
    go_ret
    exact ⟨_, rfl, World.ownsRow_nil _ _ _ _, Below.refl _ _⟩
  | some ad =>
    have HB := Lib.hid (H.out.below (below_box (.cells #[] 9)))
    go_enter Try.func41, Try.ntmps41
    go_wp2_with (at_builtin; refine append_any (en := encT) rfl _ _ 35 9 _ 1 16 infoStr Try.underlying35 rfl (by decide) (by decide) lenT ocT rfl w.heap.size _ [] rfl (emptyT w w.heap.size (Nat.le_refl _)) _ l rfl HB.out.any (by simp; omega) (by simp) ?_; intro v' w1 hown hbel)
    have Hown := Lib.hid hown
    have Hbel : Hid (Below w.heap.size w w1) := Lib.hid ((below_box _).trans hbel)
    clear hown hbel
    go_wp2
    go_ret
    exact ⟨_, rfl, by have := Hown.out; rwa [List.nil_append] at this, Hbel.out⟩

theorem lenI (x : Int) : (encI x).length = 1 := rfl
theorem ocI (x : Int) : ∀ u ∈ encI x, u.oneCell' = true := by
  intro u hu; simp only [encI, List.mem_cons, List.not_mem_nil, or_false] at hu
  rcases hu with rfl <;> rfl
theorem emptyI (W : World) (B : Nat) (hB : B ≤ W.heap.size) : (W.alloc (.cells #[] 3)).ownsRow B 3 1 (.slice (some ⟨W.heap.size, 0, none⟩) 0 0) ([] : List Int).length (([] : List Int).flatMap encI) :=
  ⟨rfl, .inr ⟨W.heap.size, 0, #[], rfl, hB, Blk.new _ _ _, Nat.le_refl _, by unfold maxLen; omega, rfl, rfl⟩⟩
theorem sizeIL : (sizeOf (Try.prog.elem 40)) = sizeOf 3 := by
  rw [show Try.prog.elem 40 = 3 by kernel_rfl]
theorem elemIL : Try.prog.underlying 40 = some (.slice (Try.prog.elem 40)) := by
  rw [show Try.prog.elem 40 = 3 by kernel_rfl]; exact Try.underlying40
theorem sliceHI (a : Option Addr) (n cap hi : Nat) (h2 : hi ≤ cap) (w : World) : (Instr.slice 40 (.slice a n cap) none (some (.int .i64 hi)) none).run Try.prog w = .ok (sliced a 0 hi cap 1) w := by
  rw [run_slice_h w 40 a n cap elemIL .i64 hi (by omega) (by omega), sizeIL, Try.sizeOf3]; rfl
theorem sliceLI (a : Option Addr) (n cap lo : Nat) (h2 : lo ≤ n) (w : World) : (Instr.slice 40 (.slice a n cap) (some (.int .i64 lo)) none none).run Try.prog w = .ok (sliced a lo n cap 1) w := by
  rw [run_slice_l w 40 a n cap elemIL .i64 lo (by omega) (by omega), sizeIL, Try.sizeOf3]; rfl
set_option maxHeartbeats 2000000 in
theorem cloneI_w (B : Nat) (v : Value) (l : List Int) (w : World) (h : IsRow B encI 1 w v l) (hl : l.length ≤ 1000000) :
    Calls Try.prog 43 #[v] w fun e w' => ∃ v', e = .returned v' ∧ w'.ownsRow w.heap.size 3 1 v' l.length (l.flatMap encI) ∧ Below w.heap.size w w' := by
  have H := Lib.hid h
  obtain ⟨a, cap, rfl, hle, hcm, hne⟩ := h
  unfold maxLen at hcm
  have HNE := Lib.hid hne
  clear hne
  have q26 : ∀ (w : World) (a : Option Addr) (n c n' c' : Nat), (binOp .eql 40 (.slice a n c) (.slice none n' c')).run Try.prog w = .ok (.bool a.isNone) w := fun w a n c n' c' => Lib.run_eql_slice_nil w _ _ a n c n' c' Try.underlying40
  cases a with
  | none =>
    have hn : l = [] := by
      rcases l with _ | ⟨x, r⟩
      · rfl
      · obtain ⟨b, off, e, _⟩ := HNE.out (by simp); cases e
    subst hn
    go_enter Try.func43, Try.ntmps43
    go_wp2
    go_ret
    exact ⟨_, rfl, World.ownsRow_nil _ _ _ _, Below.refl _ _⟩
  | some ad =>
    have HB := Lib.hid (H.out.below (below_box (.cells #[] 3)))
    go_enter Try.func43, Try.ntmps43
    go_wp2_with (at_builtin; refine append_any (en := encI) rfl _ _ 40 3 _ 1 8 infoI Try.underlying40 rfl (by decide) (by decide) lenI ocI rfl w.heap.size _ [] rfl (emptyI w w.heap.size (Nat.le_refl _)) _ l rfl HB.out.any (by simp; omega) (by simp) ?_; intro v' w1 hown hbel)
    have Hown := Lib.hid hown
    have Hbel : Hid (Below w.heap.size w w1) := Lib.hid ((below_box _).trans hbel)
    clear hown hbel
    go_wp2
    go_ret
    exact ⟨_, rfl, by have := Hown.out; rwa [List.nil_append] at this, Hbel.out⟩

theorem lenM (x : Ms) : (encML x).length = 8 := rfl
theorem ocM (x : Ms) : ∀ u ∈ encML x, u.oneCell' = true := by
  intro u hu; simp only [encML, List.mem_cons, List.not_mem_nil, or_false] at hu
  rcases hu with rfl | rfl | rfl | rfl | rfl | rfl | rfl | rfl <;> rfl
theorem emptyM (W : World) (B : Nat) (hB : B ≤ W.heap.size) : (W.alloc (.cells #[] 59)).ownsRow B 59 8 (.slice (some ⟨W.heap.size, 0, none⟩) 0 0) ([] : List Ms).length (([] : List Ms).flatMap encML) :=
  ⟨rfl, .inr ⟨W.heap.size, 0, #[], rfl, hB, Blk.new _ _ _, Nat.le_refl _, by unfold maxLen; omega, rfl, rfl⟩⟩
theorem sizeML : (sizeOf (Try.prog.elem 36)) = sizeOf 59 := by
  rw [show Try.prog.elem 36 = 59 by kernel_rfl]
theorem elemML : Try.prog.underlying 36 = some (.slice (Try.prog.elem 36)) := by
  rw [show Try.prog.elem 36 = 59 by kernel_rfl]; exact Try.underlying36
theorem sliceHM (a : Option Addr) (n cap hi : Nat) (h2 : hi ≤ cap) (w : World) : (Instr.slice 36 (.slice a n cap) none (some (.int .i64 hi)) none).run Try.prog w = .ok (sliced a 0 hi cap 8) w := by
  rw [run_slice_h w 36 a n cap elemML .i64 hi (by omega) (by omega), sizeML, Try.sizeOf59]; rfl
theorem sliceLM (a : Option Addr) (n cap lo : Nat) (h2 : lo ≤ n) (w : World) : (Instr.slice 36 (.slice a n cap) (some (.int .i64 lo)) none none).run Try.prog w = .ok (sliced a lo n cap 8) w := by
  rw [run_slice_l w 36 a n cap elemML .i64 lo (by omega) (by omega), sizeML, Try.sizeOf59]; rfl
set_option maxHeartbeats 2000000 in
theorem cloneM_w (B : Nat) (v : Value) (l : List Ms) (w : World) (h : IsRow B encML 8 w v l) (hl : l.length ≤ 1000000) :
    Calls Try.prog 33 #[v] w fun e w' => ∃ v', e = .returned v' ∧ w'.ownsRow w.heap.size 59 8 v' l.length (l.flatMap encML) ∧ Below w.heap.size w w' := by
  have H := Lib.hid h
  obtain ⟨a, cap, rfl, hle, hcm, hne⟩ := h
  unfold maxLen at hcm
  have HNE := Lib.hid hne
  clear hne
  have q26 : ∀ (w : World) (a : Option Addr) (n c n' c' : Nat), (binOp .eql 36 (.slice a n c) (.slice none n' c')).run Try.prog w = .ok (.bool a.isNone) w := fun w a n c n' c' => Lib.run_eql_slice_nil w _ _ a n c n' c' Try.underlying36
  cases a with
  | none =>
    have hn : l = [] := by
      rcases l with _ | ⟨x, r⟩
      · rfl
      · obtain ⟨b, off, e, _⟩ := HNE.out (by simp); cases e
    subst hn
    go_enter Try.func33, Try.ntmps33
    go_wp2
    go_ret
    exact ⟨_, rfl, World.ownsRow_nil _ _ _ _, Below.refl _ _⟩
  | some ad =>
    have HB := Lib.hid (H.out.below (below_box (.cells #[] 59)))
    go_enter Try.func33, Try.ntmps33
    go_wp2_with (at_builtin; refine append_any (en := encML) rfl _ _ 36 59 _ 8 112 infoM Try.underlying36 rfl (by decide) (by decide) lenM ocM rfl w.heap.size _ [] rfl (emptyM w w.heap.size (Nat.le_refl _)) _ l rfl HB.out.any (by simp; omega) (by simp) ?_; intro v' w1 hown hbel)
    have Hown := Lib.hid hown
    have Hbel : Hid (Below w.heap.size w w1) := Lib.hid ((below_box _).trans hbel)
    clear hown hbel
    go_wp2
    go_ret
    exact ⟨_, rfl, by have := Hown.out; rwa [List.nil_append] at this, Hbel.out⟩

end Go.Proofs.Ythpajecigkfajaa
