/-
  Walks: clones and joined lists of pairs.
-/
import Derived.Test.YtdckiaokldkfmaaGreatTW1
namespace Go.Proofs.YtdckiaokldkfmaaGreat
open Go.RowKit Go.Sort
set_option linter.unusedVariables false

/-- A list of pairs handed back in memory of the call's own. -/
def OwnOut (B : Nat) (w : World) (l : List Pr) (e : Ending) (w' : World) : Prop :=
  ∃ v', e = .returned v' ∧ w'.ownsRow B 69 3 v' l.length (l.flatMap encP) ∧ IsPairs w' v' l ∧ Below B w w'
theorem IsPairs.sliced {w : World} {a : Option Addr} {n cap : Nat} {l : List Pr} (h : IsPairs w (.slice a n cap) l) (lo hi : Nat) (h1 : lo ≤ hi) (h2 : hi ≤ l.length) :
    IsPairs w (sliced a lo hi cap 3) ((l.take hi).drop lo) := by
  obtain ⟨a', cap', e, hlc, hcm, hs, hc⟩ := h
  cases e
  have hll : ((l.take hi).drop lo).length = hi - lo := by rw [List.length_drop, List.length_take]; omega
  refine ⟨_, cap - lo, by rw [hll]; rfl, by omega, by omega, fun x hx => hs x (List.mem_of_mem_take (List.mem_of_mem_drop hx)), fun hne => ?_⟩
  have hlt : lo < hi := by
    rcases Nat.lt_or_ge lo hi with h | h
    · exact h
    · exfalso; apply hne; apply List.length_eq_zero_iff.1; omega
  obtain ⟨b, off, rfl, hb, hcell⟩ := hc (by rintro rfl; simp at h2; omega)
  have hadd : (⟨b, off, none⟩ : Addr).add (lo * 3) = ⟨b, off + lo * 3, none⟩ := by unfold Addr.add; split <;> simp_all
  refine ⟨b, off + lo * 3, by rw [if_neg (by omega)]; simp [hadd], hb, fun i hi' => ?_⟩
  have hc3 := hcell (lo + i) (by rw [hll] at hi'; omega)
  have e3 : off + lo * 3 + i * 3 = off + (lo + i) * 3 := by omega
  rw [e3]
  simpa using hc3
theorem sizeP : (sizeOf (Tryz.prog.elem 25)) = sizeOf 69 := by
  rw [show Tryz.prog.elem 25 = 69 by kernel_rfl]
theorem elemP : Tryz.prog.underlying 25 = some (.slice (Tryz.prog.elem 25)) := by
  rw [show Tryz.prog.elem 25 = 69 by kernel_rfl]; exact Tryz.underlying25
theorem slice_lh (a : Option Addr) (n cap lo hi : Nat) (h1 : lo ≤ hi) (h2 : hi ≤ cap) (w : World) : (Instr.slice 25 (.slice a n cap) (some (.int .i64 lo)) (some (.int .i64 hi)) none).run Tryz.prog w = .ok (sliced a lo hi cap 3) w := by
  rw [run_slice_lh w 25 a n cap elemP .i64 .i64 lo hi (by omega) (by omega) (by omega), sizeP, Tryz.sizeOf69]; rfl
theorem slice_h (a : Option Addr) (n cap hi : Nat) (h2 : hi ≤ cap) (w : World) : (Instr.slice 25 (.slice a n cap) none (some (.int .i64 hi)) none).run Tryz.prog w = .ok (sliced a 0 hi cap 3) w := by
  rw [run_slice_h w 25 a n cap elemP .i64 hi (by omega) (by omega), sizeP, Tryz.sizeOf69]; rfl
theorem slice_l (a : Option Addr) (n cap lo : Nat) (h2 : lo ≤ n) (w : World) : (Instr.slice 25 (.slice a n cap) (some (.int .i64 lo)) none none).run Tryz.prog w = .ok (sliced a lo n cap 3) w := by
  rw [run_slice_l w 25 a n cap elemP .i64 lo (by omega) (by omega), sizeP, Tryz.sizeOf69]; rfl

set_option maxHeartbeats 2000000 in
theorem clone_w (v : Value) (l : List Pr) (w : World) (h : IsPairs w v l) (hl : l.length ≤ 100000) :
    Calls Tryz.prog 48 #[v] w (OwnOut w.heap.size w l) := by
  obtain ⟨a, cap, hv, _, _, hs, hc⟩ := id h
  have H := Lib.hid h
  have HS := Lib.hid hs
  clear h hs
  subst hv
  cases a with
  | none =>
    have hn : l = [] := by
      rcases l with _ | ⟨x, r⟩
      · rfl
      · obtain ⟨b, off, e, _⟩ := hc (by simp); cases e
    subst hn
    clear hc
    have q26 : ∀ (w : World) (a : Option Addr) (n c n' c' : Nat), (binOp .eql 25 (.slice a n c) (.slice none n' c')).run Tryz.prog w = .ok (.bool a.isNone) w := fun w a n c n' c' => Lib.run_eql_slice_nil w _ _ a n c n' c' Tryz.underlying25
    go_enter Tryz.func48, Tryz.ntmps48
    go_wp2
    go_ret
    exact ⟨_, rfl, World.ownsRow_nil _ _ _ _, IsPairs.nil _, Below.refl _ _⟩
  | some ad =>
    clear hc
    have q26 : ∀ (w : World) (a : Option Addr) (n c n' c' : Nat), (binOp .eql 25 (.slice a n c) (.slice none n' c')).run Tryz.prog w = .ok (.bool a.isNone) w := fun w a n c n' c' => Lib.run_eql_slice_nil w _ _ a n c n' c' Tryz.underlying25
    go_enter Tryz.func48, Tryz.ntmps48
    go_wp2_with (at_builtin; refine append_pairs rfl _ _ rfl w.heap.size _ [] rfl (own_empty w w.heap.size (Nat.le_refl _)) _ l rfl (H.out.below (below_box _)) (by simp; omega) (by simp) ?_; intro v' w1 hown hbel)
    have Hown := Lib.hid hown
    have Hbel : Hid (Below w.heap.size w w1) := Lib.hid ((below_box _).trans hbel)
    clear hown hbel
    go_wp2
    go_ret
    exact ⟨_, rfl, Hown.out, IsPairs.owned Hown.out HS.out, Hbel.out⟩

theorem zero_size (z : Array Value) (n : Nat) : (Builtin.zeroCells z n).size = n * z.size := by simp [Builtin.zeroCells]
theorem grow_w (n : Nat) (w : World) (hn : n ≤ 100000) : Calls Tryz.prog 112 #[.slice none 0 0, .int .i64 n] w (OwnOut w.heap.size w []) := by
  obtain ⟨i0, hi, hz0, hz1, hz2⟩ := info_parts infoP
  by_cases h0 : n = 0
  · subst h0
    refine (Any8.slices_Grow_room Tryz.growL none 0 0 0 w (Nat.le_refl _) (by omega) (by omega) (by omega)).mono fun e w' ⟨h1, h2⟩ => ?_
    subst h2
    exact ⟨_, h1, World.ownsRow_nil _ _ _ _, IsPairs.nil _, Below.refl _ _⟩
  · have hcap := grownCap_ge w (0 + n) 0 69
    have hmax := grownCap_le_maxLen w (0 + n) 0 69 (by unfold maxLen; omega)
    refine (Any8.slices_Grow_grow Tryz.growL i0 _ hi hz0 (by omega) none 0 0 n [] w (Nat.le_refl _) (by omega) (by rw [hz2]; omega) (by omega) (by simp) (fun _ => rfl) (fun a h => by cases h)).mono fun e w' ⟨h1, h2⟩ => ?_
    change w' = w.drew.alloc (.cells _ 69) at h2
    change e = .returned (.slice _ 0 (grownCap w (0 + n) 0 69)) at h1
    have hown : w'.ownsRow w.heap.size 69 3 (.slice (some ⟨w.heap.size, 0, none⟩) 0 (grownCap w (0 + n) 0 69)) ([] : List Pr).length (([] : List Pr).flatMap encP) := by
      subst h2
      refine World.ownsRow_made (base := w.heap.size) w.drew _ _ (Nat.le_refl _) hmax ?_
      simp only [Array.size_append, zero_size]
      have h3 : (Value.agg #[Value.string ⟨#[]⟩, Value.string ⟨#[]⟩, Value.int .i64 0]).cells.size = 3 := rfl
      have h4 : (#[] : Array Value).size = 0 := rfl
      rw [h3]
      show 0 + (0 + n - 0) * 3 + (grownCap w (0 + n) 0 69 - (0 + n)) * 3 = grownCap w (0 + n) 0 69 * 3
      omega
    refine ⟨_, h1, hown, IsPairs.owned hown (fun x hx => by simp at hx), ?_⟩
    subst h2
    exact (show Below w.heap.size w w.drew from ⟨rfl, rfl, rfl, Nat.le_refl _, fun _ _ => rfl⟩).trans (show Below w.heap.size w.drew (w.drew.alloc _) from below_box (w := w.drew) _)

end Go.Proofs.YtdckiaokldkfmaaGreat
