/-
  Walks: totals of package entry.
-/
import Derived.Test.YticlomakmcjcfaaEW9
import Derived.BigRegion
namespace Go.Proofs.Yticlomakmcjcfaa
open Go.RowKit Go.Sort
set_option linter.unusedVariables false

/-- A pair: key, value, stamp. -/
abbrev Pr := Bs × Bs × Int
/-- A slice of pairs. -/
def IsPairs (w : World) (v : Value) (l : List Pr) : Prop :=
  ∃ a cap, v = .slice a l.length cap ∧ l.length ≤ cap ∧ cap ≤ maxLen ∧ (∀ x ∈ l, x.1.length ≤ maxLen ∧ x.2.1.length ≤ maxLen) ∧ (l ≠ [] → ∃ b off, a = some ⟨b, off, none⟩ ∧ b < w.heap.size ∧
    ∀ i (h : i < l.length), w.cell? ⟨b, off + i * 3, none⟩ = some (.string (Str l[i].1)) ∧ w.cell? ⟨b, off + i * 3 + 1, none⟩ = some (.string (Str l[i].2.1)) ∧ w.cell? ⟨b, off + i * 3 + 2, none⟩ = some (.int .i64 l[i].2.2))
theorem IsPairs.below {w w' : World} {v : Value} {l : List Pr} (h : IsPairs w v l) (hb : Below w.heap.size w w') : IsPairs w' v l := by
  obtain ⟨a, cap, h1, h2, h3, h5, h4⟩ := h
  refine ⟨a, cap, h1, h2, h3, h5, fun hl => ?_⟩
  obtain ⟨b, off, e, hlt, hc⟩ := h4 hl
  exact ⟨b, off, e, Nat.lt_of_lt_of_le hlt hb.size, fun i hi => ⟨by rw [hb.cell (by exact hlt)]; exact (hc i hi).1, by rw [hb.cell (by exact hlt)]; exact (hc i hi).2.1, by rw [hb.cell (by exact hlt)]; exact (hc i hi).2.2⟩⟩
theorem IsPairs.form {w : World} {v : Value} {l : List Pr} (h : IsPairs w v l) : ∃ b off cap a, v = .slice a l.length cap ∧ l.length ≤ cap ∧ cap ≤ maxLen ∧ (l ≠ [] → a = some ⟨b, off, none⟩ ∧ b < w.heap.size) ∧
    ∀ i (h : i < l.length), a = some ⟨b, off, none⟩ ∧ w.cell? ⟨b, off + i * 3, none⟩ = some (.string (Str l[i].1)) ∧ w.cell? ⟨b, off + i * 3 + 1, none⟩ = some (.string (Str l[i].2.1)) ∧ w.cell? ⟨b, off + i * 3 + 2, none⟩ = some (.int .i64 l[i].2.2) := by
  obtain ⟨a, cap, h1, h2, h3, h5, h4⟩ := h
  by_cases hl : l = []
  · subst hl; exact ⟨0, 0, cap, a, h1, h2, h3, fun h => absurd rfl h, fun i hi => absurd hi (by simp)⟩
  · obtain ⟨b, off, e, hlt, hc⟩ := h4 hl
    exact ⟨b, off, cap, a, h1, h2, h3, fun _ => ⟨e, hlt⟩, fun i hi => ⟨e, hc i hi⟩⟩
theorem IsPairs.small {w : World} {v : Value} {l : List Pr} (h : IsPairs w v l) : ∀ x ∈ l, x.1.length ≤ maxLen ∧ x.2.1.length ≤ maxLen := by
  obtain ⟨a, cap, h1, h2, h3, h5, h4⟩ := h; exact h5

/-- Sums, as the machine adds. -/
def addW (a b : Int × Int) : Int × Int := (wrap64 (a.1 + b.1), wrap64 (a.2 + b.2))
def totF (l : List Pr) : Int × Int := l.foldl (fun a x => addW a (chargeS x.1 x.2.1)) (0, 0)
theorem totF_snoc (l : List Pr) (x : Pr) : totF (l ++ [x]) = addW (totF l) (chargeS x.1 x.2.1) := by simp [totF]
theorem totF_take (l : List Pr) (k : Nat) (h : k < l.length) : totF (l.take (k + 1)) = addW (totF (l.take k)) (chargeS l[k].1 l[k].2.1) := by
  rw [List.take_add_one, List.getElem?_eq_getElem h]; exact totF_snoc _ _

/-- Nothing but block b, and what is new, has changed. -/
structure But (b : Nat) (w w' : World) : Prop where
  os : w'.os = w.os
  tape : w'.tape = w.tape
  output : w'.output = w.output
  size : w.heap.size ≤ w'.heap.size
  block : ∀ k, k < w.heap.size → k ≠ b → w'.heap[k]? = w.heap[k]?
theorem But.below {b B : Nat} {w w' : World} (h : But b w w') (hB : B ≤ b) (hs : b < w.heap.size) : Below B w w' :=
  ⟨h.os, h.tape, h.output, h.size, fun k hk => h.block k (by omega) (by omega)⟩
theorem But.blk {b c : Nat} {w w' : World} {T : TypeId} {cs : Array Value} (h : But b w w') (hc : Blk w c T cs) (hne : c ≠ b) : Blk w' c T cs := by
  unfold Blk; rw [h.block c hc.lt hne]; exact hc

set_option maxRecDepth 100000 in
set_option maxHeartbeats 1000000 in
theorem add_w (b : Nat) (x y u v : Int) (w : World) (hb : Blk w b 152 #[.int .i64 x, .int .i64 y]) :
    Calls Try.prog 124 #[.pointer (some ⟨b, 0, none⟩), .agg #[.int .i64 u, .int .i64 v]] w fun e w' => e = .returned (.tuple #[]) ∧ Blk w' b 152 #[.int .i64 (wrap64 (x + u)), .int .i64 (wrap64 (y + v))] ∧ But b w w' := by
  have h1 := hb.alloc (.cells #[.int .i64 u, .int .i64 v] 83)
  have h2 := Blk.new w 83 #[.int .i64 u, .int .i64 v]
  have hne : b ≠ w.heap.size := Nat.ne_of_lt hb.lt
  have hlt := hb.lt
  have Hb := Lib.hid hb
  clear hb
  go_enter Try.func124, Try.ntmps124
  go_wp2_with fail
  have hsz : (w.alloc (.cells #[.int .i64 u, .int .i64 v] 83)).heap.size = w.heap.size + 1 := by simp
  have Hbut : Hid (But b w (w.alloc (.cells #[.int .i64 u, .int .i64 v] 83))) := Lib.hid ⟨rfl, rfl, rfl, by simp, fun k hk _ => Below.heap_alloc w _ k hk⟩
  generalize w.alloc (.cells #[.int .i64 u, .int .i64 v] 83) = wa at *
  have a0 := h1.c0 0 _ rfl
  have a1 := h1.c0 1 _ rfl
  have b0 := h2.c0 0 _ rfl
  have b1 := h2.c0 1 _ rfl
  have f0 := h1.free 0
  have f1 := h1.free 1
  simp at a0 a1 b0 b1
  have hwa : wa.heap.size = w.heap.size + 1 := hsz
  clear hsz
  go_region
  go_wp2_with fail
  have k1 : Blk (wa.setCell ⟨b, 0, none⟩ (.int .i64 (wrap64 (x + u)))).drew b 152 #[.int .i64 (wrap64 (x + u)), .int .i64 y] := h1.setCell 0 (.int .i64 (wrap64 (x + u)))
  have k2 : Blk (wa.setCell ⟨b, 0, none⟩ (.int .i64 (wrap64 (x + u)))).drew w.heap.size 83 #[.int .i64 u, .int .i64 v] := h2.setCell_other (Ne.symm hne) 0 (.int .i64 (wrap64 (x + u)))
  have Hbut2 : Hid (But b w (wa.setCell ⟨b, 0, none⟩ (.int .i64 (wrap64 (x + u)))).drew) := Lib.hid ⟨Hbut.out.os, Hbut.out.tape, Hbut.out.output, by have := Hbut.out.size; simpa [World.setCell, World.drew] using this, fun k hk hkb => (Below.heap_setCell _ _ _ _ hkb).trans (Hbut.out.block k hk hkb)⟩
  clear a0 a1 b0 b1 f0 f1 h1 h2 Hbut hwa
  generalize (wa.setCell ⟨b, 0, none⟩ (.int .i64 (wrap64 (x + u)))).drew = wb at *
  have a0 := k1.c0 0 _ rfl
  have a1 := k1.c0 1 _ rfl
  have b0 := k2.c0 0 _ rfl
  have b1 := k2.c0 1 _ rfl
  have f0 := k1.free 0
  have f1 := k1.free 1
  simp at a0 a1 b0 b1
  have K1 := Lib.hid k1
  clear k1 k2
  go_region
  go_end0
  refine ⟨rfl, ?_, ?_⟩
  · exact K1.out.setCell 1 (.int .i64 (wrap64 (y + v)))
  · exact ⟨Hbut2.out.os, Hbut2.out.tape, Hbut2.out.output, by have := Hbut2.out.size; simpa [World.setCell, World.drew] using this, fun k hk hkb => (Below.heap_setCell _ _ _ _ hkb).trans (Hbut2.out.block k hk hkb)⟩

set_option maxRecDepth 100000 in
set_option maxHeartbeats 1000000 in
theorem total_w (v : Value) (l : List Pr) (w : World) (h : IsPairs w v l) (hl : l.length ≤ 1000) :
    Calls Try.prog 68 #[v] w fun e w' => e = .returned (.agg #[.int .i64 (totF l).1, .int .i64 (totF l).2]) ∧ Below w.heap.size w w' := by
  obtain ⟨g, o, cap, p, rfl, hlc, hcm, hpp, hcc⟩ := h.form
  have Hsm := Lib.hid h.small
  unfold maxLen at hcm
  have HP := Lib.hid hpp
  have HC := Lib.hid hcc
  clear h hpp hcc
  go_enter Try.func68, Try.ntmps68
  go_wp2
  go_loopw [8] (fun i wr => ∃ k : Nat, k ≤ l.length ∧ i = .int .i64 k ∧ Blk wr (w.heap.size + 1) 152 #[.int .i64 (totF (l.take k)).1, .int .i64 (totF (l.take k)).2] ∧ Blk wr w.heap.size 83 #[.int .i64 0, .int .i64 0] ∧ Below w.heap.size w wr) (fun i _ => l.length - (intOf i).toNat)
  case atStart => exact ⟨0, Nat.zero_le _, rfl, Blk.new' _ _ _ (by simp), (Blk.new _ _ _).alloc _, (below_box _).alloc (by simp) _⟩
  case round =>
    obtain ⟨k, hk, rfl, hT, hU, hbel⟩ := hrel
    have HT := Lib.hid hT
    have HU := Lib.hid hU
    have Hbel := Lib.hid hbel
    have hltT := hT.lt
    have hltU := hU.lt
    clear hT hU hbel
    by_cases hlt : k < l.length
    · obtain ⟨rfl, p0, p1, p2⟩ := HC.out k hlt
      have hgl := (HP.out (by rintro rfl; simp at hlt)).2
      have c0 := (Hbel.out.cell (p := ⟨g, o + k * 3, none⟩) (by exact hgl)).trans p0
      have c1 := (Hbel.out.cell (p := ⟨g, o + k * 3 + 1, none⟩) (by exact hgl)).trans p1
      have c2 := (Hbel.out.cell (p := ⟨g, o + k * 3 + 2, none⟩) (by exact hgl)).trans p2
      have hsm := Hsm.out _ (List.getElem_mem hlt)
      have Htot := Lib.hid (totF_take l k hlt)
      clear p0 p1 p2
      generalize l[k] = x at *
      obtain ⟨xk, xv, xs⟩ := x
      simp only at c0 c1 c2 hsm Htot
      have Hch := Lib.hid (fun wx => charge_w xk xv xs wx hsm.1 hsm.2)
      clear hsm
      generalize chargeS xk xv = ch at *
      obtain ⟨ch1, ch2⟩ := ch
      generalize htk : totF (l.take k) = tk at *
      obtain ⟨t1, t2⟩ := tk
      go_wp2_with (first
        | (go_at_call 60; refine (Hch.out _).mono ?_; rintro e w2 ⟨rfl, hb2⟩; have hT2 := Blk.below (HT.out.alloc (.cells #[.string (Str xk), .string (Str xv), .int .i64 xs] 81)) hb2 (HT.out.alloc _).lt; have hU2 := Blk.below (HU.out.alloc (.cells #[.string (Str xk), .string (Str xv), .int .i64 xs] 81)) hb2 (HU.out.alloc _).lt; have HT2 := Lib.hid hT2; have HU2 := Lib.hid hU2; have Hb2 := Lib.hid hb2; clear hT2 hU2 hb2)
        | (go_at_call 124; refine (add_w (w.heap.size + 1) t1 t2 ch1 ch2 _ HT2.out).mono ?_; rintro e w3 ⟨rfl, hT3, hB3⟩; have hU3 := hB3.blk HU2.out (by omega); have HT3 := Lib.hid hT3; have HU3 := Lib.hid hU3; have HB3 := Lib.hid hB3; clear hT3 hU3 hB3))
      go_roundw
      case rel =>
        refine ⟨k + 1, by omega, by go_num, ?_, HU3.out, ?_⟩
        · rw [Htot.out]; exact HT3.out
        · refine Below.trans (Hbel.out.alloc (by omega) (.cells #[.string (Str xk), .string (Str xv), .int .i64 xs] 81)) ?_
          refine Below.trans (Hb2.out.mono (by simp; omega)) ?_
          exact HB3.out.below (by omega) HT2.out.lt
      case measure => simp [intOf]; omega
    · obtain rfl : k = l.length := by omega
      rw [List.take_length] at HT
      have t0 := HT.out.c0 0 _ rfl
      have t1 := HT.out.c0 1 _ rfl
      have u0 := HU.out.c0 0 _ rfl
      have u1 := HU.out.c0 1 _ rfl
      have f0 := HU.out.free 0
      have f1 := HU.out.free 1
      simp at t0 t1 u0 u1
      generalize htl : totF l = tk at *
      obtain ⟨x, y⟩ := tk
      have Htl := Lib.hid htl
      clear htl
      go_wp2
      refine bodyPost_ret (v := .agg #[.int .i64 x, .int .i64 y]) (by simp [results, Try.results68, go_sem, u0, u1]) rfl ⟨by rw [Htl.out], ?_⟩
      exact (Hbel.out.setCell (Nat.le_refl _) _).setCell (Nat.le_refl _) _

end Go.Proofs.Yticlomakmcjcfaa
