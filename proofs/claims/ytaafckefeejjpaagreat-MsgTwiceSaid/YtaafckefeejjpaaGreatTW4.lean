/-
  Walks: Range, Drop, Del, Put of package table.
-/
import Derived.Test.YtaafckefeejjpaaGreatTX
import Derived.StillTailTactics
namespace Go.Proofs.YtaafckefeejjpaaGreat
open Go.RowKit Go.Sort
set_option linter.unusedVariables false

theorem OwnOut.lower {B C : Nat} {w w0 : World} {l : List Pr} {e : Ending} {w' : World} (h : OwnOut B w l e w') (hg : Below C w0 w) (hC : C ≤ B) : OwnOut C w0 l e w' := by
  obtain ⟨v', h1, h2, h3, h4⟩ := h
  exact ⟨v', h1, owns_lower h2 hC, h3, hg.trans (h4.mono hC)⟩

set_option maxRecDepth 100000 in
set_option maxHeartbeats 2000000 in
theorem range_w (v : Value) (l : List Pr) (lo hi : Bs) (w : World) (h : IsPairs w v l) (hs : Srt l) (hl : l.length ≤ 50000) :
    Calls Tryz.prog 202 #[v, .agg #[.string (Str lo), .string (Str hi)]] w (OwnOut w.heap.size w (rangeS (lo, hi) l)) := by
  have hb := fun w1 (hg : Grown w w1) => borders_w v l lo hi w1 (h.below (hg.below (Nat.le_refl _))) hs (by omega)
  have hle := borders_le l (lo, hi)
  have hcut := (borders_cut hs (lo, hi)).1
  have hfl : (rangeS (lo, hi) l).length ≤ l.length := List.length_filter_le _ _
  generalize rangeS (lo, hi) l = out at *
  generalize lowS l (lo, hi) = a at *
  generalize highS l (lo, hi) = b at *
  obtain ⟨-, -, cap, p, rfl, hlc, hcm, -⟩ := h.form
  have hab := hle.1
  have hbc : b ≤ cap := by omega
  obtain ⟨V, hV⟩ : ∃ V, V = sliced p a b cap 3 := ⟨_, rfl⟩
  have hsl := slice_lh p l.length cap a b hab hbc
  rw [← hV] at hsl
  have HV : Hid (∀ w1, Grown w w1 → IsPairs w1 V out) := Lib.hid (fun w1 hg => by rw [hV, ← hcut]; exact IsPairs.sliced (h.below (hg.below (Nat.le_refl _))) a b hab hle.2)
  have Hb := Lib.hid hb
  clear hb h hs hcut hV hle hlc hcm hbc
  go_enter Tryz.func202, Tryz.ntmps202
  go_wp2_with fail
  refine (Hb.out _ ((Grown.refl w).alloc _)).mono ?_
  rintro e w1 ⟨rfl, hg⟩
  have Hg : Hid (Grown w w1) := Lib.hid (((Grown.refl w).alloc _).trans hg)
  clear hg Hb
  go_wp2_with fail
  refine (clone_w V out w1 (HV.out w1 Hg.out) (by omega)).mono ?_
  intro e w2 h2
  have Hb1 := Lib.hid (Hg.out.below (B := w.heap.size) (Nat.le_refl _))
  have H2 := Lib.hid (h2.lower Hb1.out Hb1.out.size)
  obtain ⟨v', rfl, -⟩ := h2
  go_wp2
  go_ret
  exact H2.out

set_option maxRecDepth 100000 in
set_option maxHeartbeats 2000000 in
theorem drop_w (v : Value) (l : List Pr) (lo hi : Bs) (w : World) (h : IsPairs w v l) (hs : Srt l) (hl : l.length ≤ 50000) :
    Calls Tryz.prog 181 #[v, .agg #[.string (Str lo), .string (Str hi)]] w (OwnOut w.heap.size w (dropS (lo, hi) l)) := by
  have hb := fun w1 (hg : Grown w w1) => borders_w v l lo hi w1 (h.below (hg.below (Nat.le_refl _))) hs (by omega)
  have hle := borders_le l (lo, hi)
  have hcut := (borders_cut hs (lo, hi)).2
  have hfl : (dropS (lo, hi) l).length ≤ l.length := List.length_filter_le _ _
  generalize dropS (lo, hi) l = out at *
  generalize lowS l (lo, hi) = a at *
  generalize highS l (lo, hi) = b at *
  obtain ⟨-, -, cap, p, rfl, hlc, hcm, -⟩ := h.form
  have hab := hle.1
  have hbl := hle.2
  obtain ⟨p1, m1, c1, hV1⟩ : ∃ p1 m1 c1, Value.slice p1 m1 c1 = sliced p 0 a cap 3 := ⟨_, _, _, rfl⟩
  obtain ⟨p2, m2, c2, hV2⟩ : ∃ p2 m2 c2, Value.slice p2 m2 c2 = sliced p b l.length cap 3 := ⟨_, _, _, rfl⟩
  have hsl1 := slice_h p l.length cap a (by omega)
  have hsl2 := slice_l p l.length cap b (by omega)
  rw [← hV1] at hsl1
  rw [← hV2] at hsl2
  have HV1 : Hid (∀ w1, Below w.heap.size w w1 → IsPairs w1 (.slice p1 m1 c1) (l.take a)) := Lib.hid (fun w1 hg => by rw [hV1]; exact IsPairs.sliced (h.below hg) 0 a (Nat.zero_le _) (by omega))
  have HV2 : Hid (∀ w1, Below w.heap.size w w1 → IsPairs w1 (.slice p2 m2 c2) (l.drop b)) := Lib.hid (fun w1 hg => by
    rw [hV2]; have := IsPairs.sliced (h.below hg) b l.length (by omega) (Nat.le_refl _); rwa [List.take_length] at this)
  have Hb := Lib.hid hb
  have Hout : Hid ([l.take a, l.drop b].flatten = out) := Lib.hid (by rw [← hcut]; simp)
  have Hc : Hid (∀ w1 wx n, Below w.heap.size w w1 → w1.heap.size = n → Below w1.heap.size w1 wx → Blk wx n 38 #[.slice p1 m1 c1, .slice p2 m2 c2] → Calls Tryz.prog 170 #[.slice (some ⟨n, 0, none⟩) 2 2] wx (OwnOut w.heap.size w out)) := Lib.hid (by
    intro w1 wx n hb1 hn hbx hblk
    subst hn
    have hbw : Below w.heap.size w wx := hb1.trans (hbx.mono hb1.size)
    have hbs := hbw.size
    refine (concat_w w1.heap.size [.slice p1 m1 c1, .slice p2 m2 c2] [l.take a, l.drop b] wx hblk rfl (by simp) ?_ (by rw [Hout.out]; omega)).mono fun e w' hh => ?_
    · intro i hi hv
      match i, hi with
      | 0, _ => exact HV1.out _ hbw
      | 1, _ => exact HV2.out _ hbw
    · rw [Hout.out] at hh
      exact hh.lower hbw hbs)
  clear hb h hs hcut hV1 hV2 hle hlc hcm HV1 HV2 Hout
  go_enter Tryz.func181, Tryz.ntmps181
  go_wp2_with fail
  refine (Hb.out _ ((Grown.refl w).alloc _)).mono ?_
  rintro e w1 ⟨rfl, hg⟩
  have Hg : Hid (Below w.heap.size w w1) := Lib.hid ((((Grown.refl w).alloc _).trans hg).below (Nat.le_refl _))
  clear hg Hb
  go_wp2_with fail
  go_region_with (go_at_call 170; refine (Hc.out w1 _ _ Hg.out rfl (by exact (show Below w1.heap.size w1 w1.drew from ⟨rfl, rfl, rfl, Nat.le_refl _, fun _ _ => rfl⟩).trans (show Below w1.heap.size w1.drew (w1.drew.alloc _) from below_box (w := w1.drew) _)) (by exact Blk.new' _ _ _ rfl)).mono ?_; intro e w2 h2; have H2 := Lib.hid h2; obtain ⟨v', rfl, -⟩ := h2)
  all_goals
    go_wp2
    go_ret
    exact H2.out

set_option maxRecDepth 100000 in
set_option maxHeartbeats 2000000 in
theorem del_w (v : Value) (l : List Pr) (k : Bs) (w : World) (h : IsPairs w v l) (hs : Srt l) (hl : l.length ≤ 50000) (hk : k.length ≤ 140737488355328) :
    Calls Tryz.prog 180 #[v, .string (Str k)] w (OwnOut w.heap.size w (delS k l)) := by
  have hd := fun w1 (hg : Below w.heap.size w w1) => drop_w v l k (k ++ [0]) w1 (h.below hg) hs hl
  have he : dropS (k, k ++ [0]) l = delS k l := drop_one k l
  rw [he] at hd
  have Hd := Lib.hid hd
  have Ho := Lib.hid (one_w k w hk)
  clear hd h hs he
  go_enter Tryz.func180, Tryz.ntmps180
  go_wp2_with fail
  refine Ho.out.mono ?_
  rintro e w1 ⟨rfl, hg⟩
  have Hg : Hid (Below w.heap.size w w1) := Lib.hid (hg.below (Nat.le_refl _))
  clear hg Ho
  go_wp2_with fail
  refine (Hd.out w1 Hg.out).mono ?_
  intro e w2 h2
  have H2 := Lib.hid (h2.lower Hg.out Hg.out.size)
  obtain ⟨v', rfl, -⟩ := h2
  go_wp2
  go_ret
  exact H2.out

set_option maxRecDepth 100000 in
set_option maxHeartbeats 4000000 in
theorem put_w (v : Value) (l : List Pr) (k x : Bs) (t : Int) (w : World) (h : IsPairs w v l) (hs : Srt l) (hl : l.length ≤ 50000) (hk : k.length ≤ 140737488355328) (hx : x.length ≤ maxLen) :
    Calls Tryz.prog 165 #[v, .agg #[.string (Str k), .string (Str x), .int .i64 t]] w (OwnOut w.heap.size w (putS (k, x, t) l)) := by
  obtain ⟨W0, hW0⟩ : ∃ W0, W0 = w.alloc (.cells #[.string (Str k), .string (Str x), .int .i64 t] 91) := ⟨_, rfl⟩
  have hg0 : Grown w W0 := by rw [hW0]; exact (Grown.refl w).alloc _
  have b0 : Blk W0 w.heap.size 91 #[.string (Str k), .string (Str x), .int .i64 t] := by rw [hW0]; exact Blk.new _ _ _
  have hb := fun w1 (hg : Grown w w1) => borders_w v l k (k ++ [0]) w1 (h.below (hg.below (Nat.le_refl _))) hs (by omega)
  have hle := borders_le l (k, k ++ [0])
  have hcut : l.take (lowS l (k, k ++ [0])) ++ (k, x, t) :: l.drop (highS l (k, k ++ [0])) = putS (k, x, t) l := put_cut hs (k, x, t)
  have hfl : (putS (k, x, t) l).length ≤ l.length + 1 := put_length _ _
  generalize putS (k, x, t) l = out at *
  generalize lowS l (k, k ++ [0]) = a at *
  generalize highS l (k, k ++ [0]) = b at *
  obtain ⟨-, -, cap, p, rfl, hlc, hcm, -⟩ := h.form
  have hab := hle.1
  have hbl := hle.2
  obtain ⟨p1, m1, c1, hV1⟩ : ∃ p1 m1 c1, Value.slice p1 m1 c1 = sliced p 0 a cap 3 := ⟨_, _, _, rfl⟩
  obtain ⟨p2, m2, c2, hV2⟩ : ∃ p2 m2 c2, Value.slice p2 m2 c2 = sliced p b l.length cap 3 := ⟨_, _, _, rfl⟩
  have hsl1 := slice_h p l.length cap a (by omega)
  have hsl2 := slice_l p l.length cap b (by omega)
  rw [← hV1] at hsl1
  rw [← hV2] at hsl2
  have HV1 : Hid (∀ w1, Below w.heap.size w w1 → IsPairs w1 (.slice p1 m1 c1) (l.take a)) := Lib.hid (fun w1 hg => by rw [hV1]; exact IsPairs.sliced (h.below hg) 0 a (Nat.zero_le _) (by omega))
  have HV2 : Hid (∀ w1, Below w.heap.size w w1 → IsPairs w1 (.slice p2 m2 c2) (l.drop b)) := Lib.hid (fun w1 hg => by
    rw [hV2]; have := IsPairs.sliced (h.below hg) b l.length (by omega) (Nat.le_refl _); rwa [List.take_length] at this)
  have Hb := Lib.hid hb
  have Hout : Hid ([l.take a, [(k, x, t)], l.drop b].flatten = out) := Lib.hid (by rw [← hcut]; simp)
  have hkm : k.length ≤ maxLen := by unfold maxLen; omega
  have Hc : Hid (∀ w1 wx n, Below w.heap.size w w1 → w1.heap.size = n → Below w1.heap.size w1 wx → Blk wx n 91 #[.string (Str k), .string (Str x), .int .i64 t] → Blk wx (n + 1) 38 #[.slice p1 m1 c1, .slice (some ⟨n, 0, none⟩) 1 1, .slice p2 m2 c2] →
      Calls Tryz.prog 170 #[.slice (some ⟨n + 1, 0, none⟩) 3 3] wx (OwnOut w.heap.size w out)) := Lib.hid (by
    intro w1 wx n hb1 hn hbx hblk0 hblk
    subst hn
    have hbw : Below w.heap.size w wx := hb1.trans (hbx.mono hb1.size)
    have hbs := hbw.size
    refine (concat_w (w1.heap.size + 1) [.slice p1 m1 c1, .slice (some ⟨w1.heap.size, 0, none⟩) 1 1, .slice p2 m2 c2] [l.take a, [(k, x, t)], l.drop b] wx hblk rfl (by simp) ?_ (by rw [Hout.out]; omega)).mono fun e w' hh => ?_
    · intro i hi hv
      match i, hi with
      | 0, _ => exact HV1.out _ hbw
      | 1, _ =>
        refine ⟨_, 1, rfl, Nat.le_refl _, by unfold maxLen; omega, fun y hy => ?_, fun _ => ⟨w1.heap.size, 0, rfl, hblk0.lt, fun j hj => ?_⟩⟩
        · simp only [List.getElem_cons_succ, List.getElem_cons_zero, List.mem_singleton] at hy
          subst hy; exact ⟨hkm, hx⟩
        · obtain rfl : j = 0 := by simpa using hj
          exact ⟨hblk0.c0 0 _ rfl, hblk0.c0 1 _ rfl, hblk0.c0 2 _ rfl⟩
      | 2, _ => exact HV2.out _ hbw
    · rw [Hout.out] at hh
      exact hh.lower hbw hbs)
  have Ho := Lib.hid (one_w k W0 hk)
  have Hg0 := Lib.hid hg0
  have HB0 := Lib.hid b0
  clear hb h hs hcut hV1 hV2 hle hlc hcm HV1 HV2 Hout hg0 b0
  go_enter Tryz.func165, Tryz.ntmps165
  go_wp2_with fail
  subst hW0
  refine Ho.out.mono ?_
  rintro e w1 ⟨rfl, hg⟩
  have Hg1 : Hid (Grown w w1) := Lib.hid (Hg0.out.trans hg)
  have HB1 := Lib.hid (HB0.out.below (hg.below (Nat.le_refl _)) HB0.out.lt)
  clear hg Ho HB0 Hg0
  go_wp2_with fail
  refine (Hb.out _ Hg1.out).mono ?_
  rintro e w2 ⟨rfl, hg⟩
  have Hg : Hid (Below w.heap.size w w2) := Lib.hid ((Hg1.out.trans hg).below (Nat.le_refl _))
  have hB2 := HB1.out.below (hg.below (Nat.le_refl _)) HB1.out.lt
  have hlt2 := hB2.lt
  have e0 := hB2.c0 0 _ rfl
  have e1 := hB2.c0 1 _ rfl
  have e2 := hB2.c0 2 _ rfl
  clear hg Hb hB2 HB1 Hg1
  go_wp2_with fail
  go_region_with (go_at_call 170; refine (Hc.out w2 _ _ Hg.out rfl (by exact (show Below w2.heap.size w2 w2.drew from ⟨rfl, rfl, rfl, Nat.le_refl _, fun _ _ => rfl⟩).trans (((Below.refl w2.heap.size w2.drew).alloc (Nat.le_refl _) _).alloc (by simp) _)) (by exact (Blk.new' _ _ _ rfl).alloc _) (by exact Blk.new' _ _ _ (by simp))).mono ?_; intro e w2 h2; have H2 := Lib.hid h2; obtain ⟨v', rfl, -⟩ := h2)
  all_goals
    go_wp2
    go_ret
    exact H2.out

end Go.Proofs.YtaafckefeejjpaaGreat
