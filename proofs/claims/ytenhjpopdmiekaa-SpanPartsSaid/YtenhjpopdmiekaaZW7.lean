/-
  Walks: Minus and Norm of package span.
-/
import Derived.Test.YtenhjpopdmiekaaZW6
namespace Go.Proofs.Ytenhjpopdmiekaa
open Go.RowKit Go.Sort
set_option linter.unusedVariables false

/-- What the ends of lists are: they add one or take one away, of list 0 or 1. -/
def OkE (e : Ev) : Prop := (e.2.2.1 = 1 ∨ e.2.2.1 = -1) ∧ (e.2.2.2 = 0 ∨ e.2.2.2 = 1)
theorem evs_ok (i : Int) (hi : i = 0 ∨ i = 1) (l : List Sp) : ∀ e ∈ evs i l, OkE e := by
  intro e he
  unfold evs at he
  rw [List.mem_flatMap] at he
  obtain ⟨s, _, he⟩ := he
  split at he
  · cases he
  · simp at he
    rcases he with rfl | rfl
    · exact ⟨.inl rfl, hi⟩
    · exact ⟨.inr rfl, hi⟩

theorem owns_keep {w w' : World} {base : Nat} {e : TypeId} {size : Nat} {v : Value} {n : Nat} {xs : List Value} (h : w.ownsRow base e size v n xs) (hk : ∀ k, base ≤ k → k < w.heap.size → w'.heap[k]? = w.heap[k]?) : w'.ownsRow base e size v n xs := by
  refine ⟨h.1, ?_⟩
  rcases h.2 with h2 | ⟨g, cap, cur, h2, h3, h4, h5⟩
  · exact .inl h2
  · exact .inr ⟨g, cap, cur, h2, h3, by rw [hk g h3 (by rw [Array.getElem?_eq_some_iff] at h4; exact h4.1)]; exact h4, h5⟩
theorem keep_step {wr : World} {b i : Nat} {v : Value} {o : Obj} {base : Nat} (hb : b < base) : ∀ k, base ≤ k → k < wr.heap.size → (((wr.setCell ⟨b, i, none⟩ v).alloc o).drew).heap[k]? = wr.heap[k]? := by
  intro k h1 h2
  have hne : k ≠ b := by omega
  show ((wr.setCell ⟨b, i, none⟩ v).alloc o).heap[k]? = _
  rw [Below.heap_alloc _ _ _ (by simpa using h2), Below.heap_setCell _ _ _ _ hne]
/-- Where Minus stands. -/
structure MinSt (w w1 : World) (ob : Nat) (c0 c1 : Int) (wr : World) : Prop where
  o : Blk wr ob 56 #[.int .i64 c0, .int .i64 c1]
  keep : ∀ k, k < w1.heap.size → k ≠ ob → wr.heap[k]? = w1.heap[k]?
  size : w1.heap.size ≤ wr.heap.size
  bel : Below w.heap.size w wr
  old : w.heap.size ≤ ob
theorem MinSt.alloc {w w1 wr : World} {ob : Nat} {c0 c1 : Int} (h : MinSt w w1 ob c0 c1 wr) (o : Obj) : MinSt w w1 ob c0 c1 (wr.alloc o) :=
  ⟨h.o.alloc o, fun k hk hne => by rw [Below.heap_alloc _ _ _ (by have := h.size; omega)]; exact h.keep k hk hne, by have := h.size; simp; omega, h.bel.alloc h.bel.size o, h.old⟩
theorem MinSt.grown {w w1 wr : World} {ob : Nat} {c0 c1 : Int} (h : MinSt w w1 ob c0 c1 wr) (n : Nat) (os : Array Obj) : MinSt w w1 ob c0 c1 (grow (wr.drewN n) os) := by
  have hb := below_grown (B := wr.heap.size) wr n os (Nat.le_refl _)
  exact ⟨h.o.grown n os, fun k hk hne => by rw [hb.block k (by have := h.size; omega)]; exact h.keep k hk hne, Nat.le_trans h.size hb.size, Below.next h.bel (Nat.le_refl _) hb, h.old⟩
theorem MinSt.drew {w w1 wr : World} {ob : Nat} {c0 c1 : Int} (h : MinSt w w1 ob c0 c1 wr) : MinSt w w1 ob c0 c1 wr.drew :=
  ⟨h.o, h.keep, h.size, h.bel.drew, h.old⟩
theorem MinSt.set0 {w w1 wr : World} {ob : Nat} {c0 c1 : Int} (h : MinSt w w1 ob c0 c1 wr) (x : Int) : MinSt w w1 ob x c1 (wr.setCell ⟨ob, 0, none⟩ (.int .i64 x)) :=
  ⟨h.o.setCell 0 _, fun k hk hne => by rw [Below.heap_setCell _ _ _ _ hne]; exact h.keep k hk hne, by simpa using h.size, h.bel.setCell h.old _, h.old⟩
theorem MinSt.set1 {w w1 wr : World} {ob : Nat} {c0 c1 : Int} (h : MinSt w w1 ob c0 c1 wr) (x : Int) : MinSt w w1 ob c0 x (wr.setCell ⟨ob, 1, none⟩ (.int .i64 x)) :=
  ⟨h.o.setCell 1 _, fun k hk hne => by rw [Below.heap_setCell _ _ _ _ hne]; exact h.keep k hk hne, by simpa using h.size, h.bel.setCell h.old _, h.old⟩
theorem MinSt.grownBy {w w1 wr w2 : World} {ob : Nat} {c0 c1 : Int} {row : Option Nat} (h : MinSt w w1 ob c0 c1 wr) (hg : wr.grownBy w2 row) (hr : ∀ k, row = some k → w1.heap.size ≤ k) (hob : ob < w1.heap.size) : MinSt w w1 ob c0 c1 w2 := by
  have hb : Below w1.heap.size wr w2 := Below.grown (Below.refl _ _) hg h.size hr
  exact ⟨h.o.below hb hob, fun k hk hne => by rw [hb.block k hk]; exact h.keep k hk hne, Nat.le_trans h.size hb.size, Below.trans h.bel (hb.mono (by have := h.old; omega)), h.old⟩

theorem formE {w : World} {base : Nat} {v : Value} {l : List Ev} (h : w.ownsRow base 51 4 v l.length (l.flatMap encE)) : ∃ g p cap, v = .slice p l.length cap ∧ l.length ≤ cap ∧ cap ≤ maxLen ∧
    ∀ i (hi : i < l.length), p = some ⟨g, 0, none⟩ ∧ base ≤ g ∧ g < w.heap.size ∧ w.cell? ⟨g, i * 4, none⟩ = some (.string (Str l[i].1)) ∧ w.cell? ⟨g, i * 4 + 1, none⟩ = some (.bool l[i].2.1) ∧
      w.cell? ⟨g, i * 4 + 2, none⟩ = some (.int .i64 l[i].2.2.1) ∧ w.cell? ⟨g, i * 4 + 3, none⟩ = some (.int .i64 l[i].2.2.2) := by
  rcases h.2 with ⟨rfl, h0⟩ | ⟨g, cap, cur, rfl, hb, hg, hn, hm, hsz, htk⟩
  · exact ⟨0, none, 0, by rw [h0], by omega, by unfold maxLen; omega, fun i hi => by omega⟩
  · refine ⟨g, some ⟨g, 0, none⟩, cap, rfl, hn, hm, fun i hi => ⟨rfl, hb, by rw [Array.getElem?_eq_some_iff] at hg; exact hg.1, ?_⟩⟩
    have hc : ∀ t, t < l.length * 4 → w.cell? ⟨g, t, none⟩ = some ((encE l[t / 4]!)[t % 4]!) := by
      intro t ht
      unfold World.cell?
      simp only
      rw [hg]
      show cur[t]? = _
      have h2 := flatE_get l t ht
      rw [← htk, List.getElem?_take, if_pos ht, Array.getElem?_toList] at h2
      exact h2
    have e : l[i]! = l[i] := getElem!_pos l i hi
    refine ⟨?_, ?_, ?_, ?_⟩
    · rw [hc _ (by omega), show i * 4 / 4 = i by omega, show i * 4 % 4 = 0 by omega, e]; rfl
    · rw [hc _ (by omega), show (i * 4 + 1) / 4 = i by omega, show (i * 4 + 1) % 4 = 1 by omega, e]; rfl
    · rw [hc _ (by omega), show (i * 4 + 2) / 4 = i by omega, show (i * 4 + 2) % 4 = 2 by omega, e]; rfl
    · rw [hc _ (by omega), show (i * 4 + 3) / 4 = i by omega, show (i * 4 + 3) % 4 = 3 by omega, e]; rfl

set_option maxRecDepth 100000 in
set_option maxHeartbeats 4000000 in
theorem minus_w (v0 v1 : Value) (l m : List Sp) (w : World) (h0 : IsSpans w v0 l) (h1 : IsSpans w v1 m) (hl : l.length ≤ 1000) (hm : m.length ≤ 1000) :
    Calls Try.prog 30 #[v0, v1] w fun e w' => ∃ v, e = .returned v ∧ w'.ownsRow w.heap.size 29 2 v (minusS l m).length ((minusS l m).flatMap encS) ∧ Below w.heap.size w w' := by
  have mixed := mixedA
  obtain ⟨i0, hi, hz0, hz1, hz2⟩ := info_parts infoS
  obtain ⟨_, _, cap0, p0, rfl, _⟩ := h0.form
  obtain ⟨_, _, cap1, p1, rfl, _⟩ := h1.form
  have hbW : Below w.heap.size w ((w.alloc (.cells #[.int .i64 0, .int .i64 0] 56)).alloc (.cells #[.slice p0 l.length cap0, .slice p1 m.length cap1] 22)) := ((Below.refl _ w).alloc (Nat.le_refl _) _).alloc (by simp) _
  have hends := ends_w (w.heap.size + 1) (.slice p0 l.length cap0) (.slice p1 m.length cap1) l m ((w.alloc (.cells #[.int .i64 0, .int .i64 0] 56)).alloc (.cells #[.slice p0 l.length cap0, .slice p1 m.length cap1] 22)) (h0.below hbW) (h1.below hbW) (by constructor <;> simp) (by simp) hl hm
  have Hends := Lib.hid hends
  have HbW := Lib.hid hbW
  have Hob : Hid (Blk ((w.alloc (.cells #[.int .i64 0, .int .i64 0] 56)).alloc (.cells #[.slice p0 l.length cap0, .slice p1 m.length cap1] 22)) w.heap.size 56 #[.int .i64 0, .int .i64 0]) := Lib.hid ((Blk.new _ _ _).alloc _)
  clear hends hbW h0 h1
  go_enter Try.func30, Try.ntmps30
  go_wp2_with (go_at_call 42; refine Hends.out.mono ?_; rintro e w1 ⟨vE, d', rfl, hsrt, hprm, hownE, hbel1⟩; obtain ⟨g, p, cap, rfl, hn, hcm, hrow⟩ := formE hownE; have Hsrt := Lib.hid hsrt; have Hprm := Lib.hid hprm; have Hbel1 := Lib.hid hbel1; have Hrow := Lib.hid hrow; clear hsrt hprm hownE hbel1 hrow)
  have hdl : d'.length ≤ 4000 := by
    have h1 := Hprm.out.length_eq
    have h2 := evs_length 0 l
    have h3 := evs_length 1 m
    rw [List.length_append] at h1
    omega
  have Hok : Hid (∀ e ∈ d', OkE e) := Lib.hid (fun e he => by
    rcases List.mem_append.1 (Hprm.out.mem_iff.1 he) with h | h
    · exact evs_ok 0 (.inl rfl) l e h
    · exact evs_ok 1 (.inr rfl) m e h)
  have Hfin := Lib.hid (sweep_eq l m d' Hprm.out Hsrt.out)
  have hws : w.heap.size + 2 ≤ w1.heap.size := by have := Hbel1.out.size; simpa using this
  have HM0 : Hid (MinSt w w1 w.heap.size 0 0 w1) := Lib.hid ⟨Blk.below Hob.out Hbel1.out (by simp only [World.size_alloc]; omega), fun _ _ _ => rfl, Nat.le_refl _, Below.trans HbW.out (Hbel1.out.mono (by simp only [World.size_alloc]; omega)), Nat.le_refl _⟩
  clear Hends HbW Hob
  unfold maxLen at hcm
  go_wp2
  go_loopw [5, 7, 8, 19] (fun v sl si i wr => ∃ (k : Nat) (left : List Sp) (lo : Bs) (ins : Bool) (c0 c1 : Int), k ≤ d'.length ∧ i = .int .i64 k ∧ sl = .string (Str lo) ∧ si = .bool ins ∧ wr.ownsRow w1.heap.size 29 2 v left.length (left.flatMap encS) ∧
      MinSt w w1 w.heap.size c0 c1 wr ∧ -(k : Int) ≤ c0 ∧ c0 ≤ k ∧ -(k : Int) ≤ c1 ∧ c1 ≤ k ∧ left.length ≤ k ∧ Hid (left ++ sweep c0 c1 ins lo (d'.drop k) = minusS l m)) (fun _ _ _ i _ => d'.length - (intOf i).toNat)
  case atStart => exact ⟨0, [], [], false, 0, 0, Nat.zero_le _, rfl, rfl, rfl, World.ownsRow_nil _ _ _ _, HM0.out, by omega, by omega, by omega, by omega, Nat.le_refl _, Lib.hid (by rw [List.nil_append, List.drop_zero]; exact Hfin.out)⟩
  case round =>
    obtain ⟨k, left, lo, ins, c0, c1, hk, rfl, rfl, rfl, hown, hst, b0, b0', b1, b1', hll, hsw⟩ := hrel
    by_cases hlt : k < d'.length
    · obtain ⟨rfl, hgb, hgl, e0, e1, e2, e3⟩ := Hrow.out k hlt
      have okk := Hok.out _ (List.getElem_mem hlt)
      have hgne : g ≠ w.heap.size := by have := Hbel1.out.size; simp only [World.size_alloc] at *; omega
      have hkeep : ∀ x y, w1.cell? ⟨g, x, none⟩ = some y → wr.cell? ⟨g, x, none⟩ = some y := fun x y h => by
        rw [← h]; exact World.cell?_of_block (hst.keep g hgl hgne)
      have e0 := hkeep _ _ e0
      have e1 := hkeep _ _ e1
      have e2 := hkeep _ _ e2
      have e3 := hkeep _ _ e3
      have Hdrop : Hid (d'.drop k = d'[k] :: d'.drop (k + 1)) := Lib.hid (List.drop_eq_getElem_cons hlt)
      have hobl : w.heap.size < wr.heap.size := hst.o.lt
      have o0 := hst.o.c0 0 _ rfl
      have o1 := hst.o.c0 1 _ rfl
      have of0 := hst.o.free 0
      have of1 := hst.o.free 1
      have Hst := Lib.hid hst
      have Hown := Lib.hid hown
      clear hst hown hkeep
      generalize hx : d'[k] = x at *
      obtain ⟨key, top, step, li⟩ := x
      obtain ⟨hstep, hli⟩ := okk
      simp only at hstep hli e0 e1 e2 e3
      obtain ⟨n0, hn0⟩ : ∃ n0, n0 = openI 0 c0 (key, top, step, li) := ⟨_, rfl⟩
      obtain ⟨n1, hn1⟩ : ∃ n1, n1 = openI 1 c1 (key, top, step, li) := ⟨_, rfl⟩
      have hnb : -((k : Int) + 1) ≤ n0 ∧ n0 ≤ k + 1 ∧ -((k : Int) + 1) ≤ n1 ∧ n1 ≤ k + 1 := by
        rw [hn0, hn1]; unfold openI
        rcases hli with rfl | rfl <;> rcases hstep with rfl | rfl <;> simp <;> omega
      have hnn : (li = 0 ∧ n0 = c0 + step ∧ n1 = c1) ∨ (li = 1 ∧ n0 = c0 ∧ n1 = c1 + step) := by
        rw [hn0, hn1]; unfold openI
        rcases hli with rfl | rfl
        · left; simp
        · right; simp
      have Hn0 := Lib.hid hn0
      have Hn1 := Lib.hid hn1
      have Hnn := Lib.hid hnn
      clear hn0 hn1 hnn
      have hkd : (k : Int) + 1 ≤ 4000 := by omega
      have EB : Hid (Blk (wr.alloc (.cells #[.string (Str key), .bool top, .int .i64 step, .int .i64 li] 51)) wr.heap.size 51 #[.string (Str key), .bool top, .int .i64 step, .int .i64 li]) := Lib.hid (Blk.new _ _ _)
      go_wp2
      go_cut [24] (fun _ wx => wx.ownsRow w1.heap.size 29 2 u5 left.length (left.flatMap encS) ∧ MinSt w w1 w.heap.size n0 n1 wx ∧ Blk wx wr.heap.size 51 #[.string (Str key), .bool top, .int .i64 step, .int .i64 li])
      case first =>
        rcases Hnn.out with ⟨rfl, rfl, rfl⟩ | ⟨rfl, rfl, rfl⟩
        · have hs1 : -4000 ≤ c0 + step ∧ c0 + step ≤ 4000 := by omega
          obtain ⟨hs1, hs2⟩ := hs1
          go_region
          all_goals (go_wp2_with fail; go_meet)
          all_goals
            refine ⟨owns_keep Hown.out (keep_step (by omega)), ?_, ?_⟩
            · exact ((Hst.out.set0 _).alloc _).drew
            · exact (Blk.new' (World.setCell wr _ _) _ _ (by simp)).drewN 1
        · have hs1 : -4000 ≤ c1 + step ∧ c1 + step ≤ 4000 := by omega
          obtain ⟨hs1, hs2⟩ := hs1
          go_region
          all_goals (go_wp2_with fail; go_meet)
          all_goals
            refine ⟨owns_keep Hown.out (keep_step (by omega)), ?_, ?_⟩
            · exact ((Hst.out.set1 _).alloc _).drew
            · exact (Blk.new' (World.setCell wr _ _) _ _ (by simp)).drewN 1
      case rest =>
        obtain ⟨hown2, hst2, heb⟩ := hcut
        have Hown2 := Lib.hid hown2
        clear hown2
        have x0 := heb.c 0 _ rfl
        have x1 := heb.c 1 _ rfl
        have x2 := heb.c 2 _ rfl
        have x3 := heb.c 3 _ rfl
        simp only [List.getElem_toArray, List.getElem_cons_zero, List.getElem_cons_succ] at x0 x1 x2 x3
        have Hst2 := Lib.hid hst2
        have Heb := Lib.hid heb
        have hsame : Hid (k + 1 < d'.length → sameNext (key, top, step, li) (d'.drop (k + 1)) = decide (cmpE (key, top, step, li) (d'[k + 1]!) = 0)) := Lib.hid (fun h => by
          rw [List.drop_eq_getElem_cons h, getElem!_pos d' (k + 1) h]; rfl)
        have hsame2 : Hid (¬ k + 1 < d'.length → sameNext (key, top, step, li) (d'.drop (k + 1)) = false) := Lib.hid (fun h => by
          rw [List.drop_eq_nil_of_le (by omega)]; rfl)
        clear hst2 heb e0 e1 e2 e3 o0 o1 of0 of1
        have hwk : IntKind.i64.wrap ((k : Int) + 1) = (k : Int) + 1 := by rw [IntKind.wrap_i64]; omega
        have hkn : ((k : Int) + 1).toNat = k + 1 := by omega
        have hk0 : (0 : Int) ≤ (k : Int) + 1 := by omega
        go_wp2_with fail
        go_cut [46] (fun s46 wx => s46 = .bool (sameNext (key, top, step, li) (d'.drop (k + 1))) ∧ wx.ownsRow w1.heap.size 29 2 u5 left.length (left.flatMap encS) ∧ MinSt w w1 w.heap.size n0 n1 wx ∧ Blk wx wr.heap.size 51 #[.string (Str key), .bool top, .int .i64 step, .int .i64 li])
        case first =>
          by_cases hk1 : k + 1 < d'.length
          · have hk1z : (k : Int) + 1 < (d'.length : Int) := by omega
            have hs := hsame.out hk1
            obtain ⟨_, _, _, f0, f1, f2, f3⟩ := Hrow.out (k + 1) hk1
            rw [getElem!_pos d' (k + 1) hk1] at hs
            have hkeep : ∀ x y, w1.cell? ⟨g, x, none⟩ = some y → ∀ n os, (grow (wc.drewN n) os).cell? ⟨g, x, none⟩ = some y := fun x y h n os =>
              cell_grown (by exact Nat.lt_of_lt_of_le hgl Hst2.out.size) (by rw [← h]; exact World.cell?_of_block (Hst2.out.keep g hgl hgne)) n os
            have f0 := hkeep _ _ f0
            have f1 := hkeep _ _ f1
            have f2 := hkeep _ _ f2
            have f3 := hkeep _ _ f3
            clear hkeep
            generalize hy : d'[k + 1] = y at *
            obtain ⟨ykey, ytop, ystep, yli⟩ := y
            have hc := fun wx => compare_w (key, top, step, li) (ykey, ytop, ystep, yli) wx
            simp only [encE] at hc f0 f1 f2 f3
            generalize cmpE (key, top, step, li) (ykey, ytop, ystep, yli) = r at *
            have Hs := Lib.hid hs
            clear hs hy
            refine wp_region_quiet_grown mixed (by kernel_rfl) ?_
            repeat (first | go_big_quiet_skip | (refine wpQuiet_step (fun K hK => ?_); have HK := Lib.hid hK; clear hK; go_simp; first | (refine HK.out _ ?_; clear HK K) | (apply Exists.intro; refine ⟨fun _ => ?_, HK.out _ ?_⟩; (first | (go_at_call 37; refine calls_grown (hc _))); clear HK K)))
            refine wpQuiet_nil ?_
            intro _ hw'
            obtain ⟨⟨nq, osq⟩, hw''⟩ := hw'
            subst hw''
            go_wp2_with fail
            go_meet
            refine ⟨?_, owns_below Hown2.out (below_grown _ _ _ (Nat.le_refl _)), Hst2.out.grown _ _, Heb.out.grown _ _⟩
            rw [Hs.out]
            first | rfl | (congr 1)
          · have hk1z : decide ((k : Int) + 1 < (d'.length : Int)) = false := by simp; omega
            have Hs := Lib.hid (hsame2.out hk1)
            clear hk1
            refine wp_region_quiet_grown mixed (by kernel_rfl) ?_
            repeat (first | go_big_quiet_skip | (refine wpQuiet_step (fun K hK => ?_); have HK := Lib.hid hK; clear hK; go_simp; first | (refine HK.out _ ?_; clear HK K) | (apply Exists.intro; refine ⟨fun _ => ?_, HK.out _ ?_⟩; skip; clear HK K)))
            refine wpQuiet_nil ?_
            intro _ hw'
            obtain ⟨⟨nq, osq⟩, hw''⟩ := hw'
            subst hw''
            go_wp2_with fail
            go_meet
            refine ⟨?_, owns_below Hown2.out (below_grown _ _ _ (Nat.le_refl _)), Hst2.out.grown _ _, Heb.out.grown _ _⟩
            rw [Hs.out]
        case rest =>
          obtain ⟨rfl, hown3, hst3, heb3⟩ := hcut
          have o0 := hst3.o.c0 0 _ rfl
          have o1 := hst3.o.c0 1 _ rfl
          have y0 := heb3.c0 0 _ rfl
          simp only [List.getElem_toArray, List.getElem_cons_zero, List.getElem_cons_succ] at o0 o1 y0
          have Hst3 := Lib.hid hst3
          have Hown3 := Lib.hid hown3
          obtain ⟨nb0, nb0', nb1, nb1'⟩ := hnb
          clear hst3 heb3 hown3 x0 x1 x2 x3 hwk hkn hk0 hsame hsame2 Hnn EB
          have Hsw : Hid (minusS l m = left ++ sweep c0 c1 ins lo ((key, top, step, li) :: d'.drop (k + 1))) := Lib.hid (by rw [← hsw.out, Hdrop.out])
          clear hsw
          cases hsn : sameNext (key, top, step, li) (d'.drop (k + 1)) with
          | true =>
            have Hs : Hid (left ++ sweep n0 n1 ins lo (d'.drop (k + 1)) = minusS l m) := Lib.hid (by rw [Hsw.out, sweep, if_pos hsn, Hn0.out, Hn1.out])
            clear hsn
            go_wp2
            go_roundw
            case rel => exact ⟨k + 1, left, lo, ins, n0, n1, by omega, by go_num, rfl, rfl, Hown3.out, Hst3.out, by omega, by omega, by omega, by omega, by omega, Hs⟩
            case measure => simp [intOf]; omega
          | false =>
            have Hs : Hid (minusS l m = left ++ ((if ins && !(nowB n0 n1) then [(if nowB n0 n1 && !ins then key else lo, key)] else []) ++ sweep n0 n1 (nowB n0 n1) (if nowB n0 n1 && !ins then key else lo) (d'.drop (k + 1)))) := Lib.hid (by
              rw [Hsw.out, sweep, if_neg (by rw [hsn]; simp), ← Hn0.out, ← Hn1.out])
            clear hsn Hsw
            by_cases h1 : 0 < n0
            · by_cases h2 : n1 = 0
              · have hnow : nowB n0 n1 = true := by unfold nowB; simp [h1, h2]
                have h2b : (n1 == 0) = true := by simpa using h2
                clear h2
                cases ins with
                | true =>
                  have Hs2 := Hs.out
                  rw [hnow] at Hs2
                  simp only [Bool.and_true, Bool.and_false, Bool.true_and, Bool.false_and, Bool.not_true, Bool.not_false, Bool.false_eq_true, ↓reduceIte, List.nil_append, List.cons_append] at Hs2
                  have HS := Lib.hid Hs2.symm
                  clear Hs2 hnow Hs
                  go_wp2
                  go_roundw
                  case rel => exact ⟨k + 1, left, lo, true, n0, n1, by omega, by go_num, rfl, rfl, Hown3.out, Hst3.out, by omega, by omega, by omega, by omega, by omega, HS⟩
                  case measure => simp [intOf]; omega
                | false =>
                  have Hs2 := Hs.out
                  rw [hnow] at Hs2
                  simp only [Bool.and_true, Bool.and_false, Bool.true_and, Bool.false_and, Bool.not_true, Bool.not_false, Bool.false_eq_true, ↓reduceIte, List.nil_append, List.cons_append] at Hs2
                  have HS := Lib.hid Hs2.symm
                  clear Hs2 hnow Hs
                  go_wp2
                  go_roundw
                  case rel => exact ⟨k + 1, left, key, true, n0, n1, by omega, by go_num, rfl, rfl, Hown3.out, Hst3.out, by omega, by omega, by omega, by omega, by omega, HS⟩
                  case measure => simp [intOf]; omega
              · have hnow : nowB n0 n1 = false := by unfold nowB; simp [h2]
                have h2b : (n1 == 0) = false := by simpa using h2
                clear h2
                cases ins with
                | true =>
                  have Hs2 := Hs.out
                  rw [hnow] at Hs2
                  simp only [Bool.and_true, Bool.and_false, Bool.true_and, Bool.false_and, Bool.not_true, Bool.not_false, Bool.false_eq_true, ↓reduceIte, List.nil_append, List.cons_append] at Hs2
                  have HS := Lib.hid Hs2.symm
                  clear Hs2 hnow Hs
                  go_wp2_with (at_builtin; refine wpList_append_own _ rfl _ _ 22 rfl w1.heap.size 29 i0 (.agg #[.string ⟨#[]⟩, .string ⟨#[]⟩]) 2 32 Try.underlying22 hi hz0 hz1 hz2 rfl (by decide) _ _ _ rfl (Hown3.out.alloc _) ⟨wc.heap.size, 0, none⟩ 1 1 [.string (Str lo), .string (Str key)] rfl rfl (cells_new' _ _ _ (by simp)) (by intro u hu; simp at hu; rcases hu with rfl | rfl <;> rfl) (by unfold maxLen; omega) (by omega) (by have := Hst3.out.size; simp; omega) ?_; intro v' w2 hown' hgrow _)
                  have Hown' := Lib.hid hown'
                  have Hst4 := Lib.hid (MinSt.grownBy (Hst3.out.alloc _) hgrow (fun q hq => (Hown3.out.lt q hq).1) (by omega))
                  clear hown' hgrow
                  go_wp2
                  go_roundw
                  case rel => exact ⟨k + 1, left ++ [(lo, key)], lo, false, n0, n1, by omega, by go_num, rfl, rfl, by rw [List.length_append, List.flatMap_append]; exact Hown'.out, Hst4.out, by omega, by omega, by omega, by omega, by simp; omega, Lib.hid (by rw [List.append_assoc]; exact HS.out)⟩
                  case measure => simp [intOf]; omega
                | false =>
                  have Hs2 := Hs.out
                  rw [hnow] at Hs2
                  simp only [Bool.and_true, Bool.and_false, Bool.true_and, Bool.false_and, Bool.not_true, Bool.not_false, Bool.false_eq_true, ↓reduceIte, List.nil_append, List.cons_append] at Hs2
                  have HS := Lib.hid Hs2.symm
                  clear Hs2 hnow Hs
                  go_wp2
                  go_roundw
                  case rel => exact ⟨k + 1, left, lo, false, n0, n1, by omega, by go_num, rfl, rfl, Hown3.out, Hst3.out, by omega, by omega, by omega, by omega, by omega, HS⟩
                  case measure => simp [intOf]; omega
            · have hnow : nowB n0 n1 = false := by unfold nowB; simp; omega
              have h1b : n0 ≤ 0 := by omega
              cases ins with
              | true =>
                have Hs2 := Hs.out
                rw [hnow] at Hs2
                simp only [Bool.and_true, Bool.and_false, Bool.true_and, Bool.false_and, Bool.not_true, Bool.not_false, Bool.false_eq_true, ↓reduceIte, List.nil_append, List.cons_append] at Hs2
                have HS := Lib.hid Hs2.symm
                clear Hs2 hnow Hs
                go_wp2_with (at_builtin; refine wpList_append_own _ rfl _ _ 22 rfl w1.heap.size 29 i0 (.agg #[.string ⟨#[]⟩, .string ⟨#[]⟩]) 2 32 Try.underlying22 hi hz0 hz1 hz2 rfl (by decide) _ _ _ rfl (Hown3.out.alloc _) ⟨wc.heap.size, 0, none⟩ 1 1 [.string (Str lo), .string (Str key)] rfl rfl (cells_new' _ _ _ (by simp)) (by intro u hu; simp at hu; rcases hu with rfl | rfl <;> rfl) (by unfold maxLen; omega) (by omega) (by have := Hst3.out.size; simp; omega) ?_; intro v' w2 hown' hgrow _)
                have Hown' := Lib.hid hown'
                have Hst4 := Lib.hid (MinSt.grownBy (Hst3.out.alloc _) hgrow (fun q hq => (Hown3.out.lt q hq).1) (by omega))
                clear hown' hgrow
                go_wp2
                go_roundw
                case rel => exact ⟨k + 1, left ++ [(lo, key)], lo, false, n0, n1, by omega, by go_num, rfl, rfl, by rw [List.length_append, List.flatMap_append]; exact Hown'.out, Hst4.out, by omega, by omega, by omega, by omega, by simp; omega, Lib.hid (by rw [List.append_assoc]; exact HS.out)⟩
                case measure => simp [intOf]; omega
              | false =>
                have Hs2 := Hs.out
                rw [hnow] at Hs2
                simp only [Bool.and_true, Bool.and_false, Bool.true_and, Bool.false_and, Bool.not_true, Bool.not_false, Bool.false_eq_true, ↓reduceIte, List.nil_append, List.cons_append] at Hs2
                have HS := Lib.hid Hs2.symm
                clear Hs2 hnow Hs
                go_wp2
                go_roundw
                case rel => exact ⟨k + 1, left, lo, false, n0, n1, by omega, by go_num, rfl, rfl, Hown3.out, Hst3.out, by omega, by omega, by omega, by omega, by omega, HS⟩
                case measure => simp [intOf]; omega
    · obtain rfl : k = d'.length := by omega
      have Hfin2 : Hid (left = minusS l m) := Lib.hid (by have := hsw.out; rw [List.drop_length, sweep, List.append_nil] at this; exact this)
      have Hown := Lib.hid hown
      have Hst := Lib.hid hst
      clear hown hst hsw
      go_wp2
      go_ret
      refine ⟨_, rfl, ?_, Hst.out.bel⟩
      rw [← Hfin2.out]
      refine ⟨Hown.out.1, ?_⟩
      rcases Hown.out.2 with h | ⟨g, cp, cur, h2, h3, h4⟩
      · exact .inl h
      · exact .inr ⟨g, cp, cur, h2, by omega, h4⟩

theorem IsSpans.nil (w : World) : IsSpans w (.slice none 0 0) [] := ⟨none, 0, rfl, Nat.le_refl _, by unfold maxLen; omega, fun h => absurd rfl h⟩
set_option maxHeartbeats 1000000 in
theorem norm_w (v0 : Value) (l : List Sp) (w : World) (h0 : IsSpans w v0 l) (hl : l.length ≤ 1000) :
    Calls Try.prog 28 #[v0] w fun e w' => ∃ v, e = .returned v ∧ w'.ownsRow w.heap.size 29 2 v (normS l).length ((normS l).flatMap encS) ∧ Below w.heap.size w w' := by
  have hm := minus_w v0 (.slice none 0 0) l [] w h0 (IsSpans.nil w) hl (by simp)
  obtain ⟨_, _, cap0, p0, rfl, _⟩ := h0.form
  have Hm := Lib.hid hm
  clear hm h0
  go_enter Try.func28, Try.ntmps28
  go_wp2_with (go_at_call 30; refine Hm.out.mono ?_; rintro e w1 ⟨v, rfl, ho, hb⟩)
  go_ret
  exact ⟨v, rfl, ho, hb⟩

end Go.Proofs.Ytenhjpopdmiekaa
