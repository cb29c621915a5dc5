/-
  Walks: spans followed back through a Move, a Clone, and any message.
-/
import Derived.Test.YthncnijkgkeohaaGreatHX
namespace Go.Proofs.YthncnijkgkeohaaGreat
open Go.RowKit Go.Sort
set_option linter.unusedVariables false

theorem spans_turned {w w' : World} {kv : Value} {K : List Sp} {row : Option Nat} (h : IsSpans w kv K) (hg : w.grownBy w' row) (hne : ∀ j, kv.ownBlock = some j → row ≠ some j) : IsSpans w' kv K := by
  obtain ⟨a, cap, rfl, h1, h2, h3⟩ := h
  refine ⟨a, cap, rfl, h1, h2, fun hK => ?_⟩
  obtain ⟨b, off, rfl, h4, h5⟩ := h3 hK
  have hb : w'.heap[b]? = w.heap[b]? := hg.block b h4 fun e => hne b rfl e.symm
  refine ⟨b, off, rfl, Nat.lt_of_lt_of_le h4 hg.size, fun i hi => ?_⟩
  obtain ⟨c1, c2⟩ := h5 i hi
  exact ⟨(World.cell?_of_block (a := ⟨b, _, none⟩) hb).trans c1, (World.cell?_of_block (a := ⟨b, _, none⟩) hb).trans c2⟩
/-- The message's block and the two boxes. -/
structure PbX (w : World) (m : Ms) (b5 b6 : Nat) (wx wr : World) : Prop where
  p : PbS w m wr
  f : Blk wr b5 29 #[.string (Str m.src), .string (Str (preT m.src))]
  t : Blk wr b6 29 #[.string (Str m.dst), .string (Str (preT m.dst))]
  g : Below wx.heap.size wx wr
theorem PbX.below {w wx wr wy : World} {m : Ms} {b5 b6 : Nat} (h : PbX w m b5 b6 wx wr) (hb : Below wr.heap.size wr wy) : PbX w m b5 b6 wx wy := ⟨h.p.below hb, h.f.below hb h.f.lt, h.t.below hb h.t.lt, h.g.trans (hb.mono h.g.size)⟩
theorem PbX.drew {w wx wr : World} {m : Ms} {b5 b6 : Nat} (h : PbX w m b5 b6 wx wr) : PbX w m b5 b6 wx wr.drew := h.below (below_drewN wr 1)
theorem PbX.alloc {w wx wr : World} {m : Ms} {b5 b6 : Nat} (h : PbX w m b5 b6 wx wr) (o : Obj) : PbX w m b5 b6 wx (wr.alloc o) := h.below (below_box _)
set_option maxRecDepth 100000 in
set_option maxHeartbeats 4000000 in
theorem kback_w (base : Nat) (m : Ms) (v : Value) (L : List Sp) (w : World) (hv : w.ownsRow base 29 2 v L.length (L.flatMap encS)) (hn : Nrm L) (hb : base ≤ w.heap.size) (hl : L.length ≤ 300) (hz : SizeM m) (hlen : LenS 100000000000 L) (hd : m.dst ≠ []) :
    Calls Tryz.prog 98 #[msgV m, v] w (KOut base v w (moveB m L)) := by
  have HP1 := Lib.hid (fun wx => (prefix_w m.src wx (by have := hz.2.2.2.2.1; omega)).mono fun e w' ⟨h1, h2⟩ => (⟨h1, h2.below (Nat.le_refl _)⟩ : _ ∧ Below wx.heap.size wx w'))
  have HP2 := Lib.hid (fun wx => (prefix_w m.dst wx (by have := hz.2.2.2.2.2; omega)).mono fun e w' ⟨h1, h2⟩ => (⟨h1, h2.below (Nat.le_refl _)⟩ : _ ∧ Below wx.heap.size wx w'))
  have HIN := Lib.hid (fun wx (hx : Below w.heap.size w wx) => kin_w v L (preS m.dst) wx (IsSpans.owned (owns_below hv hx)) hn (by omega))
  have hdl : m.dst.length ≤ 100000000000 := by have := hz.2.2.2.2.2; omega
  have hpl : (preS m.dst).1.length ≤ 100000000000 ∧ (preS m.dst).2.length ≤ 100000000000 := ⟨hdl, Nat.le_trans (preT_lenF _) hdl⟩
  have hil := in_lenS (by omega) hlen hpl
  have hin := inS_len L (preS m.dst)
  have HMV := Lib.hid (fun u wx (hx : IsSpans wx u (inS L (preS m.dst))) => kmoved_w u (inS L (preS m.dst)) m.dst m.src wx hx (by omega) (by have := hz.2.2.2.2.2; omega) (by have := hz.2.2.2.2.1; omega) (fun x hx => ⟨by have := (hil x hx).1; omega, by have := (hil x hx).2; omega⟩))
  have HWO := Lib.hid (fun wx (hx : Below w.heap.size w wx) => kwithout_w base v L (preS m.dst) wx (owns_below hv hx) hn (Nat.le_trans hb hx.size) (by omega))
  have hmi : ∀ k, InL ((inS L (preS m.dst)).map (movedSp m.dst m.src)) k → HasS (preS m.src) k := fun k hk => by
    obtain ⟨r, -, rfl⟩ := (moves_in hd L k).1 hk
    exact (pre_has _ _).2 (prefix_app _ _)
  have hsl : (subS L (preS m.dst)).length ≤ 400 := by have := minus_length L [preS m.dst]; simp at this; unfold subS; omega
  have HWI := Lib.hid (fun v1 u wx (ho : wx.ownsRow base 29 2 v1 (subS L (preS m.dst)).length ((subS L (preS m.dst)).flatMap encS)) (hbx : base ≤ wx.heap.size) (hu : IsSpans wx u ((inS L (preS m.dst)).map (movedSp m.dst m.src))) => with_w base v1 u (subS L (preS m.dst)) ((inS L (preS m.dst)).map (movedSp m.dst m.src)) (preS m.src) wx hu (by rw [List.length_map]; omega) hmi ho (minus_nrm _ _) hbx hsl)
  have HRES : Hid (normS (subS L (preS m.dst) ++ (inS L (preS m.dst)).map (movedSp m.dst m.src)) = moveB m L) := Lib.hid rfl
  rw [HRES.out] at HWI
  clear hdl hpl hil hin hmi hsl hlen HRES
  generalize moveB m L = R at *
  generalize (inS L (preS m.dst)).map (movedSp m.dst m.src) = Mv at *
  generalize inS L (preS m.dst) = In at *
  generalize subS L (preS m.dst) = Sb at *
  have hvlt : ∀ j, v.ownBlock = some j → j < w.heap.size := fun j hj => (hv.lt j hj).2
  obtain ⟨pd, capd, rfl, hnd, hmd, hpd⟩ := own_form hv
  unfold maxLen at hmd
  clear hpd hv hn
  have Hbase := Lib.hid hb
  clear hb
  have HS0 : Hid (PbS w m (w.alloc (.cells (encM m) 63))) := Lib.hid ⟨Blk.new _ _ _, below_box _⟩
  go_enter Tryz.func98, Tryz.ntmps98
  go_wp2_with fail
  refine kb1_w w m (.slice pd L.length capd) HP1.out HP2.out _ HS0.out _ _ _ _ _ _ _ _ _ _ _ _ _ _ _ _ _ _ _ _ _ _ _ _ _  _ (fun u8 u9 u10 u11 u12 u13 b5 b6 wx hL => ?_)
  obtain ⟨hB5, hB6, hne, hl5, hl6, hps⟩ := hL
  have HPX : Hid (PbX w m b5 b6 wx wx) := Lib.hid ⟨hps, hB5, hB6, Below.refl _ _⟩
  have n5 : ∀ wr, PbX w m b5 b6 wx wr → wr.cell? ⟨w.heap.size, 5, none⟩ = some (.string (Str m.src)) := fun wr h => h.p.b.c0 5 _ rfl
  have n6 : ∀ wr, PbX w m b5 b6 wx wr → wr.cell? ⟨w.heap.size, 6, none⟩ = some (.string (Str m.dst)) := fun wr h => h.p.b.c0 6 _ rfl
  have t0 : ∀ wr, PbX w m b5 b6 wx wr → wr.cell? ⟨b6, 0, none⟩ = some (.string (Str m.dst)) := fun wr h => h.t.c0 0 _ rfl
  have t1 : ∀ wr, PbX w m b5 b6 wx wr → wr.cell? ⟨b6, 1, none⟩ = some (.string (Str (preT m.dst))) := fun wr h => h.t.c0 1 _ rfl
  have HIN2 : Hid (∀ wr, PbX w m b5 b6 wx wr → Calls Tryz.prog 100 #[.slice pd L.length capd, .agg #[.string (Str m.dst), .string (Str (preT m.dst))]] wr (OutS wr.heap.size wr In)) := Lib.hid (fun wr h => HIN.out wr h.p.g)
  have HSZ := Lib.hid hps.g.size
  clear hps hB5 hB6
  go_wp2_with fail
  go_region_held3 (fun wr => PbX w m b5 b6 wx wr) (first | with_reducible assumption | with_reducible exact HPX.out | with_reducible exact HPX.out.drew | with_reducible exact PbX.drew (by with_reducible assumption) | with_reducible exact PbX.alloc (by with_reducible assumption) _)
    (first
      | (go_at_call 100; (with_reducible refine (HIN2.out _ (by first | with_reducible assumption | with_reducible exact HPX.out.drew)).mono ?_); rintro e x2 ⟨u, rfl, ho2, hb2⟩; have hS2 : PbX w m b5 b6 wx x2 := PbX.below (by first | assumption | exact HPX.out.drew) hb2; have hu2 := IsSpans.owned ho2; obtain ⟨pu, cu, rfl, -⟩ := id hu2)
      | (go_at_call 101; (with_reducible refine (HMV.out _ _ hu2).mono ?_); rintro e x3 ⟨u3, rfl, ho3, hb3⟩; have hS3 : PbX w m b5 b6 wx x3 := PbX.below hS2 hb3; obtain ⟨pu3, cu3, rfl, -⟩ := IsSpans.owned ho3)
      | fail "no arm")
  all_goals
    have HO3 := Lib.hid ho3
    have HS3 := Lib.hid hS3
    have hsz2 := hS2.p.g.size
    clear ho3 hS3 hb3 hu2 ho2 hS2 hb2 n5 n6 t0 t1
    have hne5 : some b5 ≠ (Value.slice pd L.length capd).ownBlock := fun he => by have := hvlt _ he.symm; omega
    have hne6 : some b6 ≠ (Value.slice pd L.length capd).ownBlock := fun he => by have := hvlt _ he.symm; omega
    have f0 : ∀ wr, x3.grownBy wr (Value.slice pd L.length capd).ownBlock → wr.cell? ⟨b5, 0, none⟩ = some (.string (Str m.src)) := fun wr h => h.cell (HS3.out.f.c0 0 _ rfl) hne5
    have f1 : ∀ wr, x3.grownBy wr (Value.slice pd L.length capd).ownBlock → wr.cell? ⟨b5, 1, none⟩ = some (.string (Str (preT m.src))) := fun wr h => h.cell (HS3.out.f.c0 1 _ rfl) hne5
    have t0 : ∀ wr, x3.grownBy wr (Value.slice pd L.length capd).ownBlock → wr.cell? ⟨b6, 0, none⟩ = some (.string (Str m.dst)) := fun wr h => h.cell (HS3.out.t.c0 0 _ rfl) hne6
    have t1 : ∀ wr, x3.grownBy wr (Value.slice pd L.length capd).ownBlock → wr.cell? ⟨b6, 1, none⟩ = some (.string (Str (preT m.dst))) := fun wr h => h.cell (HS3.out.t.c0 1 _ rfl) hne6
    have hbx3 : Below w.heap.size w x3.drew := HS3.out.drew.p.g
    have HB3 := Lib.hid hbx3
    have HWO3 : Hid (Calls Tryz.prog 96 #[.slice pd L.length capd, .agg #[.string (Str m.dst), .string (Str (preT m.dst))]] x3.drew fun e w' => ∃ v', e = .returned v' ∧ w'.ownsRow base 29 2 v' Sb.length (Sb.flatMap encS) ∧ Turn (.slice pd L.length capd) v' x3.drew w') := Lib.hid (HWO.out _ hbx3)
    have HWI3 : Hid (∀ v1 x4, x4.ownsRow base 29 2 v1 Sb.length (Sb.flatMap encS) → Turn (.slice pd L.length capd) v1 x3.drew x4 → Calls Tryz.prog 102 #[v1, .agg #[.string (Str m.src), .string (Str (preT m.src))], .slice pu3 Mv.length cu3] x4 fun e w' => ∃ v', e = .returned v' ∧ w'.ownsRow base 29 2 v' R.length (R.flatMap encS) ∧ Turn v1 v' x4 w') := Lib.hid (fun v1 x4 ho4 ht4 => HWI.out v1 _ x4 ho4 (Nat.le_trans Hbase.out (Nat.le_trans hbx3.size ht4.1.size)) (spans_turned ((IsSpans.owned HO3.out).below (below_drewN x3 1)) ht4.1 fun j hj he => by have h1 := (HO3.out.lt j hj).1; have h2 := hvlt j he; omega))
    have HS0' : Hid (x3.grownBy x3 (Value.slice pd L.length capd).ownBlock) := Lib.hid (grownBy_refl _ _)
    clear hbx3
    go_wp2_with fail
    go_region_held3 (fun wr => x3.grownBy wr (Value.slice pd L.length capd).ownBlock) (repeat (first | with_reducible assumption | with_reducible exact HS0'.out | with_reducible refine keep_d ?_ | with_reducible refine keep_a ?_ _))
      (first
        | (go_at_call 96; (with_reducible refine HWO3.out.mono ?_); rintro e x4 ⟨v4, rfl, ho4, ht4⟩; have hS4 := (keep_d HS0'.out).trans ht4.1)
        | (go_at_call 102; (with_reducible refine (HWI3.out _ _ ho4 ht4).mono ?_); rintro e x5 ⟨v5, rfl, ho5, ht5⟩; have hS5 : x3.grownBy x5 (Value.slice pd L.length capd).ownBlock := (keep_d HS0'.out).trans (ht4.trans ht5).1)
        | fail "no arm")
    all_goals
      have HO5 := Lib.hid ho5
      have HT5 := Lib.hid (turn_below HB3.out (ht4.trans ht5))
      clear ho5 ht5 hS5 ho4 ht4 hS4 f0 f1 t0 t1
      go_wp2
      go_ret
      exact ⟨_, rfl, HO5.out, HT5.out⟩

@[reducible] def fk2V : Value := .func (.func 98) #[] #[]
set_option maxRecDepth 100000 in
set_option maxHeartbeats 4000000 in
theorem kmove_w (base b : Nat) (m : Ms) (v : Value) (L : List Sp) (w : World) (hbk : w.cell? ⟨b, 0, none⟩ = some fk2V) (hv : w.ownsRow base 29 2 v L.length (L.flatMap encS)) (hvb : v.ownBlock ≠ some b) (hn : Nrm L) (hb : base ≤ w.heap.size) (hl : L.length ≤ 290) (hz : SizeM m) (hlen : LenS 50000000000 L) (hd : m.dst ≠ []) :
    Calls Tryz.prog 104 (#[msgV m, v] ++ #[.pointer (some ⟨b, 0, none⟩)]) w (KOut base v w (moveB m (minusS L [preS m.src]))) := by
  have HP1 := Lib.hid (fun wx => (prefix_w m.src wx (by have := hz.2.2.2.2.1; omega)).mono fun e w' ⟨h1, h2⟩ => (⟨h1, h2.below (Nat.le_refl _)⟩ : _ ∧ Below wx.heap.size wx w'))
  have HWO := Lib.hid (fun wx (hx : Below w.heap.size w wx) => kwithout_w base v L (preS m.src) wx (owns_below hv hx) hn (Nat.le_trans hb hx.size) (by omega))
  have hml := minus_length L [preS m.src]
  have hln2 : LenS 100000000000 (minusS L [preS m.src]) := (minus_lenS (M := 50000000000) (by omega) hlen (fun x hx => by rw [List.mem_singleton] at hx; subst hx; have := hz.2.2.2.2.1; exact ⟨by show m.src.length ≤ _; omega, Nat.le_trans (preT_lenF _) (by omega)⟩)).mono (by omega)
  have HKB := Lib.hid (fun v1 wx (h1 : wx.ownsRow base 29 2 v1 (minusS L [preS m.src]).length ((minusS L [preS m.src]).flatMap encS)) (h2 : base ≤ wx.heap.size) => kback_w base m v1 (minusS L [preS m.src]) wx h1 (minus_nrm _ _) h2 (by simp at hml; omega) hz hln2 hd)
  have eg : ∀ args w, (callFunc 98 args).run Tryz.prog w = .ok (.enter 98 args) w := enters_of Tryz.func98 (by kernel_rfl) rfl
  unfold subS at HWO
  obtain ⟨pd, capd, rfl, hnd, hmd, hpd⟩ := own_form hv
  unfold maxLen at hmd
  have hvlt : ∀ j, (Value.slice pd L.length capd).ownBlock = some j → j < w.heap.size := fun j hj => (hv.lt j hj).2
  clear hpd hv hn hlen hml hln2
  generalize moveB m (minusS L [preS m.src]) = R at *
  generalize minusS L [preS m.src] = Sb at *
  have Hbase := Lib.hid hb
  obtain ⟨W0, hW0⟩ : ∃ W0, W0 = w.alloc (.cells (encM m) 63) := ⟨_, rfl⟩
  have hb0 : Below w.heap.size w W0 := by rw [hW0]; exact below_box _
  have HB0 := Lib.hid hb0
  have hM0 : Blk W0 w.heap.size 63 (encM m) := by rw [hW0]; exact Blk.new _ _ _
  have hneM : some w.heap.size ≠ (Value.slice pd L.length capd).ownBlock := fun he => by have := hvlt _ he.symm; omega
  have hc0 : W0.cell? ⟨b, 0, none⟩ = some fk2V := (hb0.cell (p := ⟨b, 0, none⟩) (cell_lt hbk)).trans hbk
  have c0 : ∀ wr, W0.grownBy wr (Value.slice pd L.length capd).ownBlock → wr.cell? ⟨b, 0, none⟩ = some fk2V := fun wr h => h.cell hc0 (fun e => hvb e.symm)
  have n0 : ∀ wr, W0.grownBy wr (Value.slice pd L.length capd).ownBlock → wr.cell? ⟨w.heap.size, 0, none⟩ = some (.int .i64 m.kind) := fun wr h => h.cell (hM0.c0 0 _ rfl) hneM
  have n1 : ∀ wr, W0.grownBy wr (Value.slice pd L.length capd).ownBlock → wr.cell? ⟨w.heap.size, 1, none⟩ = some (.string (Str m.key)) := fun wr h => h.cell (hM0.c0 1 _ rfl) hneM
  have n2 : ∀ wr, W0.grownBy wr (Value.slice pd L.length capd).ownBlock → wr.cell? ⟨w.heap.size, 2, none⟩ = some (.string (Str m.val)) := fun wr h => h.cell (hM0.c0 2 _ rfl) hneM
  have n3 : ∀ wr, W0.grownBy wr (Value.slice pd L.length capd).ownBlock → wr.cell? ⟨w.heap.size, 3, none⟩ = some (.string (Str m.lo)) := fun wr h => h.cell (hM0.c0 3 _ rfl) hneM
  have n4 : ∀ wr, W0.grownBy wr (Value.slice pd L.length capd).ownBlock → wr.cell? ⟨w.heap.size, 4, none⟩ = some (.string (Str m.hi)) := fun wr h => h.cell (hM0.c0 4 _ rfl) hneM
  have n5 : ∀ wr, W0.grownBy wr (Value.slice pd L.length capd).ownBlock → wr.cell? ⟨w.heap.size, 5, none⟩ = some (.string (Str m.src)) := fun wr h => h.cell (hM0.c0 5 _ rfl) hneM
  have n6 : ∀ wr, W0.grownBy wr (Value.slice pd L.length capd).ownBlock → wr.cell? ⟨w.heap.size, 6, none⟩ = some (.string (Str m.dst)) := fun wr h => h.cell (hM0.c0 6 _ rfl) hneM
  have n7 : ∀ wr, W0.grownBy wr (Value.slice pd L.length capd).ownBlock → wr.cell? ⟨w.heap.size, 7, none⟩ = some (.int .i64 m.n) := fun wr h => h.cell (hM0.c0 7 _ rfl) hneM
  have HS0 : Hid (W0.grownBy W0 (Value.slice pd L.length capd).ownBlock) := Lib.hid (grownBy_refl _ _)
  have HWO3 : Hid (∀ x2, Below w.heap.size w x2 → Calls Tryz.prog 96 #[.slice pd L.length capd, .agg #[.string (Str m.src), .string (Str (preT m.src))]] x2 fun e w' => ∃ v', e = .returned v' ∧ w'.ownsRow base 29 2 v' Sb.length (Sb.flatMap encS) ∧ Turn (.slice pd L.length capd) v' x2 w') := HWO
  clear hb hc0 hM0 hneM HWO hvlt hb0
  go_enter Tryz.func104, Tryz.ntmps104
  go_wp2_with fail
  change Code.wp Tryz.prog _ _ _ (w.alloc (.cells (encM m) 63))
  rw [← hW0]
  clear hW0
  go_region_held3 (fun wr => W0.grownBy wr (Value.slice pd L.length capd).ownBlock) (repeat (first | with_reducible assumption | with_reducible exact HS0.out | with_reducible refine keep_d ?_ | with_reducible refine keep_a ?_ _))
    (first
      | (go_at_call 99; (with_reducible refine (HP1.out _).mono ?_); rintro e x2 ⟨rfl, hb2⟩; have hB2 : Below w.heap.size w x2 := HB0.out.trans ((show Below w.heap.size W0 W0.drew from below_drewN W0 1).trans (hb2.mono HB0.out.size)); have hS2 := (keep_d HS0.out).trans (grownBy_below hb2 (Value.slice pd L.length capd).ownBlock))
      | (go_at_call 96; (with_reducible refine (HWO3.out _ hB2).mono ?_); rintro e x4 ⟨v4, rfl, ho4, ht4⟩; have hS4 := hS2.trans ht4.1; have hsz4 : base ≤ x4.heap.size := Nat.le_trans Hbase.out (Nat.le_trans hB2.size ht4.1.size))
      | (go_at_call 98; (with_reducible refine (HKB.out _ _ ho4 hsz4).mono ?_); rintro e x5 ⟨v5, rfl, ho5, ht5⟩; have hS5 : W0.grownBy x5 (Value.slice pd L.length capd).ownBlock := hS2.trans (ht4.trans ht5).1)
      | fail "no arm")
  all_goals
    have HO5 := Lib.hid ho5
    have HT5 := Lib.hid (turn_below hB2 (ht4.trans ht5))
    clear ho5 ht5 hS5 ho4 ht4 hS4 c0 n0 n1 n2 n3 n4 n5 n6 n7
    go_wp2
    go_ret
    exact ⟨_, rfl, HO5.out, HT5.out⟩

end Go.Proofs.YthncnijkgkeohaaGreat
