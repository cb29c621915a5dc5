/-
  The walk of the law MsgFree.
-/
import Derived.Test.YtdckiaokldkfmaaGreatOCa
namespace Go.Proofs.YtdckiaokldkfmaaGreat
open Go.RowKit Go.Sort
set_option linter.unusedVariables false

theorem IsMsgs.alloc2 {w : World} {v : Value} {l : List Ms} (h : IsMsgs w v l) (o : Obj) : IsMsgs (w.alloc o) v l := h.below (below_box _)
theorem msgs_below2 {w w' : World} {v : Value} {l : List Ms} (hb : Below w.heap.size w w') (h : IsMsgs w v l) : IsMsgs w' v l := h.below hb
set_option maxRecDepth 100000 in
set_option maxHeartbeats 8000000 in
theorem msgFree_walk0 (hsan : SanityW) (w : World) (v0 : Value) (l : List Rw) (h0 : IsRaws w v0 l) (v1 : Value) (y : R6 × R6) (h1 : IsRaw6x2 w v1 y) :
    Calls Tryz.prog 7 #[v0, v1] w fun e w' => e = .returned (.bool true) ∧ Below w.heap.size w w' := by
  obtain ⟨⟨a1, a2, a3, a4, a5, a6⟩, g1, g2, g3, g4, g5, g6⟩ := y
  obtain ⟨rfl, hsm1, hsm2⟩ := h1
  change Small6 a1 a2 a3 a4 a5 a6 at hsm1
  change Small6 g1 g2 g3 g4 g5 g6 at hsm2
  show Calls _ _ #[v0, .agg #[.int .u8 a1, .int .u8 a2, .int .u8 a3, .int .u8 a4, .int .u8 a5, .int .u8 a6, .int .u8 g1, .int .u8 g2, .int .u8 g3, .int .u8 g4, .int .u8 g5, .int .u8 g6]] _ _
  have H0 := Lib.hid h0
  have Hsan := Lib.hid hsan
  have Hm1 : Hid (∀ wx, Calls Tryz.prog 29 #[.agg #[.int .u8 a1, .int .u8 a2, .int .u8 a3, .int .u8 a4, .int .u8 a5, .int .u8 a6]] wx fun e' w' => e' = .returned (msgV (madeM a1 a2 a3 a4 a5 a6)) ∧ Below wx.heap.size wx w') := Lib.hid (fun wx => made_w a1 a2 a3 a4 a5 a6 wx hsm1)
  have Hm2 : Hid (∀ wx, Calls Tryz.prog 29 #[.agg #[.int .u8 g1, .int .u8 g2, .int .u8 g3, .int .u8 g4, .int .u8 g5, .int .u8 g6]] wx fun e' w' => e' = .returned (msgV (madeM g1 g2 g3 g4 g5 g6)) ∧ Below wx.heap.size wx w') := Lib.hid (fun wx => made_w g1 g2 g3 g4 g5 g6 wx hsm2)
  have Htb : Hid (∀ wr, Bx12 w a1 a2 a3 a4 a5 a6 g1 g2 g3 g4 g5 g6 wr → Calls Tryz.prog 13 #[v0, .int .i64 12] wr (MOut wr (tableS l 12))) := Lib.hid (fun wr h => (table_w v0 l 12 wr (H0.out.below h.g) (by omega)).mono (fun _ _ hh => OwnOut.mout hh))
  have sT := Lib.hid (srt_table l 12)
  have nT := table_len l 12
  have HTs := Lib.hid (table_small (l := l) (n := 12))
  have Zm := Lib.hid (And.intro (made_size a1 a2 a3 a4 a5 a6) (made_few a1 a2 a3 a4 a5 a6))
  have Zo := Lib.hid (And.intro (made_size g1 g2 g3 g4 g5 g6) (made_few g1 g2 g3 g4 g5 g6))
  clear h0 hsan hsm1 hsm2
  generalize madeM a1 a2 a3 a4 a5 a6 = m at *
  generalize madeM g1 g2 g3 g4 g5 g6 = o at *
  generalize tableS l 12 = T at *
  go_enter Tryz.func7, Tryz.ntmps7
  go_wp2_with fail
  refine (Hsan.out _).mono ?_
  rintro e1 w1 ⟨rfl, hb1⟩
  have hs1 : Bx12 w a1 a2 a3 a4 a5 a6 g1 g2 g3 g4 g5 g6 w1 := ⟨(Blk.new _ _ _).below hb1 (by simp), (below_box _).trans (hb1.mono (by simp))⟩
  have HS1 := Lib.hid hs1
  clear hb1 hs1
  go_upto_region 2 with fail
  go_cut [6, 7, 8] (fun s6 s7 s8 wx => ∃ pt ct b7 b8, s6 = .slice pt T.length ct ∧ s7 = .pointer (some ⟨b7, 0, none⟩) ∧ s8 = .pointer (some ⟨b8, 0, none⟩) ∧ Hid (Lw w [(.slice pt T.length ct, T)] [(b8, o), (b7, m)] [] wx))
  case first =>
    refine fr2_w w v0 a1 a2 a3 a4 a5 a6 g1 g2 g3 g4 g5 g6 T m o Htb.out Hm1.out Hm2.out w1 HS1.out _ _ _ _ _ _ _ _ _ _ _ _ _ _ _ _ _ _ _ _ _ _ _ _ _ _ _ _ _ _ _ _ _ _ _ _ _ _ _ _ _ _ (fun u10 u11 u12 u13 u14 u15 u16 u17 pt ct b7 b8 wx hL => ?_)
    have HL := Lib.hid hL
    clear hL
    go_wp2_with fail
    go_meet
    exact ⟨pt, ct, b7, b8, rfl, rfl, rfl, HL⟩
  case rest =>
    obtain ⟨pt, ct, b7, b8, rfl, rfl, rfl, HL⟩ := hcut
    clear HS1 Htb Hm1 Hm2
    obtain ⟨L, hL⟩ : ∃ L : List (Value × List Pr), L = [(.slice pt T.length ct, T)] := ⟨_, rfl⟩
    obtain ⟨B, hB⟩ : ∃ B : List (Nat × Ms), B = [(b8, o), (b7, m)] := ⟨_, rfl⟩
    rw [← hL, ← hB] at HL
    have HB := Lib.hid hB
    have HLL := Lib.hid hL
    clear hB hL
    have kT2 : ∀ x ∈ T, x.1.length ≤ 100 := fun x hx => by have := (HTs.out x hx).1; omega
    have K1 : Hid (OkAll [m, o] T) := Lib.hid (okAll_few _ sT.out nT kT2 (by simp; exact ⟨Zm.out.2, Zo.out.2⟩) (by simp))
    have K2 : Hid (OkAll [o, m] T) := Lib.hid (okAll_few _ sT.out nT kT2 (by simp; exact ⟨Zo.out.2, Zm.out.2⟩) (by simp))
    have E2 : Hid (freeB m o = true → allS [o, m] T = allS [m, o] T) := Lib.hid (fun h => (free_swap sT.out h).symm)
    clear kT2
    have Hf1 : Hid (∀ wr, Lw w L B [] wr → Calls Tryz.prog 27 #[msgV m, msgV o] wr (LbOut w L B [] wr (freeB m o))) := Lib.hid (fun wr h => lw_free h m o Zm.out.1 Zo.out.1)
    have Hf2 : Hid (∀ wr, Lw w L B [] wr → Calls Tryz.prog 27 #[msgV o, msgV m] wr (LbOut w L B [] wr (freeB m o))) := Lib.hid (fun wr h => by rw [free_comm m o]; exact lw_free h o m Zo.out.1 Zm.out.1)
    have Ha1 : Hid (∀ wr u, Lw w L B [] wr → IsMsgs wr u [m, o] → Calls Tryz.prog 16 #[.slice pt T.length ct, u] wr (LwOut w L B [] wr (allS [m, o] T))) := Lib.hid (fun wr u h hu => lw_all h T [m, o] (h.at (by simp [HLL.out])) hu sT.out (by simp; exact ⟨Zm.out.1, Zo.out.1⟩) K1.out)
    have Ha2 : Hid (freeB m o = true → ∀ wr u, Lw w L B [] wr → IsMsgs wr u [o, m] → Calls Tryz.prog 16 #[.slice pt T.length ct, u] wr (LwOut w L B [] wr (allS [m, o] T))) := Lib.hid (fun hf wr u h hu => by rw [← E2.out hf]; exact lw_all h T [o, m] (h.at (by simp [HLL.out])) hu sT.out (by simp; exact ⟨Zo.out.1, Zm.out.1⟩) K2.out)
    have Hsm : Hid (∀ wr v u l, Lw w L B [] wr → IsPairs wr v l → IsPairs wr u l → Calls Tryz.prog 15 #[v, u] wr (LbOut w L B [] wr true)) := Lib.hid (fun wr v u l h h1 h2 => lw_same_yes h l l h1 h2 rfl)
    clear E2 K1 K2
    generalize allS [m, o] T = X at *
    go_upto_region 3 with fail
    cases hfb : freeB m o with
    | true =>
      have Ha3 := Lib.hid (Ha2.out hfb)
      rw [hfb] at Hf1 Hf2
      clear hfb Ha2
      go_cut [24] (fun s24 wx => s24 = .bool false ∧ Hid (Lw w L B [] wx))
      case first =>
        have qm0 : ∀ wr, Lw w L B [] wr → wr.cell? ⟨b7, 0, none⟩ = some (.int .i64 m.kind) := fun wr h => (h.msg (n := b7) (m := m) (by simp [HB.out])).c0 0 _ rfl
        have qm1 : ∀ wr, Lw w L B [] wr → wr.cell? ⟨b7, 1, none⟩ = some (.string (Str m.key)) := fun wr h => (h.msg (n := b7) (m := m) (by simp [HB.out])).c0 1 _ rfl
        have qm2 : ∀ wr, Lw w L B [] wr → wr.cell? ⟨b7, 2, none⟩ = some (.string (Str m.val)) := fun wr h => (h.msg (n := b7) (m := m) (by simp [HB.out])).c0 2 _ rfl
        have qm3 : ∀ wr, Lw w L B [] wr → wr.cell? ⟨b7, 3, none⟩ = some (.string (Str m.lo)) := fun wr h => (h.msg (n := b7) (m := m) (by simp [HB.out])).c0 3 _ rfl
        have qm4 : ∀ wr, Lw w L B [] wr → wr.cell? ⟨b7, 4, none⟩ = some (.string (Str m.hi)) := fun wr h => (h.msg (n := b7) (m := m) (by simp [HB.out])).c0 4 _ rfl
        have qm5 : ∀ wr, Lw w L B [] wr → wr.cell? ⟨b7, 5, none⟩ = some (.string (Str m.src)) := fun wr h => (h.msg (n := b7) (m := m) (by simp [HB.out])).c0 5 _ rfl
        have qm6 : ∀ wr, Lw w L B [] wr → wr.cell? ⟨b7, 6, none⟩ = some (.string (Str m.dst)) := fun wr h => (h.msg (n := b7) (m := m) (by simp [HB.out])).c0 6 _ rfl
        have qm7 : ∀ wr, Lw w L B [] wr → wr.cell? ⟨b7, 7, none⟩ = some (.int .i64 m.n) := fun wr h => (h.msg (n := b7) (m := m) (by simp [HB.out])).c0 7 _ rfl
        have qo0 : ∀ wr, Lw w L B [] wr → wr.cell? ⟨b8, 0, none⟩ = some (.int .i64 o.kind) := fun wr h => (h.msg (n := b8) (m := o) (by simp [HB.out])).c0 0 _ rfl
        have qo1 : ∀ wr, Lw w L B [] wr → wr.cell? ⟨b8, 1, none⟩ = some (.string (Str o.key)) := fun wr h => (h.msg (n := b8) (m := o) (by simp [HB.out])).c0 1 _ rfl
        have qo2 : ∀ wr, Lw w L B [] wr → wr.cell? ⟨b8, 2, none⟩ = some (.string (Str o.val)) := fun wr h => (h.msg (n := b8) (m := o) (by simp [HB.out])).c0 2 _ rfl
        have qo3 : ∀ wr, Lw w L B [] wr → wr.cell? ⟨b8, 3, none⟩ = some (.string (Str o.lo)) := fun wr h => (h.msg (n := b8) (m := o) (by simp [HB.out])).c0 3 _ rfl
        have qo4 : ∀ wr, Lw w L B [] wr → wr.cell? ⟨b8, 4, none⟩ = some (.string (Str o.hi)) := fun wr h => (h.msg (n := b8) (m := o) (by simp [HB.out])).c0 4 _ rfl
        have qo5 : ∀ wr, Lw w L B [] wr → wr.cell? ⟨b8, 5, none⟩ = some (.string (Str o.src)) := fun wr h => (h.msg (n := b8) (m := o) (by simp [HB.out])).c0 5 _ rfl
        have qo6 : ∀ wr, Lw w L B [] wr → wr.cell? ⟨b8, 6, none⟩ = some (.string (Str o.dst)) := fun wr h => (h.msg (n := b8) (m := o) (by simp [HB.out])).c0 6 _ rfl
        have qo7 : ∀ wr, Lw w L B [] wr → wr.cell? ⟨b8, 7, none⟩ = some (.int .i64 o.n) := fun wr h => (h.msg (n := b8) (m := o) (by simp [HB.out])).c0 7 _ rfl
        go_region_held3 (fun wr => Lw w L B [] wr) (first | with_reducible assumption | with_reducible exact HL.out.drew)
          (first
            | (go_at_call 27; (with_reducible refine (Hf1.out _ (by with_reducible assumption)).mono ?_); rintro e2 x2 ⟨rfl, hb2, hL2⟩)
            | (go_at_call 27; (with_reducible refine (Hf2.out _ (by with_reducible assumption)).mono ?_); rintro e3 x3 ⟨rfl, hb3, hL3⟩)
            | fail "no arm")
        all_goals
          have H3 : Hid (Lw w L B [] x3) := Lib.hid (by with_reducible assumption)
          go_wp2_with fail
          go_meet
          exact ⟨rfl, H3⟩
      case rest =>
        obtain ⟨rfl, HL2⟩ := hcut
        clear HL
        go_upto_region 5 with fail
        have qm0 : ∀ wr, Lw w L B [] wr → wr.cell? ⟨b7, 0, none⟩ = some (.int .i64 m.kind) := fun wr h => (h.msg (n := b7) (m := m) (by simp [HB.out])).c0 0 _ rfl
        have qm1 : ∀ wr, Lw w L B [] wr → wr.cell? ⟨b7, 1, none⟩ = some (.string (Str m.key)) := fun wr h => (h.msg (n := b7) (m := m) (by simp [HB.out])).c0 1 _ rfl
        have qm2 : ∀ wr, Lw w L B [] wr → wr.cell? ⟨b7, 2, none⟩ = some (.string (Str m.val)) := fun wr h => (h.msg (n := b7) (m := m) (by simp [HB.out])).c0 2 _ rfl
        have qm3 : ∀ wr, Lw w L B [] wr → wr.cell? ⟨b7, 3, none⟩ = some (.string (Str m.lo)) := fun wr h => (h.msg (n := b7) (m := m) (by simp [HB.out])).c0 3 _ rfl
        have qm4 : ∀ wr, Lw w L B [] wr → wr.cell? ⟨b7, 4, none⟩ = some (.string (Str m.hi)) := fun wr h => (h.msg (n := b7) (m := m) (by simp [HB.out])).c0 4 _ rfl
        have qm5 : ∀ wr, Lw w L B [] wr → wr.cell? ⟨b7, 5, none⟩ = some (.string (Str m.src)) := fun wr h => (h.msg (n := b7) (m := m) (by simp [HB.out])).c0 5 _ rfl
        have qm6 : ∀ wr, Lw w L B [] wr → wr.cell? ⟨b7, 6, none⟩ = some (.string (Str m.dst)) := fun wr h => (h.msg (n := b7) (m := m) (by simp [HB.out])).c0 6 _ rfl
        have qm7 : ∀ wr, Lw w L B [] wr → wr.cell? ⟨b7, 7, none⟩ = some (.int .i64 m.n) := fun wr h => (h.msg (n := b7) (m := m) (by simp [HB.out])).c0 7 _ rfl
        have qo0 : ∀ wr, Lw w L B [] wr → wr.cell? ⟨b8, 0, none⟩ = some (.int .i64 o.kind) := fun wr h => (h.msg (n := b8) (m := o) (by simp [HB.out])).c0 0 _ rfl
        have qo1 : ∀ wr, Lw w L B [] wr → wr.cell? ⟨b8, 1, none⟩ = some (.string (Str o.key)) := fun wr h => (h.msg (n := b8) (m := o) (by simp [HB.out])).c0 1 _ rfl
        have qo2 : ∀ wr, Lw w L B [] wr → wr.cell? ⟨b8, 2, none⟩ = some (.string (Str o.val)) := fun wr h => (h.msg (n := b8) (m := o) (by simp [HB.out])).c0 2 _ rfl
        have qo3 : ∀ wr, Lw w L B [] wr → wr.cell? ⟨b8, 3, none⟩ = some (.string (Str o.lo)) := fun wr h => (h.msg (n := b8) (m := o) (by simp [HB.out])).c0 3 _ rfl
        have qo4 : ∀ wr, Lw w L B [] wr → wr.cell? ⟨b8, 4, none⟩ = some (.string (Str o.hi)) := fun wr h => (h.msg (n := b8) (m := o) (by simp [HB.out])).c0 4 _ rfl
        have qo5 : ∀ wr, Lw w L B [] wr → wr.cell? ⟨b8, 5, none⟩ = some (.string (Str o.src)) := fun wr h => (h.msg (n := b8) (m := o) (by simp [HB.out])).c0 5 _ rfl
        have qo6 : ∀ wr, Lw w L B [] wr → wr.cell? ⟨b8, 6, none⟩ = some (.string (Str o.dst)) := fun wr h => (h.msg (n := b8) (m := o) (by simp [HB.out])).c0 6 _ rfl
        have qo7 : ∀ wr, Lw w L B [] wr → wr.cell? ⟨b8, 7, none⟩ = some (.int .i64 o.n) := fun wr h => (h.msg (n := b8) (m := o) (by simp [HB.out])).c0 7 _ rfl
        go_region_held3 (fun wr => Lw w L B [] wr) (first | with_reducible assumption | with_reducible exact HL2.out.drew | with_reducible exact Lw.alloc (by with_reducible assumption) _ | with_reducible exact Lw.below (by with_reducible assumption) (by with_reducible assumption))
          (first
            | (go_at_call 27; (with_reducible refine (Hf1.out _ (by with_reducible assumption)).mono ?_); rintro e2 x2 ⟨rfl, hb2, hL2⟩)
            | (go_at_call 16; (with_reducible refine (Ha1.out _ _ (by with_reducible assumption) (by first | with_reducible exact new_msgs2 _ m o (by simp) | with_reducible exact IsMsgs.alloc2 (new_msgs2 _ m o (by simp)) _)).mono ?_); rintro e3 x3 ⟨p3, c3, rfl, hp3, hb3, hL3⟩; (first | (with_reducible have hm3 := msgs_below2 hb3 (IsMsgs.alloc2 (new_msgs2 x2 o m rfl) _)) | (with_reducible have hm3 := msgs_below2 hb3 (new_msgs2 (n := x2.heap.size + 1) _ o m (by simp))) | skip))
            | (go_at_call 16; (with_reducible refine (Ha3.out _ _ (by with_reducible assumption) (by first | with_reducible assumption | with_reducible exact new_msgs2 _ o m (by simp))).mono ?_); rintro e4 x4 ⟨p4, c4, rfl, hp4, hb4, hL4⟩; (first | (with_reducible have hp34 := pairs_below hb4 hp3) | (with_reducible have hp34 := pairs_below hb4 (hp3.alloc _))))
            | (go_at_call 15; (with_reducible refine (Hsm.out _ _ _ X (by with_reducible assumption) (by with_reducible assumption) (by with_reducible assumption)).mono ?_); rintro e5 x5 ⟨rfl, hb5, hL5⟩)
            | fail "no arm")
        all_goals
          have Hg := Lib.hid (Lw.g (by with_reducible assumption : Lw w L B [] x5))
          clear qm0 qo0 qm1 qo1 qm2 qo2 qm3 qo3 qm4 qo4 qm5 qo5 qm6 qo6 qm7 qo7
          go_wp2
          go_ret
          exact ⟨rfl, Hg.out⟩
    | false =>
      rw [hfb] at Hf1 Hf2
      have Hf3 : Hid (∀ wr, Calls Tryz.prog 27 #[msgV m, msgV o] wr fun e w' => e = .returned (.bool false) ∧ Grown wr w') := Lib.hid (fun wr => by have := free_w m o wr Zm.out.1 Zo.out.1; rw [hfb] at this; exact this)
      clear hfb Ha2 Ha1
      go_cut [24] (fun s24 wx => s24 = .bool false ∧ Hid (Lw w L B [] wx))
      case first =>
        have qm0 : ∀ wr, Lw w L B [] wr → wr.cell? ⟨b7, 0, none⟩ = some (.int .i64 m.kind) := fun wr h => (h.msg (n := b7) (m := m) (by simp [HB.out])).c0 0 _ rfl
        have qm1 : ∀ wr, Lw w L B [] wr → wr.cell? ⟨b7, 1, none⟩ = some (.string (Str m.key)) := fun wr h => (h.msg (n := b7) (m := m) (by simp [HB.out])).c0 1 _ rfl
        have qm2 : ∀ wr, Lw w L B [] wr → wr.cell? ⟨b7, 2, none⟩ = some (.string (Str m.val)) := fun wr h => (h.msg (n := b7) (m := m) (by simp [HB.out])).c0 2 _ rfl
        have qm3 : ∀ wr, Lw w L B [] wr → wr.cell? ⟨b7, 3, none⟩ = some (.string (Str m.lo)) := fun wr h => (h.msg (n := b7) (m := m) (by simp [HB.out])).c0 3 _ rfl
        have qm4 : ∀ wr, Lw w L B [] wr → wr.cell? ⟨b7, 4, none⟩ = some (.string (Str m.hi)) := fun wr h => (h.msg (n := b7) (m := m) (by simp [HB.out])).c0 4 _ rfl
        have qm5 : ∀ wr, Lw w L B [] wr → wr.cell? ⟨b7, 5, none⟩ = some (.string (Str m.src)) := fun wr h => (h.msg (n := b7) (m := m) (by simp [HB.out])).c0 5 _ rfl
        have qm6 : ∀ wr, Lw w L B [] wr → wr.cell? ⟨b7, 6, none⟩ = some (.string (Str m.dst)) := fun wr h => (h.msg (n := b7) (m := m) (by simp [HB.out])).c0 6 _ rfl
        have qm7 : ∀ wr, Lw w L B [] wr → wr.cell? ⟨b7, 7, none⟩ = some (.int .i64 m.n) := fun wr h => (h.msg (n := b7) (m := m) (by simp [HB.out])).c0 7 _ rfl
        have qo0 : ∀ wr, Lw w L B [] wr → wr.cell? ⟨b8, 0, none⟩ = some (.int .i64 o.kind) := fun wr h => (h.msg (n := b8) (m := o) (by simp [HB.out])).c0 0 _ rfl
        have qo1 : ∀ wr, Lw w L B [] wr → wr.cell? ⟨b8, 1, none⟩ = some (.string (Str o.key)) := fun wr h => (h.msg (n := b8) (m := o) (by simp [HB.out])).c0 1 _ rfl
        have qo2 : ∀ wr, Lw w L B [] wr → wr.cell? ⟨b8, 2, none⟩ = some (.string (Str o.val)) := fun wr h => (h.msg (n := b8) (m := o) (by simp [HB.out])).c0 2 _ rfl
        have qo3 : ∀ wr, Lw w L B [] wr → wr.cell? ⟨b8, 3, none⟩ = some (.string (Str o.lo)) := fun wr h => (h.msg (n := b8) (m := o) (by simp [HB.out])).c0 3 _ rfl
        have qo4 : ∀ wr, Lw w L B [] wr → wr.cell? ⟨b8, 4, none⟩ = some (.string (Str o.hi)) := fun wr h => (h.msg (n := b8) (m := o) (by simp [HB.out])).c0 4 _ rfl
        have qo5 : ∀ wr, Lw w L B [] wr → wr.cell? ⟨b8, 5, none⟩ = some (.string (Str o.src)) := fun wr h => (h.msg (n := b8) (m := o) (by simp [HB.out])).c0 5 _ rfl
        have qo6 : ∀ wr, Lw w L B [] wr → wr.cell? ⟨b8, 6, none⟩ = some (.string (Str o.dst)) := fun wr h => (h.msg (n := b8) (m := o) (by simp [HB.out])).c0 6 _ rfl
        have qo7 : ∀ wr, Lw w L B [] wr → wr.cell? ⟨b8, 7, none⟩ = some (.int .i64 o.n) := fun wr h => (h.msg (n := b8) (m := o) (by simp [HB.out])).c0 7 _ rfl
        go_region_held3 (fun wr => Lw w L B [] wr) (first | with_reducible assumption | with_reducible exact HL.out.drew)
          (first
            | (go_at_call 27; (with_reducible refine (Hf1.out _ (by with_reducible assumption)).mono ?_); rintro e2 x2 ⟨rfl, hb2, hL2⟩)
            | (go_at_call 27; (with_reducible refine (Hf2.out _ (by with_reducible assumption)).mono ?_); rintro e3 x3 ⟨rfl, hb3, hL3⟩)
            | fail "no arm")
        all_goals
          have H3 : Hid (Lw w L B [] x3) := Lib.hid (by with_reducible assumption)
          go_wp2_with fail
          go_meet
          exact ⟨rfl, H3⟩
      case rest =>
        obtain ⟨rfl, HL2⟩ := hcut
        clear HL
        have hxm : MBlk wc b7 m := HL2.out.msg (by simp [HB.out])
        have hxo : MBlk wc b8 o := HL2.out.msg (by simp [HB.out])
        have qm0 := hxm.c 0 _ rfl
        have qm1 := hxm.c 1 _ rfl
        have qm2 := hxm.c 2 _ rfl
        have qm3 := hxm.c 3 _ rfl
        have qm4 := hxm.c 4 _ rfl
        have qm5 := hxm.c 5 _ rfl
        have qm6 := hxm.c 6 _ rfl
        have qm7 := hxm.c 7 _ rfl
        have qo0 := hxo.c 0 _ rfl
        have qo1 := hxo.c 1 _ rfl
        have qo2 := hxo.c 2 _ rfl
        have qo3 := hxo.c 3 _ rfl
        have qo4 := hxo.c 4 _ rfl
        have qo5 := hxo.c 5 _ rfl
        have qo6 := hxo.c 6 _ rfl
        have qo7 := hxo.c 7 _ rfl
        have mixed := mixedA
        clear hxm hxo
        go_upto_region 5 with fail
        refine wp_region_quiet_grown mixed (by kernel_rfl) ?_
        repeat (first | go_big_quiet_skip | (refine wpQuiet_step (fun K hK => ?_); have HK := Lib.hid hK; clear hK; go_simp; first | (refine HK.out _ ?_; clear HK K) | (apply Exists.intro; refine ⟨fun _ => ?_, HK.out _ ?_⟩; (go_at_call 27; refine calls_grown (Hf3.out _)); clear HK K)))
        refine wpQuiet_nil ?_
        intro _ hw'
        obtain ⟨⟨nq, osq⟩, hw''⟩ := hw'
        subst hw''
        have Hg := Lib.hid (HL2.out.below (Grown.below ⟨nq, osq, rfl⟩ (Nat.le_refl _))).g
        clear qm0 qo0 qm1 qo1 qm2 qo2 qm3 qo3 qm4 qo4 qm5 qo5 qm6 qo6 qm7 qo7
        go_wp2
        go_ret
        exact ⟨rfl, Hg.out⟩

end Go.Proofs.YtdckiaokldkfmaaGreat
