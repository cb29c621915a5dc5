/-
  The walk of the law MsgMoves.
-/
import Derived.Test.YtdckiaokldkfmaaGreatNT
namespace Go.Proofs.YtdckiaokldkfmaaGreat
open Go.RowKit Go.Sort
set_option linter.unusedVariables false

theorem IsMsgs.alloc {w : World} {v : Value} {l : List Ms} (h : IsMsgs w v l) (o : Obj) : IsMsgs (w.alloc o) v l := h.below (below_box _)
theorem IsMsgs.drew {w : World} {v : Value} {l : List Ms} (h : IsMsgs w v l) : IsMsgs w.drew v l := h.below (below_drewN w 1)
theorem msgs_below {w w' : World} {v : Value} {l : List Ms} (hb : Below w.heap.size w w') (h : IsMsgs w v l) : IsMsgs w' v l := h.below hb
theorem made_move (a b c d e f : Nat) (h : a % 6 = 3) : (madeM a b c d e f).kind = 4 ∧ apartB (madeM a b c d e f).src (madeM a b c d e f).dst = true := by
  have := to_apart b d
  unfold madeM
  rw [if_neg (by omega), if_neg (by omega), if_neg (by omega), if_pos h]
  exact ⟨rfl, this⟩
theorem made_parts (a b c d e f : Nat) : (madeM a b c d e f).src.length ≤ 4 ∧ (madeM a b c d e f).dst.length ≤ 4 := by
  have := path_len b
  have := to_len b d
  unfold madeM
  split
  · simp
  split
  · simp
  split
  · simp
  split
  · exact ⟨by assumption, by assumption⟩
  split
  · exact ⟨by assumption, by assumption⟩
  · simp

set_option maxRecDepth 100000 in
set_option maxHeartbeats 8000000 in
theorem msgMoves_walk0 (hsan : SanityW) (w : World) (v0 : Value) (l : List Rw) (h0 : IsRaws w v0 l) (v1 : Value) (y : R6) (h1 : IsRaw6 w v1 y) :
    Calls Tryz.prog 8 #[v0, v1] w fun e w' => e = .returned (.bool true) ∧ Below w.heap.size w w' := by
  obtain ⟨a0, b, c, d, e, f⟩ := y
  obtain ⟨rfl, hsm⟩ := h1
  change Small6 a0 b c d e f at hsm
  have hsm3 : Small6 3 b c d e f := ⟨by omega, hsm.2⟩
  show Calls _ _ #[v0, .agg (raw6 a0 b c d e f)] _ _
  have H0 := Lib.hid h0
  have Hsan := Lib.hid hsan
  have Hmd : Hid (∀ wx, Calls Tryz.prog 29 #[.agg #[.int .u8 3, .int .u8 b, .int .u8 c, .int .u8 d, .int .u8 e, .int .u8 f]] wx fun e' w' => e' = .returned (msgV (madeM 3 b c d e f)) ∧ Below wx.heap.size wx w') := Lib.hid (fun wx => made_w 3 b c d e f wx hsm3)
  have Htb : Hid (∀ wr, Bx6 w 3 b c d e f wr → Calls Tryz.prog 13 #[v0, .int .i64 12] wr (MOut wr (tableS l 12))) := Lib.hid (fun wr h => (table_w v0 l 12 wr (H0.out.below h.g) (by omega)).mono (fun _ _ hh => OwnOut.mout hh))
  have sT := Lib.hid (srt_table l 12)
  have nT := table_len l 12
  have HTs := Lib.hid (table_small (l := l) (n := 12))
  have Hv := Lib.hid (made_valid 3 b c d e f)
  have Hz := Lib.hid (made_size 3 b c d e f)
  have Htl : Hid (∀ (L : List (Value × List Pr)) (B : List (Nat × Ms)) (S : List (Value × List Sp)) wr, Lw w L B S wr → Calls Tryz.prog 13 #[v0, .int .i64 12] wr (LwOut w L B S wr (tableS l 12))) := Lib.hid (fun L B S wr h => lw_table h l 12 H0.out (by omega))
  have Hk := Lib.hid (made_move 3 b c d e f rfl)
  have Hp := Lib.hid (made_parts 3 b c d e f)
  have Hf := Lib.hid (made_few 3 b c d e f)
  clear h0 hsan hsm hsm3
  generalize madeM 3 b c d e f = m at *
  generalize tableS l 12 = T at *
  go_enter Tryz.func8, Tryz.ntmps8
  go_wp2_with fail
  refine (Hsan.out _).mono ?_
  rintro e1 w1 ⟨rfl, hb1⟩
  have hs0 : Bx6 w a0 b c d e f w1 := ⟨(Blk.new _ _ _).below hb1 (by simp), (below_box _).trans (hb1.mono (by simp))⟩
  have z0 := hs0.b.c0 0 _ rfl
  have y0 := hs0.b.free 0
  have Hs0 := Lib.hid hs0
  clear hb1 hs0
  go_upto_region 3 with fail
  have hs1 : Bx6 w 3 b c d e f (w1.setCell ⟨w.heap.size, 0, none⟩ (.int .u8 3)) := ⟨Hs0.out.b.setCell 0 (.int .u8 3), Hs0.out.g.setCell (Nat.le_refl _) _⟩
  clear z0 y0 Hs0
  generalize w1.setCell ⟨w.heap.size, 0, none⟩ (.int .u8 3) = w1 at *
  have HS1 := Lib.hid hs1
  have hl1 := hs1.b.lt
  clear hs1
  go_cut [6, 7] (fun s6 s7 wx => ∃ p c n, s6 = .slice p T.length c ∧ s7 = .pointer (some ⟨n, 0, none⟩) ∧ Hid (Lw w [(.slice p T.length c, T)] [(n, m)] [] wx))
  case first =>
    have q0 : ∀ wr, Bx6 w 3 b c d e f wr → wr.cell? ⟨w.heap.size, 0, none⟩ = some (.int .u8 3) := fun wr h => h.b.c0 0 _ rfl
    have q1 : ∀ wr, Bx6 w 3 b c d e f wr → wr.cell? ⟨w.heap.size, 1, none⟩ = some (.int .u8 b) := fun wr h => h.b.c0 1 _ rfl
    have q2 : ∀ wr, Bx6 w 3 b c d e f wr → wr.cell? ⟨w.heap.size, 2, none⟩ = some (.int .u8 c) := fun wr h => h.b.c0 2 _ rfl
    have q3 : ∀ wr, Bx6 w 3 b c d e f wr → wr.cell? ⟨w.heap.size, 3, none⟩ = some (.int .u8 d) := fun wr h => h.b.c0 3 _ rfl
    have q4 : ∀ wr, Bx6 w 3 b c d e f wr → wr.cell? ⟨w.heap.size, 4, none⟩ = some (.int .u8 e) := fun wr h => h.b.c0 4 _ rfl
    have q5 : ∀ wr, Bx6 w 3 b c d e f wr → wr.cell? ⟨w.heap.size, 5, none⟩ = some (.int .u8 f) := fun wr h => h.b.c0 5 _ rfl
    go_region_held3 (fun wr => Bx6 w 3 b c d e f wr)
      (first | with_reducible assumption | with_reducible exact HS1.out.drew | with_reducible exact (HS1.out.alloc _).drew | with_reducible exact Bx6.st8 (by with_reducible assumption) _ (by with_reducible assumption) m | with_reducible exact Bx6.st8 (Bx6.alloc (by with_reducible assumption) _) _ (by with_reducible assumption) m | with_reducible exact Bx6.below (by with_reducible assumption) (by with_reducible assumption) | with_reducible exact Bx6.alloc (by with_reducible assumption) _)
      (first
        | (go_at_call 13; (with_reducible refine (Htb.out _ (by assumption)).mono ?_); rintro e2 w2 ⟨p2, c2, rfl, hp2, ho2, hb2⟩; have hs2 : Bx6 w 3 b c d e f w2 := Bx6.below (by assumption) hb2; have hl2 := hs2.b.lt; (first | (have hz := blk_made_d hb2; have hoff := ho2 w1.heap.size (by simp); have d0 := hz.c0 0 _ rfl; have d1 := hz.c0 1 _ rfl; have d2 := hz.c0 2 _ rfl; have d3 := hz.c0 3 _ rfl; have d4 := hz.c0 4 _ rfl; have d5 := hz.c0 5 _ rfl; have d6 := hz.c0 6 _ rfl; have d7 := hz.c0 7 _ rfl; have g0 := hz.free 0; have g1 := hz.free 1; have g2 := hz.free 2; have g3 := hz.free 3; have g4 := hz.free 4; have g5 := hz.free 5; have g6 := hz.free 6; have g7 := hz.free 7) | skip))
        | (go_at_call 29; (with_reducible refine (Hmd.out _).mono ?_); rintro e3 w3 ⟨rfl, hb3⟩; have hs3 : Bx6 w 3 b c d e f w3 := Bx6.below (by assumption) hb3; have hl3 := hs3.b.lt; (first | (have hp3 := pairs_below hb3 hp2) | (have hp3 := pairs_below hb3 (hp2.alloc _))); (first | (have hz3 := hz.below hb3 hz.lt; have d0 := hz3.c0 0 _ rfl; have d1 := hz3.c0 1 _ rfl; have d2 := hz3.c0 2 _ rfl; have d3 := hz3.c0 3 _ rfl; have d4 := hz3.c0 4 _ rfl; have d5 := hz3.c0 5 _ rfl; have d6 := hz3.c0 6 _ rfl; have d7 := hz3.c0 7 _ rfl; have g0 := hz3.free 0; have g1 := hz3.free 1; have g2 := hz3.free 2; have g3 := hz3.free 3; have g4 := hz3.free 4; have g5 := hz3.free 5; have g6 := hz3.free 6; have g7 := hz3.free 7) | (have hz3 := blk_made hb3; have hoff := hp2.off_size (Nat.le_refl _); have d0 := hz3.c0 0 _ rfl; have d1 := hz3.c0 1 _ rfl; have d2 := hz3.c0 2 _ rfl; have d3 := hz3.c0 3 _ rfl; have d4 := hz3.c0 4 _ rfl; have d5 := hz3.c0 5 _ rfl; have d6 := hz3.c0 6 _ rfl; have d7 := hz3.c0 7 _ rfl; have g0 := hz3.free 0; have g1 := hz3.free 1; have g2 := hz3.free 2; have g3 := hz3.free 3; have g4 := hz3.free 4; have g5 := hz3.free 5; have g6 := hz3.free 6; have g7 := hz3.free 7) | skip))
        | fail "no arm")
    all_goals
      clear q0 q1 q2 q3 q4 q5
      go_wp2_with fail
      go_meet
      first
        | with_reducible exact ⟨p2, c2, _, rfl, rfl, Lib.hid (Lw.box ((Lw.start hs3.g).add hp3) m)⟩
        | with_reducible exact ⟨p2, c2, _, rfl, rfl, Lib.hid (lw_st8 hs3 hp3 hoff hz3 hl2 m)⟩
        | with_reducible exact ⟨p2, c2, _, rfl, rfl, Lib.hid (lw_st8 hs3 hp3 hoff hz3 hl1 m)⟩
  case rest =>
    obtain ⟨pt, ct, n, rfl, rfl, HL⟩ := hcut
    clear HS1 Hmd Htb hl1
    have nT' : T.length ≤ 10000 := by omega
    have kT : ∀ x ∈ T, x.1.length ≤ 100000 := fun x hx => by have := (HTs.out x hx).1; omega
    have HkT := Lib.hid kT
    have kT2 : ∀ x ∈ T, x.1.length ≤ 100 := fun x hx => by have := (HTs.out x hx).1; omega
    obtain ⟨ms, hms⟩ : ∃ ms, ms = m.src := ⟨_, rfl⟩
    obtain ⟨md, hmd⟩ : ∃ md, md = m.dst := ⟨_, rfl⟩
    have Hap2 : Hid (apartB ms md = true) := Lib.hid (by rw [hms, hmd]; exact Hk.out.2)
    have Hl1 : Hid (ms.length ≤ 4) := Lib.hid (by rw [hms]; exact Hp.out.1)
    have Hl2 : Hid (md.length ≤ 4) := Lib.hid (by rw [hmd]; exact Hp.out.2)
    have hpl : (preT ms).length ≤ 100000 := by have := preT_length ms; have := Hl1.out; omega
    obtain ⟨mc, hmc⟩ : ∃ mc : Ms, mc = ⟨5, [], [], [], [], ms, md, 0⟩ := ⟨_, rfl⟩
    obtain ⟨mo, hmo⟩ : ∃ mo : Ms, mo = ⟨3, [], [], ms, preT ms, [], [], 0⟩ := ⟨_, rfl⟩
    obtain ⟨mb, hmb⟩ : ∃ mb : Ms, mb = ⟨4, [], [], [], [], md, ms, 0⟩ := ⟨_, rfl⟩
    have Zc : Hid (SizeM mc ∧ Few mc) := Lib.hid (by rw [hmc]; have := Hl1.out; have := Hl2.out; unfold SizeM Few; simp; omega)
    have Zo : Hid (SizeM mo ∧ Few mo) := Lib.hid (by rw [hmo]; have := Hl1.out; have := Hl2.out; unfold SizeM Few; simp; omega)
    have Zb : Hid (SizeM mb ∧ Few mb) := Lib.hid (by rw [hmb]; have := Hl1.out; have := Hl2.out; unfold SizeM Few; simp; omega)
    have E1 : Hid (allS [mc, mo] T = applyS m T) := Lib.hid (by rw [hmc, hmo]; exact move_clone ms md T m Hk.out.1 hms.symm hmd.symm)
    have E2 : Hid (allS [m, mb] T = withoutS [preS m.dst] T) := Lib.hid (by rw [hmb, ← hmd]; exact move_again ms md sT.out m Hk.out.1 hms.symm hmd.symm Hap2.out)
    have K1 : Hid (OkAll [mc, mo] T) := Lib.hid (okAll_few _ sT.out nT kT2 (by simp; exact ⟨Zc.out.2, Zo.out.2⟩) (by simp))
    have K2 : Hid (OkAll [m, mb] T) := Lib.hid (okAll_few _ sT.out nT kT2 (by simp; exact ⟨Hf.out, Zb.out.2⟩) (by simp))
    clear kT kT2 hpl
    have HS : Hid (m.src = ms) := Lib.hid hms.symm
    have HD : Hid (m.dst = md) := Lib.hid hmd.symm
    clear hms hmd
    have z5 : wc.cell? ⟨n, 5, none⟩ = some (.string (Str m.src)) := (HL.out.msg (n := n) (m := m) (by simp)).c0 5 _ rfl
    have z6 : wc.cell? ⟨n, 6, none⟩ = some (.string (Str m.dst)) := (HL.out.msg (n := n) (m := m) (by simp)).c0 6 _ rfl
    rw [HS.out] at z5
    rw [HD.out] at z6
    go_upto_region 5 with fail
    obtain ⟨w4, hw4⟩ : ∃ w4, w4 = wc.alloc (.cells #[.int .i64 5, .string ⟨#[]⟩, .string ⟨#[]⟩, .string ⟨#[]⟩, .string ⟨#[]⟩, .string (Str ms), .string (Str md), .int .i64 0] 34) := ⟨_, rfl⟩
    have HL4 : Hid (Lw w [(.slice pt T.length ct, T)] [(wc.heap.size, mc), (n, m)] [] w4) := Lib.hid (by rw [hw4, hmc]; exact HL.out.box _)
    rw [← hw4]
    clear hw4 z5 z6
    generalize wc.heap.size = n8 at *
    have z5 : w4.cell? ⟨n, 5, none⟩ = some (.string (Str m.src)) := (HL4.out.msg (n := n) (m := m) (by simp)).c0 5 _ rfl
    rw [HS.out] at z5
    go_wp2_with fail
    refine (rprefix_w ms _ (by have := Hl1.out; omega)).mono ?_
    rintro e2 w5 ⟨rfl, hg5⟩
    have HL5 := Lib.hid (HL4.out.below (hg5.below (Nat.le_refl _)))
    clear hg5 HL4 HL z5
    have z5 : w5.cell? ⟨n, 5, none⟩ = some (.string (Str m.src)) := (HL5.out.msg (n := n) (m := m) (by simp)).c0 5 _ rfl
    have z6 : w5.cell? ⟨n, 6, none⟩ = some (.string (Str m.dst)) := (HL5.out.msg (n := n) (m := m) (by simp)).c0 6 _ rfl
    rw [HS.out] at z5
    rw [HD.out] at z6
    have hltn : n < w5.heap.size := (HL5.out.msg (n := n) (m := m) (by simp)).lt
    go_upto_region 7 with fail
    obtain ⟨w6, hw6⟩ : ∃ w6, w6 = w5.alloc (.cells #[.int .i64 3, .string ⟨#[]⟩, .string ⟨#[]⟩, .string (Str ms), .string (Str (preT ms)), .string ⟨#[]⟩, .string ⟨#[]⟩, .int .i64 0] 34) := ⟨_, rfl⟩
    have HL6 : Hid (Lw w [(.slice pt T.length ct, T)] [(w5.heap.size, mo), (n8, mc), (n, m)] [] w6) := Lib.hid (by rw [hw6, hmo]; exact HL5.out.box _)
    have hsz6 : w6.heap.size = w5.heap.size + 1 := by rw [hw6]; simp
    obtain ⟨w7, hw7⟩ : ∃ w7, w7 = w6.alloc (.cells #[.int .i64 4, .string ⟨#[]⟩, .string ⟨#[]⟩, .string ⟨#[]⟩, .string ⟨#[]⟩, .string (Str md), .string (Str ms), .int .i64 0] 34) := ⟨_, rfl⟩
    have HL7 : Hid (Lw w [(.slice pt T.length ct, T)] [(w6.heap.size, mb), (w5.heap.size, mo), (n8, mc), (n, m)] [] w7) := Lib.hid (by rw [hw7, hmb]; exact HL6.out.box _)
    rw [← hw6, ← hw7, ← hsz6]
    clear hw7 hsz6 z5 z6 HL5 HL6 hltn
    clear hw6
    generalize w6.heap.size = n10 at *
    generalize w5.heap.size = n9 at *
    obtain ⟨L, hL⟩ : ∃ L : List (Value × List Pr), L = [(.slice pt T.length ct, T)] := ⟨_, rfl⟩
    obtain ⟨B, hB⟩ : ∃ B : List (Nat × Ms), B = [(n10, mb), (n9, mo), (n8, mc), (n, m)] := ⟨_, rfl⟩
    rw [← hL, ← hB] at HL7
    have HB := Lib.hid hB
    have HLL := Lib.hid hL
    clear hB hL
    generalize hO : applyS m T = O at *
    have Hap : Hid (∀ wr, Lw w L B [] wr → Calls Tryz.prog 18 #[.slice pt T.length ct, msgV m] wr (LwOut w L B [] wr O)) := Lib.hid (fun wr h => by rw [← hO]; exact lw_apply h m T (h.at (by simp [HLL.out])) sT.out nT' HkT.out Hz.out)
    have Ha1 : Hid (∀ wr u, Lw w L B [] wr → IsMsgs wr u [mc, mo] → Calls Tryz.prog 16 #[.slice pt T.length ct, u] wr (LwOut w L B [] wr O)) := Lib.hid (fun wr u h hu => by rw [← E1.out]; exact lw_all h T [mc, mo] (h.at (by simp [HLL.out])) hu sT.out (by simp; exact ⟨Zc.out.1, Zo.out.1⟩) K1.out)
    have Ha2 : Hid (∀ wr u, Lw w L B [] wr → IsMsgs wr u [m, mb] → Calls Tryz.prog 16 #[.slice pt T.length ct, u] wr (LwOut w L B [] wr (withoutS [preS m.dst] T))) := Lib.hid (fun wr u h hu => by rw [← E2.out]; exact lw_all h T [m, mb] (h.at (by simp [HLL.out])) hu sT.out (by simp; exact ⟨Hz.out, Zb.out.1⟩) K2.out)
    have Hw2 : Hid (∀ wr u, Lw w L B [] wr → IsSpans wr u [preS m.dst] → Calls Tryz.prog 35 #[.slice pt T.length ct, u] wr (LwOut w L B [] wr (withoutS [preS m.dst] T))) := Lib.hid (fun wr u h hu => lw_without h T _ (h.at (by simp [HLL.out])) hu (by omega))
    have Hpx : Hid (∀ wr, Lw w L B [] wr → Calls Tryz.prog 40 #[.string (Str m.dst)] wr fun e w' => e = .returned (.agg #[.string (Str m.dst), .string (Str (preT m.dst))]) ∧ Below wr.heap.size wr w') := Lib.hid (fun wr h => (rprefix_w m.dst wr (by have := Hp.out.2; omega)).mono fun e w' ⟨h1, h2⟩ => ⟨h1, h2.below (Nat.le_refl _)⟩)
    have Hsm : Hid (∀ wr v u l, Lw w L B [] wr → IsPairs wr v l → IsPairs wr u l → Calls Tryz.prog 15 #[v, u] wr (LbOut w L B [] wr true)) := Lib.hid (fun wr v u l h h1 h2 => lw_same_yes h l l h1 h2 rfl)
    clear hO
    generalize withoutS [preS m.dst] T = X at *
    have Hsp : Hid (∀ (W : World) k, k = W.heap.size → IsSpans (W.alloc (.cells #[.string (Str m.dst), .string (Str (preT m.dst))] 32)) (.slice (some ⟨k, 0, none⟩) 1 1) [preS m.dst]) := Lib.hid (fun W k hk => one_spans (preS m.dst) 32 hk)
    clear E1 E2 K1 K2 Zc Zo Zb Hap2 Hl1 Hl2 HS HD hmc hmo hmb nT' HkT
    have qm0 : ∀ wr, Lw w L B [] wr → wr.cell? ⟨n, 0, none⟩ = some (.int .i64 m.kind) := fun wr h => (h.msg (n := n) (m := m) (by simp [HB.out])).c0 0 _ rfl
    have qm1 : ∀ wr, Lw w L B [] wr → wr.cell? ⟨n, 1, none⟩ = some (.string (Str m.key)) := fun wr h => (h.msg (n := n) (m := m) (by simp [HB.out])).c0 1 _ rfl
    have qm2 : ∀ wr, Lw w L B [] wr → wr.cell? ⟨n, 2, none⟩ = some (.string (Str m.val)) := fun wr h => (h.msg (n := n) (m := m) (by simp [HB.out])).c0 2 _ rfl
    have qm3 : ∀ wr, Lw w L B [] wr → wr.cell? ⟨n, 3, none⟩ = some (.string (Str m.lo)) := fun wr h => (h.msg (n := n) (m := m) (by simp [HB.out])).c0 3 _ rfl
    have qm4 : ∀ wr, Lw w L B [] wr → wr.cell? ⟨n, 4, none⟩ = some (.string (Str m.hi)) := fun wr h => (h.msg (n := n) (m := m) (by simp [HB.out])).c0 4 _ rfl
    have qm5 : ∀ wr, Lw w L B [] wr → wr.cell? ⟨n, 5, none⟩ = some (.string (Str m.src)) := fun wr h => (h.msg (n := n) (m := m) (by simp [HB.out])).c0 5 _ rfl
    have qm6 : ∀ wr, Lw w L B [] wr → wr.cell? ⟨n, 6, none⟩ = some (.string (Str m.dst)) := fun wr h => (h.msg (n := n) (m := m) (by simp [HB.out])).c0 6 _ rfl
    have qm7 : ∀ wr, Lw w L B [] wr → wr.cell? ⟨n, 7, none⟩ = some (.int .i64 m.n) := fun wr h => (h.msg (n := n) (m := m) (by simp [HB.out])).c0 7 _ rfl
    have qc0 : ∀ wr, Lw w L B [] wr → wr.cell? ⟨n8, 0, none⟩ = some (.int .i64 mc.kind) := fun wr h => (h.msg (n := n8) (m := mc) (by simp [HB.out])).c0 0 _ rfl
    have qc1 : ∀ wr, Lw w L B [] wr → wr.cell? ⟨n8, 1, none⟩ = some (.string (Str mc.key)) := fun wr h => (h.msg (n := n8) (m := mc) (by simp [HB.out])).c0 1 _ rfl
    have qc2 : ∀ wr, Lw w L B [] wr → wr.cell? ⟨n8, 2, none⟩ = some (.string (Str mc.val)) := fun wr h => (h.msg (n := n8) (m := mc) (by simp [HB.out])).c0 2 _ rfl
    have qc3 : ∀ wr, Lw w L B [] wr → wr.cell? ⟨n8, 3, none⟩ = some (.string (Str mc.lo)) := fun wr h => (h.msg (n := n8) (m := mc) (by simp [HB.out])).c0 3 _ rfl
    have qc4 : ∀ wr, Lw w L B [] wr → wr.cell? ⟨n8, 4, none⟩ = some (.string (Str mc.hi)) := fun wr h => (h.msg (n := n8) (m := mc) (by simp [HB.out])).c0 4 _ rfl
    have qc5 : ∀ wr, Lw w L B [] wr → wr.cell? ⟨n8, 5, none⟩ = some (.string (Str mc.src)) := fun wr h => (h.msg (n := n8) (m := mc) (by simp [HB.out])).c0 5 _ rfl
    have qc6 : ∀ wr, Lw w L B [] wr → wr.cell? ⟨n8, 6, none⟩ = some (.string (Str mc.dst)) := fun wr h => (h.msg (n := n8) (m := mc) (by simp [HB.out])).c0 6 _ rfl
    have qc7 : ∀ wr, Lw w L B [] wr → wr.cell? ⟨n8, 7, none⟩ = some (.int .i64 mc.n) := fun wr h => (h.msg (n := n8) (m := mc) (by simp [HB.out])).c0 7 _ rfl
    have qo0 : ∀ wr, Lw w L B [] wr → wr.cell? ⟨n9, 0, none⟩ = some (.int .i64 mo.kind) := fun wr h => (h.msg (n := n9) (m := mo) (by simp [HB.out])).c0 0 _ rfl
    have qo1 : ∀ wr, Lw w L B [] wr → wr.cell? ⟨n9, 1, none⟩ = some (.string (Str mo.key)) := fun wr h => (h.msg (n := n9) (m := mo) (by simp [HB.out])).c0 1 _ rfl
    have qo2 : ∀ wr, Lw w L B [] wr → wr.cell? ⟨n9, 2, none⟩ = some (.string (Str mo.val)) := fun wr h => (h.msg (n := n9) (m := mo) (by simp [HB.out])).c0 2 _ rfl
    have qo3 : ∀ wr, Lw w L B [] wr → wr.cell? ⟨n9, 3, none⟩ = some (.string (Str mo.lo)) := fun wr h => (h.msg (n := n9) (m := mo) (by simp [HB.out])).c0 3 _ rfl
    have qo4 : ∀ wr, Lw w L B [] wr → wr.cell? ⟨n9, 4, none⟩ = some (.string (Str mo.hi)) := fun wr h => (h.msg (n := n9) (m := mo) (by simp [HB.out])).c0 4 _ rfl
    have qo5 : ∀ wr, Lw w L B [] wr → wr.cell? ⟨n9, 5, none⟩ = some (.string (Str mo.src)) := fun wr h => (h.msg (n := n9) (m := mo) (by simp [HB.out])).c0 5 _ rfl
    have qo6 : ∀ wr, Lw w L B [] wr → wr.cell? ⟨n9, 6, none⟩ = some (.string (Str mo.dst)) := fun wr h => (h.msg (n := n9) (m := mo) (by simp [HB.out])).c0 6 _ rfl
    have qo7 : ∀ wr, Lw w L B [] wr → wr.cell? ⟨n9, 7, none⟩ = some (.int .i64 mo.n) := fun wr h => (h.msg (n := n9) (m := mo) (by simp [HB.out])).c0 7 _ rfl
    have qb0 : ∀ wr, Lw w L B [] wr → wr.cell? ⟨n10, 0, none⟩ = some (.int .i64 mb.kind) := fun wr h => (h.msg (n := n10) (m := mb) (by simp [HB.out])).c0 0 _ rfl
    have qb1 : ∀ wr, Lw w L B [] wr → wr.cell? ⟨n10, 1, none⟩ = some (.string (Str mb.key)) := fun wr h => (h.msg (n := n10) (m := mb) (by simp [HB.out])).c0 1 _ rfl
    have qb2 : ∀ wr, Lw w L B [] wr → wr.cell? ⟨n10, 2, none⟩ = some (.string (Str mb.val)) := fun wr h => (h.msg (n := n10) (m := mb) (by simp [HB.out])).c0 2 _ rfl
    have qb3 : ∀ wr, Lw w L B [] wr → wr.cell? ⟨n10, 3, none⟩ = some (.string (Str mb.lo)) := fun wr h => (h.msg (n := n10) (m := mb) (by simp [HB.out])).c0 3 _ rfl
    have qb4 : ∀ wr, Lw w L B [] wr → wr.cell? ⟨n10, 4, none⟩ = some (.string (Str mb.hi)) := fun wr h => (h.msg (n := n10) (m := mb) (by simp [HB.out])).c0 4 _ rfl
    have qb5 : ∀ wr, Lw w L B [] wr → wr.cell? ⟨n10, 5, none⟩ = some (.string (Str mb.src)) := fun wr h => (h.msg (n := n10) (m := mb) (by simp [HB.out])).c0 5 _ rfl
    have qb6 : ∀ wr, Lw w L B [] wr → wr.cell? ⟨n10, 6, none⟩ = some (.string (Str mb.dst)) := fun wr h => (h.msg (n := n10) (m := mb) (by simp [HB.out])).c0 6 _ rfl
    have qb7 : ∀ wr, Lw w L B [] wr → wr.cell? ⟨n10, 7, none⟩ = some (.int .i64 mb.n) := fun wr h => (h.msg (n := n10) (m := mb) (by simp [HB.out])).c0 7 _ rfl
    go_region_held3 (fun wr => Lw w L B [] wr)
      (first | with_reducible assumption | with_reducible exact HL7.out.drew | with_reducible exact (HL7.out.alloc _).drew | with_reducible exact Lw.alloc (by with_reducible assumption) _ | with_reducible exact Lw.below (by with_reducible assumption) (by with_reducible assumption))
      (first
        | (go_at_call 18; (with_reducible refine (Hap.out _ (by assumption)).mono ?_); rintro e2 x2 ⟨p2, c2, rfl, hp2, hb2, hL2⟩; first | (with_reducible have hm1 := msgs_below hb2 (new_msgs2 w7 mc mo rfl).drew) | skip)
        | (go_at_call 16; (with_reducible refine (Ha1.out _ _ (by with_reducible assumption) (by first | with_reducible assumption | with_reducible exact new_msgs2 _ mc mo rfl)).mono ?_); rintro e3 x3 ⟨p3, c3, rfl, hp3, hb3, hL3⟩; first | (with_reducible have hp23 := pairs_below hb3 hp2) | (with_reducible have hp23 := pairs_below hb3 (hp2.alloc _)))
        | (go_at_call 15; (with_reducible refine (Hsm.out _ _ _ O (by with_reducible assumption) (by with_reducible assumption) (by with_reducible assumption)).mono ?_); rintro e4 x4 ⟨rfl, hb4, hL4⟩)
        | (go_at_call 16; (with_reducible refine (Ha2.out _ _ (by with_reducible assumption) (by with_reducible exact new_msgs2 _ m mb rfl)).mono ?_); rintro e5 x5 ⟨p5, c5, rfl, hp5, hb5, hL5⟩)
        | (go_at_call 40; (with_reducible refine (Hpx.out _ (by with_reducible assumption)).mono ?_); rintro e6 x6 ⟨rfl, hb6⟩; have hp56 := pairs_below hb6 hp5)
        | (go_at_call 35; (with_reducible refine (Hw2.out _ _ (by with_reducible assumption) (by with_reducible exact Hsp.out _ _ rfl)).mono ?_); rintro e7 x7 ⟨p7, c7, rfl, hp7, hb7, hL7⟩; have hp57 := pairs_below hb7 (hp56.alloc _))
        | (go_at_call 15; (with_reducible refine (Hsm.out _ _ _ X (by with_reducible assumption) (by with_reducible assumption) (by with_reducible assumption)).mono ?_); rintro e8 x8 ⟨rfl, hb8, hL8⟩)
        | fail "no arm")
    all_goals
      have Hg := Lib.hid (Lw.g (by with_reducible assumption : Lw w L B [] x8))
      clear qm0 qm1 qm2 qm3 qm4 qm5 qm6 qm7 qc0 qc1 qc2 qc3 qc4 qc5 qc6 qc7 qo0 qo1 qo2 qo3 qo4 qo5 qo6 qo7 qb0 qb1 qb2 qb3 qb4 qb5 qb6 qb7
      go_wp2
      go_ret
      exact ⟨rfl, Hg.out⟩

end Go.Proofs.YtdckiaokldkfmaaGreat
