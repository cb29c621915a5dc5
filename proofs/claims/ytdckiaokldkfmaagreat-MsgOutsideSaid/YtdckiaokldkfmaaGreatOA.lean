/-
  The walk of the law MsgOutside.
-/
import Derived.Test.YtdckiaokldkfmaaGreatNI
namespace Go.Proofs.YtdckiaokldkfmaaGreat
open Go.RowKit Go.Sort
set_option linter.unusedVariables false

set_option maxRecDepth 100000 in
set_option maxHeartbeats 8000000 in
theorem msgOutside_walk0 (hsan : SanityW) (w : World) (v0 : Value) (l : List Rw) (h0 : IsRaws w v0 l) (v1 : Value) (y : R6) (h1 : IsRaw6 w v1 y) :
    Calls Tryz.prog 5 #[v0, v1] w fun e w' => e = .returned (.bool true) ∧ Below w.heap.size w w' := by
  obtain ⟨a, b, c, d, e, f⟩ := y
  obtain ⟨rfl, hsm⟩ := h1
  change Small6 a b c d e f at hsm
  show Calls _ _ #[v0, .agg (raw6 a b c d e f)] _ _
  have H0 := Lib.hid h0
  have Hsan := Lib.hid hsan
  have Hmd : Hid (∀ wx, Calls Tryz.prog 29 #[.agg #[.int .u8 a, .int .u8 b, .int .u8 c, .int .u8 d, .int .u8 e, .int .u8 f]] wx fun e' w' => e' = .returned (msgV (madeM a b c d e f)) ∧ Below wx.heap.size wx w') := Lib.hid (fun wx => made_w a b c d e f wx hsm)
  have Htb : Hid (∀ wr, Bx6 w a b c d e f wr → Calls Tryz.prog 13 #[v0, .int .i64 12] wr (MOut wr (tableS l 12))) := Lib.hid (fun wr h => (table_w v0 l 12 wr (H0.out.below h.g) (by omega)).mono (fun _ _ hh => OwnOut.mout hh))
  have sT := Lib.hid (srt_table l 12)
  have nT := table_len l 12
  have HTs := Lib.hid (table_small (l := l) (n := 12))
  have Hv := Lib.hid (made_valid a b c d e f)
  have Hz := Lib.hid (made_size a b c d e f)
  have Htl : Hid (∀ (L : List (Value × List Pr)) (B : List (Nat × Ms)) (S : List (Value × List Sp)) wr, Lw w L B S wr → Calls Tryz.prog 13 #[v0, .int .i64 12] wr (LwOut w L B S wr (tableS l 12))) := Lib.hid (fun L B S wr h => lw_table h l 12 H0.out (by omega))
  clear h0 hsan hsm
  generalize madeM a b c d e f = m at *
  generalize tableS l 12 = T at *
  go_enter Tryz.func5, Tryz.ntmps5
  go_wp2_with fail
  refine (Hsan.out _).mono ?_
  rintro e1 w1 ⟨rfl, hb1⟩
  have hs1 : Bx6 w a b c d e f w1 := ⟨(Blk.new _ _ _).below hb1 (by simp), (below_box _).trans (hb1.mono (by simp))⟩
  have HS1 := Lib.hid hs1
  have hl1 := hs1.b.lt
  clear hb1 hs1
  go_upto_region 2 with fail
  go_cut [6, 7] (fun s6 s7 wx => ∃ p c n, s6 = .slice p T.length c ∧ s7 = .pointer (some ⟨n, 0, none⟩) ∧ Hid (Lw w [(.slice p T.length c, T)] [(n, m)] [] wx))
  case first =>
    have q0 : ∀ wr, Bx6 w a b c d e f wr → wr.cell? ⟨w.heap.size, 0, none⟩ = some (.int .u8 a) := fun wr h => h.b.c0 0 _ rfl
    have q1 : ∀ wr, Bx6 w a b c d e f wr → wr.cell? ⟨w.heap.size, 1, none⟩ = some (.int .u8 b) := fun wr h => h.b.c0 1 _ rfl
    have q2 : ∀ wr, Bx6 w a b c d e f wr → wr.cell? ⟨w.heap.size, 2, none⟩ = some (.int .u8 c) := fun wr h => h.b.c0 2 _ rfl
    have q3 : ∀ wr, Bx6 w a b c d e f wr → wr.cell? ⟨w.heap.size, 3, none⟩ = some (.int .u8 d) := fun wr h => h.b.c0 3 _ rfl
    have q4 : ∀ wr, Bx6 w a b c d e f wr → wr.cell? ⟨w.heap.size, 4, none⟩ = some (.int .u8 e) := fun wr h => h.b.c0 4 _ rfl
    have q5 : ∀ wr, Bx6 w a b c d e f wr → wr.cell? ⟨w.heap.size, 5, none⟩ = some (.int .u8 f) := fun wr h => h.b.c0 5 _ rfl
    go_region_held3 (fun wr => Bx6 w a b c d e f wr)
      (first | with_reducible assumption | with_reducible exact HS1.out.drew | with_reducible exact (HS1.out.alloc _).drew | with_reducible exact Bx6.st8 (by with_reducible assumption) _ (by with_reducible assumption) m | with_reducible exact Bx6.st8 (Bx6.alloc (by with_reducible assumption) _) _ (by with_reducible assumption) m | with_reducible exact Bx6.below (by with_reducible assumption) (by with_reducible assumption) | with_reducible exact Bx6.alloc (by with_reducible assumption) _)
      (first
        | (go_at_call 13; (with_reducible refine (Htb.out _ (by assumption)).mono ?_); rintro e2 w2 ⟨p2, c2, rfl, hp2, ho2, hb2⟩; have hs2 : Bx6 w a b c d e f w2 := Bx6.below (by assumption) hb2; have hl2 := hs2.b.lt; (first | (have hz := blk_made_d hb2; have hoff := ho2 w1.heap.size (by simp); have d0 := hz.c0 0 _ rfl; have d1 := hz.c0 1 _ rfl; have d2 := hz.c0 2 _ rfl; have d3 := hz.c0 3 _ rfl; have d4 := hz.c0 4 _ rfl; have d5 := hz.c0 5 _ rfl; have d6 := hz.c0 6 _ rfl; have d7 := hz.c0 7 _ rfl; have g0 := hz.free 0; have g1 := hz.free 1; have g2 := hz.free 2; have g3 := hz.free 3; have g4 := hz.free 4; have g5 := hz.free 5; have g6 := hz.free 6; have g7 := hz.free 7) | skip))
        | (go_at_call 29; (with_reducible refine (Hmd.out _).mono ?_); rintro e3 w3 ⟨rfl, hb3⟩; have hs3 : Bx6 w a b c d e f w3 := Bx6.below (by assumption) hb3; have hl3 := hs3.b.lt; (first | (have hp3 := pairs_below hb3 hp2) | (have hp3 := pairs_below hb3 (hp2.alloc _))); (first | (have hz3 := hz.below hb3 hz.lt; have d0 := hz3.c0 0 _ rfl; have d1 := hz3.c0 1 _ rfl; have d2 := hz3.c0 2 _ rfl; have d3 := hz3.c0 3 _ rfl; have d4 := hz3.c0 4 _ rfl; have d5 := hz3.c0 5 _ rfl; have d6 := hz3.c0 6 _ rfl; have d7 := hz3.c0 7 _ rfl; have g0 := hz3.free 0; have g1 := hz3.free 1; have g2 := hz3.free 2; have g3 := hz3.free 3; have g4 := hz3.free 4; have g5 := hz3.free 5; have g6 := hz3.free 6; have g7 := hz3.free 7) | (have hz3 := blk_made hb3; have hoff := hp2.off_size (Nat.le_refl _); have d0 := hz3.c0 0 _ rfl; have d1 := hz3.c0 1 _ rfl; have d2 := hz3.c0 2 _ rfl; have d3 := hz3.c0 3 _ rfl; have d4 := hz3.c0 4 _ rfl; have d5 := hz3.c0 5 _ rfl; have d6 := hz3.c0 6 _ rfl; have d7 := hz3.c0 7 _ rfl; have g0 := hz3.free 0; have g1 := hz3.free 1; have g2 := hz3.free 2; have g3 := hz3.free 3; have g4 := hz3.free 4; have g5 := hz3.free 5; have g6 := hz3.free 6; have g7 := hz3.free 7) | skip))
        | fail "no arm")
    all_goals
      clear q0 q1 q2 q3 q4 q5
      go_wp2_with fail
      go_meet
      first
        | with_reducible exact ⟨p2, c2, _, rfl, rfl, Lib.hid (Lw.box ((Lw.start hs3.g).add hp3) m)⟩
        | with_reducible exact ⟨p2, c2, _, rfl, rfl, Lib.hid (lw_st8 hs3 hp3 hoff hz3 hl2 m)⟩
        | with_reducible exact ⟨p2, c2, _, rfl, rfl, Lib.hid (lw_st8 hs3 hp3 hoff hz3 hl1 m)⟩
  case rest =>
    obtain ⟨pt, ct, n, rfl, rfl, HL⟩ := hcut
    clear HS1 Hmd Htb hl1
    have nT' : T.length ≤ 10000 := by omega
    have kT : ∀ x ∈ T, x.1.length ≤ 100000 := fun x hx => by have := (HTs.out x hx).1; omega
    have HkT := Lib.hid kT
    have HsO := Lib.hid (srt_apply' m sT.out)
    have HoW := Lib.hid (without_apply m sT.out)
    have HnO := Lib.hid (apply_len m T)
    have Hwr := Lib.hid (fun wr (h : Lw w [(.slice pt T.length ct, T)] [(n, m)] [] wr) => lw_writes h m Hz.out)
    have Hap := Lib.hid (fun wr (h : Lw w [(.slice pt T.length ct, T)] [(n, m)] [] wr) => lw_apply h m (v := .slice pt T.length ct) T (h.at (by simp)) sT.out nT' HkT.out Hz.out)
    clear kT
    generalize writesS m = W at *
    generalize applyS m T = O at *
    have nO : O.length ≤ 50000 := by have := HnO.out; omega
    go_upto_region 3 with fail
    go_cut [8, 9] (fun s8 s9 wx => ∃ p8 c8 p9 c9, s8 = .slice p8 W.length c8 ∧ s9 = .slice p9 O.length c9 ∧ Hid (Lw w [(.slice p9 O.length c9, O), (.slice pt T.length ct, T)] [] [(.slice p8 W.length c8, W)] wx))
    case first =>
      have q0 : ∀ wr, Lw w [(.slice pt T.length ct, T)] [(n, m)] [] wr → wr.cell? ⟨n, 0, none⟩ = some (.int .i64 m.kind) := fun wr h => (h.msg (n := n) (m := m) (by simp)).c0 0 _ rfl
      have q1 : ∀ wr, Lw w [(.slice pt T.length ct, T)] [(n, m)] [] wr → wr.cell? ⟨n, 1, none⟩ = some (.string (Str m.key)) := fun wr h => (h.msg (n := n) (m := m) (by simp)).c0 1 _ rfl
      have q2 : ∀ wr, Lw w [(.slice pt T.length ct, T)] [(n, m)] [] wr → wr.cell? ⟨n, 2, none⟩ = some (.string (Str m.val)) := fun wr h => (h.msg (n := n) (m := m) (by simp)).c0 2 _ rfl
      have q3 : ∀ wr, Lw w [(.slice pt T.length ct, T)] [(n, m)] [] wr → wr.cell? ⟨n, 3, none⟩ = some (.string (Str m.lo)) := fun wr h => (h.msg (n := n) (m := m) (by simp)).c0 3 _ rfl
      have q4 : ∀ wr, Lw w [(.slice pt T.length ct, T)] [(n, m)] [] wr → wr.cell? ⟨n, 4, none⟩ = some (.string (Str m.hi)) := fun wr h => (h.msg (n := n) (m := m) (by simp)).c0 4 _ rfl
      have q5 : ∀ wr, Lw w [(.slice pt T.length ct, T)] [(n, m)] [] wr → wr.cell? ⟨n, 5, none⟩ = some (.string (Str m.src)) := fun wr h => (h.msg (n := n) (m := m) (by simp)).c0 5 _ rfl
      have q6 : ∀ wr, Lw w [(.slice pt T.length ct, T)] [(n, m)] [] wr → wr.cell? ⟨n, 6, none⟩ = some (.string (Str m.dst)) := fun wr h => (h.msg (n := n) (m := m) (by simp)).c0 6 _ rfl
      have q7 : ∀ wr, Lw w [(.slice pt T.length ct, T)] [(n, m)] [] wr → wr.cell? ⟨n, 7, none⟩ = some (.int .i64 m.n) := fun wr h => (h.msg (n := n) (m := m) (by simp)).c0 7 _ rfl
      go_region_held3 (fun wr => Lw w [(.slice pt T.length ct, T)] [(n, m)] [] wr)
        (first | with_reducible assumption | with_reducible exact HL.out.drew)
        (first
          | (go_at_call 23; (with_reducible refine (Hwr.out _ (by assumption)).mono ?_); rintro e2 w2 ⟨p2, c2, rfl, hp2, hb2, hL2⟩)
          | (go_at_call 18; (with_reducible refine (Hap.out _ (by assumption)).mono ?_); rintro e3 w3 ⟨p3, c3, rfl, hp3, hb3, hL3⟩; have hp23 := hp2.below hb3)
          | fail "no arm")
      all_goals
        clear q0 q1 q2 q3 q4 q5 q6 q7
        have HF := Lib.hid (((hL3.add hp3).addS hp23).sub (L' := [(.slice p3 O.length c3, O), (.slice pt T.length ct, T)]) (B' := []) (S' := [(.slice p2 W.length c2, W)]) (by simp) (by simp) (by simp))
        go_wp2_with fail
        go_meet
        exact ⟨p2, c2, p3, c3, rfl, rfl, HF⟩
    case rest =>
      obtain ⟨p8, c8, p9, c9, rfl, rfl, HF⟩ := hcut
      clear HL Hwr Hap
      go_wp2_with fail
      refine (lw_without HF.out O W (HF.out.at (by simp)) (HF.out.sps (by simp)) nO).mono ?_
      rintro e1 w2 ⟨p2, k2, rfl, hp2, -, hL2⟩
      have H2 := Lib.hid (hL2.add hp2)
      clear hp2 hL2
      go_wp2_with fail
      refine (lw_without H2.out T W (H2.out.at (by simp)) (H2.out.sps (by simp)) (by omega)).mono ?_
      rintro e1 w3 ⟨p3, k3, rfl, hp3, -, hL3⟩
      have H3 := Lib.hid (hL3.add hp3)
      clear hp3 hL3 H2
      go_wp2_with fail
      refine (lw_same_yes H3.out (withoutS W O) (withoutS W T) (H3.out.at (by simp)) (H3.out.at (by simp)) HoW.out).mono ?_
      rintro e1 w4 ⟨rfl, -, hL4⟩
      have H4 := Lib.hid (hL4.sub (L' := [(.slice p9 O.length c9, O), (.slice pt T.length ct, T)]) (B' := []) (S' := []) (by simp) (by simp) (by simp))
      clear hL4 H3
      go_wp2_with fail
      refine (lw_sorted H4.out O (H4.out.at (by simp)) HsO.out (by omega)).mono ?_
      rintro e1 w5 ⟨rfl, -, hL5⟩
      have H5 := Lib.hid hL5
      clear hL5 H4
      go_wp2_with fail
      refine (Htl.out _ _ _ _ H5.out).mono ?_
      rintro e1 w6 ⟨p6, k6, rfl, hp6, -, hL6⟩
      have H6 := Lib.hid (hL6.add hp6)
      clear hp6 hL6 H5
      go_wp2_with fail
      refine (lw_same_yes H6.out T T (H6.out.at (by simp)) (H6.out.at (by simp)) rfl).mono ?_
      rintro e1 w7 ⟨rfl, -, hL7⟩
      have Hg := Lib.hid hL7.g
      clear hL7 H6
      go_wp2
      go_ret
      exact ⟨rfl, Hg.out⟩

end Go.Proofs.YtdckiaokldkfmaaGreat
