/-
  Walks: the reference's choice of messages. Walks: the reference's choice of tables. What the arguments of the laws of package msg are, said of the world.
-/
import Derived.Test.YthpajecigkfajaaNO
import Derived.Deep.CutBlock
import Derived.Test.YthpajecigkfajaaKB
import Derived.Test.YthpajecigkfajaaRows
import Derived.ProofKit
import Derived.OpenShut
import Derived.ShutString
import Derived.ChangeOld
import Derived.Below
import Derived.Lib.SmallJoins
import Derived.Deep.Slices
namespace Go.Proofs.Ythpajecigkfajaa
open Go.RowKit Go.Sort
set_option linter.unusedVariables false

def raw6 (a b c d e f : Nat) : Array Value := #[.int .u8 a, .int .u8 b, .int .u8 c, .int .u8 d, .int .u8 e, .int .u8 f]
def Small6 (a b c d e f : Nat) : Prop := a < 256 ∧ b < 256 ∧ c < 256 ∧ d < 256 ∧ e < 256 ∧ f < 256
/-- The six bytes, the message that is made. -/
structure MdSt (w : World) (a b c d e f : Nat) (wx : World) : Prop where
  r : Blk wx w.heap.size 81 (raw6 a b c d e f)
  m : MBlk wx (w.heap.size + 1) (zeroM 0)
  g : Below w.heap.size w wx
section
variable {w wx wy : World} {a b c d e f : Nat}
theorem MdSt.below (h : MdSt w a b c d e f wx) (hb : Below wx.heap.size wx wy) : MdSt w a b c d e f wy := ⟨h.r.below hb h.r.lt, h.m.below hb h.m.lt, h.g.trans (hb.mono h.g.size)⟩
theorem MdSt.drew (h : MdSt w a b c d e f wx) : MdSt w a b c d e f wx.drew := h.below (below_drewN wx 1)
theorem MdSt.alloc (h : MdSt w a b c d e f wx) (o : Obj) : MdSt w a b c d e f (wx.alloc o) := h.below (below_box _)
theorem MdSt.start (w : World) (a b c d e f : Nat) : MdSt w a b c d e f ((w.alloc (.cells (raw6 a b c d e f) 81)).alloc (.cells (encM (zeroM 0)) 59)) :=
  ⟨(Blk.new _ _ _).alloc _, Blk.new' _ _ _ (by simp), (below_box _).alloc (by simp) _⟩
end


/-- What is made, and a span. -/
structure MsSt (w : World) (a b c d e f n : Nat) (s : Sp) (wx : World) : Prop where
  q : MdSt w a b c d e f wx
  p : Blk wx n 57 #[.string (Str s.1), .string (Str s.2)]
section
variable {w wx wy : World} {a b c d e f n : Nat} {s : Sp}
theorem MsSt.below (h : MsSt w a b c d e f n s wx) (hb : Below wx.heap.size wx wy) : MsSt w a b c d e f n s wy := ⟨h.q.below hb, h.p.below hb h.p.lt⟩
theorem MsSt.drew (h : MsSt w a b c d e f n s wx) : MsSt w a b c d e f n s wx.drew := h.below (below_drewN wx 1)
theorem MsSt.set (h : MsSt w a b c d e f n s wx) (hn : w.heap.size + 1 < n) (u : Sp) : MsSt w a b c d e f n u ((wx.setCell ⟨n, 0, none⟩ (.string (Str u.1))).setCell ⟨n, 1, none⟩ (.string (Str u.2))) := by
  have h1 : w.heap.size ≠ n := by omega
  have h2 : w.heap.size + 1 ≠ n := by omega
  have h3 : w.heap.size ≤ n := by omega
  exact ⟨⟨(h.q.r.setCell_other h1 0 _).setCell_other h1 1 _, (h.q.m.setCell_other h2 0 _).setCell_other h2 1 _, (h.q.g.setCell (p := ⟨n, 0, none⟩) h3 _).setCell (p := ⟨n, 1, none⟩) h3 _⟩, (h.p.setCell 0 _).setCell 1 _⟩
end

set_option maxRecDepth 100000 in
set_option maxHeartbeats 4000000 in
theorem made_w (a b c d e f : Nat) (w : World) (hs : Small6 a b c d e f) : Calls Try.prog 28 #[.agg (raw6 a b c d e f)] w fun e' w' => e' = .returned (msgV (madeM a b c d e f)) ∧ Below w.heap.size w w' := by
  have mixed := mixedA
  obtain ⟨wa, hwa⟩ : ∃ wa, wa = (w.alloc (.cells (raw6 a b c d e f) 81)).alloc (.cells #[.int .i64 0, .string ⟨#[]⟩, .string ⟨#[]⟩, .string ⟨#[]⟩, .string ⟨#[]⟩, .string ⟨#[]⟩, .string ⟨#[]⟩, .int .i64 0] 59) := ⟨_, rfl⟩
  have HS : Hid (MdSt w a b c d e f wa) := Lib.hid (by rw [hwa]; exact MdSt.start w a b c d e f)
  have Hs := Lib.hid hs
  have q0 : ∀ wr, MdSt w a b c d e f wr → wr.cell? ⟨w.heap.size, 0, none⟩ = some (.int .u8 a) := fun wr h => h.r.c0 0 _ rfl
  have q1 : ∀ wr, MdSt w a b c d e f wr → wr.cell? ⟨w.heap.size, 1, none⟩ = some (.int .u8 b) := fun wr h => h.r.c0 1 _ rfl
  have q2 : ∀ wr, MdSt w a b c d e f wr → wr.cell? ⟨w.heap.size, 2, none⟩ = some (.int .u8 c) := fun wr h => h.r.c0 2 _ rfl
  have q3 : ∀ wr, MdSt w a b c d e f wr → wr.cell? ⟨w.heap.size, 3, none⟩ = some (.int .u8 d) := fun wr h => h.r.c0 3 _ rfl
  have q4 : ∀ wr, MdSt w a b c d e f wr → wr.cell? ⟨w.heap.size, 4, none⟩ = some (.int .u8 e) := fun wr h => h.r.c0 4 _ rfl
  have q5 : ∀ wr, MdSt w a b c d e f wr → wr.cell? ⟨w.heap.size, 5, none⟩ = some (.int .u8 f) := fun wr h => h.r.c0 5 _ rfl
  have hk1 := Lib.hid (fun wx => key_w b wx hs.2.1)
  have hk2 := Lib.hid (fun wx => key_w d wx hs.2.2.2.1)
  have hp1 := Lib.hid (fun wx => path_w b wx hs.2.1)
  have hp2 := Lib.hid (fun wx => path_w d wx hs.2.2.2.1)
  clear hs
  go_enter Try.func28, Try.ntmps28
  go_upto_region 1 with fail
  rw [← hwa]
  clear hwa
  go_cut [3, 4] (fun s3 s4 wx => s3 = .string (Str (keyS b)) ∧ s4 = .string (Str (keyS d)) ∧ Hid (MdSt w a b c d e f wx))
  case first =>
    go_region_held3 (fun wr => MdSt w a b c d e f wr) (first | with_reducible assumption | exact MdSt.below (by with_reducible assumption) (by with_reducible assumption) | exact HS.out.drew)
      (first
        | (go_at_call 34; (with_reducible refine (hk1.out _).mono ?_); rintro e w2 ⟨rfl, hb2⟩)
        | (go_at_call 34; (with_reducible refine (hk2.out _).mono ?_); rintro e w3 ⟨rfl, hb3⟩))
    all_goals
      go_wp2_with fail
      go_meet
      exact ⟨rfl, rfl, Lib.hid (by with_reducible assumption)⟩
  case rest =>
    obtain ⟨rfl, rfl, HS1⟩ := hcut
    clear HS
    go_upto_block 0 with fail
    have hM0 : MsSt w a b c d e f wc.heap.size (minB (keyS b) (keyS d), maxB (keyS b) (keyS d)) (wc.alloc (.cells #[.string (Str (minB (keyS b) (keyS d))), .string (Str (maxB (keyS b) (keyS d)))] 57)) := ⟨HS1.out.alloc _, Blk.new _ _ _⟩
    have hn : w.heap.size + 1 < wc.heap.size := HS1.out.m.lt
    have HM0 := Lib.hid hM0
    clear hM0
    generalize (wc.alloc (.cells #[.string (Str (minB (keyS b) (keyS d))), .string (Str (maxB (keyS b) (keyS d)))] 57)) = wb at *
    generalize wc.heap.size = n at *
    clear HS1
    have hse : (e : Int) < 256 := by have := Hs.out.2.2.2.2.1; omega
    go_cut [] (fun wx => Hid (MsSt w a b c d e f n (spanR b d e) wx))
    case first =>
      have q4' := q4 wb HM0.out.q
      have q1' := q1 wb HM0.out.q
      by_cases h0 : e % 4 = 0
      · have hz0 : (e : Int) % 4 = 0 := by omega
        have Hr : Hid (spanR b d e = preS (pathS b)) := Lib.hid (by unfold spanR; rw [if_pos h0])
        have hpl := path_len b
        clear h0
        go_wp2_with fail
        refine (hp1.out _).mono ?_
        rintro e2 w2 ⟨rfl, hb2⟩
        have HM2 := Lib.hid (HM0.out.below hb2)
        clear hb2
        go_wp2_with fail
        refine (rprefix_w (pathS b) _ (by omega)).mono ?_
        rintro e2 w3 ⟨rfl, hg3⟩
        have HMx := Lib.hid (HM2.out.below (hg3.below (Nat.le_refl _)))
        have x0 := HMx.out.p.c0 0 _ rfl
        have x1 := HMx.out.p.c0 1 _ rfl
        have y0 := HMx.out.p.free 0
        have y1 := HMx.out.p.free 1
        clear hg3
        go_wp2_with fail
        go_meet
        rw [Hr.out]
        exact Lib.hid (HMx.out.set hn (preS (pathS b)))
      · have hz0 : ((e : Int) % 4 == 0) = false := by rw [beq_eq_false_iff_ne]; omega
        have hzn : ¬ (e : Int) % 4 = 0 := by omega
        have x0 := HM0.out.p.c0 0 _ rfl
        have x1 := HM0.out.p.c0 1 _ rfl
        have y0 := HM0.out.p.free 0
        have y1 := HM0.out.p.free 1
        by_cases h1 : e % 16 = 1
        · have hz1 : (e : Int) % 16 = 1 := by omega
          have Hr : Hid (spanR b d e = (keyS b, [])) := Lib.hid (by unfold spanR; rw [if_neg h0, if_pos h1])
          clear h0 h1
          go_wp2_with fail
          go_meet
          rw [Hr.out]
          exact Lib.hid (HM0.out.set hn (keyS b, []))
        · have hz1 : ((e : Int) % 16 == 1) = false := by rw [beq_eq_false_iff_ne]; omega
          have hzn1 : ¬ (e : Int) % 16 = 1 := by omega
          by_cases h5 : e % 16 = 5
          · have hz5 : (e : Int) % 16 = 5 := by omega
            have Hr : Hid (spanR b d e = ([], [])) := Lib.hid (by unfold spanR; rw [if_neg h0, if_neg h1, if_pos h5])
            clear h0 h1 h5 hz1 hzn1
            go_wp2_with fail
            go_meet
            rw [Hr.out]
            exact Lib.hid (HM0.out.set hn ([], []))
          · have hz5 : ((e : Int) % 16 == 5) = false := by rw [beq_eq_false_iff_ne]; omega
            have hzn5 : ¬ (e : Int) % 16 = 5 := by omega
            by_cases hk : keyS b = keyS d
            · have hq : (keyS b == keyS d) = true := by simpa using hk
              have Hr : Hid (spanR b d e = oneS (keyS b)) := Lib.hid (by unfold spanR; rw [if_neg h0, if_neg h1, if_neg h5, if_pos hk])
              have hkl := key_len b
              clear h0 h1 h5 hk
              clear x0 x1 y0 y1
              go_wp2_with fail
              refine (rone_w (keyS b) _ (by omega)).mono ?_
              rintro e2 w3 ⟨rfl, hg3⟩
              have HMx := Lib.hid (HM0.out.below (hg3.below (Nat.le_refl _)))
              have x0 := HMx.out.p.c0 0 _ rfl
              have x1 := HMx.out.p.c0 1 _ rfl
              have y0 := HMx.out.p.free 0
              have y1 := HMx.out.p.free 1
              clear hg3
              go_wp2_with fail
              go_meet
              rw [Hr.out]
              exact Lib.hid (HMx.out.set hn (oneS (keyS b)))
            · have hq : (keyS b == keyS d) = false := by simpa using hk
              have Hr : Hid (spanR b d e = (minB (keyS b) (keyS d), maxB (keyS b) (keyS d))) := Lib.hid (by unfold spanR; rw [if_neg h0, if_neg h1, if_neg h5, if_neg hk])
              clear h0 h1 h5 hk
              go_wp2_with fail
              go_meet
              rw [Hr.out]
              exact HM0
    case rest =>
      have HM1 := hcut
      clear HM0
      go_upto_region 11 with fail
      go_cut [6, 7] (fun s6 s7 wx => s6 = .string (Str (pathS b)) ∧ s7 = .string (Str (pathS d)) ∧ Hid (MsSt w a b c d e f n (spanR b d e) wx))
      case first =>
        have q1' : ∀ wr, MsSt w a b c d e f n (spanR b d e) wr → wr.cell? ⟨w.heap.size, 1, none⟩ = some (.int .u8 b) := fun wr h => h.q.r.c0 1 _ rfl
        have q3' : ∀ wr, MsSt w a b c d e f n (spanR b d e) wr → wr.cell? ⟨w.heap.size, 3, none⟩ = some (.int .u8 d) := fun wr h => h.q.r.c0 3 _ rfl
        clear q0 q1 q2 q3 q4 q5
        go_region_held3 (fun wr => MsSt w a b c d e f n (spanR b d e) wr) (first | with_reducible assumption | exact MsSt.below (by with_reducible assumption) (by with_reducible assumption) | exact HM1.out.drew)
          (first
            | (go_at_call 36; (with_reducible refine (hp1.out _).mono ?_); rintro e w2 ⟨rfl, hb2⟩)
            | (go_at_call 36; (with_reducible refine (hp2.out _).mono ?_); rintro e w3 ⟨rfl, hb3⟩))
        all_goals
          go_wp2_with fail
          go_meet
          exact ⟨rfl, rfl, Lib.hid (by with_reducible assumption)⟩
      case rest =>
        obtain ⟨rfl, rfl, HM2⟩ := hcut
        clear HM1
        have Hq : Hid (toR b d = otherR (pathS b) (pathS d)) := Lib.hid rfl
        have hl1 := path_len b
        have hl2 := path_len d
        have hbg := Lib.hid (fun wx => begins_w (pathS b) (pathS d) wx (by omega) (by omega))
        have hbg2 := Lib.hid (fun wx => begins_w (pathS d) (pathS b) wx (by omega) (by omega))
        have Hmd : Hid (madeM a b c d e f = (if a % 6 = 0 then ⟨1, keyS b, valS c, [], [], [], [], (f % 8 : Nat)⟩
          else if a % 6 = 1 then ⟨2, keyS b, [], [], [], [], [], 0⟩
          else if a % 6 = 2 then ⟨3, [], [], (spanR b d e).1, (spanR b d e).2, [], [], 0⟩
          else if a % 6 = 3 then ⟨4, [], [], [], [], pathS b, toR b d, 0⟩
          else if a % 6 = 4 then ⟨5, [], [], [], [], pathS b, toR b d, 0⟩
          else ⟨6, [], [], (spanR b d e).1, (spanR b d e).2, [], [], (f % 8 : Nat)⟩)) := Lib.hid rfl
        generalize toR b d = pto at *
        generalize pathS b = pb at *
        generalize pathS d = pd at *
        go_upto_region 12 with fail
        go_cut [63] (fun s63 wx => s63 = .bool (pd.isPrefixOf pb || pb.isPrefixOf pd) ∧ Hid (MsSt w a b c d e f n (spanR b d e) wx))
        case first =>
          cases h1 : pd.isPrefixOf pb with
          | true =>
            rw [h1] at hbg
            go_wp2_with fail
            refine (hbg.out _).mono ?_
            rintro e2 w4 ⟨rfl, hg4⟩
            have HM3 := Lib.hid (HM2.out.below (hg4.below (Nat.le_refl _)))
            clear hg4
            have H1 := Lib.hid h1
            clear h1
            go_wp2_with fail
            go_meet
            exact ⟨by rw [H1.out]; rfl, HM3⟩
          | false =>
            rw [h1] at hbg
            have H1 := Lib.hid h1
            clear h1
            go_wp2_with fail
            refine (hbg.out _).mono ?_
            rintro e2 w4 ⟨rfl, hg4⟩
            have HM3 := Lib.hid (HM2.out.below (hg4.below (Nat.le_refl _)))
            clear hg4
            go_wp2_with fail
            refine (hbg2.out _).mono ?_
            rintro e2 w5 ⟨rfl, hg5⟩
            have HM4 := Lib.hid (HM3.out.below (hg5.below (Nat.le_refl _)))
            clear hg5
            go_wp2_with fail
            go_meet
            exact ⟨by rw [H1.out]; rfl, HM4⟩
        case rest =>
          obtain ⟨rfl, HM3⟩ := hcut
          clear HM2 hbg hbg2
          go_upto_if 63 with fail
          go_cut [7] (fun s7 wx => s7 = .string (Str pto) ∧ Hid (MsSt w a b c d e f n (spanR b d e) wx))
          case first =>
            cases h1 : (pd.isPrefixOf pb || pb.isPrefixOf pd) with
            | true =>
              by_cases h2 : pb = [100, 47]
              · have Hq2 : Hid (pto = [99, 47]) := Lib.hid (by rw [Hq.out]; unfold otherR; rw [h1, if_pos rfl, if_pos h2])
                have hd : (pb == [100, 47]) = true := by simpa using h2
                clear h1 h2
                go_wp2_with fail
                go_meet
                exact ⟨by rw [Hq2.out]; rfl, HM3⟩
              · have Hq2 : Hid (pto = [100, 47]) := Lib.hid (by rw [Hq.out]; unfold otherR; rw [h1, if_pos rfl, if_neg h2])
                have hd : (pb == [100, 47]) = false := by simpa using h2
                clear h1 h2
                go_wp2_with fail
                go_meet
                exact ⟨by rw [Hq2.out]; rfl, HM3⟩
            | false =>
              have Hq2 : Hid (pto = pd) := Lib.hid (by rw [Hq.out]; unfold otherR; rw [h1]; rfl)
              go_wp2_with fail
              go_meet
              exact ⟨by rw [Hq2.out], HM3⟩
          case rest =>
            obtain ⟨rfl, HM4⟩ := hcut
            clear HM3
            have m0 := q0 wc HM4.out.q
            have m2 := q2 wc HM4.out.q
            have m5 := q5 wc HM4.out.q
            clear q0 q1 q2 q3 q4 q5
            obtain ⟨d0, d1, d2, d3, d4, d5, d6, d7⟩ := HM4.out.q.m.plain
            have f0 := HM4.out.q.m.free 0
            have f1 := HM4.out.q.m.free 1
            have f2 := HM4.out.q.m.free 2
            have f3 := HM4.out.q.m.free 3
            have f4 := HM4.out.q.m.free 4
            have f5 := HM4.out.q.m.free 5
            have f6 := HM4.out.q.m.free 6
            have f7 := HM4.out.q.m.free 7
            have x0 := HM4.out.p.c0 0 _ rfl
            have x1 := HM4.out.p.c0 1 _ rfl
            have hsa : (a : Int) < 256 := by have := Hs.out.1; omega
            have hsf : (f : Int) < 256 := by have := Hs.out.2.2.2.2.2; omega
            have hzf : (f : Int) % 8 = ((f % 8 : Nat) : Int) := by omega
            have hf8 : f % 8 < 8 := Nat.mod_lt _ (by omega)
            have HG := Lib.hid HM4.out.q.g
            have hvw := Lib.hid (fun wx => value_w c wx Hs.out.2.2.1)
            have HMd : Hid (madeM a b c d e f = (if a % 6 = 0 then ⟨1, keyS b, valS c, [], [], [], [], (f % 8 : Nat)⟩
              else if a % 6 = 1 then ⟨2, keyS b, [], [], [], [], [], 0⟩
              else if a % 6 = 2 then ⟨3, [], [], (spanR b d e).1, (spanR b d e).2, [], [], 0⟩
              else if a % 6 = 3 then ⟨4, [], [], [], [], pb, pto, 0⟩
              else if a % 6 = 4 then ⟨5, [], [], [], [], pb, pto, 0⟩
              else ⟨6, [], [], (spanR b d e).1, (spanR b d e).2, [], [], (f % 8 : Nat)⟩)) := Hmd
            generalize spanR b d e = sp at *
            generalize keyS b = kb at *
            generalize f % 8 = n8 at *
            generalize valS c = vc at *
            have hn8 : (n8 : Int) < 8 := by omega
            have hn80 : (0 : Int) ≤ (n8 : Int) := by omega
            have ha6 : a % 6 < 6 := Nat.mod_lt _ (by omega)
            have hza : (a : Int) % 6 = ((a % 6 : Nat) : Int) := by omega
            generalize a % 6 = a6 at *
            obtain ⟨sl, sh⟩ := sp
            simp only at x0 x1
            clear hl1 hl2 hn hse
            rcases (show a6 = 0 ∨ a6 = 1 ∨ a6 = 2 ∨ a6 = 3 ∨ a6 = 4 ∨ a6 = 5 from by omega) with h | h | h | h | h | h
            · subst h
              have hz : (a : Int) % 6 = 0 := hza
              have Hm : Hid (madeM a b c d e f = ⟨1, kb, vc, [], [], [], [], n8⟩) := Lib.hid HMd.out
              clear hza HMd ha6
              go_wp2_with fail
              refine (hvw.out _).mono ?_
              rintro e2 w9 ⟨rfl, hb9⟩
              have HM9 := Lib.hid (HM4.out.below hb9)
              clear hb9 d0 d1 d2 d3 d4 d5 d6 d7 f0 f1 f2 f3 f4 f5 f6 f7 x0 x1 m0 m2 m5
              obtain ⟨d0, d1, d2, d3, d4, d5, d6, d7⟩ := HM9.out.q.m.plain
              have f0 := HM9.out.q.m.free 0
              have f1 := HM9.out.q.m.free 1
              have f2 := HM9.out.q.m.free 2
              have f3 := HM9.out.q.m.free 3
              have f4 := HM9.out.q.m.free 4
              have f5 := HM9.out.q.m.free 5
              have f6 := HM9.out.q.m.free 6
              have f7 := HM9.out.q.m.free 7
              have HG := Lib.hid HM9.out.q.g
              go_wp2_with fail
              refine bodyPost_ret (v := msgV ⟨1, kb, vc, [], [], [], [], n8⟩) (by simp [results, Try.results28, go_sem, d0, d1, d2, d3, d4, d5, d6, d7]; rfl) rfl ⟨by rw [Hm.out], ?_⟩
              exact (((((((HG.out.setCell (Nat.le_succ _) _).setCell (Nat.le_succ _) _).setCell (Nat.le_succ _) _).setCell (Nat.le_succ _) _).setCell (Nat.le_succ _) _).setCell (Nat.le_succ _) _).setCell (Nat.le_succ _) _).setCell (Nat.le_succ _) _
            · subst h
              have hz : (a : Int) % 6 = 1 := hza
              have Hm : Hid (madeM a b c d e f = ⟨2, kb, [], [], [], [], [], 0⟩) := Lib.hid HMd.out
              clear hza HMd ha6
              go_wp2_with fail
              refine bodyPost_ret (v := msgV ⟨2, kb, [], [], [], [], [], 0⟩) (by simp [results, Try.results28, go_sem, d0, d1, d2, d3, d4, d5, d6, d7]; rfl) rfl ⟨by rw [Hm.out], ?_⟩
              exact (((((((HG.out.setCell (Nat.le_succ _) _).setCell (Nat.le_succ _) _).setCell (Nat.le_succ _) _).setCell (Nat.le_succ _) _).setCell (Nat.le_succ _) _).setCell (Nat.le_succ _) _).setCell (Nat.le_succ _) _).setCell (Nat.le_succ _) _
            · subst h
              have hz : (a : Int) % 6 = 2 := hza
              have Hm : Hid (madeM a b c d e f = ⟨3, [], [], sl, sh, [], [], 0⟩) := Lib.hid HMd.out
              clear hza HMd ha6
              go_wp2_with fail
              refine bodyPost_ret (v := msgV ⟨3, [], [], sl, sh, [], [], 0⟩) (by simp [results, Try.results28, go_sem, d0, d1, d2, d3, d4, d5, d6, d7]; rfl) rfl ⟨by rw [Hm.out], ?_⟩
              exact (((((((HG.out.setCell (Nat.le_succ _) _).setCell (Nat.le_succ _) _).setCell (Nat.le_succ _) _).setCell (Nat.le_succ _) _).setCell (Nat.le_succ _) _).setCell (Nat.le_succ _) _).setCell (Nat.le_succ _) _).setCell (Nat.le_succ _) _
            · subst h
              have hz : (a : Int) % 6 = 3 := hza
              have Hm : Hid (madeM a b c d e f = ⟨4, [], [], [], [], pb, pto, 0⟩) := Lib.hid HMd.out
              clear hza HMd ha6
              go_wp2_with fail
              refine bodyPost_ret (v := msgV ⟨4, [], [], [], [], pb, pto, 0⟩) (by simp [results, Try.results28, go_sem, d0, d1, d2, d3, d4, d5, d6, d7]; rfl) rfl ⟨by rw [Hm.out], ?_⟩
              exact (((((((HG.out.setCell (Nat.le_succ _) _).setCell (Nat.le_succ _) _).setCell (Nat.le_succ _) _).setCell (Nat.le_succ _) _).setCell (Nat.le_succ _) _).setCell (Nat.le_succ _) _).setCell (Nat.le_succ _) _).setCell (Nat.le_succ _) _
            · subst h
              have hz : (a : Int) % 6 = 4 := hza
              have Hm : Hid (madeM a b c d e f = ⟨5, [], [], [], [], pb, pto, 0⟩) := Lib.hid HMd.out
              clear hza HMd ha6
              go_wp2_with fail
              refine bodyPost_ret (v := msgV ⟨5, [], [], [], [], pb, pto, 0⟩) (by simp [results, Try.results28, go_sem, d0, d1, d2, d3, d4, d5, d6, d7]; rfl) rfl ⟨by rw [Hm.out], ?_⟩
              exact (((((((HG.out.setCell (Nat.le_succ _) _).setCell (Nat.le_succ _) _).setCell (Nat.le_succ _) _).setCell (Nat.le_succ _) _).setCell (Nat.le_succ _) _).setCell (Nat.le_succ _) _).setCell (Nat.le_succ _) _).setCell (Nat.le_succ _) _
            · subst h
              have hz : (a : Int) % 6 = 5 := hza
              have Hm : Hid (madeM a b c d e f = ⟨6, [], [], sl, sh, [], [], n8⟩) := Lib.hid HMd.out
              clear hza HMd ha6
              go_wp2_with fail
              refine bodyPost_ret (v := msgV ⟨6, [], [], sl, sh, [], [], n8⟩) (by simp [results, Try.results28, go_sem, d0, d1, d2, d3, d4, d5, d6, d7]; rfl) rfl ⟨by rw [Hm.out], ?_⟩
              exact (((((((HG.out.setCell (Nat.le_succ _) _).setCell (Nat.le_succ _) _).setCell (Nat.le_succ _) _).setCell (Nat.le_succ _) _).setCell (Nat.le_succ _) _).setCell (Nat.le_succ _) _).setCell (Nat.le_succ _) _).setCell (Nat.le_succ _) _

end Go.Proofs.Ythpajecigkfajaa
namespace Go.Proofs.Ythpajecigkfajaa
open Go.RowKit Go.Sort
set_option linter.unusedVariables false

/-- Three bytes that describe a pair. -/
abbrev Rw := Nat × Nat × Nat
def SmallR (x : Rw) : Prop := x.1 < 256 ∧ x.2.1 < 256 ∧ x.2.2 < 256
def IsRaws (w : World) (v : Value) (l : List Rw) : Prop :=
  ∃ a cap, v = .slice a l.length cap ∧ l.length ≤ cap ∧ cap ≤ maxLen ∧ (∀ x ∈ l, SmallR x) ∧ (l ≠ [] → ∃ b off, a = some ⟨b, off, none⟩ ∧ b < w.heap.size ∧
    ∀ i (h : i < l.length), w.cell? ⟨b, off + i * 3, none⟩ = some (.int .u8 l[i].1) ∧ w.cell? ⟨b, off + i * 3 + 1, none⟩ = some (.int .u8 l[i].2.1) ∧ w.cell? ⟨b, off + i * 3 + 2, none⟩ = some (.int .u8 l[i].2.2))
theorem IsRaws.below {w w' : World} {v : Value} {l : List Rw} (h : IsRaws w v l) (hb : Below w.heap.size w w') : IsRaws w' v l := by
  obtain ⟨a, cap, h1, h2, h3, h5, h4⟩ := h
  refine ⟨a, cap, h1, h2, h3, h5, fun hl => ?_⟩
  obtain ⟨b, off, e, hlt, hc⟩ := h4 hl
  exact ⟨b, off, e, Nat.lt_of_lt_of_le hlt hb.size, fun i hi => ⟨by rw [hb.cell (by exact hlt)]; exact (hc i hi).1, by rw [hb.cell (by exact hlt)]; exact (hc i hi).2.1, by rw [hb.cell (by exact hlt)]; exact (hc i hi).2.2⟩⟩
theorem IsRaws.form {w : World} {v : Value} {l : List Rw} (h : IsRaws w v l) : ∃ b off cap a, v = .slice a l.length cap ∧ l.length ≤ cap ∧ cap ≤ maxLen ∧ (l ≠ [] → a = some ⟨b, off, none⟩ ∧ b < w.heap.size) ∧
    ∀ i (h : i < l.length), a = some ⟨b, off, none⟩ ∧ w.cell? ⟨b, off + i * 3, none⟩ = some (.int .u8 l[i].1) ∧ w.cell? ⟨b, off + i * 3 + 1, none⟩ = some (.int .u8 l[i].2.1) ∧ w.cell? ⟨b, off + i * 3 + 2, none⟩ = some (.int .u8 l[i].2.2) := by
  obtain ⟨a, cap, h1, h2, h3, h5, h4⟩ := h
  by_cases hl : l = []
  · subst hl; exact ⟨0, 0, cap, a, h1, h2, h3, fun h => absurd rfl h, fun i hi => absurd hi (by simp)⟩
  · obtain ⟨b, off, e, hlt, hc⟩ := h4 hl
    exact ⟨b, off, cap, a, h1, h2, h3, fun _ => ⟨e, hlt⟩, fun i hi => ⟨e, hc i hi⟩⟩
theorem IsRaws.small {w : World} {v : Value} {l : List Rw} (h : IsRaws w v l) : ∀ x ∈ l, SmallR x := by
  obtain ⟨a, cap, h1, h2, h3, h5, h4⟩ := h; exact h5
def prS (x : Rw) : Pr := (keyS x.1, valS x.2.1, (x.2.2 % 8 : Nat))
def foldR (l : List Rw) : List Pr := l.foldl (fun t x => putS (prS x) t) []
theorem foldR_snoc (l : List Rw) (x : Rw) : foldR (l ++ [x]) = putS (prS x) (foldR l) := by simp [foldR]
theorem foldR_take (l : List Rw) (k : Nat) (h : k < l.length) : foldR (l.take (k + 1)) = putS (prS l[k]) (foldR (l.take k)) := by
  rw [List.take_add_one, List.getElem?_eq_getElem h]; exact foldR_snoc _ _
theorem srt_foldR : ∀ l, Srt (foldR l) := by
  intro l
  suffices ∀ t, Srt t → Srt (l.foldl (fun t x => putS (prS x) t) t) from this [] srt_nil
  induction l with
  | nil => intro t h; exact h
  | cons x l ih => intro t h; exact ih _ (srt_put _ h)
theorem foldR_len : ∀ l, (foldR l).length ≤ l.length := by
  intro l
  suffices ∀ t : List Pr, (l.foldl (fun t x => putS (prS x) t) t).length ≤ t.length + l.length from by have := this []; simp only [List.length_nil, Nat.zero_add] at this; exact this
  induction l with
  | nil => intro t; simp
  | cons x l ih => intro t; have := ih (putS (prS x) t); have := put_length (prS x) t; simp; omega
theorem foldR_mem {l : List Rw} {y : Pr} (h : y ∈ foldR l) : ∃ x ∈ l, y = prS x := by
  suffices ∀ t : List Pr, y ∈ l.foldl (fun t x => putS (prS x) t) t → y ∈ t ∨ ∃ x ∈ l, y = prS x from by
    rcases this [] h with h | h
    · cases h
    · exact h
  induction l with
  | nil => intro t h; exact .inl h
  | cons x l ih =>
    intro t h2
    have ih' : ∀ t : List Pr, y ∈ l.foldl (fun t x => putS (prS x) t) t → y ∈ t ∨ ∃ x ∈ l, y = prS x := by
      intro t
      clear ih h h2
      induction l generalizing t with
      | nil => intro h; exact .inl h
      | cons z l ih2 =>
        intro h
        rcases ih2 (putS (prS z) t) h with h | ⟨q, h3, h4⟩
        · rcases (mem_put _ _ _).1 h with rfl | ⟨h5, -⟩
          · exact .inr ⟨z, by simp, rfl⟩
          · exact .inl h5
        · exact .inr ⟨q, by simp [h3], h4⟩
    rcases ih' _ h2 with h3 | ⟨q, h3, h4⟩
    · rcases (mem_put _ _ _).1 h3 with rfl | ⟨h5, -⟩
      · exact .inr ⟨x, by simp, rfl⟩
      · exact .inl h5
    · exact .inr ⟨q, by simp [h3], h4⟩
/-- The table that is described. -/
def tableS (l : List Rw) (n : Nat) : List Pr := foldR (l.take n)
theorem prS_small (x : Rw) : (prS x).1.length ≤ 20 ∧ (prS x).2.1.length ≤ 10 := ⟨by have := key_len x.1; show (keyS x.1).length ≤ 20; omega, val_len _⟩
theorem srt_table (l : List Rw) (n : Nat) : Srt (tableS l n) := srt_foldR _
theorem table_len (l : List Rw) (n : Nat) : (tableS l n).length ≤ n := Nat.le_trans (foldR_len _) (by rw [List.length_take]; omega)
theorem table_small {l : List Rw} {n : Nat} : ∀ x ∈ tableS l n, x.1.length ≤ 20 ∧ x.2.1.length ≤ 10 := by
  intro x hx
  obtain ⟨y, -, rfl⟩ := foldR_mem hx
  exact prS_small y

end Go.Proofs.Ythpajecigkfajaa
namespace Go.Proofs.Ythpajecigkfajaa
open Go.ChangeShapes Go.WideShapes Go.ChangeAt Go.RowKit Go.Deep
open Go.ChangeMaps (open_string shut_string)
set_option linter.unusedVariables false
set_option maxRecDepth 100000

theorem ownNone : ownKnob Try.prog.godebug = none := by kernel_rfl
theorem laidOutA : laidOutB Try.prog = true := by kernel_rfl

/-- Six bytes that describe a message, two times six. -/
abbrev R6 := Nat × Nat × Nat × Nat × Nat × Nat
def rawA (x : R6) : Array Value := raw6 x.1 x.2.1 x.2.2.1 x.2.2.2.1 x.2.2.2.2.1 x.2.2.2.2.2
def madeX (x : R6) : Ms := madeM x.1 x.2.1 x.2.2.1 x.2.2.2.1 x.2.2.2.2.1 x.2.2.2.2.2
def SmallX (x : R6) : Prop := Small6 x.1 x.2.1 x.2.2.1 x.2.2.2.1 x.2.2.2.2.1 x.2.2.2.2.2
def IsRaw6 (_w : World) (v : Value) (x : R6) : Prop := v = .agg (rawA x) ∧ SmallX x
def IsRaw6x2 (_w : World) (v : Value) (x : R6 × R6) : Prop := v = .agg (rawA x.1 ++ rawA x.2) ∧ SmallX x.1 ∧ SmallX x.2

section
variable {H : Type} {enc : TypeId × Value → H} {W : World} {base : Nat} {r : Reach} {v : Value} {d : DataW H} {p : List MemPlace}

theorem array6 {α : Type} {cs : Array α} (h : cs.size = 6) : ∃ c0 c1 c2 c3 c4 c5, cs = #[c0, c1, c2, c3, c4, c5] := by
  obtain ⟨l⟩ := cs
  match l, h with
  | [a, b, c, d, e, f], _ => exact ⟨a, b, c, d, e, f, rfl⟩
theorem array12 {α : Type} {cs : Array α} (h : cs.size = 12) : ∃ c0 c1 c2 c3 c4 c5 c6 c7 c8 c9 c10 c11, cs = #[c0, c1, c2, c3, c4, c5, c6, c7, c8, c9, c10, c11] := by
  obtain ⟨l⟩ := cs
  match l, h with
  | [a, b, c, d, e, f, g, h, i, j, k, l], _ => exact ⟨a, b, c, d, e, f, g, h, i, j, k, l, rfl⟩
theorem cellsU8 : Try.prog.cellsOf 5 = 1 := by kernel_rfl
theorem okWide_arr {n : Nat} {e t : TypeId} (ht : Try.prog.underlying t = some (.array n e)) (h : Value.okWide Try.prog W r base t v) : ∃ cs, v = .agg cs ∧ cs.size = Try.prog.cellsOf t := by
  simp only [Value.okWide, ht] at h
  obtain ⟨cs, h1, h2, _⟩ := h
  exact ⟨cs, h1, h2⟩
theorem one_u8 {fuel : Nat} {c : Value} {y : DataW H × List MemPlace} (h : DataW.trod enc Try.prog W 0 (fun _ => true) true fuel 5 [c] = some y) : ∃ n : Nat, c = .int .u8 n ∧ n < 256 := by
  obtain ⟨n, e, _, hn⟩ := DataW.trod_int Try.underlying5 h
  simp only [List.cons.injEq, and_true] at e
  have hb := bounds_u8 hn
  exact ⟨n.toNat, by rw [e, Int.toNat_of_nonneg hb.1], by omega⟩
theorem elem_three {fuel : Nat} {cs : List Value} {y : DataW H × List MemPlace} (h : DataW.trod enc Try.prog W 0 (fun _ => true) true fuel 30 cs = some y) (hl : cs.length = 3) :
    ∃ x : Rw, cs = [.int .u8 x.1, .int .u8 x.2.1, .int .u8 x.2.2] ∧ SmallR x := by
  obtain ⟨xs, m, _, _, _, hx, hi⟩ := DataW.trod_array Try.underlying30 h
  match cs, hl with
  | [c0, c1, c2], _ =>
    match xs, hx with
    | [y0, y1, y2], _ =>
      have g0 := hi 0 (by omega)
      have g1 := hi 1 (by omega)
      have g2 := hi 2 (by omega)
      rw [cellsU8] at g0 g1 g2
      simp at g0 g1 g2
      obtain ⟨a0, rfl, h0⟩ := one_u8 g0
      obtain ⟨a1, rfl, h1⟩ := one_u8 g1
      obtain ⟨a2, rfl, h2⟩ := one_u8 g2
      exact ⟨(a0, a1, a2), rfl, h0, h1, h2⟩
theorem elem_six {fuel : Nat} {cs : List Value} {y : DataW H × List MemPlace} (h : DataW.trod enc Try.prog W 0 (fun _ => true) true fuel 81 cs = some y) (hl : cs.length = 6) :
    ∃ x : R6, cs = (rawA x).toList ∧ SmallX x := by
  obtain ⟨xs, m, _, _, _, hx, hi⟩ := DataW.trod_array Try.underlying81 h
  match cs, hl with
  | [c0, c1, c2, c3, c4, c5], _ =>
    match xs, hx with
    | [y0, y1, y2, y3, y4, y5], _ =>
      have g0 := hi 0 (by omega)
      have g1 := hi 1 (by omega)
      have g2 := hi 2 (by omega)
      have g3 := hi 3 (by omega)
      have g4 := hi 4 (by omega)
      have g5 := hi 5 (by omega)
      rw [cellsU8] at g0 g1 g2 g3 g4 g5
      simp at g0 g1 g2 g3 g4 g5
      obtain ⟨a0, rfl, h0⟩ := one_u8 g0
      obtain ⟨a1, rfl, h1⟩ := one_u8 g1
      obtain ⟨a2, rfl, h2⟩ := one_u8 g2
      obtain ⟨a3, rfl, h3⟩ := one_u8 g3
      obtain ⟨a4, rfl, h4⟩ := one_u8 g4
      obtain ⟨a5, rfl, h5⟩ := one_u8 g5
      exact ⟨(a0, a1, a2, a3, a4, a5), rfl, h0, h1, h2, h3, h4, h5⟩
theorem open_raw6 (hval : Value.okWide Try.prog W r base 81 v) (hd : DataW.Trod enc Try.prog W 0 (fun _ => true) true 81 v d p) : ∃ x, IsRaw6 W v x := by
  obtain ⟨cs, rfl, hsz⟩ := okWide_arr Try.underlying81 hval
  obtain ⟨c0, c1, c2, c3, c4, c5, rfl⟩ := array6 (hsz.trans (by kernel_rfl))
  obtain ⟨fuel, hf⟩ := hd
  have hf' : DataW.trod enc Try.prog W 0 (fun _ => true) true fuel 81 [c0, c1, c2, c3, c4, c5] = some (d, p) := by simpa [Value.cells] using hf
  obtain ⟨x, e, hs⟩ := elem_six hf' rfl
  exact ⟨x, by rw [show (#[c0, c1, c2, c3, c4, c5] : Array Value) = [c0, c1, c2, c3, c4, c5].toArray from rfl, e], hs⟩
theorem rows_raw {a : Addr} : ∀ n : Nat, (∀ i, i < n → ∃ x : Rw, (W.cell? (a.add (i * 3)) = some (.int .u8 x.1) ∧ W.cell? (a.add (i * 3 + 1)) = some (.int .u8 x.2.1) ∧ W.cell? (a.add (i * 3 + 2)) = some (.int .u8 x.2.2)) ∧ SmallR x) →
    ∃ l : List Rw, l.length = n ∧ (∀ x ∈ l, SmallR x) ∧ ∀ i (h : i < l.length), W.cell? (a.add (i * 3)) = some (.int .u8 l[i].1) ∧ W.cell? (a.add (i * 3 + 1)) = some (.int .u8 l[i].2.1) ∧ W.cell? (a.add (i * 3 + 2)) = some (.int .u8 l[i].2.2)
  | 0, _ => ⟨[], rfl, fun x hx => by simp at hx, fun i h => absurd h (by simp)⟩
  | n + 1, h => by
    obtain ⟨l, hl, hs, hc⟩ := rows_raw n (fun i hi => h i (by omega))
    obtain ⟨x, h1, h2⟩ := h n (by omega)
    refine ⟨l ++ [x], by simp [hl], fun z hz => ?_, fun i hi => ?_⟩
    · rcases List.mem_append.1 hz with hz | hz
      · exact hs z hz
      · simp at hz; subst hz; exact h2
    · by_cases hin : i < l.length
      · rw [List.getElem_append_left hin]; exact hc i hin
      · have : i = n := by simp at hi; omega
        subst this
        rw [List.getElem_append_right (by omega)]
        simp [hl]
        exact h1
end

end Go.Proofs.Ythpajecigkfajaa
