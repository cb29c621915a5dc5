/-
  Walks of reference 04, for the laws of package trace: the choice of spans.
-/
import Derived.Test.YthncnijkgkeohaaGreatIC
namespace Go.Proofs.YthncnijkgkeohaaGreat
namespace T4
open Go.RowKit Go.Sort
set_option linter.unusedVariables false

set_option maxRecDepth 100000 in
set_option maxHeartbeats 2000000 in
theorem prefix4_w (n : Nat) (w : World) (hn : n < 256) : Calls Tryz.prog 41 #[.int .u8 n] w fun e w' => e = .returned (.string (Str (prefS n))) ∧ Below w.heap.size w w' := by
  have Hp : Hid (prefS n = preL.getD (n % 6) []) := Lib.hid rfl
  have hm : n % 6 < 6 := Nat.mod_lt _ (by omega)
  have hz : (n : Int) % 6 = ((n % 6 : Nat) : Int) := by omega
  have h1 : (w.alloc (.cells #[.string ⟨#[]⟩, .string ⟨#[97, 47]⟩, .string ⟨#[98, 47]⟩, .string ⟨#[97, 47, 98, 47]⟩, .string ⟨#[97, 47, 2]⟩, .string ⟨#[99, 47]⟩] 9)).cell? ⟨w.heap.size, n % 6, none⟩ = _ := strs_cell preL 9 (n % 6) hm rfl
  generalize n % 6 = m at *
  generalize preL.getD m [] = r at *
  have hn' : (n : Int) < 256 := by omega
  have hm' : (m : Int) < 6 := by omega
  have hm0 : (0 : Int) ≤ (m : Int) := by omega
  clear hn
  go_enter Tryz.func41, Tryz.ntmps41
  go_wp2
  go_ret
  exact ⟨by rw [Hp.out]; rfl, below_box _⟩

def spanS (a b : Nat) : Sp :=
  (if 200 ≤ a then prefS a else keyS a, if 240 ≤ b then [] else if 200 ≤ b then (if 200 ≤ a then prefS a else keyS a) ++ [0] else keyS b)
theorem prefS_len (n : Nat) : (prefS n).length ≤ 20 := getD_len (L := preL) (b := 20) (by decide) _
/-- The second of two stores at one place. -/
theorem setCell_twice (W : World) (p : Addr) (u v : Value) : (W.setCell p u).setCell p v = W.setCell p v := by
  unfold World.setCell
  simp only
  congr 1
  apply Array.ext
  · simp
  · intro i h1 h2
    simp only [Array.getElem_modify]
    split
    · cases W.heap[i]'(by simpa using h2) <;> simp
      by_cases h : p.spot.isSome = true <;> simp [h]
    · rfl
/-- Where Span stands: its two bytes, its result, its span. -/
structure SpSt (w : World) (a b n : Nat) (x y : Bs) (wx : World) : Prop where
  lt : w.heap.size + 1 < n
  s : Blk wx n 29 #[.string (Str x), .string (Str y)]
  k : Blk wx w.heap.size 31 #[.int .u8 a, .int .u8 b]
  r : Blk wx (w.heap.size + 1) 29 #[.string ⟨#[]⟩, .string ⟨#[]⟩]
  b : Below w.heap.size w wx
theorem SpSt.two {w wx : World} {a b n : Nat} {x y : Value} (p q : Bs) (lt : w.heap.size + 1 < n) (hz : Blk wx n 29 #[x, y]) (hA : Blk wx w.heap.size 31 #[.int .u8 a, .int .u8 b] ∧ Blk wx (w.heap.size + 1) 29 #[.string ⟨#[]⟩, .string ⟨#[]⟩] ∧ Below w.heap.size w wx) :
    SpSt w a b n p q ((wx.setCell ⟨n, 0, none⟩ (.string (Str p))).setCell ⟨n, 1, none⟩ (.string (Str q))) where
  lt := lt
  s := (hz.setCell 0 _).setCell 1 _
  k := (hA.1.setCell_other (by omega) _ _).setCell_other (by omega) _ _
  r := (hA.2.1.setCell_other (by omega) _ _).setCell_other (by omega) _ _
  b := (hA.2.2.setCell (by show _ ≤ n; omega) _).setCell (by show _ ≤ n; omega) _
theorem SpSt.new {w wx : World} {a b : Nat} (p q : Bs) (lt : w.heap.size + 1 < wx.heap.size) (hA : Blk wx w.heap.size 31 #[.int .u8 a, .int .u8 b] ∧ Blk wx (w.heap.size + 1) 29 #[.string ⟨#[]⟩, .string ⟨#[]⟩] ∧ Below w.heap.size w wx) :
    SpSt w a b wx.heap.size p q (wx.alloc (.cells #[.string (Str p), .string (Str q)] 29)) where
  lt := lt
  s := Blk.new _ _ _
  k := hA.1.alloc _
  r := hA.2.1.alloc _
  b := hA.2.2.alloc hA.2.2.size _
theorem SpSt.below {w wx wy : World} {a b n : Nat} {x y : Bs} (h : SpSt w a b n x y wx) (hb : Below wx.heap.size wx wy) : SpSt w a b n x y wy where
  lt := h.lt
  s := h.s.below hb h.s.lt
  k := h.k.below hb h.k.lt
  r := h.r.below hb h.r.lt
  b := h.b.trans (hb.mono h.b.size)
theorem SpSt.lo {w wx : World} {a b n : Nat} {x y : Bs} (h : SpSt w a b n x y wx) (p : Bs) : SpSt w a b n p y (wx.setCell ⟨n, 0, none⟩ (.string (Str p))) where
  lt := h.lt
  s := h.s.setCell 0 _
  k := h.k.setCell_other (by have := h.lt; omega) _ _
  r := h.r.setCell_other (by have := h.lt; omega) _ _
  b := h.b.setCell (by have := h.lt; show _ ≤ n; omega) _
theorem SpSt.hi {w wx : World} {a b n : Nat} {x y : Bs} (h : SpSt w a b n x y wx) (p : Bs) : SpSt w a b n x p (wx.setCell ⟨n, 1, none⟩ (.string (Str p))) where
  lt := h.lt
  s := h.s.setCell 1 _
  k := h.k.setCell_other (by have := h.lt; omega) _ _
  r := h.r.setCell_other (by have := h.lt; omega) _ _
  b := h.b.setCell (by have := h.lt; show _ ≤ n; omega) _

set_option maxRecDepth 100000 in
set_option maxHeartbeats 4000000 in
theorem span_w (a b : Nat) (w : World) (ha : a < 256) (hb : b < 256) :
    Calls Tryz.prog 12 #[.agg #[.int .u8 a, .int .u8 b]] w fun e w' => e = .returned (.agg #[.string (Str (spanS a b).1), .string (Str (spanS a b).2)]) ∧ Below w.heap.size w w' := by
  have hka := Lib.hid (fun wx => key_w a wx ha)
  have hkb := Lib.hid (fun wx => key_w b wx hb)
  have hpa := Lib.hid (fun wx => prefix4_w a wx ha)
  have H : Hid (spanS a b = (if 200 ≤ a then prefS a else keyS a, if 240 ≤ b then [] else if 200 ≤ b then (if 200 ≤ a then prefS a else keyS a) ++ [0] else keyS b)) := Lib.hid rfl
  have l1 := keyS_len a
  have l2 := keyS_len b
  have l3 := prefS_len a
  generalize keyS a = ra at *
  generalize keyS b = rb at *
  generalize prefS a = rp at *
  generalize spanS a b = sp at *
  obtain ⟨wa, hwa⟩ : ∃ wa, wa = (w.alloc (.cells #[.int .u8 a, .int .u8 b] 31)).alloc (.cells #[.string ⟨#[]⟩, .string ⟨#[]⟩] 29) := ⟨_, rfl⟩
  have HK : Hid (Blk wa w.heap.size 31 #[.int .u8 a, .int .u8 b]) := Lib.hid (by rw [hwa]; exact (Blk.new _ _ _).alloc _)
  have HR : Hid (Blk wa (w.heap.size + 1) 29 #[.string ⟨#[]⟩, .string ⟨#[]⟩]) := Lib.hid (by rw [hwa]; exact Blk.new' _ _ _ (by simp))
  have Hb0 : Hid (Below w.heap.size w wa) := Lib.hid (by rw [hwa]; exact (below_box _).alloc (by simp) _)
  have hza : (a : Int) < 256 := by omega
  have hzb : (b : Int) < 256 := by omega
  go_enter Tryz.func12, Tryz.ntmps12
  go_wp2_with fail
  rw [← hwa]
  have c0 := HK.out.c0 0 _ rfl
  have c1 := HK.out.c0 1 _ rfl
  have hltk := HK.out.lt
  have hltr := HR.out.lt
  clear hwa
  go_cut [3] (fun s3 wx => ∃ n, s3 = .pointer (some ⟨n, 0, none⟩) ∧ Hid (SpSt w a b n ra rb wx))
  case first =>
    have HA : Hid (∀ wx, Below wa.heap.size wa wx → Blk wx w.heap.size 31 #[.int .u8 a, .int .u8 b] ∧ Blk wx (w.heap.size + 1) 29 #[.string ⟨#[]⟩, .string ⟨#[]⟩] ∧ Below w.heap.size w wx) := Lib.hid (fun wx h => ⟨HK.out.below h HK.out.lt, HR.out.below h HR.out.lt, Hb0.out.trans (h.mono Hb0.out.size)⟩)
    have hne0 : w.heap.size ≠ wa.heap.size := by omega
    have hne0' : ¬ wa.heap.size = w.heap.size := by omega
    go_region_held3 (fun wr => wr.cell? ⟨w.heap.size, 0, none⟩ = some (.int .u8 a) ∧ wr.cell? ⟨w.heap.size, 1, none⟩ = some (.int .u8 b)) (go_keep)
      (first
        | (go_at_call_of 23 (Value.int IntKind.u8 (a : Int)); refine (hka.out _).mono ?_; rintro e w1 ⟨rfl, hb1⟩; have NB : Below wa.heap.size wa w1 := (show Below wa.heap.size wa wa.drew from (Below.refl _ _).drew).trans hb1; obtain ⟨hk2, hr2, -⟩ := HA.out _ NB; have d0 := hk2.c0 0 _ rfl; have d1 := hk2.c0 1 _ rfl; clear hk2 hr2; have hne1 : w.heap.size ≠ w1.heap.size := Nat.ne_of_lt (Nat.lt_of_lt_of_le hltk NB.size); have hne1' : ¬ w1.heap.size = w.heap.size := fun h => hne1 h.symm; have NB1 := Lib.hid NB; clear NB hb1)
        | (go_at_call_of 23 (Value.int IntKind.u8 (a : Int)); refine (hka.out _).mono ?_; rintro e w1 ⟨rfl, hb1⟩; have NB : Below wa.heap.size wa w1 := (show Below wa.heap.size wa (wa.alloc (.cells #[.string ⟨#[]⟩, .string ⟨#[]⟩] 29)).drew from ((Below.refl _ _).alloc (Nat.le_refl _) _).drew).trans (hb1.mono (by simp)); obtain ⟨hk2, hr2, -⟩ := HA.out _ NB; have d0 := hk2.c0 0 _ rfl; have d1 := hk2.c0 1 _ rfl; clear hk2 hr2; have hz2 : Blk w1 wa.heap.size 29 #[.string ⟨#[]⟩, .string ⟨#[]⟩] := Blk.below (show Blk (wa.alloc (.cells #[.string ⟨#[]⟩, .string ⟨#[]⟩] 29)).drew _ _ _ from Blk.new _ _ _) hb1 (by simp); have z0 := hz2.c0 0 _ rfl; have z1 := hz2.c0 1 _ rfl; have y0 := hz2.free 0; have y1 := hz2.free 1; have hzlt := hz2.lt; have Hz2 := Lib.hid hz2; have HzA := Hz2; have hne1 : w.heap.size ≠ w1.heap.size := Nat.ne_of_lt (Nat.lt_of_lt_of_le hltk NB.size); have hne1' : ¬ w1.heap.size = w.heap.size := fun h => hne1 h.symm; have NB1 := Lib.hid NB; clear NB hb1 hz2 Hz2)
        | (go_at_call 23; refine (hkb.out _).mono ?_; rintro e w2 ⟨rfl, hb2⟩; have hb2' : Below w1.heap.size w1 w2 := (by with_reducible exact hb2); have NB : Below wa.heap.size wa w2 := NB1.out.trans (hb2'.mono NB1.out.size); have hz2 := HzA.out.below hb2' HzA.out.lt; clear hb2'; have z0 := hz2.c0 0 _ rfl; have z1 := hz2.c0 1 _ rfl; have y0 := hz2.free 0; have y1 := hz2.free 1; have hzlt := hz2.lt; have Hz2 := Lib.hid hz2; obtain ⟨hk2, hr2, -⟩ := HA.out _ NB; have d0 := hk2.c0 0 _ rfl; have d1 := hk2.c0 1 _ rfl; clear hk2 hr2; have NB2 := Lib.hid NB; clear NB hb2 hz2)
        | (go_at_call 23; refine (hkb.out _).mono ?_; rintro e w2 ⟨rfl, hb2⟩; have hb2' : Below w1.heap.size w1 w2 := (by with_reducible exact hb2); have NB : Below wa.heap.size wa w2 := NB1.out.trans (hb2'.mono NB1.out.size); clear hb2'; obtain ⟨hk2, hr2, -⟩ := HA.out _ NB; have d0 := hk2.c0 0 _ rfl; have d1 := hk2.c0 1 _ rfl; clear hk2 hr2; have NB2 := Lib.hid NB; clear NB hb2)
        | (go_at_call 23; refine (hkb.out _).mono ?_; rintro e w2 ⟨rfl, hb2⟩; have NB : Below wa.heap.size wa w2 := NB1.out.trans ((show Below w1.heap.size w1 (w1.alloc (.cells #[.string ⟨#[]⟩, .string ⟨#[]⟩] 29)) from below_box _).mono NB1.out.size |>.trans ((show Below (w1.alloc (.cells #[.string ⟨#[]⟩, .string ⟨#[]⟩] 29)).heap.size (w1.alloc (.cells #[.string ⟨#[]⟩, .string ⟨#[]⟩] 29)) w2 from hb2).mono (by have := NB1.out.size; simp; omega))); have hz2 : Blk w2 w1.heap.size 29 #[.string ⟨#[]⟩, .string ⟨#[]⟩] := Blk.below (show Blk (w1.alloc (.cells #[.string ⟨#[]⟩, .string ⟨#[]⟩] 29)) _ _ _ from Blk.new _ _ _) hb2 (by simp); have z0 := hz2.c0 0 _ rfl; have z1 := hz2.c0 1 _ rfl; have y0 := hz2.free 0; have y1 := hz2.free 1; have hzlt := hz2.lt; have Hz2 := Lib.hid hz2; obtain ⟨hk2, hr2, -⟩ := HA.out _ NB; have d0 := hk2.c0 0 _ rfl; have d1 := hk2.c0 1 _ rfl; clear hk2 hr2; have NB2 := Lib.hid NB; clear NB hb2 hz2))
    all_goals
      go_wp2_with fail
      go_meet
      first
        | exact ⟨w1.heap.size, rfl, Lib.hid (SpSt.two ra rb (Nat.lt_of_lt_of_le hltr NB1.out.size) Hz2.out (HA.out _ NB2.out))⟩
        | exact ⟨wa.heap.size, rfl, Lib.hid (SpSt.two ra rb hltr Hz2.out (HA.out _ NB2.out))⟩
        | exact ⟨w2.heap.size, rfl, Lib.hid (SpSt.new ra rb (Nat.lt_of_lt_of_le hltr NB2.out.size) (HA.out _ NB2.out))⟩
  case rest =>
    obtain ⟨n, rfl, HS⟩ := hcut
    clear c0 c1 hltk hltr HK HR Hb0 hka hkb
    have hlt := HS.out.lt
    have hne : n ≠ w.heap.size + 1 := by omega
    have k0 := HS.out.k.c0 0 _ rfl
    have k1 := HS.out.k.c0 1 _ rfl
    have hss := setCell_twice
    have hle1 : w.heap.size ≤ n := by omega
    have hle2 : w.heap.size ≤ w.heap.size + 1 := Nat.le_succ _
    have hne2 : n ≠ w.heap.size := by omega
    have hsum1 : ¬ 9223372036854775807 < ra.length + 1 := by omega
    have hsum2 : ¬ 9223372036854775807 < rp.length + 1 := by omega
    by_cases h1 : 200 ≤ a
    · have h1z : (200 : Int) ≤ (a : Int) := by omega
      rw [if_pos h1] at H
      clear h1
      by_cases h4 : 240 ≤ b
      · have h4z : (240 : Int) ≤ (b : Int) := by omega
        have h2z : (200 : Int) ≤ (b : Int) := by omega
        rw [if_pos h4] at H
        clear h4
        go_wp2_with fail
        refine (hpa.out _).mono ?_
        rintro e w3 ⟨rfl, hb3⟩
        have HS3 := Lib.hid (HS.out.below hb3)
        clear k0 k1 hb3
        have s0 := HS3.out.s.c0 0 _ rfl
        have s1 := HS3.out.s.c0 1 _ rfl
        have f0 := HS3.out.s.free 0
        have f1 := HS3.out.s.free 1
        have k0 := HS3.out.k.c0 0 _ rfl
        have k1 := HS3.out.k.c0 1 _ rfl
        have r0 := HS3.out.r.c0 0 _ rfl
        have r1 := HS3.out.r.c0 1 _ rfl
        have q0 := HS3.out.r.free 0
        have q1 := HS3.out.r.free 1
        simp at s0 s1 k0 k1 r0 r1
        go_wp2
        refine bodyPost_ret (v := .agg #[.string (Str rp), .string (Str [])]) (by simp [results, Tryz.results12, go_sem, r0, r1]; try (first | rfl | exact Str_add _ [0])) rfl ⟨by rw [H.out], ?_⟩
        repeat (first | with_reducible exact HS3.out.b | refine Below.setCell ?_ hle1 _ | refine Below.setCell ?_ hle2 _)
      · rw [if_neg h4] at H
        have h4z : (b : Int) < 240 := by omega
        clear h4
        by_cases h2 : 200 ≤ b
        · have h2z : (200 : Int) ≤ (b : Int) := by omega
          rw [if_pos h2] at H
          clear h2
          go_wp2_with fail
          refine (hpa.out _).mono ?_
          rintro e w3 ⟨rfl, hb3⟩
          have HS3 := Lib.hid (HS.out.below hb3)
          clear k0 k1 hb3
          have s0 := HS3.out.s.c0 0 _ rfl
          have s1 := HS3.out.s.c0 1 _ rfl
          have f0 := HS3.out.s.free 0
          have f1 := HS3.out.s.free 1
          have k0 := HS3.out.k.c0 0 _ rfl
          have k1 := HS3.out.k.c0 1 _ rfl
          have r0 := HS3.out.r.c0 0 _ rfl
          have r1 := HS3.out.r.c0 1 _ rfl
          have q0 := HS3.out.r.free 0
          have q1 := HS3.out.r.free 1
          simp at s0 s1 k0 k1 r0 r1
          go_wp2
          refine bodyPost_ret (v := .agg #[.string (Str rp), .string (Str (rp ++ [0]))]) (by simp [results, Tryz.results12, go_sem, r0, r1]; try (first | rfl | exact Str_add _ [0])) rfl ⟨by rw [H.out], ?_⟩
          repeat (first | with_reducible exact HS3.out.b | refine Below.setCell ?_ hle1 _ | refine Below.setCell ?_ hle2 _)
        · have h2z : (b : Int) < 200 := by omega
          rw [if_neg h2] at H
          clear h2
          go_wp2_with fail
          refine (hpa.out _).mono ?_
          rintro e w3 ⟨rfl, hb3⟩
          have HS3 := Lib.hid (HS.out.below hb3)
          clear k0 k1 hb3
          have s0 := HS3.out.s.c0 0 _ rfl
          have s1 := HS3.out.s.c0 1 _ rfl
          have f0 := HS3.out.s.free 0
          have f1 := HS3.out.s.free 1
          have k0 := HS3.out.k.c0 0 _ rfl
          have k1 := HS3.out.k.c0 1 _ rfl
          have r0 := HS3.out.r.c0 0 _ rfl
          have r1 := HS3.out.r.c0 1 _ rfl
          have q0 := HS3.out.r.free 0
          have q1 := HS3.out.r.free 1
          simp at s0 s1 k0 k1 r0 r1
          go_wp2
          refine bodyPost_ret (v := .agg #[.string (Str rp), .string (Str rb)]) (by simp [results, Tryz.results12, go_sem, r0, r1]; try (first | rfl | exact Str_add _ [0])) rfl ⟨by rw [H.out], ?_⟩
          repeat (first | with_reducible exact HS3.out.b | refine Below.setCell ?_ hle1 _ | refine Below.setCell ?_ hle2 _)
    · have h1z : (a : Int) < 200 := by omega
      rw [if_neg h1] at H
      clear h1
      have s0 := HS.out.s.c0 0 _ rfl
      have s1 := HS.out.s.c0 1 _ rfl
      have f0 := HS.out.s.free 0
      have f1 := HS.out.s.free 1
      have k0 := HS.out.k.c0 0 _ rfl
      have k1 := HS.out.k.c0 1 _ rfl
      have r0 := HS.out.r.c0 0 _ rfl
      have r1 := HS.out.r.c0 1 _ rfl
      have q0 := HS.out.r.free 0
      have q1 := HS.out.r.free 1
      simp at s0 s1 k0 k1 r0 r1
      by_cases h4 : 240 ≤ b
      · have h4z : (240 : Int) ≤ (b : Int) := by omega
        have h2z : (200 : Int) ≤ (b : Int) := by omega
        rw [if_pos h4] at H
        clear h4
        go_wp2
        refine bodyPost_ret (v := .agg #[.string (Str ra), .string (Str [])]) (by simp [results, Tryz.results12, go_sem, r0, r1]; try (first | rfl | exact Str_add _ [0])) rfl ⟨by rw [H.out], ?_⟩
        repeat (first | with_reducible exact HS.out.b | refine Below.setCell ?_ hle1 _ | refine Below.setCell ?_ hle2 _)
      · rw [if_neg h4] at H
        have h4z : (b : Int) < 240 := by omega
        clear h4
        by_cases h2 : 200 ≤ b
        · have h2z : (200 : Int) ≤ (b : Int) := by omega
          rw [if_pos h2] at H
          clear h2
          go_wp2
          refine bodyPost_ret (v := .agg #[.string (Str ra), .string (Str (ra ++ [0]))]) (by simp [results, Tryz.results12, go_sem, r0, r1]; try (first | rfl | exact Str_add _ [0])) rfl ⟨by rw [H.out], ?_⟩
          repeat (first | with_reducible exact HS.out.b | refine Below.setCell ?_ hle1 _ | refine Below.setCell ?_ hle2 _)
        · have h2z : (b : Int) < 200 := by omega
          rw [if_neg h2] at H
          clear h2
          go_wp2
          refine bodyPost_ret (v := .agg #[.string (Str ra), .string (Str rb)]) (by simp [results, Tryz.results12, go_sem, r0, r1]; try (first | rfl | exact Str_add _ [0])) rfl ⟨by rw [H.out], ?_⟩
          repeat (first | with_reducible exact HS.out.b | refine Below.setCell ?_ hle1 _ | refine Below.setCell ?_ hle2 _)

end T4
end Go.Proofs.YthncnijkgkeohaaGreat
