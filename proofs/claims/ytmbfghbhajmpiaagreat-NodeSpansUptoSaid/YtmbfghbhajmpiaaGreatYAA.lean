/-
  Walks of the references 02, 04 and 05: which lists are the same; spans that are drawn.
-/
import Derived.Test.YtmbfghbhajmpiaaGreatGC
import Derived.Test.YtmbfghbhajmpiaaGreatRBA
import Derived.Test.YtmbfghbhajmpiaaGreatMT
namespace Go.Proofs.YtmbfghbhajmpiaaGreat
namespace T4
open Go.RowKit Go.Sort
set_option linter.unusedVariables false

set_option maxRecDepth 100000 in
set_option maxHeartbeats 2000000 in
theorem prefix4_w (n : Nat) (w : World) (hn : n < 256) : Calls Tryz.prog 60 #[.int .u8 n] w fun e w' => e = .returned (.string (Str (prefS n))) ∧ Below w.heap.size w w' := by
  have Hp : Hid (prefS n = preL.getD (n % 6) []) := Lib.hid rfl
  have hm : n % 6 < 6 := Nat.mod_lt _ (by omega)
  have hz : (n : Int) % 6 = ((n % 6 : Nat) : Int) := by omega
  have h1 : (w.alloc (.cells #[.string ⟨#[]⟩, .string ⟨#[97, 47]⟩, .string ⟨#[98, 47]⟩, .string ⟨#[97, 47, 98, 47]⟩, .string ⟨#[97, 47, 2]⟩, .string ⟨#[99, 47]⟩] 9)).cell? ⟨w.heap.size, n % 6, none⟩ = _ := strs_cell preL 9 (n % 6) hm rfl
  generalize n % 6 = m at *
  generalize preL.getD m [] = r at *
  have hn' : (n : Int) < 256 := by omega
  have hm' : (m : Int) < 6 := by omega
  have hm0 : (0 : Int) ≤ (m : Int) := by omega
  clear hn
  go_enter Tryz.func60, Tryz.ntmps60
  go_wp2
  go_ret
  exact ⟨by rw [Hp.out]; rfl, below_box _⟩

def spanS (a b : Nat) : Sp :=
  (if 200 ≤ a then prefS a else keyS a, if 240 ≤ b then [] else if 200 ≤ b then (if 200 ≤ a then prefS a else keyS a) ++ [0] else keyS b)
theorem prefS_len (n : Nat) : (prefS n).length ≤ 20 := getD_len (L := preL) (b := 20) (by decide) _
/-- The second of two stores at one place. -/
theorem setCell_twice (W : World) (p : Addr) (u v : Value) : (W.setCell p u).setCell p v = W.setCell p v := by
  unfold World.setCell
  simp only
  congr 1
  apply Array.ext
  · simp
  · intro i h1 h2
    simp only [Array.getElem_modify]
    split
    · cases W.heap[i]'(by simpa using h2) <;> simp
      by_cases h : p.spot.isSome = true <;> simp [h]
    · rfl
/-- Where Span stands: its two bytes, its result, its span. -/
structure SpSt (w : World) (a b n : Nat) (x y : Bs) (wx : World) : Prop where
  lt : w.heap.size + 1 < n
  s : Blk wx n 41 #[.string (Str x), .string (Str y)]
  k : Blk wx w.heap.size 43 #[.int .u8 a, .int .u8 b]
  r : Blk wx (w.heap.size + 1) 41 #[.string ⟨#[]⟩, .string ⟨#[]⟩]
  b : Below w.heap.size w wx
theorem SpSt.two {w wx : World} {a b n : Nat} {x y : Value} (p q : Bs) (lt : w.heap.size + 1 < n) (hz : Blk wx n 41 #[x, y]) (hA : Blk wx w.heap.size 43 #[.int .u8 a, .int .u8 b] ∧ Blk wx (w.heap.size + 1) 41 #[.string ⟨#[]⟩, .string ⟨#[]⟩] ∧ Below w.heap.size w wx) :
    SpSt w a b n p q ((wx.setCell ⟨n, 0, none⟩ (.string (Str p))).setCell ⟨n, 1, none⟩ (.string (Str q))) where
  lt := lt
  s := (hz.setCell 0 _).setCell 1 _
  k := (hA.1.setCell_other (by omega) _ _).setCell_other (by omega) _ _
  r := (hA.2.1.setCell_other (by omega) _ _).setCell_other (by omega) _ _
  b := (hA.2.2.setCell (by show _ ≤ n; omega) _).setCell (by show _ ≤ n; omega) _
theorem SpSt.new {w wx : World} {a b : Nat} (p q : Bs) (lt : w.heap.size + 1 < wx.heap.size) (hA : Blk wx w.heap.size 43 #[.int .u8 a, .int .u8 b] ∧ Blk wx (w.heap.size + 1) 41 #[.string ⟨#[]⟩, .string ⟨#[]⟩] ∧ Below w.heap.size w wx) :
    SpSt w a b wx.heap.size p q (wx.alloc (.cells #[.string (Str p), .string (Str q)] 41)) where
  lt := lt
  s := Blk.new _ _ _
  k := hA.1.alloc _
  r := hA.2.1.alloc _
  b := hA.2.2.alloc hA.2.2.size _
theorem SpSt.below {w wx wy : World} {a b n : Nat} {x y : Bs} (h : SpSt w a b n x y wx) (hb : Below wx.heap.size wx wy) : SpSt w a b n x y wy where
  lt := h.lt
  s := h.s.below hb h.s.lt
  k := h.k.below hb h.k.lt
  r := h.r.below hb h.r.lt
  b := h.b.trans (hb.mono h.b.size)
theorem SpSt.lo {w wx : World} {a b n : Nat} {x y : Bs} (h : SpSt w a b n x y wx) (p : Bs) : SpSt w a b n p y (wx.setCell ⟨n, 0, none⟩ (.string (Str p))) where
  lt := h.lt
  s := h.s.setCell 0 _
  k := h.k.setCell_other (by have := h.lt; omega) _ _
  r := h.r.setCell_other (by have := h.lt; omega) _ _
  b := h.b.setCell (by have := h.lt; show _ ≤ n; omega) _
theorem SpSt.hi {w wx : World} {a b n : Nat} {x y : Bs} (h : SpSt w a b n x y wx) (p : Bs) : SpSt w a b n x p (wx.setCell ⟨n, 1, none⟩ (.string (Str p))) where
  lt := h.lt
  s := h.s.setCell 1 _
  k := h.k.setCell_other (by have := h.lt; omega) _ _
  r := h.r.setCell_other (by have := h.lt; omega) _ _
  b := h.b.setCell (by have := h.lt; show _ ≤ n; omega) _

set_option maxRecDepth 100000 in
set_option maxHeartbeats 4000000 in
theorem span_w (a b : Nat) (w : World) (ha : a < 256) (hb : b < 256) :
    Calls Tryz.prog 15 #[.agg #[.int .u8 a, .int .u8 b]] w fun e w' => e = .returned (.agg #[.string (Str (spanS a b).1), .string (Str (spanS a b).2)]) ∧ Below w.heap.size w w' := by
  have hka := Lib.hid (fun wx => key_w a wx ha)
  have hkb := Lib.hid (fun wx => key_w b wx hb)
  have hpa := Lib.hid (fun wx => prefix4_w a wx ha)
  have H : Hid (spanS a b = (if 200 ≤ a then prefS a else keyS a, if 240 ≤ b then [] else if 200 ≤ b then (if 200 ≤ a then prefS a else keyS a) ++ [0] else keyS b)) := Lib.hid rfl
  have l1 := keyS_len a
  have l2 := keyS_len b
  have l3 := prefS_len a
  generalize keyS a = ra at *
  generalize keyS b = rb at *
  generalize prefS a = rp at *
  generalize spanS a b = sp at *
  obtain ⟨wa, hwa⟩ : ∃ wa, wa = (w.alloc (.cells #[.int .u8 a, .int .u8 b] 43)).alloc (.cells #[.string ⟨#[]⟩, .string ⟨#[]⟩] 41) := ⟨_, rfl⟩
  have HK : Hid (Blk wa w.heap.size 43 #[.int .u8 a, .int .u8 b]) := Lib.hid (by rw [hwa]; exact (Blk.new _ _ _).alloc _)
  have HR : Hid (Blk wa (w.heap.size + 1) 41 #[.string ⟨#[]⟩, .string ⟨#[]⟩]) := Lib.hid (by rw [hwa]; exact Blk.new' _ _ _ (by simp))
  have Hb0 : Hid (Below w.heap.size w wa) := Lib.hid (by rw [hwa]; exact (below_box _).alloc (by simp) _)
  have hza : (a : Int) < 256 := by omega
  have hzb : (b : Int) < 256 := by omega
  go_enter Tryz.func15, Tryz.ntmps15
  go_wp2_with fail
  rw [← hwa]
  have c0 := HK.out.c0 0 _ rfl
  have c1 := HK.out.c0 1 _ rfl
  have hltk := HK.out.lt
  have hltr := HR.out.lt
  clear hwa
  go_cut [3] (fun s3 wx => ∃ n, s3 = .pointer (some ⟨n, 0, none⟩) ∧ Hid (SpSt w a b n ra rb wx))
  case first =>
    have HA : Hid (∀ wx, Below wa.heap.size wa wx → Blk wx w.heap.size 43 #[.int .u8 a, .int .u8 b] ∧ Blk wx (w.heap.size + 1) 41 #[.string ⟨#[]⟩, .string ⟨#[]⟩] ∧ Below w.heap.size w wx) := Lib.hid (fun wx h => ⟨HK.out.below h HK.out.lt, HR.out.below h HR.out.lt, Hb0.out.trans (h.mono Hb0.out.size)⟩)
    have hne0 : w.heap.size ≠ wa.heap.size := by omega
    have hne0' : ¬ wa.heap.size = w.heap.size := by omega
    go_region_held3 (fun wr => wr.cell? ⟨w.heap.size, 0, none⟩ = some (.int .u8 a) ∧ wr.cell? ⟨w.heap.size, 1, none⟩ = some (.int .u8 b)) (go_keep)
      (first
        | (go_at_call_of 16 (Value.int IntKind.u8 (a : Int)); refine (hka.out _).mono ?_; rintro e w1 ⟨rfl, hb1⟩; have NB : Below wa.heap.size wa w1 := (show Below wa.heap.size wa wa.drew from (Below.refl _ _).drew).trans hb1; obtain ⟨hk2, hr2, -⟩ := HA.out _ NB; have d0 := hk2.c0 0 _ rfl; have d1 := hk2.c0 1 _ rfl; clear hk2 hr2; have hne1 : w.heap.size ≠ w1.heap.size := Nat.ne_of_lt (Nat.lt_of_lt_of_le hltk NB.size); have hne1' : ¬ w1.heap.size = w.heap.size := fun h => hne1 h.symm; have NB1 := Lib.hid NB; clear NB hb1)
        | (go_at_call_of 16 (Value.int IntKind.u8 (a : Int)); refine (hka.out _).mono ?_; rintro e w1 ⟨rfl, hb1⟩; have NB : Below wa.heap.size wa w1 := (show Below wa.heap.size wa (wa.alloc (.cells #[.string ⟨#[]⟩, .string ⟨#[]⟩] 41)).drew from ((Below.refl _ _).alloc (Nat.le_refl _) _).drew).trans (hb1.mono (by simp)); obtain ⟨hk2, hr2, -⟩ := HA.out _ NB; have d0 := hk2.c0 0 _ rfl; have d1 := hk2.c0 1 _ rfl; clear hk2 hr2; have hz2 : Blk w1 wa.heap.size 41 #[.string ⟨#[]⟩, .string ⟨#[]⟩] := Blk.below (show Blk (wa.alloc (.cells #[.string ⟨#[]⟩, .string ⟨#[]⟩] 41)).drew _ _ _ from Blk.new _ _ _) hb1 (by simp); have z0 := hz2.c0 0 _ rfl; have z1 := hz2.c0 1 _ rfl; have y0 := hz2.free 0; have y1 := hz2.free 1; have hzlt := hz2.lt; have Hz2 := Lib.hid hz2; have HzA := Hz2; have hne1 : w.heap.size ≠ w1.heap.size := Nat.ne_of_lt (Nat.lt_of_lt_of_le hltk NB.size); have hne1' : ¬ w1.heap.size = w.heap.size := fun h => hne1 h.symm; have NB1 := Lib.hid NB; clear NB hb1 hz2 Hz2)
        | (go_at_call 16; refine (hkb.out _).mono ?_; rintro e w2 ⟨rfl, hb2⟩; have hb2' : Below w1.heap.size w1 w2 := (by with_reducible exact hb2); have NB : Below wa.heap.size wa w2 := NB1.out.trans (hb2'.mono NB1.out.size); have hz2 := HzA.out.below hb2' HzA.out.lt; clear hb2'; have z0 := hz2.c0 0 _ rfl; have z1 := hz2.c0 1 _ rfl; have y0 := hz2.free 0; have y1 := hz2.free 1; have hzlt := hz2.lt; have Hz2 := Lib.hid hz2; obtain ⟨hk2, hr2, -⟩ := HA.out _ NB; have d0 := hk2.c0 0 _ rfl; have d1 := hk2.c0 1 _ rfl; clear hk2 hr2; have NB2 := Lib.hid NB; clear NB hb2 hz2)
        | (go_at_call 16; refine (hkb.out _).mono ?_; rintro e w2 ⟨rfl, hb2⟩; have hb2' : Below w1.heap.size w1 w2 := (by with_reducible exact hb2); have NB : Below wa.heap.size wa w2 := NB1.out.trans (hb2'.mono NB1.out.size); clear hb2'; obtain ⟨hk2, hr2, -⟩ := HA.out _ NB; have d0 := hk2.c0 0 _ rfl; have d1 := hk2.c0 1 _ rfl; clear hk2 hr2; have NB2 := Lib.hid NB; clear NB hb2)
        | (go_at_call 16; refine (hkb.out _).mono ?_; rintro e w2 ⟨rfl, hb2⟩; have NB : Below wa.heap.size wa w2 := NB1.out.trans ((show Below w1.heap.size w1 (w1.alloc (.cells #[.string ⟨#[]⟩, .string ⟨#[]⟩] 41)) from below_box _).mono NB1.out.size |>.trans ((show Below (w1.alloc (.cells #[.string ⟨#[]⟩, .string ⟨#[]⟩] 41)).heap.size (w1.alloc (.cells #[.string ⟨#[]⟩, .string ⟨#[]⟩] 41)) w2 from hb2).mono (by have := NB1.out.size; simp; omega))); have hz2 : Blk w2 w1.heap.size 41 #[.string ⟨#[]⟩, .string ⟨#[]⟩] := Blk.below (show Blk (w1.alloc (.cells #[.string ⟨#[]⟩, .string ⟨#[]⟩] 41)) _ _ _ from Blk.new _ _ _) hb2 (by simp); have z0 := hz2.c0 0 _ rfl; have z1 := hz2.c0 1 _ rfl; have y0 := hz2.free 0; have y1 := hz2.free 1; have hzlt := hz2.lt; have Hz2 := Lib.hid hz2; obtain ⟨hk2, hr2, -⟩ := HA.out _ NB; have d0 := hk2.c0 0 _ rfl; have d1 := hk2.c0 1 _ rfl; clear hk2 hr2; have NB2 := Lib.hid NB; clear NB hb2 hz2))
    all_goals
      go_wp2_with fail
      go_meet
      first
        | exact ⟨w1.heap.size, rfl, Lib.hid (SpSt.two ra rb (Nat.lt_of_lt_of_le hltr NB1.out.size) Hz2.out (HA.out _ NB2.out))⟩
        | exact ⟨wa.heap.size, rfl, Lib.hid (SpSt.two ra rb hltr Hz2.out (HA.out _ NB2.out))⟩
        | exact ⟨w2.heap.size, rfl, Lib.hid (SpSt.new ra rb (Nat.lt_of_lt_of_le hltr NB2.out.size) (HA.out _ NB2.out))⟩
  case rest =>
    obtain ⟨n, rfl, HS⟩ := hcut
    clear c0 c1 hltk hltr HK HR Hb0 hka hkb
    have hlt := HS.out.lt
    have hne : n ≠ w.heap.size + 1 := by omega
    have k0 := HS.out.k.c0 0 _ rfl
    have k1 := HS.out.k.c0 1 _ rfl
    have hss := setCell_twice
    have hle1 : w.heap.size ≤ n := by omega
    have hle2 : w.heap.size ≤ w.heap.size + 1 := Nat.le_succ _
    have hne2 : n ≠ w.heap.size := by omega
    have hsum1 : ¬ 9223372036854775807 < ra.length + 1 := by omega
    have hsum2 : ¬ 9223372036854775807 < rp.length + 1 := by omega
    by_cases h1 : 200 ≤ a
    · have h1z : (200 : Int) ≤ (a : Int) := by omega
      rw [if_pos h1] at H
      clear h1
      by_cases h4 : 240 ≤ b
      · have h4z : (240 : Int) ≤ (b : Int) := by omega
        have h2z : (200 : Int) ≤ (b : Int) := by omega
        rw [if_pos h4] at H
        clear h4
        go_wp2_with fail
        refine (hpa.out _).mono ?_
        rintro e w3 ⟨rfl, hb3⟩
        have HS3 := Lib.hid (HS.out.below hb3)
        clear k0 k1 hb3
        have s0 := HS3.out.s.c0 0 _ rfl
        have s1 := HS3.out.s.c0 1 _ rfl
        have f0 := HS3.out.s.free 0
        have f1 := HS3.out.s.free 1
        have k0 := HS3.out.k.c0 0 _ rfl
        have k1 := HS3.out.k.c0 1 _ rfl
        have r0 := HS3.out.r.c0 0 _ rfl
        have r1 := HS3.out.r.c0 1 _ rfl
        have q0 := HS3.out.r.free 0
        have q1 := HS3.out.r.free 1
        simp at s0 s1 k0 k1 r0 r1
        go_wp2
        refine bodyPost_ret (v := .agg #[.string (Str rp), .string (Str [])]) (by simp [results, Tryz.results15, go_sem, r0, r1]; try (first | rfl | exact Str_add _ [0])) rfl ⟨by rw [H.out], ?_⟩
        repeat (first | with_reducible exact HS3.out.b | refine Below.setCell ?_ hle1 _ | refine Below.setCell ?_ hle2 _)
      · rw [if_neg h4] at H
        have h4z : (b : Int) < 240 := by omega
        clear h4
        by_cases h2 : 200 ≤ b
        · have h2z : (200 : Int) ≤ (b : Int) := by omega
          rw [if_pos h2] at H
          clear h2
          go_wp2_with fail
          refine (hpa.out _).mono ?_
          rintro e w3 ⟨rfl, hb3⟩
          have HS3 := Lib.hid (HS.out.below hb3)
          clear k0 k1 hb3
          have s0 := HS3.out.s.c0 0 _ rfl
          have s1 := HS3.out.s.c0 1 _ rfl
          have f0 := HS3.out.s.free 0
          have f1 := HS3.out.s.free 1
          have k0 := HS3.out.k.c0 0 _ rfl
          have k1 := HS3.out.k.c0 1 _ rfl
          have r0 := HS3.out.r.c0 0 _ rfl
          have r1 := HS3.out.r.c0 1 _ rfl
          have q0 := HS3.out.r.free 0
          have q1 := HS3.out.r.free 1
          simp at s0 s1 k0 k1 r0 r1
          go_wp2
          refine bodyPost_ret (v := .agg #[.string (Str rp), .string (Str (rp ++ [0]))]) (by simp [results, Tryz.results15, go_sem, r0, r1]; try (first | rfl | exact Str_add _ [0])) rfl ⟨by rw [H.out], ?_⟩
          repeat (first | with_reducible exact HS3.out.b | refine Below.setCell ?_ hle1 _ | refine Below.setCell ?_ hle2 _)
        · have h2z : (b : Int) < 200 := by omega
          rw [if_neg h2] at H
          clear h2
          go_wp2_with fail
          refine (hpa.out _).mono ?_
          rintro e w3 ⟨rfl, hb3⟩
          have HS3 := Lib.hid (HS.out.below hb3)
          clear k0 k1 hb3
          have s0 := HS3.out.s.c0 0 _ rfl
          have s1 := HS3.out.s.c0 1 _ rfl
          have f0 := HS3.out.s.free 0
          have f1 := HS3.out.s.free 1
          have k0 := HS3.out.k.c0 0 _ rfl
          have k1 := HS3.out.k.c0 1 _ rfl
          have r0 := HS3.out.r.c0 0 _ rfl
          have r1 := HS3.out.r.c0 1 _ rfl
          have q0 := HS3.out.r.free 0
          have q1 := HS3.out.r.free 1
          simp at s0 s1 k0 k1 r0 r1
          go_wp2
          refine bodyPost_ret (v := .agg #[.string (Str rp), .string (Str rb)]) (by simp [results, Tryz.results15, go_sem, r0, r1]; try (first | rfl | exact Str_add _ [0])) rfl ⟨by rw [H.out], ?_⟩
          repeat (first | with_reducible exact HS3.out.b | refine Below.setCell ?_ hle1 _ | refine Below.setCell ?_ hle2 _)
    · have h1z : (a : Int) < 200 := by omega
      rw [if_neg h1] at H
      clear h1
      have s0 := HS.out.s.c0 0 _ rfl
      have s1 := HS.out.s.c0 1 _ rfl
      have f0 := HS.out.s.free 0
      have f1 := HS.out.s.free 1
      have k0 := HS.out.k.c0 0 _ rfl
      have k1 := HS.out.k.c0 1 _ rfl
      have r0 := HS.out.r.c0 0 _ rfl
      have r1 := HS.out.r.c0 1 _ rfl
      have q0 := HS.out.r.free 0
      have q1 := HS.out.r.free 1
      simp at s0 s1 k0 k1 r0 r1
      by_cases h4 : 240 ≤ b
      · have h4z : (240 : Int) ≤ (b : Int) := by omega
        have h2z : (200 : Int) ≤ (b : Int) := by omega
        rw [if_pos h4] at H
        clear h4
        go_wp2
        refine bodyPost_ret (v := .agg #[.string (Str ra), .string (Str [])]) (by simp [results, Tryz.results15, go_sem, r0, r1]; try (first | rfl | exact Str_add _ [0])) rfl ⟨by rw [H.out], ?_⟩
        repeat (first | with_reducible exact HS.out.b | refine Below.setCell ?_ hle1 _ | refine Below.setCell ?_ hle2 _)
      · rw [if_neg h4] at H
        have h4z : (b : Int) < 240 := by omega
        clear h4
        by_cases h2 : 200 ≤ b
        · have h2z : (200 : Int) ≤ (b : Int) := by omega
          rw [if_pos h2] at H
          clear h2
          go_wp2
          refine bodyPost_ret (v := .agg #[.string (Str ra), .string (Str (ra ++ [0]))]) (by simp [results, Tryz.results15, go_sem, r0, r1]; try (first | rfl | exact Str_add _ [0])) rfl ⟨by rw [H.out], ?_⟩
          repeat (first | with_reducible exact HS.out.b | refine Below.setCell ?_ hle1 _ | refine Below.setCell ?_ hle2 _)
        · have h2z : (b : Int) < 200 := by omega
          rw [if_neg h2] at H
          clear h2
          go_wp2
          refine bodyPost_ret (v := .agg #[.string (Str ra), .string (Str rb)]) (by simp [results, Tryz.results15, go_sem, r0, r1]; try (first | rfl | exact Str_add _ [0])) rfl ⟨by rw [H.out], ?_⟩
          repeat (first | with_reducible exact HS.out.b | refine Below.setCell ?_ hle1 _ | refine Below.setCell ?_ hle2 _)

end T4
open Go.RowKit Go.Sort
set_option linter.unusedVariables false

set_option maxRecDepth 100000 in
set_option maxHeartbeats 1000000 in
theorem samebytes_w (v0 v1 : Value) (a b : Bs) (w : World) (h0 : IsBytes w v0 a) (h1 : IsBytes w v1 b) : Calls Tryz.prog 22 #[v0, v1] w fun e w' => e = .returned (.bool (decide (a = b))) ∧ w = w' := by
  have h0 := conv_bytes h0
  have h1 := conv_bytes h1
  have Hd : Hid (True) := Lib.hid trivial
  go_enter Tryz.func22, Tryz.ntmps22
  go_wp2
  go_ret
  exact ⟨ret_bool (by rw [Bool.eq_iff_iff]; simp), rfl⟩
set_option maxRecDepth 100000 in
set_option maxHeartbeats 2000000 in
theorem samemsgs_w (v0 v1 : Value) (a b : List Ms) (w : World) (h0 : IsMsgs w v0 a) (h1 : IsMsgs w v1 b) :
    Calls Tryz.prog 54 #[v0, v1] w fun e w' => e = .returned (.bool (decide (a = b))) ∧ ∃ n, w' = w.drewN n := by
  have mixed := mixedA
  obtain ⟨g0, o0, cap0, p0, rfl, hl0, hm0, hp0, hc0⟩ := h0.form
  obtain ⟨g1, o1, cap1, p1, rfl, hl1, hm1, hp1, hc1⟩ := h1.form
  unfold maxLen at hm0 hm1
  have HC0 := Lib.hid hc0
  have HC1 := Lib.hid hc1
  clear h0 h1 hp0 hp1 hc0 hc1
  by_cases hlen : a.length = b.length
  · have hlb : ((a.length : Int) != (b.length : Int)) = false := by rw [hlen]; simp
    have Hlen := Lib.hid hlen
    clear hlen
    go_enter Tryz.func54, Tryz.ntmps54
    go_wp2
    go_loopw [5] (fun i wr => ∃ k n : Nat, k ≤ a.length ∧ i = .int .i64 k ∧ Hid (a.take k = b.take k) ∧ wr = w.drewN n) (fun i _ => a.length - (intOf i).toNat)
    case atStart => exact ⟨0, 0, Nat.zero_le _, rfl, Lib.hid rfl, rfl⟩
    case round =>
      obtain ⟨k, n, hk, rfl, htake, rfl⟩ := hrel
      by_cases hlt : k < a.length
      · have hltb : k < b.length := by have := Hlen.out; omega
        have hlz : (k : Int) < (b.length : Int) := by omega
        have hlza : (k : Int) < (a.length : Int) := by omega
        obtain ⟨rfl, c0, c1, c2, c3, c4, c5, c6, c7⟩ := HC0.out k hlt
        obtain ⟨rfl, d0, d1, d2, d3, d4, d5, d6, d7⟩ := HC1.out k hltb
        have Ha := Lib.hid (show a.take (k + 1) = a.take k ++ [a[k]] from by rw [List.take_add_one, List.getElem?_eq_getElem hlt]; rfl)
        have Hb := Lib.hid (show b.take (k + 1) = b.take k ++ [b[k]] from by rw [List.take_add_one, List.getElem?_eq_getElem hltb]; rfl)
        have Hne : Hid (a[k] ≠ b[k] → a ≠ b) := Lib.hid (fun h e => h (by subst e; rfl))
        generalize a[k] = x at *
        generalize b[k] = y at *
        have HQ := Lib.hid (fun wx => neq_msg x y wx)
        have HG := Lib.hid (fun o p wx => guard_msg .neq o p (encM x) (encM y) wx)
        have Hxy : Hid (decide (x = y) = true ↔ x = y) := Lib.hid (by simp)
        obtain ⟨x0, x1, x2, x3, x4, x5, x6, x7⟩ := x
        obtain ⟨y0, y1, y2, y3, y4, y5, y6, y7⟩ := y
        have c0 := fun n => (show (w.drewN n).cell? ⟨g0, o0 + k * 8, none⟩ = some (.int .i64 x0) from c0)
        have c1 := fun n => (show (w.drewN n).cell? ⟨g0, o0 + k * 8 + 1, none⟩ = some (.string (Str x1)) from c1)
        have c2 := fun n => (show (w.drewN n).cell? ⟨g0, o0 + k * 8 + 2, none⟩ = some (.string (Str x2)) from c2)
        have c3 := fun n => (show (w.drewN n).cell? ⟨g0, o0 + k * 8 + 3, none⟩ = some (.string (Str x3)) from c3)
        have c4 := fun n => (show (w.drewN n).cell? ⟨g0, o0 + k * 8 + 4, none⟩ = some (.string (Str x4)) from c4)
        have c5 := fun n => (show (w.drewN n).cell? ⟨g0, o0 + k * 8 + 5, none⟩ = some (.string (Str x5)) from c5)
        have c6 := fun n => (show (w.drewN n).cell? ⟨g0, o0 + k * 8 + 6, none⟩ = some (.string (Str x6)) from c6)
        have c7 := fun n => (show (w.drewN n).cell? ⟨g0, o0 + k * 8 + 7, none⟩ = some (.int .i64 x7) from c7)
        have d0 := fun n => (show (w.drewN n).cell? ⟨g1, o1 + k * 8, none⟩ = some (.int .i64 y0) from d0)
        have d1 := fun n => (show (w.drewN n).cell? ⟨g1, o1 + k * 8 + 1, none⟩ = some (.string (Str y1)) from d1)
        have d2 := fun n => (show (w.drewN n).cell? ⟨g1, o1 + k * 8 + 2, none⟩ = some (.string (Str y2)) from d2)
        have d3 := fun n => (show (w.drewN n).cell? ⟨g1, o1 + k * 8 + 3, none⟩ = some (.string (Str y3)) from d3)
        have d4 := fun n => (show (w.drewN n).cell? ⟨g1, o1 + k * 8 + 4, none⟩ = some (.string (Str y4)) from d4)
        have d5 := fun n => (show (w.drewN n).cell? ⟨g1, o1 + k * 8 + 5, none⟩ = some (.string (Str y5)) from d5)
        have d6 := fun n => (show (w.drewN n).cell? ⟨g1, o1 + k * 8 + 6, none⟩ = some (.string (Str y6)) from d6)
        have d7 := fun n => (show (w.drewN n).cell? ⟨g1, o1 + k * 8 + 7, none⟩ = some (.int .i64 y7) from d7)
        have heq := HQ.out
        have hgu := HG.out
        clear HQ HG
        dsimp only [msgV, encM] at heq hgu
        generalize decide ((⟨x0, x1, x2, x3, x4, x5, x6, x7⟩ : Ms) = ⟨y0, y1, y2, y3, y4, y5, y6, y7⟩) = q at *
        cases q with
        | true =>
          have He := Lib.hid (Hxy.out.1 rfl)
          clear Hxy Hne
          go_wp2_with fail
          go_quiet (fail)
          go_wp2
          go_roundw
          case rel => exact ⟨k + 1, n + nq, by omega, by go_num, Lib.hid (by rw [Ha.out, Hb.out, htake.out, He.out]), rfl⟩
          case measure => simp [intOf]; omega
        | false =>
          have He := Lib.hid (Hne.out (fun e => by have := Hxy.out.2 e; cases this))
          clear Hxy Hne
          go_wp2_with fail
          go_quiet (fail)
          go_wp2
          go_ret
          exact ⟨ret_bool (by have := He.out; simp [this]), n + nq, World.drewN_drewN _ _ _⟩
      · obtain rfl : k = a.length := by omega
        have He : Hid (a = b) := Lib.hid (by
          have := htake.out
          rw [List.take_length, Hlen.out, List.take_length] at this
          exact this)
        clear htake
        go_wp2
        go_ret
        exact ⟨ret_bool (by simp [He.out]), n, rfl⟩
  · have hlb : ((a.length : Int) != (b.length : Int)) = true := by simp; omega
    have He : Hid (a ≠ b) := Lib.hid (fun e => hlen (by rw [e]))
    clear hlen
    go_enter Tryz.func54, Tryz.ntmps54
    go_wp2
    go_ret
    exact ⟨ret_bool (by have := He.out; simp [this]), 0, rfl⟩

end Go.Proofs.YtmbfghbhajmpiaaGreat
