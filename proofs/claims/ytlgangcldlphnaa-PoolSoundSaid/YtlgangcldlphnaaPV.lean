/-
  Walks: reference 11: the node of a step.
-/
import Derived.Test.YtlgangcldlphnaaPU
import Derived.Test.YtlgangcldlphnaaPR
import Derived.Test.YtlgangcldlphnaaPQ
import Derived.Test.YtlgangcldlphnaaPO
import Derived.Test.YtlgangcldlphnaaPS
import Derived.Deep.RegionLawGrows
namespace Go.Proofs.Ytlgangcldlphnaa
open Go.RowKit Go.Sort
set_option linter.unusedVariables false
set_option maxRecDepth 100000

/-- A step's description. -/
structure R4 where
  x0 : Nat
  x1 : Nat
  x2 : Nat
  x3 : Nat
def R4.ok (x : R4) : Prop := x.x0 < 256 ∧ x.x1 < 256 ∧ x.x2 < 256 ∧ x.x3 < 256
@[reducible] def r4V (x : R4) : Value := .agg #[.int .u8 x.x0, .int .u8 x.x1, .int .u8 x.x2, .int .u8 x.x3]
def R4.at (x : R4) (i : Nat) : Nat := if i = 0 then x.x0 else if i = 1 then x.x1 else if i = 2 then x.x2 else x.x3
def kidOf (roots : List Int) (y : Nat) : List Int := if y % 4 = 0 then [] else [roots.getD ((y / 4) % roots.length) 0]
/-- The kids that the bytes 1 to k - 1 choose. -/
def kidsR (x : R4) (roots : List Int) : Nat → List Int
  | 0 => []
  | 1 => []
  | k + 2 => kidsR x roots (k + 1) ++ kidOf roots (x.at (k + 1))
def kidsX (x : R4) (roots : List Int) : List Int := if roots.length = 0 ∨ x.x0 % 8 ≤ 3 then [] else kidsR x roots 4
def nodeX (x : R4) (roots : List Int) : Nd := ⟨if kidsX x roots = [] then [(keyS x.x1, [], 0)] else [], [], kidsX x roots, [], []⟩
theorem kidOf_len (roots : List Int) (y : Nat) : (kidOf roots y).length ≤ 1 := by unfold kidOf; split <;> simp
theorem kidsR_len (x : R4) (roots : List Int) : ∀ k, (kidsR x roots k).length ≤ k - 1
  | 0 => by simp [kidsR]
  | 1 => by simp [kidsR]
  | k + 2 => by
    have := kidsR_len x roots (k + 1)
    have := kidOf_len roots (x.at (k + 1))
    rw [kidsR, List.length_append]; omega
theorem bare_nodeX (x : R4) (roots : List Int) : Bare (nodeX x roots) := ⟨rfl, rfl, rfl⟩
theorem kidOf_mem {roots : List Int} {y : Nat} (h : 0 < roots.length) : ∀ k ∈ kidOf roots y, k ∈ roots := by
  intro k hk
  unfold kidOf at hk
  split at hk
  · simp at hk
  · have hlt : y / 4 % roots.length < roots.length := Nat.mod_lt _ h
    rw [List.mem_singleton] at hk
    rw [hk, List.getD_eq_getElem?_getD, List.getElem?_eq_getElem hlt]
    exact List.getElem_mem hlt
theorem kidsX_mem {x : R4} {roots : List Int} : ∀ k ∈ kidsX x roots, k ∈ roots := by
  intro k hk
  unfold kidsX at hk
  split at hk
  · simp at hk
  · rename_i h
    have hp : 0 < roots.length := by omega
    have : kidsR x roots 4 = ((([] ++ kidOf roots (x.at 1)) ++ kidOf roots (x.at 2)) ++ kidOf roots (x.at 3)) := rfl
    rw [this] at hk
    simp only [List.nil_append, List.mem_append] at hk
    rcases hk with (h1 | h1) | h1
    · exact kidOf_mem hp k h1
    · exact kidOf_mem hp k h1
    · exact kidOf_mem hp k h1
theorem kidsX_len (x : R4) (roots : List Int) : (kidsX x roots).length ≤ 3 := by
  unfold kidsX; split
  · simp
  · exact kidsR_len x roots 4

theorem pair_lit {w : World} {b : Nat} {k : Bs} (h : Blk w b 78 #[.string (Str k), .string ⟨#[]⟩, .int .i64 0]) (hk : k.length ≤ 7) : IsPairs w (.slice (some ⟨b, 0, none⟩) 1 1) [(k, [], 0)] := by
  refine ⟨_, 1, rfl, Nat.le_refl _, by unfold maxLen; omega, fun x hx => ?_, fun _ => ⟨b, 0, rfl, h.lt, fun i hi => ?_⟩⟩
  · rw [List.mem_singleton] at hx; subst hx; unfold maxLen; simp; omega
  · have hi0 : i = 0 := by simpa using hi
    subst hi0
    exact ⟨h.c0 0 _ rfl, h.c0 1 _ rfl, h.c0 2 _ rfl⟩
/-- A node whose pairs and kids lie behind block b0. -/
def NewNode (b0 : Nat) (v : Value) : Prop := ∃ a b c d e, v = .agg #[a, b, c, d, e] ∧ (∀ q, blkOf c = some q → b0 ≤ q) ∧ (∀ q, blkOf a = some q → b0 ≤ q)
set_option maxHeartbeats 8000000 in
theorem node_w (x : R4) (u : Value) (roots : List Int) (w : World) (hx : x.ok) (h : IsInts w u roots) (hl : roots.length ≤ 1000000) :
    Calls Try.prog 13 #[r4V x, u] w fun e w' => ∃ v, e = .returned v ∧ IsNode w' v (nodeX x roots) ∧ Below w.heap.size w w' ∧ NewNode w.heap.size v := by
  have mixed := mixedA
  obtain ⟨hx0, hx1, hx2, hx3⟩ := hx
  have H := Lib.hid h
  obtain ⟨ua, uc, rfl, huc, hum⟩ := h.slice
  clear h
  have HKY := Lib.hid (fun wx => key_w x.x1 wx hx1)
  have HKL := Lib.hid (key_len x.x1)
  obtain ⟨y0, y1, y2, y3⟩ := x
  simp only at hx0 hx1 hx2 hx3 HKY HKL
  obtain ⟨W1, hW1⟩ : ∃ W1, W1 = (w.alloc (.cells #[.int .u8 y0, .int .u8 y1, .int .u8 y2, .int .u8 y3] 24)).alloc (.cells #[.slice none 0 0, .slice none 0 0, .slice none 0 0, .slice none 0 0, .slice none 0 0] 39) := ⟨_, rfl⟩
  have HB1 : Hid (Below w.heap.size w W1) := Lib.hid (by rw [hW1]; exact keepP (keepP (Below.refl _ _) _) _)
  have HX : Hid (Blk W1 w.heap.size 24 #[.int .u8 y0, .int .u8 y1, .int .u8 y2, .int .u8 y3]) := Lib.hid (by rw [hW1]; exact (Blk.new _ _ _).alloc _)
  have HR : Hid (Blk W1 (w.heap.size + 1) 39 #[.slice none 0 0, .slice none 0 0, .slice none 0 0, .slice none 0 0, .slice none 0 0]) := Lib.hid (by rw [hW1]; exact Blk.new' _ _ _ (by simp))
  have HW1 := Lib.hid hW1
  clear hW1
  go_enter Try.func13, Try.ntmps13
  go_upto_region 1 with fail
  rw [← HW1.out]
  have x1 : W1.cell? ⟨w.heap.size, 1, none⟩ = some (.int .u8 y1) := HX.out.c0 1 _ rfl
  go_wp2_with fail
  refine (HKY.out _).mono ?_
  rintro e w2 ⟨rfl, hb⟩
  have HB2 := Lib.hid hb
  have HNX : Hid (nodeX ⟨y0, y1, y2, y3⟩ roots = ⟨if kidsX ⟨y0, y1, y2, y3⟩ roots = [] then [(keyS y1, [], 0)] else [], [], kidsX ⟨y0, y1, y2, y3⟩ roots, [], []⟩) := Lib.hid rfl
  generalize keyS y1 = ky at *
  clear hb x1
  obtain ⟨W3, hW3⟩ : ∃ W3, W3 = (w2.alloc (.cells #[.string (Str ky), .string ⟨#[]⟩, .int .i64 0] 78)).alloc (.cells #[.slice (some ⟨w2.heap.size, 0, none⟩) 1 1, .slice none 0 0, .slice none 0 0, .slice none 0 0, .slice none 0 0] 39) := ⟨_, rfl⟩
  have HB3 : Hid (Below w2.heap.size w2 W3) := Lib.hid (by rw [hW3]; exact keepP (keepP (Below.refl _ _) _) _)
  have HPB : Hid (Blk W3 w2.heap.size 78 #[.string (Str ky), .string ⟨#[]⟩, .int .i64 0]) := Lib.hid (by rw [hW3]; exact (Blk.new _ _ _).alloc _)
  have HNB : Hid (Blk W3 (w2.heap.size + 1) 39 #[.slice (some ⟨w2.heap.size, 0, none⟩) 1 1, .slice none 0 0, .slice none 0 0, .slice none 0 0, .slice none 0 0]) := Lib.hid (by rw [hW3]; exact Blk.new' _ _ _ (by simp))
  have HS3 : Hid (W3.heap.size = w2.heap.size + 2) := Lib.hid (by rw [hW3]; simp)
  have HBw3 : Hid (Below w.heap.size w W3) := Lib.hid (HB1.out.trans ((HB2.out.trans (HB3.out.mono HB2.out.size)).mono HB1.out.size))
  have HX3 : Hid (Blk W3 w.heap.size 24 #[.int .u8 y0, .int .u8 y1, .int .u8 y2, .int .u8 y3]) := Lib.hid ((HX.out.below HB2.out HX.out.lt).below HB3.out (Nat.lt_of_lt_of_le HX.out.lt HB2.out.size))
  have HR3 : Hid (Blk W3 (w.heap.size + 1) 39 #[.slice none 0 0, .slice none 0 0, .slice none 0 0, .slice none 0 0, .slice none 0 0]) := Lib.hid ((HR.out.below HB2.out HR.out.lt).below HB3.out (Nat.lt_of_lt_of_le HR.out.lt HB2.out.size))
  have HL12 : Hid (w.heap.size + 1 < w2.heap.size) := Lib.hid (Nat.lt_of_lt_of_le HR.out.lt HB2.out.size)
  have HW3 := Lib.hid hW3
  clear hW3
  go_wp2_with fail
  rw [← HW3.out]
  obtain ⟨m0, hm0⟩ : ∃ m0 : Nat, m0 = y0 % 8 := ⟨_, rfl⟩
  have hmz : (y0 : Int) % 8 = (m0 : Int) := by omega
  have hmt : (y0 : Int).tmod 8 = (m0 : Int) := by rw [Int.tmod_eq_emod_of_nonneg (by omega)]; exact hmz
  have hm8 : m0 < 8 := by omega
  have HM0 := Lib.hid hm0
  have hy0z : (y0 : Int) < 256 := by omega
  clear hm0
  go_loopw [6] (fun i wr => ∃ (k : Nat) (vk : Value), 1 ≤ k ∧ k ≤ 4 ∧ i = .int .i64 k ∧ Hid (k = 1 ∨ (0 < roots.length ∧ 3 < m0)) ∧ Hid (Blk wr (w2.heap.size + 1) 39 #[.slice (some ⟨w2.heap.size, 0, none⟩) 1 1, .slice none 0 0, vk, .slice none 0 0, .slice none 0 0]) ∧ Hid (wr.ownsRow W3.heap.size 3 1 vk (kidsR ⟨y0, y1, y2, y3⟩ roots k).length ((kidsR ⟨y0, y1, y2, y3⟩ roots k).flatMap encI)) ∧ Hid (Below (w2.heap.size + 1) W3 wr) ∧ Hid (W3.heap.size ≤ wr.heap.size)) (fun i _ => 4 - (intOf i).toNat)
  case atStart => exact ⟨1, _, Nat.le_refl _, by omega, rfl, Lib.hid (.inl rfl), HNB, Lib.hid (World.ownsRow_nil _ _ _ _), Lib.hid (Below.refl _ _), Lib.hid (Nat.le_refl _)⟩
  case round =>
    obtain ⟨k, vk, hk1, hk4, rfl, HACT, HNr, HO, HB, HSZ⟩ := hrel
    have HBw : Hid (Below w.heap.size w wr) := Lib.hid (HBw3.out.trans (HB.out.mono (by have := HL12.out; omega)))
    have HXr := Lib.hid (HX3.out.below HB.out (by have := HL12.out; omega))
    have c0 : wr.cell? ⟨w.heap.size, 0, none⟩ = some (.int .u8 y0) := HXr.out.c0 0 _ rfl
    by_cases hact : k < 4 ∧ 0 < roots.length ∧ 3 < m0
    · obtain ⟨hk, hlen, hm3⟩ := hact
      have hkz : (k : Int) < 4 := by omega
      have hlz : (0 : Int) < (roots.length : Int) := by omega
      have hmz3 : (3 : Int) < (m0 : Int) := by omega
      have hk0 : (0 : Int) ≤ (k : Int) := by omega
      obtain ⟨y, hy⟩ : ∃ y : Nat, y = R4.at ⟨y0, y1, y2, y3⟩ k := ⟨_, rfl⟩
      have ck : wr.cell? ⟨w.heap.size, k, none⟩ = some (.int .u8 y) := by
        rw [hy]
        have : k = 1 ∨ k = 2 ∨ k = 3 := by omega
        rcases this with rfl | rfl | rfl
        · exact HXr.out.c0 1 _ rfl
        · exact HXr.out.c0 2 _ rfl
        · exact HXr.out.c0 3 _ rfl
      have hyb : y < 256 := by
        rw [hy]; unfold R4.at; simp only; split
        · exact hx0
        · split
          · exact hx1
          · split
            · exact hx2
            · exact hx3
      have HKN : Hid (kidsR ⟨y0, y1, y2, y3⟩ roots (k + 1) = kidsR ⟨y0, y1, y2, y3⟩ roots k ++ kidOf roots y) := Lib.hid (by
        obtain ⟨k', rfl⟩ : ∃ k', k = k' + 1 := ⟨k - 1, by omega⟩
        rw [hy]; rfl)
      have HLL := Lib.hid (kidsR_len ⟨y0, y1, y2, y3⟩ roots k)
      generalize kidsR ⟨y0, y1, y2, y3⟩ roots k = ks at *
      have hyz : (y : Int) < 256 := by omega
      obtain ⟨m4, hm4⟩ : ∃ m4 : Nat, m4 = y % 4 := ⟨_, rfl⟩
      have h4z : (y : Int) % 4 = (m4 : Int) := by omega
      have h4t : (y : Int).tmod 4 = (m4 : Int) := by rw [Int.tmod_eq_emod_of_nonneg (by omega)]; exact h4z
      have h4b : m4 < 4 := by omega
      have HM4 := Lib.hid hm4
      clear hy hm4
      by_cases h40 : 0 < m4
      · have h4p : (0 : Int) < (m4 : Int) := by omega
        obtain ⟨q, hq⟩ : ∃ q : Nat, q = y / 4 := ⟨_, rfl⟩
        obtain ⟨r, hr⟩ : ∃ r : Nat, r = q % roots.length := ⟨_, rfl⟩
        have hrl : r < roots.length := by rw [hr]; exact Nat.mod_lt _ hlen
        have hqb : q < 64 := by omega
        have HK2 : Hid (kidOf roots y = [roots[r]]) := Lib.hid (by
          unfold kidOf
          rw [if_neg (by have := HM4.out; omega), ← hq, ← hr, List.getD_eq_getElem?_getD, List.getElem?_eq_getElem hrl]; rfl)
        obtain ⟨b5, off5, cap6, he, hbl5, hlz5, z0⟩ := at_int (H.out.below HBw.out) r hrl
        injection he with he1 he2 he3
        subst he1 he3
        clear he2
        have hqz : (y : Int) / 4 = (q : Int) := by omega
        have hqt : (y : Int).tdiv 4 = (q : Int) := by rw [Int.tdiv_eq_ediv_of_nonneg (by omega)]; exact hqz
        have hrz : (q : Int) % (roots.length : Int) = (r : Int) := by rw [hr]; exact (Int.natCast_emod q roots.length).symm
        have hrt : (q : Int).tmod (roots.length : Int) = (r : Int) := by rw [Int.tmod_eq_emod_of_nonneg (by omega)]; exact hrz
        have hqw : IntKind.u8.wrap (q : Int) = (q : Int) := by simp [IntKind.wrap, IntKind.bits, IntKind.signed]; omega
        have hqw2 : IntKind.i64.wrap (q : Int) = (q : Int) := IntWalk.i64_in _ (by omega)
        have hrw : IntKind.i64.wrap (r : Int) = (r : Int) := IntWalk.i64_in _ (by omega)
        have hn0 : ¬ ((roots.length : Int) = 0) := by omega
        have hrn : ¬ (roots = []) := List.length_pos_iff.1 hlen
        have hn1 : ¬ ((roots.length : Int) = -1) := by omega
        have hrlz : (r : Int) < (roots.length : Int) := by omega
        have hr0 : (0 : Int) ≤ (r : Int) := by omega
        generalize roots[r] = kid at *
        obtain ⟨av, cv, rfl⟩ := own_sl HO.out
        have n2 : wr.cell? ⟨w2.heap.size + 1, 2, none⟩ = some (.slice av ks.length cv) := HNr.out.c0 2 _ rfl
        have f2 := HNr.out.free 2
        have ckA := cell_all ck
        have z0A := cell_all z0
        have hnl := HNr.out.lt
        have HL0 : Hid (Below wr.heap.size wr wr) := Lib.hid (Below.refl _ _)
        have HBN3 : Hid (w2.heap.size + 1 < W3.heap.size) := Lib.hid (by have := HS3.out; omega)
        have HKLE : Hid (ks.length + 1 ≤ 1000000000) := Lib.hid (by have := HLL.out; omega)
        clear hq hr
        go_wp2_with fail
        go_region_law (first
          | (refine step_ints rfl _ _ rfl W3.heap.size (.slice av ks.length cv) ks rfl (owns_below HO.out (by repeat (first | with_reducible exact HL0.out | with_reducible refine Below.drew ?_ | with_reducible refine keepP ?_ _))) (.slice (some ⟨wr.heap.size, 0, none⟩) 1 1) [kid] rfl (by first | exact isInts_lit [kid] rfl (by simp) (by simp) | exact (isInts_lit [kid] rfl (by simp) (by simp)).below (below_drewN _ 1)) HKLE.out (by have := HSZ.out; simp; omega) ?_; intro v4 y4 hown hb; obtain ⟨a4, c4, rfl⟩ := own_sl hown; have hn4 : Blk y4 (w2.heap.size + 1) 39 #[.slice (some ⟨w2.heap.size, 0, none⟩) 1 1, .slice none 0 0, .slice av ks.length cv, .slice none 0 0, .slice none 0 0] := (by first | exact Blk.below (HNr.out.alloc _) hb HBN3.out | exact Blk.below ((HNr.out.alloc _).drewN 1) hb HBN3.out); have n4 := hn4.c0 2 _ rfl; have g4 := hn4.free 2)
          | fail "no arm")
        all_goals
          have HO4 := Lib.hid hown
          have HN4 := Lib.hid hn4
          have HB4 : Hid (Below (w2.heap.size + 1) W3 y4) := Lib.hid (HB.out.trans (((keepP (Below.refl wr.heap.size wr) _).drew.mono (by omega)).trans (hb.mono (by have := HS3.out; omega))))
          have HZ4 : Hid (W3.heap.size ≤ y4.heap.size) := Lib.hid (Nat.le_trans HSZ.out (by have := hb.size; simp at this; omega))
          have HKN2 : Hid (kidsR ⟨y0, y1, y2, y3⟩ roots (k + 1) = ks ++ [kid]) := Lib.hid (by rw [HKN.out, HK2.out])
          clear hown hn4 hb n4 g4 n2 f2 ckA z0A
          go_wp2
          go_roundw
          case rel =>
            refine ⟨k + 1, .slice a4 (ks.length + 1) c4, by omega, by omega, by go_num, Lib.hid (.inr ⟨hlen, hm3⟩), Lib.hid (HN4.out.setCell 2 (.slice a4 (ks.length + 1) c4)), ?_, Lib.hid (HB4.out.setCell (Nat.le_refl _) _), Lib.hid (by simpa using HZ4.out)⟩
            rw [HKN2.out]
            have ho := HO4.out
            have e : (ks ++ [kid]).length = ks.length + 1 := by simp
            rw [e] at ho ⊢
            exact Lib.hid (own_other ho _ _ _ (own_ne ho HBN3.out))
          case measure => simp [intOf]; omega
      · have h4p : (m4 : Int) ≤ 0 := by omega
        have HK2 : Hid (kidsR ⟨y0, y1, y2, y3⟩ roots (k + 1) = ks) := Lib.hid (by rw [HKN.out]; unfold kidOf; rw [if_pos (by have := HM4.out; omega), List.append_nil])
        clear h40
        go_wp2
        go_roundw
        case rel =>
          refine ⟨k + 1, vk, by omega, by omega, by go_num, Lib.hid (.inr ⟨hlen, hm3⟩), HNr, ?_, HB, HSZ⟩
          rw [HK2.out]
          exact HO
        case measure => simp [intOf]; omega
    · have HKX : Hid (kidsX ⟨y0, y1, y2, y3⟩ roots = kidsR ⟨y0, y1, y2, y3⟩ roots k) := Lib.hid (by
        unfold kidsX
        have h1 := HM0.out
        rcases HACT.out with h2 | ⟨h2, h3⟩
        · subst h2
          rw [if_pos]
          · rfl
          · show roots.length = 0 ∨ y0 % 8 ≤ 3
            omega
        · have : k = 4 := by omega
          subst this
          rw [if_neg]
          show ¬ (roots.length = 0 ∨ y0 % 8 ≤ 3)
          omega)
      by_cases hk : k < 4
      · have hkz : (k : Int) < 4 := by omega
        by_cases hlen : 0 < roots.length
        · have hlz : (0 : Int) < (roots.length : Int) := by omega
          have hmz3 : (m0 : Int) ≤ 3 := by omega
          clear hact hk
          obtain ⟨av, cv, rfl⟩ := own_sl HO.out
          have hnb := p5_ok HNr.out
          obtain ⟨n0, n1, n2, n3, n4, g0, g1, g2, g3, g4⟩ := hnb
          have HRr := Lib.hid (HR3.out.below HB.out (by have := HL12.out; omega))
          have hrb := p5_ok HRr.out
          obtain ⟨r0, r1, r2, r3, r4, t0, t1, t2, t3, t4⟩ := hrb
          have hne12 : w.heap.size + 1 ≠ w2.heap.size + 1 := by have := HL12.out; omega
          have HNE := Lib.hid hne12
          generalize kidsR ⟨y0, y1, y2, y3⟩ roots k = ks at *
          by_cases hks : 0 < ks.length
          · have hksz : (0 : Int) < (ks.length : Int) := by omega
            have HNX2 : Hid (nodeX ⟨y0, y1, y2, y3⟩ roots = ⟨[], [], ks, [], []⟩) := Lib.hid (by rw [HNX.out, HKX.out, if_neg (List.length_pos_iff.1 hks)])
            have HN5 := Lib.hid (HNr.out.setCell 0 (.slice none 0 0))
            have hN5 : Blk (wr.setCell ⟨w2.heap.size + 1, 0, none⟩ (.slice none 0 0)) (w2.heap.size + 1) 39 #[.slice none 0 0, .slice none 0 0, .slice av ks.length cv, .slice none 0 0, .slice none 0 0] := HN5.out
            obtain ⟨n0', n1', n2', n3', n4', -⟩ := p5_ok hN5
            have hR5 := HRr.out.setCell_other HNE.out 0 (.slice none 0 0)
            obtain ⟨r0', r1', r2', r3', r4', t0', t1', t2', t3', t4'⟩ := p5_ok hR5
            have HR5 := Lib.hid hR5
            have HB5 := Lib.hid (HB.out.setCell (p := ⟨w2.heap.size + 1, 0, none⟩) (Nat.le_refl _) (.slice none 0 0))
            have HO5 := Lib.hid (own_other HO.out (w2.heap.size + 1) 0 (.slice none 0 0) (own_ne HO.out (by have := HS3.out; omega)))
            clear n0 n1 n2 n3 n4 r0 r1 r2 r3 r4 hN5 hR5 hks
            have n2 : wr.cell? ⟨w2.heap.size + 1, 2, none⟩ = some (.slice av ks.length cv) := HNr.out.c0 2 _ rfl
            have n0 := HNr.out.c0 0 _ rfl
            go_wp2
            obtain ⟨z0, z1, z2, z3, z4, -⟩ := p5_ok (blk_set5 HR5.out (.slice none 0 0) (.slice none 0 0) (.slice av ks.length cv) (.slice none 0 0) (.slice none 0 0))
            refine bodyPost_ret (v := .agg #[.slice none 0 0, .slice none 0 0, .slice av ks.length cv, .slice none 0 0, .slice none 0 0]) (by simp [results, Try.results13, go_sem, z0, z1, z2, z3, z4]) rfl ?_
            rw [HNX2.out]
            have hb5 := below_set5 (HBw3.out.trans (HB5.out.mono (by have := HL12.out; omega))) (w.heap.size + 1) (by omega) (.slice none 0 0) (.slice none 0 0) (.slice av ks.length cv) (.slice none 0 0) (.slice none 0 0)
            have hgn := own_blkOf HO5.out
            have hw : blkOf (Value.slice av ks.length cv) ≠ some (w.heap.size + 1) := fun e => by have := hgn _ e; have := HL12.out; have := HS3.out; omega
            exact ⟨_, rfl, ⟨_, _, _, _, _, rfl, IsPairs.nil _, IsStrs.nil _, (((((IsInts.owned HO5.out).set _ 0 _ hw).set _ 1 _ hw).set _ 2 _ hw).set _ 3 _ hw).set _ 4 _ hw, IsSums.nil _, IsMsgs.nil' _⟩, hb5, ⟨_, _, _, _, _, rfl, fun q e => by have := hgn _ e; have := HL12.out; have := HS3.out; omega, fun q e => by cases e⟩⟩
          · have hksz : (ks.length : Int) ≤ 0 := by omega
            have hk0 : ks = [] := List.length_eq_zero_iff.1 (by omega)
            have HNX2 : Hid (nodeX ⟨y0, y1, y2, y3⟩ roots = ⟨[(ky, [], 0)], [], [], [], []⟩) := Lib.hid (by rw [HNX.out, HKX.out, if_pos hk0, hk0])
            have HK0 := Lib.hid hk0
            have HPr : Hid (Blk wr w2.heap.size 78 #[.string (Str ky), .string ⟨#[]⟩, .int .i64 0]) := Lib.hid (HPB.out.below HB.out (by omega))
            clear hk0 hks
            go_wp2
            obtain ⟨z0, z1, z2, z3, z4, -⟩ := p5_ok (blk_set5 HRr.out (.slice (some ⟨w2.heap.size, 0, none⟩) 1 1) (.slice none 0 0) (.slice av ks.length cv) (.slice none 0 0) (.slice none 0 0))
            refine bodyPost_ret (v := .agg #[.slice (some ⟨w2.heap.size, 0, none⟩) 1 1, .slice none 0 0, .slice av ks.length cv, .slice none 0 0, .slice none 0 0]) (by simp [results, Try.results13, go_sem, z0, z1, z2, z3, z4]) rfl ?_
            rw [HNX2.out]
            have hb5 := below_set5 HBw.out (w.heap.size + 1) (by omega) (.slice (some ⟨w2.heap.size, 0, none⟩) 1 1) (.slice none 0 0) (.slice av ks.length cv) (.slice none 0 0) (.slice none 0 0)
            have hgn := own_blkOf HO.out
            have hw : blkOf (Value.slice av ks.length cv) ≠ some (w.heap.size + 1) := fun e => by have := hgn _ e; have := HL12.out; have := HS3.out; omega
            have hii := (((((IsInts.owned HO.out).set (w.heap.size + 1) 0 (.slice (some ⟨w2.heap.size, 0, none⟩) 1 1) hw).set (w.heap.size + 1) 1 (.slice none 0 0) hw).set (w.heap.size + 1) 2 (.slice av ks.length cv) hw).set (w.heap.size + 1) 3 (.slice none 0 0) hw).set (w.heap.size + 1) 4 (.slice none 0 0) hw
            rw [HK0.out] at hii ⊢
            have hpp := pair_lit HPr.out HKL.out
            refine ⟨_, rfl, ⟨_, _, _, _, _, rfl, ?_, IsStrs.nil _, hii, IsSums.nil _, IsMsgs.nil' _⟩, by rw [HK0.out] at hb5; exact hb5, ⟨_, _, _, _, _, rfl, fun q e => by have := hgn q (by rw [HK0.out]; exact e); have := HL12.out; have := HS3.out; omega, fun q e => by have e : w2.heap.size = q := Option.some.inj e; have := HL12.out; omega⟩⟩
            have hp2 : Blk (((((wr.setCell ⟨w.heap.size + 1, 0, none⟩ (.slice (some ⟨w2.heap.size, 0, none⟩) 1 1)).setCell ⟨w.heap.size + 1, 1, none⟩ (.slice none 0 0)).setCell ⟨w.heap.size + 1, 2, none⟩ (.slice av ([] : List Int).length cv)).setCell ⟨w.heap.size + 1, 3, none⟩ (.slice none 0 0)).setCell ⟨w.heap.size + 1, 4, none⟩ (.slice none 0 0)) w2.heap.size 78 #[.string (Str ky), .string ⟨#[]⟩, .int .i64 0] := by
              have hn : w2.heap.size ≠ w.heap.size + 1 := by have := HL12.out; omega
              exact ((((HPr.out.setCell_other hn _ _).setCell_other hn _ _).setCell_other hn _ _).setCell_other hn _ _).setCell_other hn _ _
            exact pair_lit hp2 HKL.out

        · have hlz : (roots.length : Int) ≤ 0 := by omega
          clear hact hk
          obtain ⟨av, cv, rfl⟩ := own_sl HO.out
          have hnb := p5_ok HNr.out
          obtain ⟨n0, n1, n2, n3, n4, g0, g1, g2, g3, g4⟩ := hnb
          have HRr := Lib.hid (HR3.out.below HB.out (by have := HL12.out; omega))
          have hrb := p5_ok HRr.out
          obtain ⟨r0, r1, r2, r3, r4, t0, t1, t2, t3, t4⟩ := hrb
          have hne12 : w.heap.size + 1 ≠ w2.heap.size + 1 := by have := HL12.out; omega
          have HNE := Lib.hid hne12
          generalize kidsR ⟨y0, y1, y2, y3⟩ roots k = ks at *
          by_cases hks : 0 < ks.length
          · have hksz : (0 : Int) < (ks.length : Int) := by omega
            have HNX2 : Hid (nodeX ⟨y0, y1, y2, y3⟩ roots = ⟨[], [], ks, [], []⟩) := Lib.hid (by rw [HNX.out, HKX.out, if_neg (List.length_pos_iff.1 hks)])
            have HN5 := Lib.hid (HNr.out.setCell 0 (.slice none 0 0))
            have hN5 : Blk (wr.setCell ⟨w2.heap.size + 1, 0, none⟩ (.slice none 0 0)) (w2.heap.size + 1) 39 #[.slice none 0 0, .slice none 0 0, .slice av ks.length cv, .slice none 0 0, .slice none 0 0] := HN5.out
            obtain ⟨n0', n1', n2', n3', n4', -⟩ := p5_ok hN5
            have hR5 := HRr.out.setCell_other HNE.out 0 (.slice none 0 0)
            obtain ⟨r0', r1', r2', r3', r4', t0', t1', t2', t3', t4'⟩ := p5_ok hR5
            have HR5 := Lib.hid hR5
            have HB5 := Lib.hid (HB.out.setCell (p := ⟨w2.heap.size + 1, 0, none⟩) (Nat.le_refl _) (.slice none 0 0))
            have HO5 := Lib.hid (own_other HO.out (w2.heap.size + 1) 0 (.slice none 0 0) (own_ne HO.out (by have := HS3.out; omega)))
            clear n0 n1 n2 n3 n4 r0 r1 r2 r3 r4 hN5 hR5 hks
            have n2 : wr.cell? ⟨w2.heap.size + 1, 2, none⟩ = some (.slice av ks.length cv) := HNr.out.c0 2 _ rfl
            have n0 := HNr.out.c0 0 _ rfl
            go_wp2
            obtain ⟨z0, z1, z2, z3, z4, -⟩ := p5_ok (blk_set5 HR5.out (.slice none 0 0) (.slice none 0 0) (.slice av ks.length cv) (.slice none 0 0) (.slice none 0 0))
            refine bodyPost_ret (v := .agg #[.slice none 0 0, .slice none 0 0, .slice av ks.length cv, .slice none 0 0, .slice none 0 0]) (by simp [results, Try.results13, go_sem, z0, z1, z2, z3, z4]) rfl ?_
            rw [HNX2.out]
            have hb5 := below_set5 (HBw3.out.trans (HB5.out.mono (by have := HL12.out; omega))) (w.heap.size + 1) (by omega) (.slice none 0 0) (.slice none 0 0) (.slice av ks.length cv) (.slice none 0 0) (.slice none 0 0)
            have hgn := own_blkOf HO5.out
            have hw : blkOf (Value.slice av ks.length cv) ≠ some (w.heap.size + 1) := fun e => by have := hgn _ e; have := HL12.out; have := HS3.out; omega
            exact ⟨_, rfl, ⟨_, _, _, _, _, rfl, IsPairs.nil _, IsStrs.nil _, (((((IsInts.owned HO5.out).set _ 0 _ hw).set _ 1 _ hw).set _ 2 _ hw).set _ 3 _ hw).set _ 4 _ hw, IsSums.nil _, IsMsgs.nil' _⟩, hb5, ⟨_, _, _, _, _, rfl, fun q e => by have := hgn _ e; have := HL12.out; have := HS3.out; omega, fun q e => by cases e⟩⟩
          · have hksz : (ks.length : Int) ≤ 0 := by omega
            have hk0 : ks = [] := List.length_eq_zero_iff.1 (by omega)
            have HNX2 : Hid (nodeX ⟨y0, y1, y2, y3⟩ roots = ⟨[(ky, [], 0)], [], [], [], []⟩) := Lib.hid (by rw [HNX.out, HKX.out, if_pos hk0, hk0])
            have HK0 := Lib.hid hk0
            have HPr : Hid (Blk wr w2.heap.size 78 #[.string (Str ky), .string ⟨#[]⟩, .int .i64 0]) := Lib.hid (HPB.out.below HB.out (by omega))
            clear hk0 hks
            go_wp2
            obtain ⟨z0, z1, z2, z3, z4, -⟩ := p5_ok (blk_set5 HRr.out (.slice (some ⟨w2.heap.size, 0, none⟩) 1 1) (.slice none 0 0) (.slice av ks.length cv) (.slice none 0 0) (.slice none 0 0))
            refine bodyPost_ret (v := .agg #[.slice (some ⟨w2.heap.size, 0, none⟩) 1 1, .slice none 0 0, .slice av ks.length cv, .slice none 0 0, .slice none 0 0]) (by simp [results, Try.results13, go_sem, z0, z1, z2, z3, z4]) rfl ?_
            rw [HNX2.out]
            have hb5 := below_set5 HBw.out (w.heap.size + 1) (by omega) (.slice (some ⟨w2.heap.size, 0, none⟩) 1 1) (.slice none 0 0) (.slice av ks.length cv) (.slice none 0 0) (.slice none 0 0)
            have hgn := own_blkOf HO.out
            have hw : blkOf (Value.slice av ks.length cv) ≠ some (w.heap.size + 1) := fun e => by have := hgn _ e; have := HL12.out; have := HS3.out; omega
            have hii := (((((IsInts.owned HO.out).set (w.heap.size + 1) 0 (.slice (some ⟨w2.heap.size, 0, none⟩) 1 1) hw).set (w.heap.size + 1) 1 (.slice none 0 0) hw).set (w.heap.size + 1) 2 (.slice av ks.length cv) hw).set (w.heap.size + 1) 3 (.slice none 0 0) hw).set (w.heap.size + 1) 4 (.slice none 0 0) hw
            rw [HK0.out] at hii ⊢
            have hpp := pair_lit HPr.out HKL.out
            refine ⟨_, rfl, ⟨_, _, _, _, _, rfl, ?_, IsStrs.nil _, hii, IsSums.nil _, IsMsgs.nil' _⟩, by rw [HK0.out] at hb5; exact hb5, ⟨_, _, _, _, _, rfl, fun q e => by have := hgn q (by rw [HK0.out]; exact e); have := HL12.out; have := HS3.out; omega, fun q e => by have e : w2.heap.size = q := Option.some.inj e; have := HL12.out; omega⟩⟩
            have hp2 : Blk (((((wr.setCell ⟨w.heap.size + 1, 0, none⟩ (.slice (some ⟨w2.heap.size, 0, none⟩) 1 1)).setCell ⟨w.heap.size + 1, 1, none⟩ (.slice none 0 0)).setCell ⟨w.heap.size + 1, 2, none⟩ (.slice av ([] : List Int).length cv)).setCell ⟨w.heap.size + 1, 3, none⟩ (.slice none 0 0)).setCell ⟨w.heap.size + 1, 4, none⟩ (.slice none 0 0)) w2.heap.size 78 #[.string (Str ky), .string ⟨#[]⟩, .int .i64 0] := by
              have hn : w2.heap.size ≠ w.heap.size + 1 := by have := HL12.out; omega
              exact ((((HPr.out.setCell_other hn _ _).setCell_other hn _ _).setCell_other hn _ _).setCell_other hn _ _).setCell_other hn _ _
            exact pair_lit hp2 HKL.out

      · have hkz : (4 : Int) ≤ (k : Int) := by omega
        clear hact hk
        obtain ⟨av, cv, rfl⟩ := own_sl HO.out
        have hnb := p5_ok HNr.out
        obtain ⟨n0, n1, n2, n3, n4, g0, g1, g2, g3, g4⟩ := hnb
        have HRr := Lib.hid (HR3.out.below HB.out (by have := HL12.out; omega))
        have hrb := p5_ok HRr.out
        obtain ⟨r0, r1, r2, r3, r4, t0, t1, t2, t3, t4⟩ := hrb
        have hne12 : w.heap.size + 1 ≠ w2.heap.size + 1 := by have := HL12.out; omega
        have HNE := Lib.hid hne12
        generalize kidsR ⟨y0, y1, y2, y3⟩ roots k = ks at *
        by_cases hks : 0 < ks.length
        · have hksz : (0 : Int) < (ks.length : Int) := by omega
          have HNX2 : Hid (nodeX ⟨y0, y1, y2, y3⟩ roots = ⟨[], [], ks, [], []⟩) := Lib.hid (by rw [HNX.out, HKX.out, if_neg (List.length_pos_iff.1 hks)])
          have HN5 := Lib.hid (HNr.out.setCell 0 (.slice none 0 0))
          have hN5 : Blk (wr.setCell ⟨w2.heap.size + 1, 0, none⟩ (.slice none 0 0)) (w2.heap.size + 1) 39 #[.slice none 0 0, .slice none 0 0, .slice av ks.length cv, .slice none 0 0, .slice none 0 0] := HN5.out
          obtain ⟨n0', n1', n2', n3', n4', -⟩ := p5_ok hN5
          have hR5 := HRr.out.setCell_other HNE.out 0 (.slice none 0 0)
          obtain ⟨r0', r1', r2', r3', r4', t0', t1', t2', t3', t4'⟩ := p5_ok hR5
          have HR5 := Lib.hid hR5
          have HB5 := Lib.hid (HB.out.setCell (p := ⟨w2.heap.size + 1, 0, none⟩) (Nat.le_refl _) (.slice none 0 0))
          have HO5 := Lib.hid (own_other HO.out (w2.heap.size + 1) 0 (.slice none 0 0) (own_ne HO.out (by have := HS3.out; omega)))
          clear n0 n1 n2 n3 n4 r0 r1 r2 r3 r4 hN5 hR5 hks
          have n2 : wr.cell? ⟨w2.heap.size + 1, 2, none⟩ = some (.slice av ks.length cv) := HNr.out.c0 2 _ rfl
          have n0 := HNr.out.c0 0 _ rfl
          go_wp2
          obtain ⟨z0, z1, z2, z3, z4, -⟩ := p5_ok (blk_set5 HR5.out (.slice none 0 0) (.slice none 0 0) (.slice av ks.length cv) (.slice none 0 0) (.slice none 0 0))
          refine bodyPost_ret (v := .agg #[.slice none 0 0, .slice none 0 0, .slice av ks.length cv, .slice none 0 0, .slice none 0 0]) (by simp [results, Try.results13, go_sem, z0, z1, z2, z3, z4]) rfl ?_
          rw [HNX2.out]
          have hb5 := below_set5 (HBw3.out.trans (HB5.out.mono (by have := HL12.out; omega))) (w.heap.size + 1) (by omega) (.slice none 0 0) (.slice none 0 0) (.slice av ks.length cv) (.slice none 0 0) (.slice none 0 0)
          have hgn := own_blkOf HO5.out
          have hw : blkOf (Value.slice av ks.length cv) ≠ some (w.heap.size + 1) := fun e => by have := hgn _ e; have := HL12.out; have := HS3.out; omega
          exact ⟨_, rfl, ⟨_, _, _, _, _, rfl, IsPairs.nil _, IsStrs.nil _, (((((IsInts.owned HO5.out).set _ 0 _ hw).set _ 1 _ hw).set _ 2 _ hw).set _ 3 _ hw).set _ 4 _ hw, IsSums.nil _, IsMsgs.nil' _⟩, hb5, ⟨_, _, _, _, _, rfl, fun q e => by have := hgn _ e; have := HL12.out; have := HS3.out; omega, fun q e => by cases e⟩⟩
        · have hksz : (ks.length : Int) ≤ 0 := by omega
          have hk0 : ks = [] := List.length_eq_zero_iff.1 (by omega)
          have HNX2 : Hid (nodeX ⟨y0, y1, y2, y3⟩ roots = ⟨[(ky, [], 0)], [], [], [], []⟩) := Lib.hid (by rw [HNX.out, HKX.out, if_pos hk0, hk0])
          have HK0 := Lib.hid hk0
          have HPr : Hid (Blk wr w2.heap.size 78 #[.string (Str ky), .string ⟨#[]⟩, .int .i64 0]) := Lib.hid (HPB.out.below HB.out (by omega))
          clear hk0 hks
          go_wp2
          obtain ⟨z0, z1, z2, z3, z4, -⟩ := p5_ok (blk_set5 HRr.out (.slice (some ⟨w2.heap.size, 0, none⟩) 1 1) (.slice none 0 0) (.slice av ks.length cv) (.slice none 0 0) (.slice none 0 0))
          refine bodyPost_ret (v := .agg #[.slice (some ⟨w2.heap.size, 0, none⟩) 1 1, .slice none 0 0, .slice av ks.length cv, .slice none 0 0, .slice none 0 0]) (by simp [results, Try.results13, go_sem, z0, z1, z2, z3, z4]) rfl ?_
          rw [HNX2.out]
          have hb5 := below_set5 HBw.out (w.heap.size + 1) (by omega) (.slice (some ⟨w2.heap.size, 0, none⟩) 1 1) (.slice none 0 0) (.slice av ks.length cv) (.slice none 0 0) (.slice none 0 0)
          have hgn := own_blkOf HO.out
          have hw : blkOf (Value.slice av ks.length cv) ≠ some (w.heap.size + 1) := fun e => by have := hgn _ e; have := HL12.out; have := HS3.out; omega
          have hii := (((((IsInts.owned HO.out).set (w.heap.size + 1) 0 (.slice (some ⟨w2.heap.size, 0, none⟩) 1 1) hw).set (w.heap.size + 1) 1 (.slice none 0 0) hw).set (w.heap.size + 1) 2 (.slice av ks.length cv) hw).set (w.heap.size + 1) 3 (.slice none 0 0) hw).set (w.heap.size + 1) 4 (.slice none 0 0) hw
          rw [HK0.out] at hii ⊢
          have hpp := pair_lit HPr.out HKL.out
          refine ⟨_, rfl, ⟨_, _, _, _, _, rfl, ?_, IsStrs.nil _, hii, IsSums.nil _, IsMsgs.nil' _⟩, by rw [HK0.out] at hb5; exact hb5, ⟨_, _, _, _, _, rfl, fun q e => by have := hgn q (by rw [HK0.out]; exact e); have := HL12.out; have := HS3.out; omega, fun q e => by have e : w2.heap.size = q := Option.some.inj e; have := HL12.out; omega⟩⟩
          have hp2 : Blk (((((wr.setCell ⟨w.heap.size + 1, 0, none⟩ (.slice (some ⟨w2.heap.size, 0, none⟩) 1 1)).setCell ⟨w.heap.size + 1, 1, none⟩ (.slice none 0 0)).setCell ⟨w.heap.size + 1, 2, none⟩ (.slice av ([] : List Int).length cv)).setCell ⟨w.heap.size + 1, 3, none⟩ (.slice none 0 0)).setCell ⟨w.heap.size + 1, 4, none⟩ (.slice none 0 0)) w2.heap.size 78 #[.string (Str ky), .string ⟨#[]⟩, .int .i64 0] := by
            have hn : w2.heap.size ≠ w.heap.size + 1 := by have := HL12.out; omega
            exact ((((HPr.out.setCell_other hn _ _).setCell_other hn _ _).setCell_other hn _ _).setCell_other hn _ _).setCell_other hn _ _
          exact pair_lit hp2 HKL.out

end Go.Proofs.Ytlgangcldlphnaa
