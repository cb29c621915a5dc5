/-
  Walks: the entries that the reference makes.
-/
import Derived.Test.YtachicdkgkiiiaaEWC
import Derived.Test.YtachicdkgkiiiaaES3
namespace Go.Proofs.Ytachicdkgkiiiaa
open Go.RowKit Go.Sort
set_option linter.unusedVariables false

theorem conv1d {n c : Nat} (W : World) (T : TypeId) (a : Int) (h : n = W.heap.size) :
    (convert 43 9 (.slice (some ⟨n, 0, none⟩) 1 c)).run Try.prog (W.alloc (.cells #[.int .u8 a] T)).drew =
      .ok (.string (Str [UInt8.ofNat a.toNat])) (W.alloc (.cells #[.int .u8 a] T)).drew := by
  subst h
  have h := run_convert_bytes_arg (P := Try.prog) (W.alloc (.cells #[.int .u8 a] T)).drew 43 5 Try.underlying43 Try.underlying5 W.heap.size 0 1 c [a] rfl (fun i hi => by
    obtain rfl : i = 0 := by omega
    show (W.alloc (.cells #[.int .u8 a] T)).cell? _ = _
    rw [Nat.zero_add, World.cell?_alloc_new]; simp) 9 Try.underlying9
  rw [h]
  rfl
attribute [go_sem] conv1d

/-- A raw entry as cells. -/
def rawC (k o a b : Nat) (t : Bs) : Array Value := #[.int .u8 k, .int .u8 o, .int .u16 a, .int .u16 b, .string (Str t)]

set_option maxRecDepth 100000 in
set_option maxHeartbeats 1000000 in
theorem made0_w (k o a b : Nat) (t : Bs) (w : World) (hk : k < 256) (ho : o < 256) (ha : a < 65536) (hb : b < 65536) (h : k % 4 = 0) :
    Calls Try.prog 21 #[.agg #[.int .u8 k, .int .u8 o, .int .u16 a, .int .u16 b, .string (Str t)]] w fun e w' => e = .returned (.agg #[.int .i64 1, .int .i64 0, .int .i64 0, .int .i64 0, .int .i64 o, .string (Str [])]) ∧ Below w.heap.size w w' := by
  have e : (k : Int) % 4 = 0 := by omega
  have ho' : (o : Int) ≤ 255 := by omega
  clear h
  go_enter Try.func21, Try.ntmps21
  go_wp2
  exact bodyPost_ret (v := .agg #[.int .i64 1, .int .i64 0, .int .i64 0, .int .i64 0, .int .i64 o, .string (Str [])]) (by simp [results, Try.results21, go_sem]; rfl) rfl ⟨rfl, (((below_box _).alloc (by simp) _).alloc (by simp; omega) _)⟩

set_option maxRecDepth 100000 in
set_option maxHeartbeats 1000000 in
theorem made1_w (k o a b : Nat) (t : Bs) (w : World) (hk : k < 256) (ho : o < 256) (ha : a < 65536) (hb : b < 65536) (h : k % 4 = 1) :
    Calls Try.prog 21 #[.agg #[.int .u8 k, .int .u8 o, .int .u16 a, .int .u16 b, .string (Str t)]] w fun e w' => e = .returned (.agg #[.int .i64 2, .int .i64 (a % 60001 : Nat), .int .i64 (b % 1001 : Nat), .int .i64 0, .int .i64 o, .string (Str [])]) ∧ Below w.heap.size w w' := by
  have e : (k : Int) % 4 = 1 := by omega
  have ho' : (o : Int) ≤ 255 := by omega
  have ha' : (a : Int) ≤ 65535 := by omega
  have hb' : (b : Int) ≤ 65535 := by omega
  clear h
  go_enter Try.func21, Try.ntmps21
  go_wp2
  exact bodyPost_ret (v := .agg #[.int .i64 2, .int .i64 (a % 60001 : Nat), .int .i64 (b % 1001 : Nat), .int .i64 0, .int .i64 o, .string (Str [])]) (by simp [results, Try.results21, go_sem]; rfl) rfl ⟨rfl, (((below_box _).alloc (by simp) _).alloc (by simp; omega) _)⟩

set_option maxRecDepth 100000 in
set_option maxHeartbeats 1000000 in
theorem made3_w (k o a b : Nat) (t : Bs) (w : World) (hk : k < 256) (ho : o < 256) (ha : a < 65536) (hb : b < 65536) (h : k % 4 = 3) :
    Calls Try.prog 21 #[.agg #[.int .u8 k, .int .u8 o, .int .u16 a, .int .u16 b, .string (Str t)]] w fun e w' => e = .returned (.agg #[.int .i64 4, .int .i64 0, .int .i64 0, .int .i64 (a * 32768 + b % 32768 : Nat), .int .i64 o, .string (Str [])]) ∧ Below w.heap.size w w' := by
  have e : (k : Int) % 4 = 3 := by omega
  have ho' : (o : Int) ≤ 255 := by omega
  have ha' : (a : Int) ≤ 65535 := by omega
  have hb' : (b : Int) ≤ 65535 := by omega
  clear h
  go_enter Try.func21, Try.ntmps21
  go_wp2
  exact bodyPost_ret (v := .agg #[.int .i64 4, .int .i64 0, .int .i64 0, .int .i64 (a * 32768 + b % 32768 : Nat), .int .i64 o, .string (Str [])]) (by simp [results, Try.results21, go_sem]; rfl) rfl ⟨rfl, (((below_box _).alloc (by simp) _).alloc (by simp; omega) _)⟩

theorem madeT_take (t : Bs) (k : Nat) (h : k < t.length) : (t.map prC).take (k + 1) = (t.map prC).take k ++ [32 + t[k] % 95] := by
  rw [List.take_add_one, List.getElem?_eq_getElem (by simpa using h)]; simp [prC]

set_option maxRecDepth 100000 in
set_option maxHeartbeats 1000000 in
theorem made2_w (k o a b : Nat) (t : Bs) (w : World) (hk : k < 256) (ho : o < 256) (ha : a < 65536) (hb : b < 65536) (ht : t.length ≤ maxLen) (h : k % 4 = 2) :
    Calls Try.prog 21 #[.agg #[.int .u8 k, .int .u8 o, .int .u16 a, .int .u16 b, .string (Str t)]] w fun e w' => e = .returned (.agg #[.int .i64 3, .int .i64 0, .int .i64 0, .int .i64 0, .int .i64 o, .string (Str (madeT t))]) ∧ Below w.heap.size w w' := by
  have e : (k : Int) % 4 = 2 := by omega
  have ho' : (o : Int) ≤ 255 := by omega
  unfold maxLen at ht
  clear h
  go_enter Try.func21, Try.ntmps21
  go_wp2
  go_loopw [4] (fun i wr => ∃ j : Nat, j ≤ t.length ∧ j ≤ 49 ∧ i = .int .i64 j ∧ Blk wr w.heap.size 41 #[.int .u8 k, .int .u8 o, .int .u16 a, .int .u16 b, .string (Str t)] ∧ Blk wr (w.heap.size + 1) 23 #[.int .i64 0, .int .i64 0, .int .i64 0, .int .i64 0, .int .i64 0, .string ⟨#[]⟩] ∧
    Blk wr (w.heap.size + 1 + 1) 23 #[.int .i64 3, .int .i64 0, .int .i64 0, .int .i64 0, .int .i64 o, .string (Str (46 :: (t.map prC).take j))] ∧ Below w.heap.size w wr) (fun i _ => 50 - (intOf i).toNat)
  case atStart => exact ⟨0, Nat.zero_le _, by omega, rfl, ((Blk.new _ _ _).alloc _).alloc _, (Blk.new' _ _ _ (by simp)).alloc _, Blk.new' _ _ _ (by simp), ((below_box _).alloc (by simp) _).alloc (by simp; omega) _⟩
  case round =>
    obtain ⟨j, hj, hj49, rfl, h0, h1, h2, hbel⟩ := hrel
    have r4 := h0.c0 4 _ rfl
    have e5 := h2.c0 5 _ rfl
    have f5 := h2.free 5
    simp at r4 e5
    have lt0 := h0.lt
    have lt2 := h2.lt
    have H0 := Lib.hid h0
    have H1 := Lib.hid h1
    have H2 := Lib.hid h2
    have Hbel := Lib.hid hbel
    clear h0 h1 h2 hbel
    by_cases hlt : j < t.length ∧ j < 49
    · obtain ⟨ha1, ha2⟩ := hlt
      have d1 : (j : Int) < (t.length : Int) := by omega
      have d2 : (j : Int) < 49 := by omega
      have Htk := Lib.hid (madeT_take t j ha1)
      have hc : t[j].toNat < 256 := t[j].toNat_lt
      go_wp2_with fail
      go_region
      go_wp2_with fail
      go_roundw
      case rel =>
        refine ⟨j + 1, by omega, by omega, by go_num, ?_, ?_, ?_, ?_⟩
        · exact (H0.out.setCell_other (by omega) 5 _).alloc _
        · exact (H1.out.setCell_other (by omega) 5 _).alloc _
        · rw [Htk.out]
          exact (H2.out.setCell 5 _).alloc _
        · exact ((Hbel.out.setCell (show w.heap.size ≤ w.heap.size + 1 + 1 by omega) _).alloc (by simp [World.setCell]; omega) _).drew
      case measure => simp [intOf]; omega
    · have hfin : (t.map prC).take j = (t.map prC).take 49 := by
        by_cases hj2 : j = 49
        · rw [hj2]
        · have : j = t.length := by omega
          rw [List.take_of_length_le (by simp; omega), List.take_of_length_le (by simp; omega)]
      rw [hfin] at e5 H2
      have z0 := H1.out.c0 0 _ rfl
      have z1 := H1.out.c0 1 _ rfl
      have z2 := H1.out.c0 2 _ rfl
      have z3 := H1.out.c0 3 _ rfl
      have z4 := H1.out.c0 4 _ rfl
      have z5 := H1.out.c0 5 _ rfl
      have y0 := H1.out.free 0
      have y1 := H1.out.free 1
      have y2 := H1.out.free 2
      have y3 := H1.out.free 3
      have y4 := H1.out.free 4
      have y5 := H1.out.free 5
      have x0 := H2.out.c0 0 _ rfl
      have x1 := H2.out.c0 1 _ rfl
      have x2 := H2.out.c0 2 _ rfl
      have x3 := H2.out.c0 3 _ rfl
      have x4 := H2.out.c0 4 _ rfl
      simp at z0 z1 z2 z3 z4 z5 x0 x1 x2 x3 x4
      have hfb := fun a0 a1 a2 a3 a4 a5 => below_set6 Hbel.out (w.heap.size + 1) (by omega) a0 a1 a2 a3 a4 a5
      have Hfb := Lib.hid hfb
      clear hfb hfin
      by_cases hjl : j < t.length
      · have d1 : (j : Int) < (t.length : Int) := by omega
        have d2 : 49 ≤ (j : Int) := by omega
        go_wp2_with fail
        exact bodyPost_ret (v := .agg #[.int .i64 3, .int .i64 0, .int .i64 0, .int .i64 0, .int .i64 o, .string (Str (madeT t))]) (by simp [results, Try.results21, go_sem, z0, z1, z2, z3, z4, z5]; rfl) rfl ⟨rfl, Hfb.out _ _ _ _ _ _⟩
      · have d1 : (t.length : Int) ≤ (j : Int) := by omega
        go_wp2_with fail
        exact bodyPost_ret (v := .agg #[.int .i64 3, .int .i64 0, .int .i64 0, .int .i64 0, .int .i64 o, .string (Str (madeT t))]) (by simp [results, Try.results21, go_sem, z0, z1, z2, z3, z4, z5]; rfl) rfl ⟨rfl, Hfb.out _ _ _ _ _ _⟩

theorem made_w (k o a b : Nat) (t : Bs) (w : World) (hk : k < 256) (ho : o < 256) (ha : a < 65536) (hb : b < 65536) (ht : t.length ≤ maxLen) :
    Calls Try.prog 21 #[.agg #[.int .u8 k, .int .u8 o, .int .u16 a, .int .u16 b, .string (Str t)]] w fun e w' =>
      e = .returned (.agg #[.int .i64 (madeE k o a b t).kind, .int .i64 (madeE k o a b t).size, .int .i64 (madeE k o a b t).links, .int .i64 (madeE k o a b t).id, .int .i64 (madeE k o a b t).owner, .string (Str (madeE k o a b t).text)]) ∧ Below w.heap.size w w' := by
  by_cases h1 : k % 4 = 1
  · rw [show madeE k o a b t = ⟨2, (a % 60001 : Nat), (b % 1001 : Nat), 0, o, []⟩ from by unfold madeE; rw [if_pos h1]]
    exact made1_w k o a b t w hk ho ha hb h1
  · by_cases h2 : k % 4 = 2
    · rw [show madeE k o a b t = ⟨3, 0, 0, 0, o, madeT t⟩ from by unfold madeE; rw [if_neg h1, if_pos h2]]
      exact made2_w k o a b t w hk ho ha hb ht h2
    · by_cases h3 : k % 4 = 3
      · rw [show madeE k o a b t = ⟨4, 0, 0, (a * 32768 + b % 32768 : Nat), o, []⟩ from by unfold madeE; rw [if_neg h1, if_neg h2, if_pos h3]]
        exact made3_w k o a b t w hk ho ha hb h3
      · rw [show madeE k o a b t = ⟨1, 0, 0, 0, o, []⟩ from by unfold madeE; rw [if_neg h1, if_neg h2, if_neg h3]]
        exact made0_w k o a b t w hk ho ha hb (by omega)

end Go.Proofs.Ytachicdkgkiiiaa
