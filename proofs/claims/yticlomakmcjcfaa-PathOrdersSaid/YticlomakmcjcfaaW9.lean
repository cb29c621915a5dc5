/-
  Walks: Body of package path.
-/
import Derived.Test.YticlomakmcjcfaaW8
import Derived.Laws.BitsAllLaws
namespace Go.Proofs.Yticlomakmcjcfaa
open Go.RowKit
set_option linter.unusedVariables false

def cntB : Nat → Int
  | 0 => 28 | 1 => 24 | 2 => 20 | 3 => 16 | 4 => 12 | 5 => 8 | 6 => 4 | 7 => 0 | _ => -4
/-- A list of bytes as cells. -/
def u8s (l : Bs) : List Value := l.map fun c => .int .u8 c.toNat
theorem u8s_len (l : Bs) : (u8s l).length = l.length := by simp [u8s]
theorem u8s_append (a b : Bs) : u8s (a ++ b) = u8s a ++ u8s b := by simp [u8s]
def BodyRel (n : Nat) (w : World) (k : Nat) (v : Value) (wr : World) : Prop :=
  wr.ownsRow w.heap.size 5 1 v (k + 1) (u8s (5 :: (hexL 8 n).take k)) ∧ Below w.heap.size w wr

theorem hexc (j : Nat) (h : j < (⟨#[48, 49, 50, 51, 52, 53, 54, 55, 56, 57, 97, 98, 99, 100, 101, 102]⟩ : ByteArray).size) :
    (⟨#[48, 49, 50, 51, 52, 53, 54, 55, 56, 57, 97, 98, 99, 100, 101, 102]⟩ : ByteArray)[j]'h = hexD j := by
  have h' : j < 16 := h
  have hc : j = 0 ∨ j = 1 ∨ j = 2 ∨ j = 3 ∨ j = 4 ∨ j = 5 ∨ j = 6 ∨ j = 7 ∨ j = 8 ∨ j = 9 ∨ j = 10 ∨ j = 11 ∨ j = 12 ∨ j = 13 ∨ j = 14 ∨ j = 15 := by omega
  rcases hc with e | e | e | e | e | e | e | e | e | e | e | e | e | e | e | e <;> subst e <;> rfl
attribute [go_sem] hexc
theorem and15 (n : Nat) (hn : n ≤ 2147483647) : bits .and .i64 (n : Int) 15 = ((n % 16 : Nat) : Int) := by
  have := bits_mask .i64 31 (by decide) (fun n h1 h2 => by rw [IntKind.wrap_i64]; omega) 4 (by decide) (n : Int) (by omega) (by omega)
  have e : ((2 : Int) ^ 4 - 1) = 15 := by decide
  rw [e] at this; rw [this]; omega
theorem and15d (n : Nat) (hn : n ≤ 2147483647) (d : Int) (hd : 0 < d) : bits .and .i64 ((n : Int) / d) 15 = ((n / d.toNat % 16 : Nat) : Int) := by
  obtain ⟨d, rfl⟩ := Int.eq_ofNat_of_zero_le (by omega : 0 ≤ d)
  rw [Int.toNat_natCast, ← Int.natCast_ediv]
  exact and15 _ (Nat.le_trans (Nat.div_le_self _ _) hn)
theorem info5 : (Try.prog.info? 5).map (fun i => (i.zero, i.size, i.bytes)) = some (some (.int .u8 0), 1, 1) := by kernel_rfl
theorem one_new (w : World) (T : TypeId) (v : Value) : ∀ (j : Nat) (u : Value), ([v] : List Value)[j]? = some u → (w.alloc (.cells #[v] T)).cell? ((⟨w.heap.size, 0, none⟩ : Addr).add j) = some u := by
  intro j u hj
  match j, hj with
  | 0, hj => simp at hj; subst hj; simp [Addr.add]

theorem conv_own {w : World} {base : Nat} {v : Value} {n : Nat} {l : Bs} (h : w.ownsRow base 5 1 v n (u8s l)) :
    (convert 22 9 v).run Try.prog w = .ok (.string (Str l)) w := by
  have hn : l.length = n := by have := h.1; rw [u8s_len] at this; omega
  rcases h.2 with ⟨rfl, rfl⟩ | ⟨g, cap, cur, rfl, hg, hh, hc1, hc2, hc3, hc4⟩
  · have : l = [] := List.length_eq_zero_iff.1 hn
    subst this
    rw [run_convert_bytes_nil (P := Try.prog) w 22 5 Try.underlying22 Try.underlying5 0 0 9 Try.underlying9]
    rfl
  · rw [run_convert_bytes_arg (P := Try.prog) w 22 5 Try.underlying22 Try.underlying5 g 0 n cap (l.map fun c => (c.toNat : Int)) (by simpa using hn) (fun i hi => by
      rw [Nat.zero_add, h.cellAt i (by omega)]
      simp only [u8s, List.getElem?_map, List.getD_eq_getElem?_getD]
      rw [List.getElem?_eq_getElem (by omega)]; rfl) 9 Try.underlying9]
    have : strOfNums (l.map fun c => (c.toNat : Int)) = Str l := by
      unfold strOfNums Str
      congr 2
      rw [List.map_map]
      conv => rhs; rw [← List.map_id l]
      apply List.map_congr_left
      intro c _
      simp
    rw [this]

theorem BodyRel.start (n : Nat) (w : World) : BodyRel n w 0 (.slice (some ⟨w.heap.size, 0, none⟩) 1 1) (w.alloc (.cells #[.int .u8 5] 5)) := by
  refine ⟨?_, (Below.refl _ w).alloc (Nat.le_refl _) _⟩
  exact World.ownsRow_lit w #[.int .u8 5] 1 (Nat.le_refl _) (by decide) rfl
theorem BodyRel.step {n k : Nat} {w wr w1 : World} {v v' : Value} (c : UInt8) (hk : (hexL 8 n).take (k + 1) = (hexL 8 n).take k ++ [c]) (h : BodyRel n w k v wr) (o : Obj)
    (ho : w1.ownsRow w.heap.size 5 1 v' (k + 1 + 1) (u8s (5 :: (hexL 8 n).take k) ++ [.int .u8 c.toNat])) (hg : (wr.alloc o).grownBy w1 v.ownBlock) : BodyRel n w (k + 1) v' w1 := by
  refine ⟨?_, ?_⟩
  · have e : u8s (5 :: (hexL 8 n).take (k + 1)) = u8s (5 :: (hexL 8 n).take k) ++ [.int .u8 c.toNat] := by rw [hk]; simp [u8s]
    rw [e]; exact ho
  · have hs := h.2.size
    refine Below.trans h.2 ?_
    refine Below.trans ((Below.refl _ wr).alloc (Nat.le_refl _) o |>.mono hs) ?_
    refine Below.grown (Below.refl _ _) hg (by simp; omega) (fun j hj => (h.1.lt j hj).1)
theorem hexL8 (n : Nat) : hexL 8 n = [hexD (n / 268435456 % 16), hexD (n / 16777216 % 16), hexD (n / 1048576 % 16), hexD (n / 65536 % 16), hexD (n / 4096 % 16), hexD (n / 256 % 16), hexD (n / 16 % 16), hexD (n % 16)] := by
  simp only [hexL, Nat.div_div_eq_div_mul, List.nil_append, List.cons_append]

set_option maxRecDepth 100000 in
set_option maxHeartbeats 2000000 in
theorem body_w (n : Int) (w : World) :
    Calls Try.prog 94 #[.int .i64 n] w fun e w' => e = .returned (.string (Str (bodyS n))) ∧ Below w.heap.size w w' := by
  by_cases h1 : n < 0
  · have H : Hid (bodyS n = []) := Lib.hid (by unfold bodyS; rw [if_pos (.inl h1)])
    go_enter Try.func94, Try.ntmps94
    go_wp2
    go_ret
    rw [H.out]
    exact ⟨rfl, Below.refl _ _⟩
  · by_cases h2 : 2147483647 < n
    · have H : Hid (bodyS n = []) := Lib.hid (by unfold bodyS; rw [if_pos (.inr h2)])
      go_enter Try.func94, Try.ntmps94
      go_wp2
      go_ret
      rw [H.out]
      exact ⟨rfl, Below.refl _ _⟩
    · have H : Hid (bodyS n = bodyN n.toNat) := Lib.hid (by unfold bodyS; rw [if_neg (by omega)])
      obtain ⟨n, rfl⟩ := Int.eq_ofNat_of_zero_le (by omega : 0 ≤ n)
      rw [Int.toNat_natCast] at H
      have hn : n ≤ 2147483647 := by omega
      have ha := and15 n hn
      have hd := and15d n hn
      have hl := hexL8 n
      have Hl := Lib.hid hl
      obtain ⟨i0, hi, hz0, hz1, hz2⟩ := info_parts info5
      clear h1 h2 hl
      go_enter Try.func94, Try.ntmps94
      go_wp2
      go_loopw [3, 4] (fun v i wr => ∃ k : Nat, k ≤ 8 ∧ i = .int .i64 (cntB k) ∧ BodyRel n w k v wr) (fun _ i _ => (intOf i + 4).toNat)
      case atStart => exact ⟨0, by omega, rfl, BodyRel.start n w⟩
      case round =>
        obtain ⟨k, hk, rfl, hrelk⟩ := hrel
        have Hown := Lib.hid hrelk.1
        have Hrel := Lib.hid hrelk
        have hsz := hrelk.2.size
        clear hrelk
        have hcase : k = 0 ∨ k = 1 ∨ k = 2 ∨ k = 3 ∨ k = 4 ∨ k = 5 ∨ k = 6 ∨ k = 7 ∨ k = 8 := by omega
        rcases hcase with rfl | rfl | rfl | rfl | rfl | rfl | rfl | rfl | rfl
        · have e : cntB 0 = 28 := rfl
          rw [e]
          clear e
          go_wp2_with (at_builtin; refine wpList_append_own _ rfl _ _ 22 rfl w.heap.size 5 i0 (.int .u8 0) 1 1 Try.underlying22 hi hz0 hz1 hz2 rfl (by decide) _ _ _ rfl (Hown.out.alloc _) ⟨wr.heap.size, 0, none⟩ 1 1 [_] rfl rfl (one_new _ _ _) ?c2 ?c3 ?c4 ?c5 ?_)
          case c2 => intro u hu; simp at hu; subst hu; rfl
          case c3 => unfold maxLen; omega
          case c4 => omega
          case c5 => simp; omega
          intro v' w1 hown' hgrow _
          have R := Lib.hid (BodyRel.step (hexD (n / 268435456 % 16)) (by rw [Hl.out]; rfl) Hrel.out _ (by exact hown') hgrow)
          clear hown' hgrow
          go_wp2
          go_roundw
          case rel => exact ⟨1, by omega, rfl, R.out⟩
          case measure => simp [intOf]
        · have e : cntB 1 = 24 := rfl
          rw [e]
          clear e
          go_wp2_with (at_builtin; refine wpList_append_own _ rfl _ _ 22 rfl w.heap.size 5 i0 (.int .u8 0) 1 1 Try.underlying22 hi hz0 hz1 hz2 rfl (by decide) _ _ _ rfl (Hown.out.alloc _) ⟨wr.heap.size, 0, none⟩ 1 1 [_] rfl rfl (one_new _ _ _) ?c2 ?c3 ?c4 ?c5 ?_)
          case c2 => intro u hu; simp at hu; subst hu; rfl
          case c3 => unfold maxLen; omega
          case c4 => omega
          case c5 => simp; omega
          intro v' w1 hown' hgrow _
          have R := Lib.hid (BodyRel.step (hexD (n / 16777216 % 16)) (by rw [Hl.out]; rfl) Hrel.out _ (by exact hown') hgrow)
          clear hown' hgrow
          go_wp2
          go_roundw
          case rel => exact ⟨2, by omega, rfl, R.out⟩
          case measure => simp [intOf]
        · have e : cntB 2 = 20 := rfl
          rw [e]
          clear e
          go_wp2_with (at_builtin; refine wpList_append_own _ rfl _ _ 22 rfl w.heap.size 5 i0 (.int .u8 0) 1 1 Try.underlying22 hi hz0 hz1 hz2 rfl (by decide) _ _ _ rfl (Hown.out.alloc _) ⟨wr.heap.size, 0, none⟩ 1 1 [_] rfl rfl (one_new _ _ _) ?c2 ?c3 ?c4 ?c5 ?_)
          case c2 => intro u hu; simp at hu; subst hu; rfl
          case c3 => unfold maxLen; omega
          case c4 => omega
          case c5 => simp; omega
          intro v' w1 hown' hgrow _
          have R := Lib.hid (BodyRel.step (hexD (n / 1048576 % 16)) (by rw [Hl.out]; rfl) Hrel.out _ (by exact hown') hgrow)
          clear hown' hgrow
          go_wp2
          go_roundw
          case rel => exact ⟨3, by omega, rfl, R.out⟩
          case measure => simp [intOf]
        · have e : cntB 3 = 16 := rfl
          rw [e]
          clear e
          go_wp2_with (at_builtin; refine wpList_append_own _ rfl _ _ 22 rfl w.heap.size 5 i0 (.int .u8 0) 1 1 Try.underlying22 hi hz0 hz1 hz2 rfl (by decide) _ _ _ rfl (Hown.out.alloc _) ⟨wr.heap.size, 0, none⟩ 1 1 [_] rfl rfl (one_new _ _ _) ?c2 ?c3 ?c4 ?c5 ?_)
          case c2 => intro u hu; simp at hu; subst hu; rfl
          case c3 => unfold maxLen; omega
          case c4 => omega
          case c5 => simp; omega
          intro v' w1 hown' hgrow _
          have R := Lib.hid (BodyRel.step (hexD (n / 65536 % 16)) (by rw [Hl.out]; rfl) Hrel.out _ (by exact hown') hgrow)
          clear hown' hgrow
          go_wp2
          go_roundw
          case rel => exact ⟨4, by omega, rfl, R.out⟩
          case measure => simp [intOf]
        · have e : cntB 4 = 12 := rfl
          rw [e]
          clear e
          go_wp2_with (at_builtin; refine wpList_append_own _ rfl _ _ 22 rfl w.heap.size 5 i0 (.int .u8 0) 1 1 Try.underlying22 hi hz0 hz1 hz2 rfl (by decide) _ _ _ rfl (Hown.out.alloc _) ⟨wr.heap.size, 0, none⟩ 1 1 [_] rfl rfl (one_new _ _ _) ?c2 ?c3 ?c4 ?c5 ?_)
          case c2 => intro u hu; simp at hu; subst hu; rfl
          case c3 => unfold maxLen; omega
          case c4 => omega
          case c5 => simp; omega
          intro v' w1 hown' hgrow _
          have R := Lib.hid (BodyRel.step (hexD (n / 4096 % 16)) (by rw [Hl.out]; rfl) Hrel.out _ (by exact hown') hgrow)
          clear hown' hgrow
          go_wp2
          go_roundw
          case rel => exact ⟨5, by omega, rfl, R.out⟩
          case measure => simp [intOf]
        · have e : cntB 5 = 8 := rfl
          rw [e]
          clear e
          go_wp2_with (at_builtin; refine wpList_append_own _ rfl _ _ 22 rfl w.heap.size 5 i0 (.int .u8 0) 1 1 Try.underlying22 hi hz0 hz1 hz2 rfl (by decide) _ _ _ rfl (Hown.out.alloc _) ⟨wr.heap.size, 0, none⟩ 1 1 [_] rfl rfl (one_new _ _ _) ?c2 ?c3 ?c4 ?c5 ?_)
          case c2 => intro u hu; simp at hu; subst hu; rfl
          case c3 => unfold maxLen; omega
          case c4 => omega
          case c5 => simp; omega
          intro v' w1 hown' hgrow _
          have R := Lib.hid (BodyRel.step (hexD (n / 256 % 16)) (by rw [Hl.out]; rfl) Hrel.out _ (by exact hown') hgrow)
          clear hown' hgrow
          go_wp2
          go_roundw
          case rel => exact ⟨6, by omega, rfl, R.out⟩
          case measure => simp [intOf]
        · have e : cntB 6 = 4 := rfl
          rw [e]
          clear e
          go_wp2_with (at_builtin; refine wpList_append_own _ rfl _ _ 22 rfl w.heap.size 5 i0 (.int .u8 0) 1 1 Try.underlying22 hi hz0 hz1 hz2 rfl (by decide) _ _ _ rfl (Hown.out.alloc _) ⟨wr.heap.size, 0, none⟩ 1 1 [_] rfl rfl (one_new _ _ _) ?c2 ?c3 ?c4 ?c5 ?_)
          case c2 => intro u hu; simp at hu; subst hu; rfl
          case c3 => unfold maxLen; omega
          case c4 => omega
          case c5 => simp; omega
          intro v' w1 hown' hgrow _
          have R := Lib.hid (BodyRel.step (hexD (n / 16 % 16)) (by rw [Hl.out]; rfl) Hrel.out _ (by exact hown') hgrow)
          clear hown' hgrow
          go_wp2
          go_roundw
          case rel => exact ⟨7, by omega, rfl, R.out⟩
          case measure => simp [intOf]
        · have e : cntB 7 = 0 := rfl
          rw [e]
          clear e
          go_wp2_with (at_builtin; refine wpList_append_own _ rfl _ _ 22 rfl w.heap.size 5 i0 (.int .u8 0) 1 1 Try.underlying22 hi hz0 hz1 hz2 rfl (by decide) _ _ _ rfl (Hown.out.alloc _) ⟨wr.heap.size, 0, none⟩ 1 1 [_] rfl rfl (one_new _ _ _) ?c2 ?c3 ?c4 ?c5 ?_)
          case c2 => intro u hu; simp at hu; subst hu; rfl
          case c3 => unfold maxLen; omega
          case c4 => omega
          case c5 => simp; omega
          intro v' w1 hown' hgrow _
          have R := Lib.hid (BodyRel.step (hexD (n % 16)) (by rw [Hl.out]; rfl) Hrel.out _ (by exact hown') hgrow)
          clear hown' hgrow
          go_wp2
          go_roundw
          case rel => exact ⟨8, by omega, rfl, R.out⟩
          case measure => simp [intOf]
        · have e : cntB 8 = -4 := rfl
          rw [e]
          clear e
          go_wp2_with (at_builtin; refine wpList_append_own _ rfl _ _ 22 rfl w.heap.size 5 i0 (.int .u8 0) 1 1 Try.underlying22 hi hz0 hz1 hz2 rfl (by decide) _ _ _ rfl (Hown.out.alloc _) ⟨wr.heap.size, 0, none⟩ 1 1 [_] rfl rfl (one_new _ _ _) ?c2 ?c3 ?c4 ?c5 ?_)
          case c2 => intro u hu; simp at hu; subst hu; rfl
          case c3 => unfold maxLen; omega
          case c4 => omega
          case c5 => simp; omega
          intro v' w1 hown' hgrow _
          have hB : Below w.heap.size w w1 := Below.trans (Hrel.out.2.alloc hsz _) (Below.grown (Below.refl _ _) hgrow (by simp; omega) (fun j hj => (Hown.out.lt j hj).1))
          have hcv := conv_own (l := bodyN n) (by have e : u8s (bodyN n) = u8s (5 :: (hexL 8 n).take 8) ++ [.int .u8 47] := by rw [List.take_of_length_le (by rw [Hl.out]; exact Nat.le_refl _)]; simp [u8s, bodyN]
                                                  rw [e]; exact hown')
          have HB := Lib.hid hB
          clear hB hown' hgrow
          go_wp2
          go_ret
          rw [H.out]
          exact ⟨rfl, HB.out⟩

end Go.Proofs.Yticlomakmcjcfaa
