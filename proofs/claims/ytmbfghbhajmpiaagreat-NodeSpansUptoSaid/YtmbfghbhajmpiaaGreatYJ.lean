/-
  Walks: Check, Over and Spans of package node.
-/
import Derived.Test.YtmbfghbhajmpiaaGreatY3
import Derived.Laws.Bits64
namespace Go.Proofs.YtmbfghbhajmpiaaGreat
open Go.RowKit Go.Sort
set_option linter.unusedVariables false

theorem owns_baseG {w : World} {B C size m : Nat} {T : TypeId} {v : Value} {xs : List Value} (hBC : C ≤ B) (h : w.ownsRow B T size v m xs) : w.ownsRow C T size v m xs := by
  refine ⟨h.1, ?_⟩
  rcases h.2 with h | ⟨g, cp, cur, h2, h3, h4⟩
  · exact .inl h
  · exact .inr ⟨g, cp, cur, h2, Nat.le_trans hBC h3, h4⟩
/-- One step of the check; the check of a list. -/
def mixK (h : Nat) (c : UInt8) : Nat := ((h ^^^ c.toNat) * 1099511628211) % 18446744073709551616
def checkN (l : Bs) : Nat := l.foldl mixK 14695981039346656037
theorem mixK_lt (h : Nat) (c : UInt8) : mixK h c < 18446744073709551616 := by unfold mixK; omega
theorem checkN_snoc (l : Bs) (c : UInt8) : checkN (l ++ [c]) = mixK (checkN l) c := by unfold checkN; rw [List.foldl_append, List.foldl_cons, List.foldl_nil]
def limK (h : Nat) : Prop := h < 18446744073709551616
theorem mulW (x : Nat) : (((x : Nat) : Int) * 1099511628211) % 18446744073709551616 = ((x * 1099511628211 % 18446744073709551616 : Nat) : Int) := by
  rw [Int.natCast_emod, Int.natCast_mul]
  rfl
theorem mixW (h : Nat) (c : UInt8) (hh : limK h) : IntKind.u64.wrap (bits .xor .u64 (h : Int) ((c.toNat : Nat) : Int) * 1099511628211) = ((mixK h c : Nat) : Int) := by
  have hc : c.toNat < 18446744073709551616 := Nat.lt_of_lt_of_le c.toNat_lt (by simp)
  have hh2 : h < 18446744073709551616 := hh
  rw [bits_xor_u64_nat h c.toNat hh2 hc, IntKind.wrap_u64]
  exact mulW _
theorem convW (c : UInt8) : IntKind.u64.wrap ((c.toNat : Nat) : Int) = ((c.toNat : Nat) : Int) := by
  have hc : c.toNat < 256 := c.toNat_lt
  rw [IntKind.wrap_u64]; omega
theorem at_byte {w : World} {v : Value} {l : Bs} (h : IsBytes w v l) (i : Nat) (hi : i < l.length) : ∃ b off cap, v = .slice (some ⟨b, off, none⟩) l.length cap ∧ b < w.heap.size ∧ (l.length : Int) ≤ 9223372036854775807 ∧
    w.cell? ⟨b, off + i, none⟩ = some (.int .u8 (l[i].toNat)) := by
  obtain ⟨a, cap, rfl, h1, h2, h3⟩ := h
  obtain ⟨b, off, rfl, h4, h5⟩ := h3 (by rintro rfl; simp at hi)
  unfold maxLen at h2
  exact ⟨b, off, cap, rfl, h4, by omega, h5 i hi⟩

set_option maxRecDepth 100000 in
set_option maxHeartbeats 1000000 in
theorem check_w (v : Value) (l : Bs) (w : World) (h : IsBytes w v l) : Calls Tryz.prog 35 #[v] w fun e w' => e = .returned (.int .u64 ((checkN l : Nat) : Int)) ∧ w = w' := by
  have H := Lib.hid h
  obtain ⟨a, cap, rfl, hlc, hcm, -⟩ := h
  unfold maxLen at hcm
  go_enter Tryz.func35, Tryz.ntmps35
  go_wp2
  go_loop [3, 8] (fun s i => ∃ (k h : Nat), k ≤ l.length ∧ i = .int .i64 k ∧ s = .int .u64 h ∧ Hid (limK h) ∧ Hid (checkN (l.take k) = h)) (fun _ i => l.length - (intOf i).toNat)
  case atStart => exact ⟨0, 14695981039346656037, Nat.zero_le _, rfl, rfl, Lib.hid (by unfold limK; omega), Lib.hid rfl⟩
  case round =>
    obtain ⟨k, h, hk, rfl, rfl, hh, hc⟩ := hrel
    by_cases hlt : k < l.length
    · obtain ⟨bb, off, cap', he, hbl, hlz, x0⟩ := at_byte H.out k hlt
      injection he with he1 he2 he3
      subst he1 he3
      clear he2
      have hltz : (k : Int) < (l.length : Int) := by omega
      have Htk := Lib.hid (show l.take (k + 1) = l.take k ++ [l[k]] by rw [List.take_add_one, List.getElem?_eq_getElem hlt]; rfl)
      generalize l[k] = x at *
      have hm := mixW h x hh.out
      have hv := convW x
      have Hs : Hid (limK (mixK h x) ∧ checkN (l.take (k + 1)) = mixK h x) := Lib.hid ⟨mixK_lt _ _, by rw [Htk.out, checkN_snoc, hc.out]⟩
      clear Htk hc
      generalize mixK h x = h2 at *
      go_wp2
      go_round
      case rel => exact ⟨k + 1, h2, by omega, by go_num, rfl, Lib.hid Hs.out.1, Lib.hid Hs.out.2⟩
      case measure => simp [intOf]; omega
    · obtain rfl : k = l.length := by omega
      rw [List.take_length] at hc
      go_wp2
      go_ret
      exact ⟨by rw [hc.out]; rfl, rfl⟩

set_option maxRecDepth 100000 in
set_option maxHeartbeats 2000000 in
theorem over_w (v : Value) (n : Nd) (a b c : Int) (w : World) (h : IsNode w v n) : Calls Tryz.prog 57 #[v, .agg #[.int .i64 a, .int .i64 b, .int .i64 c]] w fun e w' => e = .returned (.bool (if n.kids = [] then decide (a < n.pairs.length) else (decide (b < n.kids.length) || decide (c < n.buf.length)))) ∧ Grown w w' := by
  have mixed := mixedA
  have HL := Lib.hid (fun wx (hx : Grown w wx) => isLeaf_w v n wx (h.below (hx.below (Nat.le_refl _))))
  obtain ⟨a', b', c', d', e', rfl, ⟨pa, ca, rfl, -⟩, -, ⟨pc, cc, rfl, -⟩, -, ⟨pe, ce, rfl, -⟩⟩ := h
  obtain ⟨W1, hW1⟩ : ∃ W1, W1 = (w.alloc (.cells #[.slice pa n.pairs.length ca, b', .slice pc n.kids.length cc, d', .slice pe n.buf.length ce] 34)).alloc (.cells #[.int .i64 a, .int .i64 b, .int .i64 c] 112) := ⟨_, rfl⟩
  have HM : Hid (Blk W1 w.heap.size 34 #[.slice pa n.pairs.length ca, b', .slice pc n.kids.length cc, d', .slice pe n.buf.length ce]) := Lib.hid (by rw [hW1]; exact (Blk.new _ _ _).alloc _)
  have HC : Hid (Blk W1 (w.heap.size + 1) 112 #[.int .i64 a, .int .i64 b, .int .i64 c]) := Lib.hid (by rw [hW1]; exact Blk.new' _ _ _ (by simp))
  have HG : Hid (Grown w W1) := Lib.hid (by rw [hW1]; exact ((Grown.refl w).alloc _).alloc _)
  have n0 := HM.out.c0 0 _ rfl
  have n1 := HM.out.c0 1 _ rfl
  have n2 := HM.out.c0 2 _ rfl
  have n3 := HM.out.c0 3 _ rfl
  have n4 := HM.out.c0 4 _ rfl
  have HW1 := Lib.hid hW1
  clear hW1
  by_cases hk : n.kids = []
  · have HF : Hid ((if n.kids = [] then decide (a < n.pairs.length) else (decide (b < n.kids.length) || decide (c < n.buf.length))) = decide (a < n.pairs.length)) := Lib.hid (by rw [if_pos hk])
    rw [decide_eq_true hk] at HL
    generalize (if n.kids = [] then decide (a < n.pairs.length) else (decide (b < n.kids.length) || decide (c < n.buf.length))) = R at *
    clear hk
    go_enter Tryz.func57, Tryz.ntmps57
    go_wp2_with fail
    rw [← HW1.out]
    refine (HL.out _ HG.out).mono ?_
    rintro e w2 ⟨rfl, hg⟩
    have Hg2 := Lib.hid hg
    clear hg n0 n1 n2 n3 n4
    have n0 := (blkG HM.out Hg2.out).c0 0 _ rfl
    have s0 := (blkG HC.out Hg2.out).c0 0 _ rfl
    go_wp2
    go_ret
    exact ⟨ret_bool (by rw [HF.out]), HG.out.trans Hg2.out⟩
  · have HF : Hid ((if n.kids = [] then decide (a < n.pairs.length) else (decide (b < n.kids.length) || decide (c < n.buf.length))) = (decide (b < n.kids.length) || decide (c < n.buf.length))) := Lib.hid (by rw [if_neg hk])
    rw [decide_eq_false hk] at HL
    generalize (if n.kids = [] then decide (a < n.pairs.length) else (decide (b < n.kids.length) || decide (c < n.buf.length))) = R at *
    clear hk
    by_cases h1 : b < n.kids.length
    · have HR : Hid (R = true) := Lib.hid (by rw [HF.out, decide_eq_true h1]; rfl)
      go_enter Tryz.func57, Tryz.ntmps57
      go_wp2_with fail
      rw [← HW1.out]
      refine (HL.out _ HG.out).mono ?_
      rintro e w2 ⟨rfl, hg⟩
      have Hg2 := Lib.hid hg
      clear hg n0 n1 n2 n3 n4
      have n2 := (blkG HM.out Hg2.out).c0 2 _ rfl
      have n4 := (blkG HM.out Hg2.out).c0 4 _ rfl
      have s1 := (blkG HC.out Hg2.out).c0 1 _ rfl
      have s2 := (blkG HC.out Hg2.out).c0 2 _ rfl
      go_wp2
      go_ret
      exact ⟨ret_bool (by rw [HR.out]), HG.out.trans Hg2.out⟩
    · have hd : decide (b < n.kids.length) = false := decide_eq_false h1
      have HR : Hid (R = decide (c < n.buf.length)) := Lib.hid (by rw [HF.out, hd, Bool.false_or])
      clear hd
      go_enter Tryz.func57, Tryz.ntmps57
      go_wp2_with fail
      rw [← HW1.out]
      refine (HL.out _ HG.out).mono ?_
      rintro e w2 ⟨rfl, hg⟩
      have Hg2 := Lib.hid hg
      clear hg n0 n1 n2 n3 n4
      have n2 := (blkG HM.out Hg2.out).c0 2 _ rfl
      have n4 := (blkG HM.out Hg2.out).c0 4 _ rfl
      have s1 := (blkG HC.out Hg2.out).c0 1 _ rfl
      have s2 := (blkG HC.out Hg2.out).c0 2 _ rfl
      go_wp2
      go_ret
      exact ⟨ret_bool (by first | exact HF.out.symm | exact HR.out.symm), HG.out.trans Hg2.out⟩

set_option maxRecDepth 100000 in
set_option maxHeartbeats 2000000 in
theorem nspans_w (v : Value) (n : Nd) (s : Sp) (w : World) (h : IsNode w v n) (hl : n.pivots.length ≤ 1000) : Calls Tryz.prog 33 #[v, .agg #[.string (Str s.1), .string (Str s.2)]] w fun e w' => ∃ v', e = .returned v' ∧ w'.ownsRow w.heap.size 41 2 v' (if n.kids = [] then [] else partsF s [] n.pivots).length ((if n.kids = [] then [] else partsF s [] n.pivots).flatMap encS) ∧ Below w.heap.size w w' := by
  have mixed := mixedA
  have HL := Lib.hid (fun wx (hx : Grown w wx) => isLeaf_w v n wx (h.below (hx.below (Nat.le_refl _))))
  obtain ⟨a, b, c, d, e, rfl, -, hI, -⟩ := h
  have HP := Lib.hid (fun wx (hx : Grown w wx) => parts_w s.1 s.2 b n.pivots wx (hI.below (hx.below (Nat.le_refl _))) hl)
  clear hI
  obtain ⟨W1, hW1⟩ : ∃ W1, W1 = (w.alloc (.cells #[a, b, c, d, e] 34)).alloc (.cells #[.string (Str s.1), .string (Str s.2)] 41) := ⟨_, rfl⟩
  have HM : Hid (Blk W1 w.heap.size 34 #[a, b, c, d, e]) := Lib.hid (by rw [hW1]; exact (Blk.new _ _ _).alloc _)
  have HC : Hid (Blk W1 (w.heap.size + 1) 41 #[.string (Str s.1), .string (Str s.2)]) := Lib.hid (by rw [hW1]; exact Blk.new' _ _ _ (by simp))
  have HG : Hid (Grown w W1) := Lib.hid (by rw [hW1]; exact ((Grown.refl w).alloc _).alloc _)
  have n0 := HM.out.c0 0 _ rfl
  have n1 := HM.out.c0 1 _ rfl
  have n2 := HM.out.c0 2 _ rfl
  have n3 := HM.out.c0 3 _ rfl
  have n4 := HM.out.c0 4 _ rfl
  have HW1 := Lib.hid hW1
  clear hW1
  by_cases hk : n.kids = []
  · have HF : Hid ((if n.kids = [] then [] else partsF s [] n.pivots) = []) := Lib.hid (by rw [if_pos hk])
    rw [decide_eq_true hk] at HL
    generalize (if n.kids = [] then [] else partsF s [] n.pivots) = R at *
    clear hk
    go_enter Tryz.func33, Tryz.ntmps33
    go_wp2_with fail
    rw [← HW1.out]
    refine (HL.out _ HG.out).mono ?_
    rintro e w2 ⟨rfl, hg⟩
    have Hg2 := Lib.hid hg
    clear hg n0 n1 n2 n3 n4
    go_wp2
    go_ret
    rw [HF.out]
    exact ⟨_, rfl, World.ownsRow_nil _ _ _ _, (HG.out.trans Hg2.out).below (Nat.le_refl _)⟩
  · have HF : Hid ((if n.kids = [] then [] else partsF s [] n.pivots) = partsF s [] n.pivots) := Lib.hid (by rw [if_neg hk])
    rw [decide_eq_false hk] at HL
    generalize (if n.kids = [] then [] else partsF s [] n.pivots) = R at *
    clear hk
    go_enter Tryz.func33, Tryz.ntmps33
    go_wp2_with fail
    rw [← HW1.out]
    refine (HL.out _ HG.out).mono ?_
    rintro e w2 ⟨rfl, hg⟩
    have Hg2 := Lib.hid hg
    clear hg n0 n1 n2 n3 n4
    have n1 := (blkG HM.out Hg2.out).c0 1 _ rfl
    have s0 := (blkG HC.out Hg2.out).c0 0 _ rfl
    have s1 := (blkG HC.out Hg2.out).c0 1 _ rfl
    go_wp2_with fail
    refine (HP.out _ (HG.out.trans Hg2.out)).mono ?_
    rintro e w3 ⟨v', rfl, ho, hb⟩
    have Ho := Lib.hid ho
    have Hb := Lib.hid hb
    clear ho hb
    go_wp2
    go_ret
    rw [HF.out]
    have hg := (HG.out.trans Hg2.out).below (B := w.heap.size) (Nat.le_refl _)
    exact ⟨_, rfl, owns_baseG hg.size Ho.out, hg.trans (Hb.out.mono hg.size)⟩

end Go.Proofs.YtmbfghbhajmpiaaGreat
