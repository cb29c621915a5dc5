/-
  Walks: the law's own add and refs.
-/
import Derived.Test.YtlgangcldlphnaaPZ
import Derived.Test.YtlgangcldlphnaaPM2
import Derived.Test.YtlgangcldlphnaaPH
import Derived.Test.YtlgangcldlphnaaPJ
namespace Go.Proofs.Ytlgangcldlphnaa
open Go.RowKit Go.Sort
set_option linter.unusedVariables false
set_option maxRecDepth 100000

set_option maxHeartbeats 4000000 in
theorem ladd_w (v nv : Value) (P : List Sl) (n : Nd) (w : World) (h : IsSlots w v P) (hn : IsNode w nv n) (hl : P.length ≤ 4096) (hk : n.kids.length ≤ 1000000) (hr : ∀ i, (atP P i).used = true → 0 ≤ (atP P i).refs ∧ (atP P i).refs ≤ 1000000000) :
    Calls Try.prog 15 #[poolV v, nv] w fun e w' => ∃ v', e = .returned (.agg #[v', .int .i64 (addP P n).2.1, .int .i64 (addP P n).2.2]) ∧ IsSlots w' v' (addP P n).1 ∧ Below w.heap.size w w' := by
  have mixed := mixedA
  have H := Lib.hid h
  have HND := Lib.hid hn
  obtain ⟨s, rfl, hs1, hs2, hs3, hs⟩ := hn.sl true false 1
  obtain ⟨su, sl, sr, sa, sb, sc, sd, se⟩ := s
  obtain ⟨a, cap, rfl, hlc, hcm, hpm⟩ := h.slice
  have HADD := Lib.hid (fun wx (hb : Below w.heap.size w wx) => add_w (.slice a P.length cap) _ P n w wx (h.slF.below hb) hb hn hl hk hr)
  clear h hn hs hs1 hs2 hs3
  obtain ⟨W1, hW1⟩ : ∃ W1, W1 = (((w.alloc (.cells #[.slice a P.length cap] 29)).alloc (.cells #[slv sa, slv sb, slv sc, slv sd, slv se] 39)).alloc (.cells #[.slice none 0 0, .int .i64 0, .int .i64 0] 44)) := ⟨_, rfl⟩
  have HB0 : Hid (Below w.heap.size w W1) := Lib.hid (by rw [hW1]; exact keepP (keepP (keepP (Below.refl _ _) _) _) _)
  have HP : Hid (Blk W1 w.heap.size 29 #[.slice a P.length cap]) := Lib.hid (by rw [hW1]; exact ((Blk.new _ _ _).alloc _).alloc _)
  have HN : Hid (Blk W1 (w.heap.size + 1) 39 #[slv sa, slv sb, slv sc, slv sd, slv se]) := Lib.hid (by rw [hW1]; exact (Blk.new' _ _ _ (by simp)).alloc _)
  have HR : Hid (Blk W1 (w.heap.size + 2) 44 #[.slice none 0 0, .int .i64 0, .int .i64 0]) := Lib.hid (by rw [hW1]; exact Blk.new' _ _ _ (by simp))
  have HW1 := Lib.hid hW1
  clear hW1
  go_enter Try.func15, Try.ntmps15
  go_upto_region 1 with fail
  rw [← HW1.out]
  have p0 := HP.out.c0 0 _ rfl
  obtain ⟨n0, n1, n2, n3, n4, -⟩ := p5_ok HN.out
  go_wp2_with fail
  refine (HADD.out _ HB0.out).mono ?_
  rintro e w2 ⟨v2, rfl, hout⟩
  obtain ⟨a2, c2, rfl⟩ : ∃ a2 c2, v2 = .slice a2 (addP P n).1.length c2 := by obtain ⟨L, _, a3, cap3, e3, _⟩ := hout.sl; exact ⟨a3, cap3, e3⟩
  have HOUT := Lib.hid hout
  have hr2 := HR.out.below hout.bel HR.out.lt
  have HFAR := Lib.hid (hout.far2 H.out (w.heap.size + 2) (by omega) HR.out.lt)
  obtain ⟨r0, r1, r2, g0, g1, g2⟩ := three_ok (hr2.alloc (.cells #[.slice a2 (addP P n).1.length c2] 29))
  have HR2 := Lib.hid hr2
  clear hout hr2 p0 n0 n1 n2 n3 n4
  go_wp2
  obtain ⟨z0, z1, z2, -⟩ := three_ok (blk_set3 (HR2.out.alloc (.cells #[.slice a2 (addP P n).1.length c2] 29)) (.slice a2 (addP P n).1.length c2) (.int .i64 (addP P n).2.1) (.int .i64 (addP P n).2.2))
  refine bodyPost_ret (v := .agg #[.slice a2 (addP P n).1.length c2, .int .i64 (addP P n).2.1, .int .i64 (addP P n).2.2]) (by simp [results, Try.results15, go_sem, z0, z1, z2]) rfl ?_
  have hB := below_set3 (keepP (HB0.out.trans (HOUT.out.bel.mono HB0.out.size)) (.cells #[.slice a2 (addP P n).1.length c2] 29)) (w.heap.size + 2) (by omega) (.slice a2 (addP P n).1.length c2) (.int .i64 (addP P n).2.1) (.int .i64 (addP P n).2.2)
  exact ⟨_, rfl, ((HOUT.out.sl.below (below_box _)).but (but_set3 _ _ _ _ _) HFAR.out).slots hB, hB⟩

def refsP (P : List Sl) : List Int := P.map fun s => s.refs
theorem refs_snoc {P : List Sl} {k : Nat} (h : k < P.length) : refsP (P.take (k + 1)) = refsP (P.take k) ++ [(atP P k).refs] := by
  unfold refsP
  rw [List.take_succ_eq_append_getElem h, List.map_append, atP_lt h]; rfl
set_option maxHeartbeats 4000000 in
theorem lrefs_w (v : Value) (P : List Sl) (w : World) (h : IsSlots w v P) (hl : P.length ≤ 1000000) :
    Calls Try.prog 36 #[poolV v] w fun e w' => ∃ v', e = .returned v' ∧ IsInts w' v' (refsP P) ∧ Below w.heap.size w w' := by
  have H := Lib.hid h
  obtain ⟨a, cap, rfl, hlc, hcm, hpm⟩ := h.slice
  clear h
  obtain ⟨W1, hW1⟩ : ∃ W1, W1 = ((w.alloc (.cells #[.slice a P.length cap] 29)).alloc (.cells #[] 3)) := ⟨_, rfl⟩
  have HB0 : Hid (Below w.heap.size w W1) := Lib.hid (by rw [hW1]; exact keepP (keepP (Below.refl _ _) _) _)
  have HP : Hid (Blk W1 w.heap.size 29 #[.slice a P.length cap]) := Lib.hid (by rw [hW1]; exact (Blk.new _ _ _).alloc _)
  have HO0 : Hid (W1.ownsRow (w.heap.size + 1) 3 1 (.slice (some ⟨w.heap.size + 1, 0, none⟩) 0 0) ([] : List Int).length (([] : List Int).flatMap encI)) := Lib.hid (by rw [hW1]; exact lit_own (w := w.alloc _) (by simp) (Nat.le_refl _))
  have HSZ1 : Hid (w.heap.size + 1 < W1.heap.size) := Lib.hid (by rw [hW1]; simp)
  have HW1 := Lib.hid hW1
  clear hW1
  go_enter Try.func36, Try.ntmps36
  go_upto_region 2 with fail
  rw [← HW1.out]
  go_wp2_with fail
  go_loopw [3, 4] (fun v i wr => ∃ k : Nat, k ≤ P.length ∧ i = .int .i64 k ∧ Hid (wr.ownsRow (w.heap.size + 1) 3 1 v (refsP (P.take k)).length ((refsP (P.take k)).flatMap encI)) ∧ Hid (Below (w.heap.size + 1) W1 wr)) (fun _ i _ => P.length - (intOf i).toNat)
  case atStart => exact ⟨0, Nat.zero_le _, rfl, HO0, Lib.hid (Below.refl _ _)⟩
  case round =>
    obtain ⟨k, hk, rfl, HO, HB⟩ := hrel
    have HPr := Lib.hid (HP.out.below (B := w.heap.size + 1) HB.out (by omega))
    have p0 : wr.cell? ⟨w.heap.size, 0, none⟩ = some (.slice a P.length cap) := HPr.out.c0 0 _ rfl
    have HBw : Hid (Below w.heap.size w wr) := Lib.hid (HB0.out.trans (HB.out.mono (by omega)))
    by_cases hlt : k < P.length
    · obtain ⟨bb, off, cap', s, he, hbl, hlz, hs, -, -, x2, -⟩ := slot_at (H.out.below HBw.out) k hlt
      injection he with he1 he2 he3
      subst he1 he3
      clear he2
      have hltz : (k : Int) < (P.length : Int) := by omega
      rw [hs.refs] at x2
      have HSN := Lib.hid (refs_snoc hlt)
      have HLE : Hid ((refsP (P.take k)).length + 1 ≤ 1000000000) := Lib.hid (by unfold refsP; rw [List.length_map, List.length_take]; omega)
      have HSZ : Hid (w.heap.size + 1 < wr.heap.size) := Lib.hid (Nat.lt_of_lt_of_le HSZ1.out HB.out.size)
      generalize (atP P k).refs = r at *
      generalize refsP (P.take k) = L at *
      clear hs
      go_wp2_with (at_builtin; refine append_ints rfl _ _ rfl (w.heap.size + 1) _ L rfl (owns_below HO.out (below_box _)) _ [r] rfl (isInts_lit [r] rfl (by simp) (by simp)) HLE.out (by have := HSZ.out; simp; omega) ?_; intro v4 w4 hown hb)
      have HO4 := Lib.hid hown
      have HB4 := Lib.hid hb
      clear hown hb
      go_roundw
      case rel =>
        refine ⟨k + 1, by omega, by go_num, ?_, Lib.hid (HB.out.trans (((below_box _).mono (by have := HSZ.out; omega)).trans HB4.out))⟩
        rw [HSN.out]
        exact Lib.hid HO4.out
      case measure => simp [intOf]; omega
    · obtain rfl : k = P.length := by omega
      rw [List.take_length] at HO
      go_wp2
      go_ret
      exact ⟨_, rfl, IsInts.owned HO.out, HBw.out⟩

end Go.Proofs.Ytlgangcldlphnaa
