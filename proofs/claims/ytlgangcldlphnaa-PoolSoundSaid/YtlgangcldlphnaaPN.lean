/-
  Walks: reference 11: Used, Get, Copied, Live, Has, and what compares.
-/
import Derived.Test.YtlgangcldlphnaaPI
namespace Go.Proofs.Ytlgangcldlphnaa
open Go.RowKit Go.Sort
set_option linter.unusedVariables false
set_option maxRecDepth 100000

theorem own_sl {w : World} {base : Nat} {e : TypeId} {size : Nat} {v : Value} {n : Nat} {xs : List Value} (h : w.ownsRow base e size v n xs) : ∃ a c, v = .slice a n c := by
  rcases h.2 with ⟨rfl, rfl⟩ | ⟨g, cap, cur, rfl, _⟩
  · exact ⟨none, 0, rfl⟩
  · exact ⟨_, cap, rfl⟩
set_option maxHeartbeats 1000000 in
theorem rused_w (v : Value) (P : List Sl) (i : Int) (w : World) (h : IsSlots w v P) :
    Calls Try.prog 34 #[poolV v, .int .i64 i] w fun e w' => e = .returned (.bool (usedB P i)) ∧ Below w.heap.size w w' := by
  have mixed := mixedA
  by_cases h0 : 0 ≤ i
  · obtain ⟨k, rfl⟩ : ∃ k : Nat, i = k := ⟨i.toNat, by omega⟩
    have hd0 : decide ((0 : Int) ≤ (k : Int)) = true := by simp
    by_cases hk : k < P.length
    · obtain ⟨b, off, cap, s, rfl, hlt, hm, hs, c0, -⟩ := slot_at (h.below (below_box (.cells #[v] 29))) k hk
      have hkz : (k : Int) < (P.length : Int) := by omega
      have HU : Hid (usedB P (k : Int) = s.used) := Lib.hid (by rw [usedB_nat, hs.used])
      clear h hs
      go_enter Try.func34, Try.ntmps34
      go_wp2
      go_ret
      exact ⟨ret_bool (by rw [HU.out]), below_box _⟩
    · have hkz : (P.length : Int) ≤ (k : Int) := by omega
      obtain ⟨a, cap, rfl, -, -, hm⟩ := h.slice
      have HU : Hid (usedB P (k : Int) = false) := Lib.hid (by rw [usedB_nat, atP_ge (by omega)]; rfl)
      clear h
      go_enter Try.func34, Try.ntmps34
      go_wp2
      go_ret
      exact ⟨ret_bool (by rw [HU.out]), below_box _⟩
  · have hz : i < 0 := by omega
    obtain ⟨a, cap, rfl, -, -, hm⟩ := h.slice
    have HU : Hid (usedB P i = false) := Lib.hid (by unfold usedB; simp; omega)
    clear h
    go_enter Try.func34, Try.ntmps34
    go_wp2
    go_ret
    exact ⟨ret_bool (by rw [HU.out]), below_box _⟩
set_option maxHeartbeats 2000000 in
theorem rget_w (v : Value) (P : List Sl) (i : Int) (w : World) (h : IsSlots w v P) :
    Calls Try.prog 20 #[poolV v, .int .i64 i] w fun e w' => ∃ nv, e = .returned (.tuple #[nv, .int .i64 (getP P i).2]) ∧ IsNode w' nv (getP P i).1 ∧ Below w.heap.size w w' := by
  have mixed := mixedA
  have HU := Lib.hid (fun wx (hx : Below w.heap.size w wx) => rused_w v P i wx (h.below hx))
  have HB0 : Hid (Below w.heap.size w ((w.alloc (.cells #[v] 29)).alloc (.cells #[.slice none 0 0, .slice none 0 0, .slice none 0 0, .slice none 0 0, .slice none 0 0] 39))) := Lib.hid ((below_box _).trans ((below_box _).mono (by simp)))
  have HN : Hid (Blk ((w.alloc (.cells #[v] 29)).alloc (.cells #[.slice none 0 0, .slice none 0 0, .slice none 0 0, .slice none 0 0, .slice none 0 0] 39)) (w.heap.size + 1) 39 #[.slice none 0 0, .slice none 0 0, .slice none 0 0, .slice none 0 0, .slice none 0 0]) := Lib.hid (Blk.new' _ _ _ (by simp))
  have HP : Hid (Blk ((w.alloc (.cells #[v] 29)).alloc (.cells #[.slice none 0 0, .slice none 0 0, .slice none 0 0, .slice none 0 0, .slice none 0 0] 39)) w.heap.size 29 #[v]) := Lib.hid ((Blk.new _ _ _).alloc _)
  by_cases hu : usedB P i = true
  · obtain ⟨h0, h1⟩ := usedB_lt hu
    obtain ⟨k, rfl⟩ : ∃ k : Nat, i = k := ⟨i.toNat, by omega⟩
    have hk : k < P.length := by omega
    obtain ⟨b, off, cap, s, rfl, hlt, hm, hs, hc⟩ := slot_at h k hk
    have HC := Lib.hid hc
    have HS := Lib.hid hs
    have hkz : (k : Int) < (P.length : Int) := by omega
    rw [hu] at HU
    have HG : Hid (getP P (k : Int) = if s.lost then (zNd, 112) else ((atP P k).node, 0)) := Lib.hid (by unfold getP; rw [if_pos hu, hs.lost]; rfl)
    clear h hc hs hu h0 h1
    cases hl : s.lost
    all_goals
      have Hl := Lib.hid hl
      rw [hl] at HG
      clear hl
      go_enter Try.func20, Try.ntmps20
      go_wp2_with fail
      refine (HU.out _ HB0.out).mono ?_
      rintro e w1 ⟨rfl, hb⟩
      have Hb : Hid (Below w.heap.size w w1) := Lib.hid (Below.next HB0.out (Nat.le_refl _) hb)
      have hN1 := HN.out.below hb HN.out.lt
      have p0 : w1.cell? ⟨w.heap.size, 0, none⟩ = some (.slice (some ⟨b, off, none⟩) P.length cap) := (HP.out.below hb HP.out.lt).c0 0 _ rfl
      obtain ⟨n0, n1, n2, n3, n4, f0, f1, f2, f3, f4⟩ := p5_ok hN1
      obtain ⟨x0, x1, x2, x3, x4, x5, x6, x7⟩ := HC.out.below Hb.out hlt
      rw [Hl.out] at x1
      have HN1 := Lib.hid hN1
      clear hb hN1 x0 x2
      go_wp2
      skip
    · obtain ⟨z0, z1, z2, z3, z4, -⟩ := p5_ok (blk_set5 HN1.out (slv s.a) (slv s.b) (slv s.c) (slv s.d) (slv s.e))
      refine bodyPost_ret (v := .tuple #[nodeV s, .int .i64 0]) (by simp [results, Try.results20, go_sem, z0, z1, z2, z3, z4]) rfl ?_
      rw [HG.out]
      have hb5 := below_set5 Hb.out (w.heap.size + 1) (by omega) (slv s.a) (slv s.b) (slv s.c) (slv s.d) (slv s.e)
      exact ⟨_, rfl, HS.out.node.below hb5, hb5⟩
    · obtain ⟨z0, z1, z2, z3, z4, -⟩ := p5_ok (blk_set5 HN1.out (.slice none 0 0) (.slice none 0 0) (.slice none 0 0) (.slice none 0 0) (.slice none 0 0))
      refine bodyPost_ret (v := .tuple #[.agg #[.slice none 0 0, .slice none 0 0, .slice none 0 0, .slice none 0 0, .slice none 0 0], .int .i64 112]) (by simp [results, Try.results20, go_sem, z0, z1, z2, z3, z4]) rfl ?_
      rw [HG.out]
      exact ⟨_, rfl, isNode_zero _, below_set5 Hb.out (w.heap.size + 1) (by omega) _ _ _ _ _⟩
  · have hu : usedB P i = false := by simpa using hu
    have HG : Hid (getP P i = (zNd, 110)) := Lib.hid (by unfold getP; rw [hu]; rfl)
    rw [hu] at HU
    obtain ⟨a, cap, rfl, -, -, -⟩ := h.slice
    clear hu h
    go_enter Try.func20, Try.ntmps20
    go_wp2_with fail
    refine (HU.out _ HB0.out).mono ?_
    rintro e w1 ⟨rfl, hb⟩
    have Hb : Hid (Below w.heap.size w w1) := Lib.hid (Below.next HB0.out (Nat.le_refl _) hb)
    have hN1 := HN.out.below hb HN.out.lt
    obtain ⟨n0, n1, n2, n3, n4, f0, f1, f2, f3, f4⟩ := p5_ok hN1
    have HN1 := Lib.hid hN1
    clear hb hN1
    go_wp2
    obtain ⟨z0, z1, z2, z3, z4, -⟩ := p5_ok (blk_set5 HN1.out (.slice none 0 0) (.slice none 0 0) (.slice none 0 0) (.slice none 0 0) (.slice none 0 0))
    refine bodyPost_ret (v := .tuple #[.agg #[.slice none 0 0, .slice none 0 0, .slice none 0 0, .slice none 0 0, .slice none 0 0], .int .i64 110]) (by simp [results, Try.results20, go_sem, z0, z1, z2, z3, z4]) rfl ?_
    rw [HG.out]
    exact ⟨_, rfl, isNode_zero _, below_set5 Hb.out (w.heap.size + 1) (by omega) _ _ _ _ _⟩


theorem SlF.slice {w0 w : World} {v : Value} {P : List Sl} (h : SlF w0 w v P) : ∃ a cap, v = .slice a P.length cap ∧ P.length ≤ cap ∧ (cap : Int) ≤ 9223372036854775807 ∧ (P.length : Int) ≤ 9223372036854775807 := by
  obtain ⟨L, h0, a, cap, h1, h2, h3, h4⟩ := h
  unfold maxLen at h3
  exact ⟨a, cap, h1, h2, by omega, by omega⟩
set_option maxHeartbeats 2000000 in
theorem copiedF_w (v : Value) (P : List Sl) (w0 w : World) (h0 : SlF w0 w v P) (hl : P.length ≤ 1000000) :
    Calls Try.prog 32 #[poolV v] w fun e w' => ∃ v', e = .returned (poolV v') ∧ OwnF w0 w' w.heap.size v' P ∧ Below w.heap.size w w' := by
  obtain ⟨L, hall, hany⟩ := h0.any
  have HA := Lib.hid hall
  have HL := Lib.hid hall.1
  obtain ⟨a, cap, rfl, hle, hcm, hpm⟩ := h0.slice
  have HB : Hid (IsAny encV 8 (((w.alloc (.cells #[.slice a P.length cap] 29)).alloc (.cells #[.slice none 0 0] 29)).alloc (.cells #[] 61)) (.slice a P.length cap) L) := Lib.hid (by
    obtain ⟨a', c, e, hc⟩ := hany
    refine ⟨a', c, e, fun hne => ?_⟩
    obtain ⟨b, off, e2, hc2⟩ := hc hne
    refine ⟨b, off, e2, fun i hi j u hu => ?_⟩
    have := hc2 i hi j u hu
    have hB : Below w.heap.size w (((w.alloc (.cells #[.slice a P.length cap] 29)).alloc (.cells #[.slice none 0 0] 29)).alloc (.cells #[] 61)) := ((((Grown.refl w).alloc _).alloc _).alloc _).below (Nat.le_refl _)
    rw [hB.cell (p := ⟨b, off + i * 8 + j, none⟩) (by exact cell_lt this)]
    exact this)
  have HR : Hid (Blk (((w.alloc (.cells #[.slice a P.length cap] 29)).alloc (.cells #[.slice none 0 0] 29)).alloc (.cells #[] 61)) (w.heap.size + 1) 29 #[.slice none 0 0]) := Lib.hid ((Blk.new' _ _ _ (by simp)).alloc _)
  have HB0 : Hid (Below w.heap.size w (((w.alloc (.cells #[.slice a P.length cap] 29)).alloc (.cells #[.slice none 0 0] 29)).alloc (.cells #[] 61))) := Lib.hid (((((Grown.refl w).alloc _).alloc _).alloc _).below (Nat.le_refl _))
  clear h0 hall hany
  have own0 : ((((w.alloc (.cells #[.slice a P.length cap] 29)).alloc (.cells #[.slice none 0 0] 29)).alloc (.cells #[] 61))).ownsRow (w.heap.size + 2) 61 8 (.slice (some ⟨w.heap.size + 1 + 1, 0, none⟩) 0 0) ([] : List Sv).length (([] : List Sv).flatMap encV) := by
    have := own_emptySl ((w.alloc (.cells #[.slice a P.length cap] 29)).alloc (.cells #[.slice none 0 0] 29)) (w.heap.size + 2) (by simp)
    simpa using this
  have HO := Lib.hid own0
  clear own0
  go_enter Try.func32, Try.ntmps32
  go_wp2_with (at_builtin; refine append_any (en := encV) rfl _ _ 27 61 _ 8 136 infoSl Try.underlying27 rfl (by decide) (by decide) encV_len encV_one rfl (w.heap.size + 2) _ [] rfl HO.out _ L rfl HB.out (by rw [HL.out]; simp; omega) (by simp) ?_; intro v' w1 hown hbel; rw [List.nil_append] at hown; obtain ⟨va, vc, rfl⟩ := own_sl hown; have hR1 := HR.out.below hbel (by omega); have n0 := hR1.c0 0 _ rfl; have f0 := hR1.free 0; have HR1 := Lib.hid hR1; have Hown := Lib.hid hown; have Hbel := Lib.hid hbel; clear hown hbel hR1)
  have z0 := (HR1.out.setCell 0 (Value.slice va L.length vc)).c0 0 _ rfl
  refine bodyPost_ret (v := poolV (.slice va L.length vc)) (by simp [results, Try.results32, go_sem, z0]) rfl ?_
  have hB := (HB0.out.trans (Hbel.out.mono (by omega))).setCell (p := ⟨w.heap.size + 1, 0, none⟩) (by simp) (Value.slice va L.length vc)
  have hown := Hown.out
  rw [HL.out] at hown ⊢
  rw [HL.out] at hB
  exact ⟨_, rfl, ⟨L, HA.out, owns_lower (own_other hown (w.heap.size + 1) 0 (Value.slice va P.length vc) (fun e => by have := (hown.lt _ e).1; omega)) (by omega)⟩, hB⟩

theorem copied_w (v : Value) (P : List Sl) (w0 w : World) (h0 : SlF w0 w v P) (hb0 : Below w0.heap.size w0 w) (hl : P.length ≤ 1000000) :
    Calls Try.prog 32 #[poolV v] w fun e w' => ∃ v', e = .returned (poolV v') ∧ OwnF w0 w' w.heap.size v' P ∧ Below w.heap.size w w' := copiedF_w v P w0 w h0 hl

set_option maxHeartbeats 2000000 in
theorem has_w (v : Value) (l : List Int) (n : Int) (w : World) (h : IsInts w v l) :
    Calls Try.prog 35 #[v, .int .i64 n] w fun e w' => e = .returned (.bool (decide (n ∈ l))) ∧ w = w' := by
  have H := Lib.hid h
  obtain ⟨a, cap, rfl, hlc, hcm⟩ := h.slice
  clear h
  go_enter Try.func35, Try.ntmps35
  go_wp2
  go_loop [5] (fun i => ∃ k : Nat, k ≤ l.length ∧ i = .int .i64 k ∧ Hid (¬ n ∈ l.take k)) (fun i => l.length - (intOf i).toNat)
  case atStart => exact ⟨0, Nat.zero_le _, rfl, Lib.hid (by simp)⟩
  case round =>
    obtain ⟨k, hk, rfl, HN⟩ := hrel
    by_cases hlt : k < l.length
    · obtain ⟨b5, off5, cap5, he, hbl5, hlz5, y0⟩ := at_int H.out k hlt
      injection he with he1 he2 he3
      subst he1 he3
      clear he2
      have hltz : (k : Int) < (l.length : Int) := by omega
      have HT : Hid (¬ n ∈ l.take k → ¬ n = l[k] → ¬ n ∈ l.take (k + 1)) := Lib.hid (fun h1 h2 h3 => by
        rw [List.take_succ_eq_append_getElem hlt] at h3
        rcases List.mem_append.1 h3 with h4 | h4
        · exact h1 h4
        · exact h2 (by simpa using h4))
      have HM : Hid ((l[k] == n) = true → n ∈ l) := Lib.hid (fun h => by
        have : l[k] = n := by simpa using h
        rw [← this]; exact List.getElem_mem hlt)
      generalize l[k] = x at *
      obtain ⟨q, hq⟩ : ∃ q, (x == n) = q := ⟨_, rfl⟩
      have Hq := Lib.hid hq
      cases q
      · have HN2 := Lib.hid (HT.out HN.out (fun e => by have := Hq.out; rw [e] at this; simp at this))
        clear HT HM
        go_wp2
        go_round
        case rel => exact ⟨k + 1, by omega, by go_num, HN2⟩
        case measure => simp [intOf]; omega
      · have HM2 := Lib.hid (HM.out Hq.out)
        clear HM HT
        go_wp2
        go_ret
        exact ⟨ret_bool (decide_eq_true HM2.out).symm, rfl⟩
    · obtain rfl : k = l.length := by omega
      rw [List.take_length] at HN
      go_wp2
      go_ret
      exact ⟨ret_bool (decide_eq_false HN.out).symm, rfl⟩

set_option maxHeartbeats 2000000 in
theorem rlive_w (v : Value) (P : List Sl) (w : World) (h : IsSlots w v P) :
    Calls Try.prog 18 #[poolV v] w fun e w' => e = .returned (.int .i64 (liveP P : Nat)) ∧ Below w.heap.size w w' := by
  have mixed := mixedA
  have H := Lib.hid h
  have HB := Lib.hid (below_box (w := w) (.cells #[v] 29))
  have HBX : Hid (Blk (w.alloc (.cells #[v] 29)) w.heap.size 29 #[v]) := Lib.hid (Blk.new _ _ _)
  obtain ⟨a, cap, rfl, hle, hcm, hpm⟩ := h.slice
  clear h
  go_enter Try.func18, Try.ntmps18
  go_wp2
  go_loop [3, 4] (fun n i => ∃ k : Nat, k ≤ P.length ∧ i = .int .i64 k ∧ n = .int .i64 (liveP (P.take k) : Nat)) (fun _ i => P.length - (intOf i).toNat)
  case atStart => exact ⟨0, Nat.zero_le _, rfl, rfl⟩
  case round =>
    obtain ⟨k, hk, rfl, rfl⟩ := hrel
    by_cases hlt : k < P.length
    · obtain ⟨bb, off, cap', s, he, hbl, hlz, hs, x0, x1, x2, x3, x4, x5, x6, x7⟩ := slot_at (H.out.below HB.out) k hlt
      injection he with he1 he2 he3
      subst he1 he3
      clear he2
      have hltz : (k : Int) < (P.length : Int) := by omega
      have HU := Lib.hid hs.used
      have HT := Lib.hid (live_snoc hlt)
      have hlv : liveP (P.take k) ≤ k := Nat.le_trans (live_le _) (by rw [List.length_take]; omega)
      generalize liveP (P.take k) = m at *
      clear hs
      cases hu : s.used
      all_goals
        have Hu := Lib.hid hu
        rw [hu] at x0
        clear hu
        go_wp2
        go_round
        case rel =>
          refine ⟨k + 1, by omega, by go_num, ?_⟩
          rw [HT.out, ← HU.out, Hu.out]
          first | rfl | go_num
        case measure => simp [intOf]; omega
    · obtain rfl : k = P.length := by omega
      rw [List.take_length]
      go_wp2
      go_ret
      exact ⟨rfl, HB.out⟩

end Go.Proofs.Ytlgangcldlphnaa
