/-
  Walks: reference 11: Hold, Drop.
-/
import Derived.Test.YtlgangcldlphnaaPN
import Derived.Test.YtlgangcldlphnaaPJ
namespace Go.Proofs.Ytlgangcldlphnaa
open Go.RowKit Go.Sort
set_option linter.unusedVariables false
set_option maxRecDepth 100000

set_option maxHeartbeats 2000000 in
theorem rhold_w (v : Value) (P : List Sl) (i : Int) (w0 w : World) (h0 : SlF w0 w v P) (hb0 : Below w0.heap.size w0 w) (hl : P.length ≤ 1000000) (hr : usedB P i = true → 0 ≤ (atP P i.toNat).refs ∧ (atP P i.toNat).refs ≤ 1000000000) :
    Calls Try.prog 22 #[poolV v, .int .i64 i] w fun e w' => ∃ v', e = .returned (.tuple #[poolV v', .int .i64 (holdP P i).2]) ∧ SlOut w0 w w' v v' (holdP P i).1 := by
  have mixed := mixedA
  have h := h0.slots hb0
  have H0 := Lib.hid h0
  clear h0
  have HU := Lib.hid (fun wx (hx : Below w.heap.size w wx) => rused_w v P i wx (h.below hx))
  have HB0 : Hid (Below w.heap.size w ((w.alloc (.cells #[v] 29)).alloc (.cells #[.slice none 0 0] 29))) := Lib.hid ((below_box _).trans ((below_box _).mono (by simp)))
  have HN : Hid (Blk ((w.alloc (.cells #[v] 29)).alloc (.cells #[.slice none 0 0] 29)) (w.heap.size + 1) 29 #[.slice none 0 0]) := Lib.hid (Blk.new' _ _ _ (by simp))
  have HP : Hid (Blk ((w.alloc (.cells #[v] 29)).alloc (.cells #[.slice none 0 0] 29)) w.heap.size 29 #[v]) := Lib.hid ((Blk.new _ _ _).alloc _)
  have H := Lib.hid h
  obtain ⟨a, cap, rfl, -, -, -⟩ := h.slice
  clear h
  by_cases hu : usedB P i = true
  · obtain ⟨h0, h1⟩ := usedB_lt hu
    obtain ⟨r0, r1⟩ := hr hu
    obtain ⟨k, rfl⟩ : ∃ k : Nat, i = k := ⟨i.toNat, by omega⟩
    have hk : k < P.length := by omega
    have HG : Hid (holdP P (k : Int) = (P.set k { atP P k with refs := (atP P k).refs + 1 }, 0)) := Lib.hid (by unfold holdP; rw [if_pos hu]; rfl)
    rw [hu] at HU
    have HCL := Lib.hid (fun wx (hx : Below w.heap.size w wx) => copied_w (.slice a P.length cap) P w0 wx (H0.out.below hx) (hb0.trans (hx.mono hb0.size)) hl)
    have hkz : (k : Int) < (P.length : Int) := by omega
    have e : ((k : Int)).toNat = k := by omega
    rw [e] at r0 r1
    clear hu h0 h1 e hr
    go_enter Try.func22, Try.ntmps22
    go_wp2_with fail
    refine (HU.out _ HB0.out).mono ?_
    rintro e w1 ⟨rfl, hb⟩
    have Hb : Hid (Below w.heap.size w w1) := Lib.hid (Below.next HB0.out (Nat.le_refl _) hb)
    have hN1 := HN.out.below hb HN.out.lt
    have p0 : w1.cell? ⟨w.heap.size, 0, none⟩ = some (.slice a P.length cap) := (HP.out.below hb HP.out.lt).c0 0 _ rfl
    have HN1 := Lib.hid hN1
    clear hb hN1
    go_wp2_with fail
    refine (HCL.out _ Hb.out).mono ?_
    rintro e w2 ⟨v2, rfl, hown, hb⟩
    have Hb2 : Hid (Below w.heap.size w w2) := Lib.hid (Below.next Hb.out (Nat.le_refl _) hb)
    have Hb12 := Lib.hid hb
    obtain ⟨a2, cap2, rfl, hl2, hm2, hg2⟩ := hown.form
    obtain ⟨g, rfl⟩ := hg2 (by omega)
    obtain ⟨s, hs, c0, c1, c2, c3, c4, c5, c6, c7⟩ := hown.at k hk
    have f2 := hown.free (k * 8 + 2)
    have hgb := hown.blk
    have hN2 := HN1.out.below hb HN1.out.lt
    have n0 := hN2.c0 0 _ rfl
    have g0 := hN2.free 0
    have HO := Lib.hid hown
    have hrf := hs.refs
    have hne : w.heap.size + 1 ≠ g := by have := HN1.out.lt; omega
    have HN2 := Lib.hid hN2
    have hlen : (P.length : Int) ≤ 9223372036854775807 := by omega
    rw [← hrf] at r0 r1
    have HG2 : Hid (holdP P (k : Int) = (P.set k { atP P k with refs := s.refs + 1 }, 0)) := Lib.hid (by rw [HG.out, hrf])
    clear hown hb hN2 hs c0 c1 c3 c4 c5 c6 c7 p0 hrf n0 g0
    generalize s.refs = r at *
    have HN4 := Lib.hid ((HN2.out.setCell_other hne (k * 8 + 2) (.int .i64 (r + 1))).alloc (.cells #[.slice (some ⟨g, 0, none⟩) P.length cap2] 29))
    have n0 := HN4.out.c0 0 _ rfl
    have g0 := HN4.out.free 0
    go_wp2
    have hown := (HO.out.refs k hk (r + 1))
    have z0 := (HN4.out.setCell 0 (.slice (some ⟨g, 0, none⟩) P.length cap2)).c0 0 _ rfl
    refine bodyPost_ret (v := .tuple #[poolV (.slice (some ⟨g, 0, none⟩) P.length cap2), .int .i64 0]) (by simp [results, Try.results22, go_sem, z0]) rfl ?_
    rw [HG2.out]
    have hB1 := Hb2.out.setCell (p := ⟨g, k * 8 + 2, none⟩) (by show w.heap.size ≤ g; have := Hb.out.size; omega) (.int .i64 (r + 1))
    have hB := (hB1.alloc hB1.size (.cells #[.slice (some ⟨g, 0, none⟩) P.length cap2] 29)).setCell (p := ⟨w.heap.size + 1, 0, none⟩) (by show w.heap.size ≤ w.heap.size + 1; omega) (.slice (some ⟨g, 0, none⟩) P.length cap2)
    refine ⟨_, rfl, ((hown.below (below_box _)).setOther (w.heap.size + 1) 0 (.slice (some ⟨g, 0, none⟩) P.length cap2) (by exact fun e => hne (Option.some.inj e).symm)).slF, fun b hb => ?_, hB⟩
    injection hb with hb
    subst hb
    exact .inr (by have := Hb.out.size; show w.heap.size ≤ g; omega)
  · have hu : usedB P i = false := by simpa using hu
    have HG : Hid (holdP P i = (P, 110)) := Lib.hid (by unfold holdP; rw [hu]; rfl)
    rw [hu] at HU
    clear hu hr
    go_enter Try.func22, Try.ntmps22
    go_wp2_with fail
    refine (HU.out _ HB0.out).mono ?_
    rintro e w1 ⟨rfl, hb⟩
    have Hb : Hid (Below w.heap.size w w1) := Lib.hid (Below.next HB0.out (Nat.le_refl _) hb)
    have hN1 := HN.out.below hb HN.out.lt
    have p0 : w1.cell? ⟨w.heap.size, 0, none⟩ = some (.slice a P.length cap) := (HP.out.below hb HP.out.lt).c0 0 _ rfl
    have n0 := hN1.c0 0 _ rfl
    have g0 := hN1.free 0
    have HN1 := Lib.hid hN1
    clear hb hN1
    go_wp2
    have z0 := (HN1.out.setCell 0 (.slice a P.length cap)).c0 0 _ rfl
    refine bodyPost_ret (v := .tuple #[poolV (.slice a P.length cap), .int .i64 110]) (by simp [results, Try.results22, go_sem, z0]) rfl ?_
    rw [HG.out]
    have hB := Hb.out.setCell (p := ⟨w.heap.size + 1, 0, none⟩) (by simp) (.slice a P.length cap)
    exact ⟨_, rfl, H0.out.below hB, fun b hb => .inl rfl, hB⟩

end Go.Proofs.Ytlgangcldlphnaa
