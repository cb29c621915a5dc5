/-
  Walks: Reach.
-/
import Derived.Test.YtlgangcldlphnaaPK
import Derived.Test.YtlgangcldlphnaaPI
import Derived.Test.YtlgangcldlphnaaPE
namespace Go.Proofs.Ytlgangcldlphnaa
open Go.RowKit Go.Sort
set_option linter.unusedVariables false
set_option maxRecDepth 100000

/-- But for one block nothing that was there has turned. -/
structure ButP (b : Nat) (w w' : World) : Prop where
  os : w'.os = w.os
  tape : w'.tape = w.tape
  output : w'.output = w.output
  size : w.heap.size ≤ w'.heap.size
  block : ∀ k, k < w.heap.size → k ≠ b → w'.heap[k]? = w.heap[k]?
theorem ButP.refl (b : Nat) (w : World) : ButP b w w := ⟨rfl, rfl, rfl, Nat.le_refl _, fun _ _ _ => rfl⟩
theorem ButP.trans {b : Nat} {x y z : World} (h : ButP b x y) (k : ButP b y z) : ButP b x z :=
  ⟨k.os.trans h.os, k.tape.trans h.tape, k.output.trans h.output, Nat.le_trans h.size k.size, fun i hi hb => (k.block i (Nat.lt_of_lt_of_le hi h.size) hb).trans (h.block i hi hb)⟩
theorem ButP.setCell (b i : Nat) (v : Value) (w : World) : ButP b w (w.setCell ⟨b, i, none⟩ v) :=
  ⟨rfl, rfl, rfl, by simp, fun k _ hk => Below.heap_setCell _ _ _ _ hk⟩
theorem ButP.of {b : Nat} {w w' : World} (h : Below w.heap.size w w') : ButP b w w' := ⟨h.os, h.tape, h.output, h.size, fun k hk _ => h.block k hk⟩
theorem ButP.below {b B : Nat} {w w' : World} (h : ButP b w w') (hB : B ≤ b) (hs : B ≤ w.heap.size) : Below B w w' := ⟨h.os, h.tape, h.output, h.size, fun k hk => h.block k (by omega) (by omega)⟩
theorem ButP.blk {b c : Nat} {w w' : World} {T : TypeId} {cs : Array Value} (h : ButP b w w') (hc : Blk w c T cs) (hne : c ≠ b) : Blk w' c T cs := by
  unfold Blk; rw [h.block c hc.lt hne]; exact hc
/-- The marks in memory. -/
def marksA (m : List Bool) : Array Value := (m.map Value.bool).toArray
theorem marks_get {m : List Bool} {i : Nat} (h : i < m.length) : (marksA m)[i]? = some (.bool (mkd m i)) := by
  unfold marksA; simp [mk_get h, h]
theorem marks_set (m : List Bool) (i : Nat) (b : Bool) : (marksA m).setIfInBounds i (.bool b) = marksA (m.set i b) := by
  unfold marksA; rw [List.map_set, List.setIfInBounds_toArray]
/-- What the walk of Reach keeps: all that it reads lies below the marks. -/
structure RcSt (w0 wx : World) (gm b1 b2 b3 : Nat) (v : Value) (P : List Sl) (m : List Bool) : Prop where
  sl : IsSlots w0 v P
  lo : w0.heap.size ≤ gm
  bel : Below w0.heap.size w0 wx
  marks : Blk wx gm 4 (marksA m)
  p : Blk wx b1 29 #[v]
  r : Blk wx b2 69 #[.slice (some ⟨gm, 0, none⟩) P.length P.length]
  f : Blk wx b3 88 #[.func (.func 43) #[] #[.pointer (some ⟨b1, 0, none⟩), .pointer (some ⟨b2, 0, none⟩), .pointer (some ⟨b3, 0, none⟩)]]
  n1 : b1 ≠ gm
  n2 : b2 ≠ gm
  n3 : b3 ≠ gm
  len : m.length = P.length
theorem RcSt.below {w0 wx wy : World} {gm b1 b2 b3 : Nat} {v : Value} {P : List Sl} {m : List Bool} (h : RcSt w0 wx gm b1 b2 b3 v P m) (hb : Below wx.heap.size wx wy) : RcSt w0 wy gm b1 b2 b3 v P m :=
  ⟨h.sl, h.lo, h.bel.trans (hb.mono h.bel.size), h.marks.below hb h.marks.lt, h.p.below hb h.p.lt, h.r.below hb h.r.lt, h.f.below hb h.f.lt, h.n1, h.n2, h.n3, h.len⟩
theorem RcSt.set {w0 wx : World} {gm b1 b2 b3 : Nat} {v : Value} {P : List Sl} {m : List Bool} (h : RcSt w0 wx gm b1 b2 b3 v P m) (k : Nat) : RcSt w0 (wx.setCell ⟨gm, k, none⟩ (.bool true)) gm b1 b2 b3 v P (m.set k true) :=
  ⟨h.sl, h.lo, h.bel.setCell (by exact h.lo) _, by have := h.marks.setCell k (.bool true); rwa [marks_set] at this, h.p.setCell_other h.n1 _ _, h.r.setCell_other h.n2 _ _, h.f.setCell_other h.n3 _ _, h.n1, h.n2, h.n3, by rw [List.length_set]; exact h.len⟩
theorem take_snocI {l : List Int} {k : Nat} (h : k < l.length) : l.take (k + 1) = l.take k ++ [l[k]] := List.take_succ_eq_append_getElem h

set_option maxHeartbeats 8000000 in
theorem visit_w (w0 : World) (gm b1 b2 b3 : Nat) (v : Value) (P : List Sl) : ∀ (n : Nat) (u : Value) (l : List Int) (m : List Bool) (w : World), unm m ≤ n → RcSt w0 w gm b1 b2 b3 v P m → (∃ wu, IsInts wu u l ∧ wu.heap.size ≤ gm ∧ Below wu.heap.size wu w) →
    Calls Try.prog 43 #[u, .pointer (some ⟨b1, 0, none⟩), .pointer (some ⟨b2, 0, none⟩), .pointer (some ⟨b3, 0, none⟩)] w fun e w' => e = .returned (.tuple #[]) ∧ ∃ m', Vis P l m m' ∧ RcSt w0 w' gm b1 b2 b3 v P m' ∧ ButP gm w w' := by
  intro n
  induction n using Nat.strongRecOn with
  | ind n ih =>
    intro u l m w hn hst hu
    have mixed := mixedA
    have HI := Lib.hid ih
    have HN := Lib.hid hn
    have HST := Lib.hid hst
    obtain ⟨wu, hui, hul, hub⟩ := hu
    have HUI := Lib.hid hui
    have HUL := Lib.hid hul
    have HUB := Lib.hid hub
    obtain ⟨ua, uc, rfl, hlc, huc⟩ := hui.slice
    clear ih hn hst hui hul hub
    go_enter Try.func43, Try.ntmps43
    go_wp2
    go_loopw [9] (fun i wr => ∃ (k : Nat) (mx : List Bool), k ≤ l.length ∧ i = .int .i64 k ∧ Hid (Vis P (l.take k) m mx) ∧ Hid (RcSt w0 wr gm b1 b2 b3 v P mx) ∧ Hid (ButP gm w wr)) (fun i _ => l.length - (intOf i).toNat)
    case atStart => exact ⟨0, m, Nat.zero_le _, rfl, Lib.hid (Vis.nil P m), HST, Lib.hid (ButP.refl _ _)⟩
    case round =>
      obtain ⟨k, mx, hk, rfl, HV, HR, HB⟩ := hrel
      by_cases hlt : k < l.length
      · obtain ⟨b5, off5, cap5, he, hbl5, hlz5, x0⟩ := at_int (HUI.out.below (HUB.out.trans (HB.out.below HUL.out HUB.out.size))) k hlt
        injection he with he1 he2 he3
        subst he1 he3
        clear he2
        have hltz : (k : Int) < (l.length : Int) := by omega
        have HTK := Lib.hid (take_snocI hlt)
        generalize l[k] = id at *
        have hsl := HR.out.sl.below HR.out.bel
        have HU := Lib.hid (used_w v P id wr hsl)
        obtain ⟨a, cap, rfl, hle, hcm, hpm⟩ := hsl.slice
        have p0 : wr.cell? ⟨b1, 0, none⟩ = some (.slice a P.length cap) := HR.out.p.c0 0 _ rfl
        by_cases hu : usedB P id = true
        · obtain ⟨h0, h1⟩ := usedB_lt hu
          obtain ⟨kk, rfl⟩ : ∃ kk : Nat, id = kk := ⟨id.toNat, by omega⟩
          have hkk : kk < P.length := by omega
          have hkz : (kk : Int) < (P.length : Int) := by omega
          have Hu := Lib.hid hu
          rw [hu] at HU
          clear hu h0 h1
          cases hmk : mkd mx kk
          · obtain ⟨b, off, cap', s, he, hbl, -, hs, hv⟩ := slot_at HR.out.sl kk hkk
            injection he with he1 he2 he3
            subst he1 he3
            clear he2
            have HS := Lib.hid hs
            have HSW := Lib.hid hv
            have HSL := Lib.hid hbl
            have Hmk := Lib.hid hmk
            clear hs hv hmk hsl hbl
            go_wp2_with fail
            refine HU.out.mono ?_
            rintro e w1 ⟨rfl, hb1⟩
            have HR1 := Lib.hid (HR.out.below hb1)
            have HB1 := Lib.hid hb1
            have m0 : w1.cell? ⟨gm, kk, none⟩ = some (.bool false) := HR1.out.marks.c0 kk _ (by rw [marks_get (by rw [HR1.out.len]; exact hkk), Hmk.out])
            have r0 : w1.cell? ⟨b2, 0, none⟩ = some (.slice (some ⟨gm, 0, none⟩) P.length P.length) := HR1.out.r.c0 0 _ rfl
            have mf := HR1.out.marks.free kk
            clear hb1 p0
            have HR2 := Lib.hid (HR1.out.set kk)
            have HB2 := Lib.hid ((HB.out.trans (ButP.of HB1.out)).trans (ButP.setCell gm kk (.bool true) w1))
            go_wp2_with fail
            obtain ⟨w2, hw2⟩ : ∃ w2, w2 = w1.setCell ⟨gm, kk, none⟩ (.bool true) := ⟨_, rfl⟩
            rw [← hw2] at HR2 HB2
            rw [← hw2]
            clear hw2 m0 r0 mf
            have f3 : w2.cell? ⟨b3, 0, none⟩ = some (.func (.func 43) #[] #[.pointer (some ⟨b1, 0, none⟩), .pointer (some ⟨b2, 0, none⟩), .pointer (some ⟨b3, 0, none⟩)]) := HR2.out.f.c0 0 _ rfl
            have p3 : w2.cell? ⟨b1, 0, none⟩ = some (.slice (some ⟨b, off, none⟩) P.length cap) := HR2.out.p.c0 0 _ rfl
            have s3 : w2.cell? ⟨b, off + kk * 8 + 5, none⟩ = some (slv s.c) := by
              obtain ⟨-, -, -, -, -, h5, -, -⟩ := HSW.out.below HR2.out.bel HSL.out
              exact h5
            have HUN : Hid (unm (mx.set kk true) < n) := Lib.hid (by
              have h1 := unm_set (m := mx) (k := kk) (by rw [HR.out.len]; exact hkk) Hmk.out
              have h2 := unm_mono HV.out.len HV.out.mono
              have := HN.out
              omega)
            have HKI : Hid (∀ wx, Below w2.heap.size w2 wx → ∃ wu, IsInts wu (slv s.c) (atP P kk).node.kids ∧ wu.heap.size ≤ gm ∧ Below wu.heap.size wu wx) := Lib.hid (fun wx hx => ⟨w0, HS.out.kids, HR2.out.lo, HR2.out.bel.trans (hx.mono HR2.out.bel.size)⟩)
            go_region_held3 (fun wx => wx.cell? ⟨b3, 0, none⟩ = some (.func (.func 43) #[] #[.pointer (some ⟨b1, 0, none⟩), .pointer (some ⟨b2, 0, none⟩), .pointer (some ⟨b3, 0, none⟩)]) ∧ wx.cell? ⟨b1, 0, none⟩ = some (.slice (some ⟨b, off, none⟩) P.length cap) ∧ wx.cell? ⟨b, off + kk * 8 + 5, none⟩ = some (slv s.c)) (go_keep)
              (first | (go_at_call 43; (refine (HI.out (unm (mx.set kk true)) HUN.out (slv s.c) (atP P kk).node.kids (mx.set kk true) _ (Nat.le_refl _) (HR2.out.below (below_drewN w2 _)) (HKI.out _ (below_drewN w2 _))).mono ?_); rintro e w3 ⟨rfl, m3, hv3, hr3, hb3⟩; have HV3 := Lib.hid hv3; have HR3 := Lib.hid hr3; have HB3 := Lib.hid hb3; clear hv3 hr3 hb3; have k1 : w3.cell? ⟨b3, 0, none⟩ = some (.func (.func 43) #[] #[.pointer (some ⟨b1, 0, none⟩), .pointer (some ⟨b2, 0, none⟩), .pointer (some ⟨b3, 0, none⟩)]) := HR3.out.f.c0 0 _ rfl; have k2 : w3.cell? ⟨b1, 0, none⟩ = some (.slice (some ⟨b, off, none⟩) P.length cap) := HR3.out.p.c0 0 _ rfl; have k3 : w3.cell? ⟨b, off + kk * 8 + 5, none⟩ = some (slv s.c) := (HSW.out.below HR3.out.bel HSL.out).2.2.2.2.2.1) | fail "no arm")
            have HBX : Hid (ButP gm w w3) := Lib.hid (HB2.out.trans ((ButP.of (below_drewN w2 _)).trans HB3.out))
            clear k1 k2 k3 f3 p3 s3
            go_wp2
            go_roundw
            case rel => exact ⟨k + 1, m3, by omega, by go_num, Lib.hid (by rw [HTK.out]; exact HV.out.step Hu.out Hmk.out HR.out.len HV3.out), HR3, HBX⟩
            case measure => simp [intOf]; omega
          · have Hmk := Lib.hid hmk
            clear hmk hsl
            go_wp2_with fail
            refine HU.out.mono ?_
            rintro e w1 ⟨rfl, hb1⟩
            have HR1 := Lib.hid (HR.out.below hb1)
            have HB1 := Lib.hid hb1
            have m0 : w1.cell? ⟨gm, kk, none⟩ = some (.bool true) := HR1.out.marks.c0 kk _ (by rw [marks_get (by rw [HR1.out.len]; exact hkk), Hmk.out])
            have r0 : w1.cell? ⟨b2, 0, none⟩ = some (.slice (some ⟨gm, 0, none⟩) P.length P.length) := HR1.out.r.c0 0 _ rfl
            clear hb1 p0
            go_wp2
            go_roundw
            case rel => exact ⟨k + 1, mx, by omega, by go_num, Lib.hid (by rw [HTK.out]; exact HV.out.skip (.inr Hmk.out)), HR1, Lib.hid (HB.out.trans (ButP.of HB1.out))⟩
            case measure => simp [intOf]; omega
        · have Hu : Hid (usedB P id = false) := Lib.hid (by simpa using hu)
          rw [Hu.out] at HU
          clear hu hsl
          go_wp2_with fail
          refine HU.out.mono ?_
          rintro e w1 ⟨rfl, hb1⟩
          have HR1 := Lib.hid (HR.out.below hb1)
          have HB1 := Lib.hid hb1
          clear hb1 p0
          go_wp2
          go_roundw
          case rel => exact ⟨k + 1, mx, by omega, by go_num, Lib.hid (by rw [HTK.out]; exact HV.out.skip (.inl Hu.out)), HR1, Lib.hid (HB.out.trans (ButP.of HB1.out))⟩
          case measure => simp [intOf]; omega
      · obtain rfl : k = l.length := by omega
        rw [List.take_length] at HV
        go_wp2
        go_end0
        exact ⟨rfl, mx, HV.out, HR.out, HB.out⟩

theorem infoB : (Try.prog.info? 4).map (fun i => (i.zero, i.size, i.bytes)) = some (some (.bool false), 1, 1) := by kernel_rfl
theorem own_blk {w : World} {base g n : Nat} {T : TypeId} {xs : List Value} (h : w.ownsRow base T 1 (.slice (some ⟨g, 0, none⟩) n n) n xs) : Blk w g T xs.toArray ∧ base ≤ g := by
  have hl := h.1
  rcases h.2 with ⟨h', _⟩ | ⟨g', cap', cur, h', h5, h6, h7, h8, h9, h10⟩
  · cases h'
  · injection h' with e1 e2 e3
    injection e1 with e1
    injection e1 with e1
    subst e1 e3
    rw [List.take_of_length_le (by rw [Array.length_toList]; omega)] at h10
    subst h10
    exact ⟨h6, h5⟩
theorem made_marks (n : Nat) : (madeCells (Value.bool false).cells (n * 1)).toList.toArray = marksA (List.replicate n false) := by
  have : (Value.bool false).cells = #[Value.bool false] := rfl
  rw [this, toList_madeCells_one]
  unfold marksA
  simp
theorem slots_form {w : World} {v : Value} {P : List Sl} (h : IsSlots w v P) : ∃ a cap, v = .slice a P.length cap := by
  obtain ⟨a, cap, h1, -⟩ := h.slice
  exact ⟨a, cap, h1⟩
theorem own_raise {w : World} {base b2 : Nat} {e : TypeId} {size : Nat} {v : Value} {n : Nat} {xs : List Value} (h : w.ownsRow base e size v n xs) (hb : ∀ b, v.ownBlock = some b → b2 ≤ b) : w.ownsRow b2 e size v n xs := by
  refine ⟨h.1, ?_⟩
  rcases h.2 with hn | ⟨g, cap, cur, rfl, hg, rest⟩
  · exact .inl hn
  · exact .inr ⟨g, cap, cur, rfl, hb g rfl, rest⟩
set_option maxHeartbeats 8000000 in
theorem reach_w (v u : Value) (P : List Sl) (W : List Int) (w : World) (h : IsSlots w v P) (hu : IsInts w u W) (hl : P.length ≤ 1000000) :
    Calls Try.prog 26 #[poolV v, u] w fun e w' => ∃ v', e = .returned v' ∧ w'.ownsRow w.heap.size 3 1 v' (reachP P W).length ((reachP P W).flatMap encI) ∧ Below w.heap.size w w' := by
  have mixed := mixedA
  obtain ⟨i0, hi, hz0, hz1, hz2⟩ := info_parts infoB
  have H := Lib.hid h
  have HI := Lib.hid hu
  obtain ⟨a, cap, rfl, hle, hcm, hpm⟩ := h.slice
  clear h hu
  have HBX : Hid (Blk (w.alloc (.cells #[.slice a P.length cap] 29)) w.heap.size 29 #[.slice a P.length cap]) := Lib.hid (Blk.new _ _ _)
  go_enter Try.func26, Try.ntmps26
  go_upto_region 2 with (at_make; refine wpList_make_full _ rfl _ _ 69 rfl (w.heap.size + 1) 4 i0 (.bool false) 1 Try.underlying69 hi hz0 hz1 .i64 .i64 _ _ P.length rfl rfl rfl rfl (by rw [hz2]; omega) (by unfold maxLen; omega) (by simp) ?_; intro w1 hown1 hgrow1)
  simp only [World.size_alloc] at hown1
  have HG1 : Hid (Below (w.heap.size + 1) (w.alloc (.cells #[.slice a P.length cap] 29)) w1) := Lib.hid (Below.grown (Below.refl _ _) hgrow1 (by simp) (fun k hk => by cases hk))
  have hmk := (own_blk hown1)
  rw [made_marks] at hmk
  have HM1 := Lib.hid hmk.1
  clear hown1 hgrow1 hmk
  go_upto_region 4 with fail
  obtain ⟨W2, hW2⟩ : ∃ W2, W2 = (w1.alloc (.cells #[.slice (some ⟨w.heap.size + 1, 0, none⟩) P.length P.length] 69)).alloc (.cells #[.func (.func 43) #[] #[.pointer (some ⟨w.heap.size, 0, none⟩), .pointer (some ⟨w1.heap.size, 0, none⟩), .pointer (some ⟨w1.heap.size + 1, 0, none⟩)]] 88) := ⟨_, rfl⟩
  have HB2 : Hid (Below w1.heap.size w1 W2) := Lib.hid (by rw [hW2]; exact (((Grown.refl w1).alloc _).alloc _).below (Nat.le_refl _))
  have HBw : Hid (Below w.heap.size w W2) := Lib.hid ((below_box _).trans ((HG1.out.mono (by omega)).trans (HB2.out.mono (by have := HM1.out.lt; omega))))
  have HST : Hid (RcSt w W2 (w.heap.size + 1) w.heap.size w1.heap.size (w1.heap.size + 1) (.slice a P.length cap) P (List.replicate P.length false)) := Lib.hid (by
    have hlt := HM1.out.lt
    refine ⟨H.out, by omega, HBw.out, HM1.out.below HB2.out hlt, (HBX.out.below HG1.out (by omega)).below HB2.out (by omega), ?_, ?_, by omega, by omega, by omega, by simp⟩
    · rw [hW2]; exact (Blk.new _ _ _).alloc _
    · rw [hW2]; exact Blk.new' _ _ _ (by simp))
  rw [← hW2]
  clear hW2
  have f3 : W2.cell? ⟨w1.heap.size + 1, 0, none⟩ = some (.func (.func 43) #[] #[.pointer (some ⟨w.heap.size, 0, none⟩), .pointer (some ⟨w1.heap.size, 0, none⟩), .pointer (some ⟨w1.heap.size + 1, 0, none⟩)]) := HST.out.f.c0 0 _ rfl
  go_wp2_with fail
  refine (visit_w w (w.heap.size + 1) w.heap.size w1.heap.size (w1.heap.size + 1) (.slice a P.length cap) P _ u W _ W2 (Nat.le_refl _) HST.out ⟨w, HI.out, by omega, HBw.out⟩).mono ?_
  rintro e w3 ⟨rfl, m, hv, hst, hb⟩
  have HV := Lib.hid hv
  have HS3 := Lib.hid hst
  have HML : Hid (m.length = P.length) := Lib.hid hst.len
  have r3 : w3.cell? ⟨w1.heap.size, 0, none⟩ = some (.slice (some ⟨w.heap.size + 1, 0, none⟩) P.length P.length) := hst.r.c0 0 _ rfl
  have HX : Hid (idxM m P.length = reachP P W) := Lib.hid (reach_of hv)
  clear hv hst hb f3
  go_wp2_with fail
  go_loopw [7, 20] (fun v i wr => ∃ k : Nat, k ≤ P.length ∧ i = .int .i64 k ∧ Hid (wr.ownsRow w.heap.size 3 1 v (idxM m k).length ((idxM m k).flatMap encI)) ∧ Hid (Below w.heap.size w wr) ∧ Hid (Blk wr (w.heap.size + 1) 4 (marksA m)) ∧ Hid (∀ b, v.ownBlock = some b → w3.heap.size ≤ b) ∧ Hid (w3.heap.size ≤ wr.heap.size)) (fun _ i _ => P.length - (intOf i).toNat)
  case atStart => exact ⟨0, Nat.zero_le _, rfl, Lib.hid (World.ownsRow_nil _ _ _ _), Lib.hid HS3.out.bel, Lib.hid HS3.out.marks, Lib.hid (fun b h => by cases h), Lib.hid (Nat.le_refl _)⟩
  case round =>
    obtain ⟨k, hk, rfl, HO, HB, HM, HBK, HSZ⟩ := hrel
    by_cases hlt : k < P.length
    · have hltz : (k : Int) < (P.length : Int) := by omega
      have m0 : wr.cell? ⟨w.heap.size + 1, k, none⟩ = some (.bool (mkd m k)) := HM.out.c0 k _ (marks_get (by rw [HML.out]; exact hlt))
      have HSN := Lib.hid (idxM_snoc m k)
      have HLE : Hid ((idxM m k).length ≤ 1000000) := Lib.hid (Nat.le_trans (idxM_len m k) (by omega))
      cases hmk : mkd m k
      · rw [hmk] at m0 HSN
        have HSN2 : Hid (idxM m (k + 1) = idxM m k) := Lib.hid (by rw [HSN.out]; simp)
        clear hmk
        go_wp2
        go_roundw
        case rel => exact ⟨k + 1, by omega, by go_num, by rw [HSN2.out]; exact HO, HB, HM, HBK, HSZ⟩
        case measure => simp [intOf]; omega
      · rw [hmk] at m0 HSN
        have HSN2 : Hid (idxM m (k + 1) = idxM m k ++ [(k : Int)]) := Lib.hid (by rw [HSN.out]; simp)
        clear hmk
        go_wp2_with (at_builtin; refine append_ints rfl _ _ rfl w3.heap.size _ (idxM m k) rfl (own_raise (HO.out.alloc _) HBK.out) _ [(k : Int)] rfl (isInts_lit [(k : Int)] rfl (by simp) (by simp)) (Nat.le_trans (Nat.add_le_add_right HLE.out _) (by simp)) (by have := HSZ.out; simp; omega) ?_; intro v4 w4 hown hb)
        have HO4 := Lib.hid hown
        have HB4 := Lib.hid hb
        clear hown hb
        go_roundw
        case rel =>
          refine ⟨k + 1, by omega, by go_num, ?_, Lib.hid (HB.out.trans (((below_box _).mono (by have := HB.out.size; omega)).trans (HB4.out.mono (by have := HS3.out.bel.size; omega)))), Lib.hid ((HM.out.alloc _).below HB4.out HS3.out.marks.lt), Lib.hid (fun b hb => (HO4.out.lt b hb).1), Lib.hid (Nat.le_trans HSZ.out (Nat.le_trans (by simp) HB4.out.size))⟩
          rw [HSN2.out]
          exact Lib.hid (owns_lower HO4.out (HS3.out.bel.size))
        case measure => simp [intOf]; omega
    · obtain rfl : k = P.length := by omega
      rw [HX.out] at HO
      go_wp2
      go_ret
      exact ⟨_, rfl, HO.out, HB.out⟩

end Go.Proofs.Ytlgangcldlphnaa
