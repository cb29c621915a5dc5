/-
  Walks: Sound.
-/
import Derived.Test.YtlgangcldlphnaaPL2
import Derived.Test.YtlgangcldlphnaaPJ
import Derived.Test.YtlgangcldlphnaaPF
namespace Go.Proofs.Ytlgangcldlphnaa
open Go.RowKit Go.Sort
set_option linter.unusedVariables false
set_option maxRecDepth 100000

/-- All that is held, by roots and by any slot. -/
def heldA (P : List Sl) (W : List Int) : List Int := W ++ P.flatMap fun s => s.node.kids
theorem heldA_snoc {P : List Sl} {W : List Int} {k : Nat} (h : k < P.length) : heldA (P.take (k + 1)) W = heldA (P.take k) W ++ (atP P k).node.kids := by
  unfold heldA
  rw [List.take_succ_eq_append_getElem h, List.flatMap_append, atP_lt h, List.append_assoc]
  simp
theorem heldA_le (P : List Sl) (W : List Int) (k : Nat) : (heldA (P.take k) W).length ≤ (heldA P W).length := by
  unfold heldA
  conv => rhs; rw [← List.take_append_drop k P, List.flatMap_append]
  simp only [List.length_append]
  omega
set_option maxHeartbeats 4000000 in
theorem allHeld_w (v u : Value) (P : List Sl) (W : List Int) (w : World) (h : IsSlots w v P) (hu : IsInts w u W) (hl : (heldA P W).length ≤ 1000000) :
    Calls Try.prog 45 #[poolV v, u] w fun e w' => ∃ v', e = .returned v' ∧ w'.ownsRow w.heap.size 3 1 v' (heldA P W).length ((heldA P W).flatMap encI) ∧ Below w.heap.size w w' := by
  have mixed := mixedA
  have H := Lib.hid h
  have HWL : Hid (W.length ≤ 1000000) := Lib.hid (by unfold heldA at hl; rw [List.length_append] at hl; omega)
  have HL := Lib.hid hl
  have HB := Lib.hid (below_box (w := w) (.cells #[v] 29))
  have HC := Lib.hid (cloneInt_w u W _ (hu.below HB.out) HWL.out)
  obtain ⟨a, cap, rfl, hle, hcm, hpm⟩ := h.slice
  clear h hu hl
  go_enter Try.func45, Try.ntmps45
  go_wp2_with fail
  refine HC.out.mono ?_
  rintro e w1 ⟨v1, rfl, hown, hb⟩
  have p0 : w1.cell? ⟨w.heap.size, 0, none⟩ = some (.slice a P.length cap) := ((Blk.new w 29 #[.slice a P.length cap]).below hb (by simp)).c0 0 _ rfl
  have HO1 : Hid (w1.ownsRow w.heap.size 3 1 v1 (heldA (P.take 0) W).length ((heldA (P.take 0) W).flatMap encI)) := Lib.hid (by
    have e : heldA (P.take 0) W = W := by simp [heldA]
    rw [e]
    exact owns_lower hown (by simp))
  have HB1 : Hid (Below w.heap.size w w1) := Lib.hid (Below.next HB.out (Nat.le_refl _) hb)
  clear hown hb
  go_wp2_with fail
  clear p0
  go_loopw [5, 13] (fun v i wr => ∃ k : Nat, k ≤ P.length ∧ i = .int .i64 k ∧ Hid (wr.ownsRow w.heap.size 3 1 v (heldA (P.take k) W).length ((heldA (P.take k) W).flatMap encI)) ∧ Hid (Below w.heap.size w wr)) (fun _ i _ => P.length - (intOf i).toNat)
  case atStart => exact ⟨0, Nat.zero_le _, rfl, HO1, HB1⟩
  case round =>
    clear HO1 HB1
    obtain ⟨k, hk, rfl, HO, HBr⟩ := hrel
    by_cases hlt : k < P.length
    · have hltz : (k : Int) < (P.length : Int) := by omega
      obtain ⟨bb, off, cap', s, he, hbl, hlz, hs, x0, x1, x2, x3, x4, x5, x6, x7⟩ := slot_at (H.out.below HBr.out) k hlt
      injection he with he1 he2 he3
      subst he1 he3
      clear he2
      have HSN := Lib.hid (heldA_snoc (W := W) hlt)
      have HLE : Hid ((heldA (P.take k) W).length + (atP P k).node.kids.length ≤ 1000000000) := Lib.hid (by
        have h1 := heldA_le P W (k + 1)
        rw [HSN.out, List.length_append] at h1
        have := HL.out; omega)
      have HKI := Lib.hid (hs.kids.below (below_box (.cells #[.bool s.used, .bool s.lost, .int .i64 s.refs, slv s.a, slv s.b, slv s.c, slv s.d, slv s.e] 61)))
      have HOa := Lib.hid (HO.out.alloc (.cells #[.bool s.used, .bool s.lost, .int .i64 s.refs, slv s.a, slv s.b, slv s.c, slv s.d, slv s.e] 61))
      have HSZ : Hid (w.heap.size ≤ (wr.alloc (.cells #[.bool s.used, .bool s.lost, .int .i64 s.refs, slv s.a, slv s.b, slv s.c, slv s.d, slv s.e] 61)).heap.size) := Lib.hid (by have := HBr.out.size; simp; omega)
      clear hs
      go_wp2_with (at_builtin; refine append_ints rfl _ _ rfl w.heap.size _ (heldA (P.take k) W) rfl HOa.out _ (atP P k).node.kids rfl HKI.out HLE.out HSZ.out ?_; intro v4 w4 hown hb; have HO4 := Lib.hid hown; have HB4 := Lib.hid hb; clear hown hb)
      go_roundw
      case rel =>
        refine ⟨k + 1, by omega, by go_num, ?_, Lib.hid (HBr.out.trans (((below_box _).mono HBr.out.size).trans HB4.out))⟩
        rw [HSN.out]
        exact HO4
      case measure => simp [intOf]; omega
    · obtain rfl : k = P.length := by omega
      rw [List.take_length] at HO
      go_wp2
      go_ret
      exact ⟨_, rfl, HO.out, HBr.out⟩

/-- How often each index is in a list. -/
def cntL (l : List Int) (n : Nat) : List Int := (List.range n).map fun i : Nat => ((l.count (i : Int) : Nat) : Int)
theorem cntL_len (l : List Int) (n : Nat) : (cntL l n).length = n := by simp [cntL]
theorem cntL_get {l : List Int} {n i : Nat} (h : i < n) : (cntL l n)[i]'(by rw [cntL_len]; exact h) = ((l.count (i : Int) : Nat) : Int) := by simp [cntL]
theorem cntL_snoc {l : List Int} {n k : Nat} (h : k < n) : cntL (l ++ [(k : Int)]) n = (cntL l n).set k (((l.count (k : Int) : Nat) : Int) + 1) := by
  apply List.ext_getElem (by simp [cntL_len])
  intro i h1 h2
  rw [cntL_len] at h1
  rw [cntL_get h1, List.getElem_set, List.count_append]
  by_cases e : k = i
  · subst e; simp
  · have e2 : ((k : Int) == (i : Int)) = false := by simp; omega
    simp [List.count_cons, e2, e, cntL_get h1]
def intsA (l : List Int) : Array Value := (l.map (Value.int .i64)).toArray
theorem ints_get {l : List Int} {i : Nat} (h : i < l.length) : (intsA l)[i]? = some (.int .i64 l[i]) := by simp [intsA, h]
theorem ints_set (l : List Int) (i : Nat) (x : Int) : (intsA l).setIfInBounds i (.int .i64 x) = intsA (l.set i x) := by
  unfold intsA; rw [List.map_set, List.setIfInBounds_toArray]
theorem made_zeros (n : Nat) : (madeCells (Value.int .i64 0).cells (n * 1)).toList.toArray = intsA (cntL [] n) := by
  have : (Value.int .i64 0).cells = #[Value.int .i64 0] := rfl
  rw [this, toList_madeCells_one]
  unfold intsA cntL
  apply Array.ext'
  simp [List.map_const']
/-- All counts are right. -/
def countB (P : List Sl) (l : List Int) : Bool := (List.range P.length).all fun i : Nat => (atP P i).refs == ((l.count (i : Int) : Nat) : Int)
set_option maxHeartbeats 1000000 in
theorem counted1_w (s : Sv) (x : Int) (w : World) :
    Calls Try.prog 59 #[slotV s, .int .i64 x] w fun e w' => e = .returned (.bool (s.refs == x)) ∧ Below w.heap.size w w' := by
  obtain ⟨u, l, r, a, b, c, d, f⟩ := s
  go_enter Try.func59, Try.ntmps59
  go_wp2
  go_ret
  exact ⟨rfl, below_box _⟩
set_option maxHeartbeats 4000000 in
theorem equalC_w (v u : Value) (P : List Sl) (c : List Int) (w : World) (h : IsSlots w v P) (hu : IsInts w u c) (hc : c.length = P.length) :
    Calls Try.prog 58 #[v, u, .func (.func 59) #[] #[]] w fun e w' => e = .returned (.bool ((List.range P.length).all fun i => (atP P i).refs == c.getD i 0)) ∧ Below w.heap.size w w' := by
  have mixed := mixedA
  have H := Lib.hid h
  have HU := Lib.hid hu
  have HC := Lib.hid hc
  obtain ⟨a, cap, rfl, hle, hcm, hpm⟩ := h.slice
  obtain ⟨ua, uc, rfl, hul, huc⟩ := hu.slice
  rw [hc] at hul ⊢
  have hne : ((P.length : Int) != (P.length : Int)) = false := by simp
  clear h hu hc
  go_enter Try.func58, Try.ntmps58
  go_wp2
  go_loopw [17] (fun i wr => ∃ k : Nat, k ≤ P.length ∧ i = .int .i64 k ∧ Hid (Below w.heap.size w wr) ∧ Hid ((List.range k).all (fun i => (atP P i).refs == c.getD i 0) = true)) (fun i _ => P.length - (intOf i).toNat)
  case atStart => exact ⟨0, Nat.zero_le _, rfl, Lib.hid (Below.refl _ _), Lib.hid rfl⟩
  case round =>
    obtain ⟨k, hk, rfl, HB, HA⟩ := hrel
    by_cases hlt : k < P.length
    · have hltz : (k : Int) < (P.length : Int) := by omega
      obtain ⟨bb, off, cap', s, he, hbl, hlz, hs, x0, x1, x2, x3, x4, x5, x6, x7⟩ := slot_at (H.out.below HB.out) k hlt
      injection he with he1 he2 he3
      subst he1 he3
      clear he2
      obtain ⟨b5, off5, cap5, he, hbl5, hlz5, y0⟩ := at_int (HU.out.below HB.out) k (by rw [HC.out]; exact hlt)
      injection he with he1 he2 he3
      subst he1 he3
      clear he2
      have HS := Lib.hid hs.refs
      have HG : Hid (c.getD k 0 = c[k]'(by rw [HC.out]; exact hlt)) := Lib.hid (by simp [HC.out, hlt])
      have HN : Hid ((List.range (k + 1)).all (fun i => (atP P i).refs == c.getD i 0) = ((List.range k).all (fun i => (atP P i).refs == c.getD i 0) && ((atP P k).refs == c.getD k 0))) := Lib.hid (by rw [List.range_succ, List.all_append]; simp)
      have HF : Hid (((atP P k).refs == c.getD k 0) = false → (List.range P.length).all (fun i => (atP P i).refs == c.getD i 0) = false) := Lib.hid (fun h => by
        rw [List.all_eq_false]
        exact ⟨k, by simpa using hlt, by rw [h]; simp⟩)
      have y0 : (wr.alloc (.cells #[.bool s.used, .bool s.lost, .int .i64 s.refs, slv s.a, slv s.b, slv s.c, slv s.d, slv s.e] 61)).cell? ⟨b5, off5 + k, none⟩ = some (.int .i64 (c[k]'(by rw [HC.out]; exact hlt))) := by rw [World.cell?_alloc_lt _ _ _ (by exact hbl5)]; exact y0
      obtain ⟨x, hx⟩ : ∃ x, x = c[k]'(by rw [HC.out]; exact hlt) := ⟨_, rfl⟩
      rw [← hx] at y0 HG
      rw [HG.out] at HN HF
      clear hx hs
      have HCL := Lib.hid (fun wx => counted1_w s x wx)
      obtain ⟨q, hq⟩ : ∃ q, (s.refs == x) = q := ⟨_, rfl⟩
      rw [hq] at HCL
      rw [← HS.out, hq] at HN HF
      clear hq
      cases q
      all_goals
        go_wp2_with (go_at_call 59; refine (HCL.out _).mono ?_; rintro e w2 ⟨rfl, hg2⟩; have HB2 := Lib.hid (Below.next (HB.out.trans ((below_box (.cells #[.bool s.used, .bool s.lost, .int .i64 s.refs, slv s.a, slv s.b, slv s.c, slv s.d, slv s.e] 61)).mono HB.out.size)) (Nat.le_refl _) hg2); clear hg2)
      · go_ret
        exact ⟨ret_bool (HF.out trivial).symm, HB2.out⟩
      · go_roundw
        case rel => exact ⟨k + 1, by omega, by go_num, HB2, Lib.hid (by rw [HN.out, HA.out]; rfl)⟩
        case measure => simp [intOf]; omega
    · obtain rfl : k = P.length := by omega
      go_wp2
      go_ret
      exact ⟨ret_bool HA.out.symm, HB.out⟩
set_option maxHeartbeats 4000000 in
theorem counted_w (v u : Value) (P : List Sl) (l : List Int) (w : World) (h : IsSlots w v P) (hu : IsInts w u l) (ha : ∀ k ∈ l, usedB P k = true) (hl : P.length ≤ 1000000) (hm : l.length ≤ 1000000000) :
    Calls Try.prog 49 #[poolV v, u] w fun e w' => e = .returned (.bool (countB P l)) ∧ Below w.heap.size w w' := by
  have mixed := mixedA
  obtain ⟨i0, hi, hz0, hz1, hz2⟩ := info_parts infoI
  have H := Lib.hid h
  have HI := Lib.hid hu
  have HA := Lib.hid ha
  have HML := Lib.hid hm
  obtain ⟨a, cap, rfl, hle, hcm, hpm⟩ := h.slice
  obtain ⟨ua, uc, rfl, hul, huc⟩ := hu.slice
  clear h hu ha hm
  have HBX : Hid (Blk (w.alloc (.cells #[.slice a P.length cap] 29)) w.heap.size 29 #[.slice a P.length cap]) := Lib.hid (Blk.new _ _ _)
  go_enter Try.func49, Try.ntmps49
  go_upto_region 2 with (at_make; refine wpList_make_full _ rfl _ _ 30 rfl (w.heap.size + 1) 3 i0 (.int .i64 0) 1 Try.underlying30 hi hz0 hz1 .i64 .i64 _ _ P.length rfl rfl rfl rfl (by rw [hz2]; omega) (by unfold maxLen; omega) (by simp) ?_; intro w1 hown1 hgrow1)
  simp only [World.size_alloc] at hown1
  have HG1 : Hid (Below (w.heap.size + 1) (w.alloc (.cells #[.slice a P.length cap] 29)) w1) := Lib.hid (Below.grown (Below.refl _ _) hgrow1 (by simp) (fun k hk => by cases hk))
  have hmk := (own_blk hown1)
  rw [made_zeros] at hmk
  have HM1 := Lib.hid hmk.1
  clear hown1 hgrow1 hmk
  go_wp2_with fail
  go_loopw [14] (fun i wr => ∃ k : Nat, k ≤ l.length ∧ i = .int .i64 k ∧ Hid (Blk wr (w.heap.size + 1) 3 (intsA (cntL (l.take k) P.length))) ∧ Hid (Below (w.heap.size + 1) w1 wr)) (fun i _ => l.length - (intOf i).toNat)
  case atStart => exact ⟨0, Nat.zero_le _, rfl, HM1, Lib.hid (Below.refl _ _)⟩
  case round =>
    obtain ⟨k, hk, rfl, HM, HB⟩ := hrel
    have HBw : Hid (Below w.heap.size w wr) := Lib.hid ((below_box _).trans ((HG1.out.trans HB.out).mono (by omega)))
    by_cases hlt : k < l.length
    · have hltz : (k : Int) < (l.length : Int) := by omega
      obtain ⟨b5, off5, cap5, he, hbl5, hlz5, y0⟩ := at_int (HI.out.below HBw.out) k hlt
      injection he with he1 he2 he3
      subst he1 he3
      clear he2
      have hu' := usedB_lt (HA.out _ (List.getElem_mem hlt))
      obtain ⟨kk, hkk⟩ : ∃ kk : Nat, l[k] = (kk : Int) := ⟨_, (Int.toNat_of_nonneg hu'.1).symm⟩
      have HTK := Lib.hid (take_snocI hlt)
      rw [hkk] at y0 HTK hu'
      have hkl : kk < P.length := by have := hu'.2; omega
      have hkz : (kk : Int) < (P.length : Int) := by omega
      obtain ⟨n, hn⟩ : ∃ n : Nat, n = (l.take k).count (kk : Int) := ⟨_, rfl⟩
      have hnb : n ≤ 1000000000 := by
        rw [hn]
        exact Nat.le_trans List.count_le_length (Nat.le_trans (by rw [List.length_take]; omega) HML.out)
      have c0 : wr.cell? ⟨w.heap.size + 1, kk, none⟩ = some (.int .i64 (n : Int)) := HM.out.c0 kk _ (by rw [ints_get (by rw [cntL_len]; exact hkl), cntL_get hkl, hn])
      have f0 := HM.out.free kk
      have HSN : Hid (cntL (l.take (k + 1)) P.length = (cntL (l.take k) P.length).set kk ((n : Int) + 1)) := Lib.hid (by rw [HTK.out, cntL_snoc hkl, hn])
      clear hn hkk hu'
      go_wp2
      go_roundw
      case rel =>
        refine ⟨k + 1, by omega, by go_num, Lib.hid ?_, Lib.hid (HB.out.setCell (by simp) _)⟩
        have := HM.out.setCell kk (.int .i64 ((n : Int) + 1))
        rw [ints_set] at this
        rw [HSN.out]
        exact this
      case measure => simp [intOf]; omega
    · obtain rfl : k = l.length := by omega
      rw [List.take_length] at HM
      have HCI : Hid (IsInts wr (.slice (some ⟨w.heap.size + 1, 0, none⟩) P.length P.length) (cntL l P.length)) := Lib.hid (by
        refine ⟨some ⟨w.heap.size + 1, 0, none⟩, P.length, by rw [cntL_len], by rw [cntL_len]; exact Nat.le_refl _, by unfold maxLen; omega, fun _ => ⟨w.heap.size + 1, 0, rfl, HM.out.lt, fun i hi => ?_⟩⟩
        rw [Nat.zero_add]
        exact HM.out.c0 i _ (ints_get hi))
      have HE := Lib.hid (equalC_w (.slice a P.length cap) _ P (cntL l P.length) wr (H.out.below HBw.out) HCI.out (cntL_len _ _))
      have HQ : Hid (((List.range P.length).all fun i => (atP P i).refs == (cntL l P.length).getD i 0) = countB P l) := Lib.hid (by
        unfold countB
        rw [Bool.eq_iff_iff, List.all_eq_true, List.all_eq_true]
        refine forall_congr' fun i => forall_congr' fun hi => ?_
        have hi : i < P.length := by simpa using hi
        rw [List.getD_eq_getElem?_getD, List.getElem?_eq_getElem (by rw [cntL_len]; exact hi), cntL_get hi]; rfl)
      rw [HQ.out] at HE
      have p0 : wr.cell? ⟨w.heap.size, 0, none⟩ = some (.slice a P.length cap) := ((HBX.out.below HG1.out (by omega)).below HB.out (by omega)).c0 0 _ rfl
      go_wp2_with fail
      refine HE.out.mono ?_
      rintro e w2 ⟨rfl, hb⟩
      have HB2 := Lib.hid (Below.next HBw.out (Nat.le_refl _) hb)
      clear hb
      go_wp2
      go_ret
      exact ⟨rfl, HB2.out⟩
/-- What Sound answers. -/
def soundP (P : List Sl) (W : List Int) : Bool := !P.any spoilB && (heldA P W).all (usedB P) && countB P (heldA P W) && (liveP (runL (muP P W) P W) == 0)
set_option maxHeartbeats 4000000 in
theorem sound_w (v u : Value) (P : List Sl) (W : List Int) (w : World) (h : IsSlots w v P) (hu : IsInts w u W) (hl : P.length ≤ 1000000) (hh : (heldA P W).length ≤ 1000000) (hm : muP P W ≤ 1000000) (hr : ∀ i, -1000000 ≤ (atP P i).refs ∧ (atP P i).refs ≤ 1000000000) (hz : ∀ i, SmallSl (atP P i)) :
    Calls Try.prog 30 #[poolV v, u] w fun e w' => e = .returned (.bool (soundP P W)) ∧ Below w.heap.size w w' := by
  have mixed := mixedA
  have H := Lib.hid h
  have HU := Lib.hid hu
  obtain ⟨a, cap, rfl, hle, hcm, hpm⟩ := h.slice
  have HB := Lib.hid (below_box (w := w) (.cells #[.slice a P.length cap] 29))
  have HBX : Hid (Blk (w.alloc (.cells #[.slice a P.length cap] 29)) w.heap.size 29 #[.slice a P.length cap]) := Lib.hid (Blk.new _ _ _)
  have H1 := Lib.hid (allHeld_w _ u P W _ (h.below HB.out) (hu.below HB.out) hh)
  have H2 := Lib.hid (fun wx (hx : Below w.heap.size w wx) => containsSpoil_w (.slice a P.length cap) P wx (H.out.below hx) hz)
  have H5 := Lib.hid (fun wx (hx : Below w.heap.size w wx) => dropped_w (.slice a P.length cap) u P W w wx (H.out.slF.below hx) hx (HU.out.below hx) hl hm hr)
  have HHL := Lib.hid hh
  clear h hu hm hr hz hh
  have HQ : Hid (soundP P W = (!P.any spoilB && (heldA P W).all (usedB P) && countB P (heldA P W) && (liveP (runL (muP P W) P W) == 0))) := Lib.hid rfl
  generalize soundP P W = ans at *
  go_enter Try.func30, Try.ntmps30
  go_wp2_with fail
  refine H1.out.mono ?_
  rintro e w1 ⟨v1, rfl, hown, hb⟩
  obtain ⟨a1, c1, rfl, hl1, hc1⟩ := (IsInts.owned hown).slice
  have HI1 := Lib.hid (IsInts.owned hown)
  have HB1 := Lib.hid (Below.next HB.out (Nat.le_refl _) hb)
  have HBX1 := Lib.hid (HBX.out.below hb HBX.out.lt)
  have p0 : w1.cell? ⟨w.heap.size, 0, none⟩ = some (.slice a P.length cap) := HBX1.out.c0 0 _ rfl
  clear hown hb
  obtain ⟨q1, hq1⟩ : ∃ q, P.any spoilB = q := ⟨_, rfl⟩
  obtain ⟨q2, hq2⟩ : ∃ q, (heldA P W).all (usedB P) = q := ⟨_, rfl⟩
  obtain ⟨q3, hq3⟩ : ∃ q, countB P (heldA P W) = q := ⟨_, rfl⟩
  have HALL : Hid (q2 = true → ∀ k ∈ heldA P W, usedB P k = true) := Lib.hid (fun h => List.all_eq_true.1 (hq2.trans h))
  rw [hq1, hq2, hq3] at HQ
  rw [hq1] at H2
  have H3 := Lib.hid (fun wx (hx : Below w1.heap.size w1 wx) => allUsed_w (.slice a P.length cap) (.slice a1 (heldA P W).length c1) P (heldA P W) wx (H.out.below (HB1.out.trans (hx.mono HB1.out.size))) (HI1.out.below hx))
  rw [hq2] at H3
  have H4 := Lib.hid (fun (h : q2 = true) wx (hx : Below w1.heap.size w1 wx) => counted_w (.slice a P.length cap) (.slice a1 (heldA P W).length c1) P (heldA P W) wx (H.out.below (HB1.out.trans (hx.mono HB1.out.size))) (HI1.out.below hx) (HALL.out h) hl (Nat.le_trans HHL.out (by decide)))
  rw [hq3] at H4
  clear hq1 hq2 hq3
  cases q1
  · cases q2
    · go_wp2_with (first
        | (go_at_call 46; refine (H2.out _ HB1.out).mono ?_; rintro e w2 ⟨rfl, hb⟩; have HB2 := Lib.hid hb; have p0 : w2.cell? ⟨w.heap.size, 0, none⟩ = some (.slice a P.length cap) := (HBX1.out.below hb HBX1.out.lt).c0 0 _ rfl; clear hb)
        | (go_at_call 48; refine (H3.out _ HB2.out).mono ?_; rintro e w3 ⟨rfl, hb⟩; have HB3 := Lib.hid (HB2.out.trans (hb.mono HB2.out.size)); clear hb))
      go_ret
      exact ⟨ret_bool (by rw [HQ.out]; rfl), HB1.out.trans (HB3.out.mono HB1.out.size)⟩
    · have H4b := Lib.hid (H4.out (by first | exact rfl | exact trivial))
      clear H4
      cases q3
      · go_wp2_with (first
          | (go_at_call 46; refine (H2.out _ HB1.out).mono ?_; rintro e w2 ⟨rfl, hb⟩; have HB2 := Lib.hid hb; have p0 : w2.cell? ⟨w.heap.size, 0, none⟩ = some (.slice a P.length cap) := (HBX1.out.below hb HBX1.out.lt).c0 0 _ rfl; clear hb)
          | (go_at_call 48; refine (H3.out _ HB2.out).mono ?_; rintro e w3 ⟨rfl, hb⟩; have HB3 := Lib.hid (HB2.out.trans (hb.mono HB2.out.size)); have p0 : w3.cell? ⟨w.heap.size, 0, none⟩ = some (.slice a P.length cap) := (HBX1.out.below HB3.out HBX1.out.lt).c0 0 _ rfl; clear hb)
          | (go_at_call 49; refine (H4b.out _ HB3.out).mono ?_; rintro e w4 ⟨rfl, hb⟩; have HB4 := Lib.hid (HB3.out.trans (hb.mono HB3.out.size)); clear hb))
        go_ret
        exact ⟨ret_bool (by rw [HQ.out]; rfl), HB1.out.trans (HB4.out.mono HB1.out.size)⟩
      · generalize runL (muP P W) P W = R at *
        go_wp2_with (first
          | (go_at_call 46; refine (H2.out _ HB1.out).mono ?_; rintro e w2 ⟨rfl, hb⟩; have HB2 := Lib.hid hb; have p0 : w2.cell? ⟨w.heap.size, 0, none⟩ = some (.slice a P.length cap) := (HBX1.out.below hb HBX1.out.lt).c0 0 _ rfl; clear hb)
          | (go_at_call 48; refine (H3.out _ HB2.out).mono ?_; rintro e w3 ⟨rfl, hb⟩; have HB3 := Lib.hid (HB2.out.trans (hb.mono HB2.out.size)); have p0 : w3.cell? ⟨w.heap.size, 0, none⟩ = some (.slice a P.length cap) := (HBX1.out.below HB3.out HBX1.out.lt).c0 0 _ rfl; clear hb)
          | (go_at_call 49; refine (H4b.out _ HB3.out).mono ?_; rintro e w4 ⟨rfl, hb⟩; have HB4 := Lib.hid (HB3.out.trans (hb.mono HB3.out.size)); have p0 : w4.cell? ⟨w.heap.size, 0, none⟩ = some (.slice a P.length cap) := (HBX1.out.below HB4.out HBX1.out.lt).c0 0 _ rfl; clear hb)
          | (go_at_call 44; refine (H5.out _ (HB1.out.trans (HB4.out.mono HB1.out.size))).mono ?_; rintro e w5 ⟨v5, rfl, hown, hb⟩; have HB5 := Lib.hid (Below.next (HB1.out.trans (HB4.out.mono HB1.out.size)) (Nat.le_refl _) hb); have HL6 := Lib.hid (live_w v5 R w5 (hown.slF.slots (HB5.out))); clear hb hown)
          | (go_at_call 17; refine HL6.out.mono ?_; rintro e w6 ⟨rfl, hb⟩; have HB6 := Lib.hid (Below.next HB5.out (Nat.le_refl _) hb); clear hb))
        go_ret
        exact ⟨ret_bool (by rw [HQ.out, Bool.eq_iff_iff]; simp), HB6.out⟩
  · go_wp2_with (go_at_call 46; refine (H2.out _ HB1.out).mono ?_; rintro e w2 ⟨rfl, hb⟩; have HB2 := Lib.hid hb; clear hb)
    go_ret
    exact ⟨ret_bool (by rw [HQ.out]; rfl), HB1.out.trans (HB2.out.mono HB1.out.size)⟩

end Go.Proofs.Ytlgangcldlphnaa
