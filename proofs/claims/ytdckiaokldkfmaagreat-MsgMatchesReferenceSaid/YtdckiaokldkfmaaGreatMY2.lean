/-
  Walks: Bytes.
-/
import Derived.Test.YtdckiaokldkfmaaGreatMY
namespace Go.Proofs.YtdckiaokldkfmaaGreat
open Go.RowKit Go.Sort
set_option linter.unusedVariables false

/-- The texts and numbers of a kind, where they lie. -/
theorem tOff_len (m : Ms) : (tOff m.kind).length = (fieldsT m).length := by
  unfold tOff fieldsT
  by_cases h1 : m.kind = 1
  · simp [h1]
  by_cases h2 : m.kind = 2
  · simp [h2]
  by_cases h3 : m.kind = 3
  · simp [h3]
  by_cases h4 : m.kind = 4
  · simp [h4]
  by_cases h5 : m.kind = 5
  · simp [h5]
  by_cases h6 : m.kind = 6
  · simp [h6]
  simp [h1, h2, h3, h4, h5, h6]
theorem nOff_len (m : Ms) : (nOff m.kind).length = (fieldsN m).length := by
  unfold nOff fieldsN
  by_cases h1 : m.kind = 1
  · simp [h1]
  by_cases h6 : m.kind = 6
  · simp [h6]
  simp [h1, h6]
theorem two_at {α β : Type} (P : α → β → Prop) {a0 a1 : α} {b0 b1 : β} (h0 : P a0 b0) (h1 : P a1 b1) : ∀ k (h : k < [a0, a1].length) (h' : k < [b0, b1].length), P [a0, a1][k] [b0, b1][k] := by
  intro k h h'
  match k, h with
  | 0, _ => exact h0
  | 1, _ => exact h1
theorem one_at {α β : Type} (P : α → β → Prop) {a0 : α} {b0 : β} (h0 : P a0 b0) : ∀ k (h : k < [a0].length) (h' : k < [b0].length), P [a0][k] [b0][k] := by
  intro k h h'
  match k, h with
  | 0, _ => exact h0
def AtT (m : Ms) (o : Nat) (s : Bs) : Prop := (encM m)[o]? = some (.string (Str s))
def AtN (m : Ms) (o : Nat) (n : Int) : Prop := (encM m)[o]? = some (.int .i64 n)
theorem fields_at (m : Ms) (k : Nat) (h : k < (tOff m.kind).length) (h' : k < (fieldsT m).length) : AtT m (tOff m.kind)[k] (fieldsT m)[k] := by
  revert h h'
  unfold tOff fieldsT
  by_cases h1 : m.kind = 1
  · simp only [h1]; refine two_at (AtT m) ?_ ?_ k <;> exact rfl
  by_cases h2 : m.kind = 2
  · simp only [h2]; refine one_at (AtT m) ?_ k; exact rfl
  by_cases h3 : m.kind = 3
  · simp only [h3]; refine two_at (AtT m) ?_ ?_ k <;> exact rfl
  by_cases h4 : m.kind = 4
  · simp only [h4]; refine two_at (AtT m) ?_ ?_ k <;> exact rfl
  by_cases h5 : m.kind = 5
  · simp only [h5]; refine two_at (AtT m) ?_ ?_ k <;> exact rfl
  by_cases h6 : m.kind = 6
  · simp only [h6]; refine two_at (AtT m) ?_ ?_ k <;> exact rfl
  intro h
  simp [h1, h2, h3, h4, h5, h6] at h
theorem numbers_at (m : Ms) (k : Nat) (h : k < (nOff m.kind).length) (h' : k < (fieldsN m).length) : AtN m (nOff m.kind)[k] (fieldsN m)[k] := by
  revert h h'
  unfold nOff fieldsN
  by_cases h1 : m.kind = 1
  · simp only [h1]; refine one_at (AtN m) ?_ k; exact rfl
  by_cases h6 : m.kind = 6
  · simp only [h6]; refine one_at (AtN m) ?_ k; exact rfl
  intro h
  simp [h1, h6] at h
theorem valid_fits {m : Ms} (h : validM m = true) : fitsB m = true := by unfold validM at h; rw [Bool.and_eq_true] at h; exact h.1
theorem valid_bare {m : Ms} (h : validM m = true) : bareM m = zeroM m.kind := by unfold validM at h; rw [Bool.and_eq_true, decide_eq_true_eq] at h; exact h.2
/-- Of a valid message the texts are short, the numbers small. -/
theorem valid_small {m : Ms} (h : validM m = true) : (∀ s ∈ fieldsT m, s.length ≤ 65535) ∧ (∀ n ∈ fieldsN m, 0 ≤ n ∧ n ≤ 1000000000) ∧ 0 ≤ m.kind ∧ m.kind ≤ 6 := by
  have hf := valid_fits h
  have hk := kind_cases m h
  unfold fitsB at hf
  unfold fieldsT fieldsN
  unfold keyB stampB spanB apartB frontB at hf
  rcases hk with h1 | h1 | h1 | h1 | h1 | h1
  all_goals
    simp [h1] at hf
    refine ⟨?_, ?_, by omega, by omega⟩
    · intro s hs; simp [h1] at hs; first | (rcases hs with rfl | rfl <;> omega) | (subst hs; omega)
    · intro n hn; simp [h1] at hn; try (subst hn; omega)
theorem flat_take (f : Bs → Bs) (l : List Bs) (k : Nat) (h : k < l.length) : (l.take (k + 1)).flatMap f = (l.take k).flatMap f ++ f l[k] := by
  rw [List.take_add_one, List.getElem?_eq_getElem h, List.flatMap_append]; simp
theorem flat_takeN (f : Int → Bs) (l : List Int) (k : Nat) (h : k < l.length) : (l.take (k + 1)).flatMap f = (l.take k).flatMap f ++ f l[k] := by
  rw [List.take_add_one, List.getElem?_eq_getElem h, List.flatMap_append]; simp
theorem flat_len (l : List Bs) (hs : ∀ s ∈ l, s.length ≤ 65535) : (l.flatMap textB).length ≤ l.length * 65537 := by
  induction l with
  | nil => simp
  | cons s l ih =>
    rw [List.flatMap_cons, List.length_append, List.length_cons]
    have h1 := hs s (by simp)
    have h2 := ih fun t ht => hs t (by simp [ht])
    have h3 : (textB s).length = 2 + s.length := by unfold textB; rw [List.length_append, bytesN_len]
    omega
theorem flat_lenN (l : List Int) : (l.flatMap fun n => bytesN 4 n.toNat).length = l.length * 4 := by
  induction l with
  | nil => simp
  | cons s l ih => rw [List.flatMap_cons, List.length_append, List.length_cons, ih, bytesN_len]; omega
theorem fields_few (m : Ms) : (fieldsT m).length ≤ 2 ∧ (fieldsN m).length ≤ 1 := by
  unfold fieldsT fieldsN
  constructor
  · split
    · simp
    split
    · simp
    split
    · simp
    split
    · simp
    split
    · simp
    split
    · simp
    simp
  · split
    · simp
    split
    · simp
    simp
def BytesOut (B : Nat) (w : World) (l : Bs) (e : Ending) (w' : World) : Prop := ∃ v', e = .returned v' ∧ OwnB w' B v' l ∧ Below B w w'
theorem strCells_Str (s : Bs) : Lib.strCells (Str s) = s.map fun c => Value.int .u8 c.toNat := rfl
theorem MBlk.keep {w w' : World} {b : Nat} {m : Ms} (h : MBlk w b m) (hk : KeepB w w') : MBlk w' b m := hk b _ _ (by decide) h
theorem IsPtrs.keepB {w w' : World} {v : Value} {b : Nat} {os : List Nat} (h : IsPtrs w v b os) (hk : KeepB w w') : IsPtrs w' v b os := h.keep fun g T cs _ hT hc => hk g T cs hT.1 hc

/-- What stays while bytes are laid. -/
structure BySt (B : Nat) (w0 : World) (m : Ms) (v1 v2 : Value) (wx : World) : Prop where
  mb : MBlk wx B m
  p1 : IsPtrs wx v1 B (tOff m.kind)
  p2 : IsPtrs wx v2 B (nOff m.kind)
  g : Below B w0 wx
theorem BySt.step {B : Nat} {w0 wx wy : World} {m : Ms} {v1 v2 : Value} (h : BySt B w0 m v1 v2 wx) (hk : KeepB wx wy) (hb : Below B wx wy) : BySt B w0 m v1 v2 wy :=
  ⟨h.mb.keep hk, h.p1.keepB hk, h.p2.keepB hk, h.g.trans hb⟩

set_option maxRecDepth 100000 in
set_option maxHeartbeats 4000000 in
theorem bytes_w (m : Ms) (w : World) : Calls Tryz.prog 33 #[msgV m] w (BytesOut w.heap.size w (bytesM m)) := by
  obtain ⟨W0, hW0⟩ : ∃ W0, W0 = w.alloc (.cells (encM m) 34) := ⟨_, rfl⟩
  have b0 : MBlk W0 w.heap.size m := by rw [hW0]; exact Blk.new _ _ _
  have g0 : Grown w W0 := by rw [hW0]; exact (Grown.refl w).alloc _
  have HV := Lib.hid (fun wx => valid_w m wx)
  obtain ⟨i0, hi, hz0, hz1, hz2⟩ := info_parts infoU8
  obtain ⟨c0, c1, c2, c3, c4, c5, c6, c7⟩ := b0.plain
  have B0 := Lib.hid b0
  have G0 := Lib.hid g0
  clear b0 g0
  cases hv : validM m with
  | false =>
    rw [hv] at HV
    have H : Hid (bytesM m = []) := Lib.hid (by unfold bytesM; rw [hv]; rfl)
    clear hv
    subst hW0
    go_enter Tryz.func33, Tryz.ntmps33
    go_wp2_with fail
    refine (HV.out _).mono ?_
    rintro e w1 ⟨rfl, g1⟩
    have G1 : Hid (Below w.heap.size w w1) := Lib.hid ((G0.out.trans g1).below (Nat.le_refl _))
    clear g1 c0 c1 c2 c3 c4 c5 c6 c7
    go_wp2
    go_ret
    rw [H.out]
    exact ⟨_, rfl, World.ownsRow_nil _ _ _ _, G1.out⟩
  | true =>
    rw [hv] at HV
    have H : Hid (bytesM m = bytesN 1 m.kind.toNat ++ (fieldsT m).flatMap textB ++ (fieldsN m).flatMap (fun n => bytesN 4 n.toNat)) := Lib.hid (by unfold bytesM; rw [hv]; rfl)
    obtain ⟨hst, hsn, hk0, hk6⟩ := valid_small hv
    have Hst := Lib.hid hst
    have Hsn := Lib.hid hsn
    have hm := disp_fields.m m.kind w.heap.size
    have hc := disp_fields.c m.kind
    have hfew := fields_few m
    have hlt1 := tOff_len m
    have hlt2 := nOff_len m
    have Hl1 := Lib.hid hlt1
    have Hl2 := Lib.hid hlt2
    clear hv hst hsn hlt1 hlt2
    subst hW0
    go_enter Tryz.func33, Tryz.ntmps33
    go_wp2_with fail
    refine (HV.out _).mono ?_
    rintro e w1 ⟨rfl, g1⟩
    have G1 : Hid (Below w.heap.size w w1) := Lib.hid ((G0.out.trans g1).below (Nat.le_refl _))
    have hs1 := G1.out.size
    have B1 := Lib.hid (Grown.blk g1 B0.out)
    have d0 := (MBlk.plain B1.out).1
    clear g1 c0 c1 c2 c3 c4 c5 c6 c7 HV B0
    go_wp2_with fail
    refine (appendNumber_w w.heap.size _ [] m.kind 1 w1 (by omega) (by simp) (World.ownsRow_nil _ _ _ _) hs1 hk0 (by omega)).mono ?_
    rintro e w2 ⟨v3, rfl, ho2, hb2, hk2⟩
    have G2 : Hid (Below w.heap.size w w2) := Lib.hid (G1.out.trans hb2)
    have O2 := Lib.hid ho2
    have B2 := Lib.hid (MBlk.keep B1.out hk2)
    have e0 := (MBlk.plain B2.out).1
    have hs2 := G2.out.size
    clear hb2 hk2 d0 ho2
    go_wp2_with fail
    refine (of_w m.kind w.heap.size w2 e0).mono ?_
    rintro e w3 ⟨rfl, rfl⟩
    clear e0
    go_wp2_with fail
    refine (fieldsF_w m.kind w.heap.size w2 (Blk.lt B2.out)).mono ?_
    rintro e w3 ⟨v1, v2, rfl, q1, q2, hg3⟩
    have HS : Hid (BySt w.heap.size w m v1 v2 w3) := Lib.hid ⟨Grown.blk hg3 B2.out, q1, q2, G2.out.trans (hg3.below hs2)⟩
    have O3 := Lib.hid (OwnB.below O2.out (hg3.below (Nat.le_refl _)))
    obtain ⟨a1, cap1, g1, rfl, l1, m1, hc1⟩ := q1.form
    obtain ⟨a2, cap2, g2, rfl, l2, m2, hc2⟩ := q2.form
    clear q1 q2 hg3 hc1 hc2 hm hc G1 G2 B1 B2 O2
    go_wp2
    go_loopw [3, 23] (fun x i wr => ∃ k : Nat, k ≤ (tOff m.kind).length ∧ i = .int .i64 k ∧ OwnB wr w.heap.size x (bytesN 1 m.kind.toNat ++ ((fieldsT m).take k).flatMap textB) ∧ BySt w.heap.size w m (.slice a1 (tOff m.kind).length cap1) (.slice a2 (nOff m.kind).length cap2) wr) (fun _ i _ => (tOff m.kind).length - (intOf i).toNat)
    case atStart => exact ⟨0, Nat.zero_le _, rfl, by simpa using O3.out, HS.out⟩
    case round =>
      clear HS O3
      obtain ⟨k, hk, rfl, hown, hs⟩ := hrel
      have HS := Lib.hid hs
      have Hown := Lib.hid hown
      have hsz := hs.g.size
      clear hown
      by_cases hlt : k < (tOff m.kind).length
      · obtain ⟨p, cap, g, hv, -, -, hcc⟩ := hs.p1.form
        obtain ⟨rfl, hne, hgl, p0⟩ := hcc k hlt
        injection hv with hv1 hv2 hv3
        subst hv1
        clear hv2 hv3 hcc
        have hltz : (k : Int) < ((tOff m.kind).length : Int) := by omega
        have hlf : k < (fieldsT m).length := by have := Hl1.out; omega
        have hat := fields_at m k hlt hlf
        have HM := Lib.hid (fun wx (hx : BySt w.heap.size w m (.slice (some ⟨g, 0, none⟩) (tOff m.kind).length cap1) (.slice a2 (nOff m.kind).length cap2) wx) => hx.mb.c0 _ _ hat)
        have hcell := HM.out wr hs
        have Htk := Lib.hid (flat_take textB (fieldsT m) k hlf)
        have hsl := Hst.out _ (List.getElem_mem hlf)
        have hpre : (bytesN 1 m.kind.toNat ++ ((fieldsT m).take k).flatMap textB).length ≤ 140000 := by
          rw [List.length_append, bytesN_len]
          have h1 := flat_len ((fieldsT m).take k) (fun s hs => Hst.out s (List.mem_of_mem_take hs))
          have h2 : ((fieldsT m).take k).length ≤ 2 := by rw [List.length_take]; omega
          omega
        clear hs hat
        generalize (tOff m.kind)[k] = o at *
        generalize (fieldsT m)[k] = s at *
        obtain ⟨pre, hpe⟩ : ∃ p, p = bytesN 1 m.kind.toNat ++ ((fieldsT m).take k).flatMap textB := ⟨_, rfl⟩
        rw [← hpe] at hpre Hown
        have Hpe := Lib.hid hpe
        clear hpe
        go_wp2_with fail
        refine (appendNumber_w w.heap.size _ pre _ 2 wr (by omega) (by omega) Hown.out hsz (by omega) (by omega)).mono ?_
        rw [Int.toNat_natCast]
        rintro e w4 ⟨v4, rfl, ho4, hb4, hk4⟩
        have HS4 := Lib.hid (HS.out.step hk4 hb4)
        have hcell4 := HM.out w4 HS4.out
        have hs4 := HS4.out.g.size
        have O4 := Lib.hid ho4
        clear hb4 hk4 ho4 hcell
        go_wp2_with (at_builtin; refine Lib.wpList_append_own_string _ rfl _ _ 48 9 rfl w.heap.size 5 i0 Tryz.underlying48 Tryz.underlying9 hi hz0 hz1 hz2 _ _ _ rfl O4.out (Str s) rfl (by rw [size_Str]; simp only [List.length_append, bytesN_len]; unfold maxLen; omega) (by rw [size_Str]; simp only [List.length_append, bytesN_len]; omega) hs4 ?_; intro v5 w5 hown5 hgrow _)
        have HS5 := Lib.hid (HS4.out.step (KeepB.grown O4.out hgrow) (Below.grown (Below.refl _ _) hgrow hs4 (fun q hq => (O4.out.lt q hq).1)))
        have O5 : Hid (OwnB w5 w.heap.size v5 (pre ++ textB s)) := Lib.hid (by
          unfold OwnB textB
          rw [← List.append_assoc, List.length_append (bs := s), List.map_append (l₂ := s)]
          rw [strCells_Str, size_Str] at hown5
          exact hown5)
        clear hown5 hgrow
        go_wp2
        go_roundw
        case rel => exact ⟨k + 1, by omega, by go_num, by rw [Htk.out, ← List.append_assoc, ← Hpe.out]; exact O5.out, HS5.out⟩
        case measure => simp [intOf]; omega
      · obtain rfl : k = (tOff m.kind).length := by omega
        rw [List.take_of_length_le (by have := Hl1.out; omega)] at Hown
        have hfl : (bytesN 1 m.kind.toNat ++ (fieldsT m).flatMap textB).length ≤ 140000 := by
          rw [List.length_append, bytesN_len]
          have h1 := flat_len (fieldsT m) Hst.out
          omega
        clear hs
        obtain ⟨pre, hpe⟩ : ∃ p, p = bytesN 1 m.kind.toNat ++ (fieldsT m).flatMap textB := ⟨_, rfl⟩
        rw [← hpe] at hfl Hown H
        have Hpe := Lib.hid hpe
        clear hpe
        go_wp2
        go_loopw [3, 41] (fun x i wr => ∃ k : Nat, k ≤ (nOff m.kind).length ∧ i = .int .i64 k ∧ OwnB wr w.heap.size x (pre ++ ((fieldsN m).take k).flatMap (fun n => bytesN 4 n.toNat)) ∧ BySt w.heap.size w m (.slice a1 (tOff m.kind).length cap1) (.slice a2 (nOff m.kind).length cap2) wr) (fun _ i _ => (nOff m.kind).length - (intOf i).toNat)
        case atStart => exact ⟨0, Nat.zero_le _, rfl, by simpa using Hown.out, HS.out⟩
        case round =>
          clear HS Hown
          obtain ⟨k, hk, rfl, hown, hs⟩ := hrel
          have HS := Lib.hid hs
          have Hown := Lib.hid hown
          have hsz := hs.g.size
          clear hown
          by_cases hlt : k < (nOff m.kind).length
          · obtain ⟨p, cap, g, hv, -, -, hcc⟩ := hs.p2.form
            obtain ⟨rfl, hne, hgl, p0⟩ := hcc k hlt
            injection hv with hv1 hv2 hv3
            subst hv1
            clear hv2 hv3 hcc
            have hltz : (k : Int) < ((nOff m.kind).length : Int) := by omega
            have hlf : k < (fieldsN m).length := by have := Hl2.out; omega
            have hcell := hs.mb.c0 _ _ (numbers_at m k hlt hlf)
            have Htk := Lib.hid (flat_takeN (fun n => bytesN 4 n.toNat) (fieldsN m) k hlf)
            obtain ⟨hn0, hn1⟩ := Hsn.out _ (List.getElem_mem hlf)
            have hpre : (pre ++ ((fieldsN m).take k).flatMap (fun n => bytesN 4 n.toNat)).length ≤ 140010 := by
              rw [List.length_append, flat_lenN]
              have h2 : ((fieldsN m).take k).length ≤ 1 := by rw [List.length_take]; omega
              omega
            clear hs
            generalize (nOff m.kind)[k] = o at *
            generalize (fieldsN m)[k] = n at *
            obtain ⟨pre2, hpe2⟩ : ∃ p, p = pre ++ ((fieldsN m).take k).flatMap (fun n => bytesN 4 n.toNat) := ⟨_, rfl⟩
            rw [← hpe2] at hpre Hown
            have Hpe2 := Lib.hid hpe2
            clear hpe2
            go_wp2_with fail
            refine (appendNumber_w w.heap.size _ pre2 n 4 wr (by omega) (by omega) Hown.out hsz hn0 (by omega)).mono ?_
            rintro e w4 ⟨v4, rfl, ho4, hb4, hk4⟩
            have HS4 := Lib.hid (HS.out.step hk4 hb4)
            have O4 := Lib.hid ho4
            clear hb4 hk4 ho4 hcell
            go_wp2
            go_roundw
            case rel => exact ⟨k + 1, by omega, by go_num, by rw [Htk.out, ← List.append_assoc, ← Hpe2.out]; exact O4.out, HS4.out⟩
            case measure => simp [intOf]; omega
          · obtain rfl : k = (nOff m.kind).length := by omega
            rw [List.take_of_length_le (by have := Hl2.out; omega)] at Hown
            clear hs
            go_wp2
            go_ret
            rw [H.out]
            exact ⟨_, rfl, Hown.out, HS.out.g⟩

end Go.Proofs.YtdckiaokldkfmaaGreat
