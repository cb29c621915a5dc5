/-
  Walks: Key of package path.
-/
import Derived.Test.YticlomakmcjcfaaW7
namespace Go.Proofs.Yticlomakmcjcfaa
open Go.RowKit
set_option linter.unusedVariables false

theorem eqf {a b : Int} (h : ¬ a = b) : (a == b) = false := by simpa using h
theorem eqt {a b : Int} (h : a = b) : (a == b) = true := by simpa using h

set_option maxHeartbeats 1000000 in
theorem owns_w (t : Int) (p : ByteArray) (w : World) (hp : p.size ≤ maxLen) :
    Calls Try.prog 104 #[.int .i64 t, .string p] w fun e w' => e = .returned (.bool (ownsS t p.toList)) ∧ Below w.heap.size w w' := by
  obtain ⟨p, rfl⟩ := Str_ex p
  have Hp := Lib.hid hp
  clear hp
  rw [toList_Str]
  have hv := valid_w (Str p)
  have hb := isBody_w (Str p)
  rw [toList_Str] at hv hb
  by_cases h : t = 1 ∨ t = 2 ∨ t = 3
  · have H : Hid (ownsS t p = (validB p || bodyB p)) := Lib.hid (by unfold ownsS; rw [if_pos h])
    cases hV : validB p with
    | true =>
      rw [hV] at hv H
      have Hv := Lib.hid hv
      clear hv hb hV
      rcases h with h | h | h <;> subst h
      all_goals
        go_enter Try.func104, Try.ntmps104
        go_wp2_with (go_at_call 22; refine (Hv.out _ Hp.out).mono ?_; rintro e w1 ⟨rfl, hb⟩)
        go_ret
        exact ⟨ret_bool (by rw [H.out]; rfl), hb⟩
    | false =>
      rw [hV] at hv H
      have Hv := Lib.hid hv
      have Hb := Lib.hid hb
      clear hv hb hV
      rcases h with h | h | h <;> subst h
      all_goals
        go_enter Try.func104, Try.ntmps104
        go_wp2_with (first
          | (go_at_call 22; refine (Hv.out _ Hp.out).mono ?_; rintro e w1 ⟨rfl, hb⟩)
          | (go_at_call 138; refine (Hb.out _ Hp.out).mono ?_; rintro e w1 ⟨rfl, rfl⟩))
        go_ret
        exact ⟨ret_bool (by rw [H.out]; rfl), hb⟩
  · have h1 := eqf (fun e => h (.inl e))
    have h2 := eqf (fun e => h (.inr (.inl e)))
    have h3 := eqf (fun e => h (.inr (.inr e)))
    by_cases h4 : t = 4
    · have H : Hid (ownsS t p = validB p) := Lib.hid (by unfold ownsS; rw [if_neg h, if_pos h4])
      have Hv := Lib.hid hv
      clear hv hb h
      have h5 := eqt h4
      clear h4
      go_enter Try.func104, Try.ntmps104
      go_wp2_with (go_at_call 22; refine (Hv.out _ Hp.out).mono ?_; rintro e w1 ⟨rfl, hb⟩)
      go_ret
      exact ⟨ret_bool (by rw [H.out]), hb⟩
    · have H : Hid (ownsS t p = false) := Lib.hid (by unfold ownsS; rw [if_neg h, if_neg h4])
      have h5 := eqf h4
      clear hv hb h h4
      go_enter Try.func104, Try.ntmps104
      go_wp2
      go_ret
      exact ⟨ret_bool (by rw [H.out]), Below.refl _ _⟩

set_option maxHeartbeats 1000000 in
theorem fits_w (t n : Int) (m : ByteArray) (w : World) (hm : m.size ≤ maxLen) :
    Calls Try.prog 105 #[.int .i64 t, .int .i64 n, .string m] w fun e w' => e = .returned (.bool (fitsS t n m.toList)) ∧ w = w' := by
  obtain ⟨m, rfl⟩ := Str_ex m
  have Hm := Lib.hid hm
  clear hm
  rw [toList_Str]
  have hn := isName_w (Str m)
  rw [toList_Str] at hn
  have Hn := Lib.hid hn
  clear hn
  by_cases h2 : t = 2
  · subst h2
    by_cases a : 0 ≤ n
    · by_cases b : n ≤ 60000
      · have H : Hid (fitsS 2 n m = m.isEmpty) := Lib.hid (by unfold fitsS; simp [a, b])
        go_enter Try.func105, Try.ntmps105
        go_wp2
        go_ret
        exact ⟨ret_bool (by rw [H.out]), rfl⟩
      · have H : Hid (fitsS 2 n m = false) := Lib.hid (by unfold fitsS; simp [b])
        go_enter Try.func105, Try.ntmps105
        go_wp2
        go_ret
        exact ⟨ret_bool (by rw [H.out]), rfl⟩
    · have H : Hid (fitsS 2 n m = false) := Lib.hid (by unfold fitsS; simp [a])
      go_enter Try.func105, Try.ntmps105
      go_wp2
      go_ret
      exact ⟨ret_bool (by rw [H.out]), rfl⟩
  · have d2 := eqf h2
    by_cases h3 : t = 3
    · subst h3
      by_cases a : n = 0
      · subst a
        have H : Hid (fitsS 3 0 m = nameB m) := Lib.hid (by unfold fitsS; simp)
        go_enter Try.func105, Try.ntmps105
        go_wp2_with (go_at_call 95; refine (Hn.out _ Hm.out).mono ?_; rintro e w1 ⟨rfl, rfl⟩)
        go_ret
        exact ⟨ret_bool (by rw [H.out]), rfl⟩
      · have H : Hid (fitsS 3 n m = false) := Lib.hid (by unfold fitsS; simp [a])
        have d := eqf a
        go_enter Try.func105, Try.ntmps105
        go_wp2
        go_ret
        exact ⟨ret_bool (by rw [H.out]), rfl⟩
    · have d3 := eqf h3
      by_cases a : n = 0
      · subst a
        have H : Hid (fitsS t 0 m = m.isEmpty) := Lib.hid (by unfold fitsS; simp [h2, h3])
        clear h2 h3
        go_enter Try.func105, Try.ntmps105
        go_wp2
        go_ret
        exact ⟨ret_bool (by rw [H.out]), rfl⟩
      · have H : Hid (fitsS t n m = false) := Lib.hid (by unfold fitsS; simp [a, h2, h3])
        have d := eqf a
        clear h2 h3 a
        go_enter Try.func105, Try.ntmps105
        go_wp2
        go_ret
        exact ⟨ret_bool (by rw [H.out]), rfl⟩

theorem conv_u8s {n c : Nat} (W : World) (T : TypeId) (xs : List Int) (h : n = W.heap.size) :
    (convert 22 9 (.slice (some ⟨n, 0, none⟩) xs.length c)).run Try.prog (W.alloc (.cells (xs.map (Value.int .u8)).toArray T)) =
      .ok (.string (Str (xs.map fun x => UInt8.ofNat x.toNat))) (W.alloc (.cells (xs.map (Value.int .u8)).toArray T)) := by
  subst h
  rw [run_convert_bytes_arg (P := Try.prog) _ 22 5 Try.underlying22 Try.underlying5 W.heap.size 0 xs.length c xs rfl (fun i hi => by
    rw [Nat.zero_add, World.cell?_alloc_new]; simp [hi]) 9 Try.underlying9]
  rfl
theorem conv1 {n c : Nat} (W : World) (T : TypeId) (a : Int) (h : n = W.heap.size) :
    (convert 22 9 (.slice (some ⟨n, 0, none⟩) 1 c)).run Try.prog (W.alloc (.cells #[.int .u8 a] T)) =
      .ok (.string (Str [UInt8.ofNat a.toNat])) (W.alloc (.cells #[.int .u8 a] T)) := conv_u8s W T [a] h
theorem conv3 {n k : Nat} (W : World) (T : TypeId) (a b c : Int) (h : n = W.heap.size) :
    (convert 22 9 (.slice (some ⟨n, 0, none⟩) 3 k)).run Try.prog (W.alloc (.cells #[.int .u8 a, .int .u8 b, .int .u8 c] T)) =
      .ok (.string (Str [UInt8.ofNat a.toNat, UInt8.ofNat b.toNat, UInt8.ofNat c.toNat])) (W.alloc (.cells #[.int .u8 a, .int .u8 b, .int .u8 c] T)) := conv_u8s W T [a, b, c] h
attribute [go_sem] conv1 conv3

set_option maxRecDepth 100000 in
set_option maxHeartbeats 1000000 in
theorem keyK_w (t n : Int) (p m : ByteArray) (w : World) (hp : p.size ≤ 140737488355328) (hm : m.size ≤ 140737488355328) (ht : 1 ≤ t ∧ t ≤ 4) (hn : 0 ≤ n ∧ n ≤ 60000) :
    Calls Try.prog 106 #[.int .i64 t, .agg #[.string p, .int .i64 t, .int .i64 n, .string m]] w fun e w' => e = .returned (.string (Str (keyK t p.toList n m.toList))) ∧ Below w.heap.size w w' := by
  obtain ⟨p, rfl⟩ := Str_ex p
  obtain ⟨m, rfl⟩ := Str_ex m
  rw [size_Str] at hp hm
  rw [toList_Str, toList_Str]
  obtain ⟨hn1, hn2⟩ := hn
  by_cases h2 : t = 2
  · subst h2
    have H : Hid (keyK 2 p n m = p ++ [2, (n / 256).toNat.toUInt8, (n % 256).toNat.toUInt8]) := Lib.hid rfl
    go_enter Try.func106, Try.ntmps106
    go_wp2
    go_ret
    refine ⟨ret_str ?_, ((Below.refl _ w).alloc (Nat.le_refl _) _).alloc (by simp) _⟩
    rw [H.out]
  · have d2 := eqf h2
    by_cases h3 : t = 3
    · subst h3
      have H : Hid (keyK 3 p n m = p ++ [3] ++ m) := Lib.hid rfl
      go_enter Try.func106, Try.ntmps106
      go_wp2
      go_ret
      refine ⟨ret_str ?_, ((Below.refl _ w).alloc (Nat.le_refl _) _).alloc (by simp) _⟩
      rw [H.out]; simp
    · have d3 := eqf h3
      by_cases h4 : t = 4
      · subst h4
        have H : Hid (keyK 4 p n m = [6] ++ p ++ [1]) := Lib.hid rfl
        go_enter Try.func106, Try.ntmps106
        go_wp2
        go_ret
        refine ⟨ret_str ?_, (((Below.refl _ w).alloc (Nat.le_refl _) _).alloc (by simp) _).alloc (by simp; omega) _⟩
        rw [H.out]; simp
      · have h1 : t = 1 := by omega
        subst h1
        have H : Hid (keyK 1 p n m = p ++ [1]) := Lib.hid rfl
        go_enter Try.func106, Try.ntmps106
        go_wp2
        go_ret
        refine ⟨ret_str ?_, ((Below.refl _ w).alloc (Nat.le_refl _) _).alloc (by simp) _⟩
        rw [H.out]

theorem fitsS_range {t n : Int} {m : Bs} (h : fitsS t n m = true) : 0 ≤ n ∧ n ≤ 60000 := by
  unfold fitsS at h
  split at h
  · simp at h; omega
  · split at h <;> simp at h <;> omega
theorem ownsS_range {t : Int} {p : Bs} (h : ownsS t p = true) : 1 ≤ t ∧ t ≤ 4 := by
  unfold ownsS at h
  split at h
  · omega
  · split at h
    · omega
    · cases h

set_option maxRecDepth 100000 in
set_option maxHeartbeats 1000000 in
theorem keyF_w (t n : Int) (p m : ByteArray) (w : World) (hp : p.size ≤ 140737488355328) (hm : m.size ≤ 140737488355328) :
    Calls Try.prog 31 #[.agg #[.string p, .int .i64 t, .int .i64 n, .string m]] w fun e w' => e = .returned (.tuple #[.string (Str (keyF p.toList t n m.toList).1), .int .i64 (keyF p.toList t n m.toList).2]) ∧ Below w.heap.size w w' := by
  have Ho := Lib.hid (fun w => owns_w t p w (by unfold maxLen; omega))
  have Hf := Lib.hid (fun w => fits_w t n m w (by unfold maxLen; omega))
  have hk := fun ht hn w => keyK_w t n p m w hp hm ht hn
  have hB1 : Below w.heap.size w (w.alloc (.cells #[.string p, .int .i64 t, .int .i64 n, .string m] 32)) := (Below.refl _ w).alloc (Nat.le_refl _) _
  have hblk := Blk.new w 32 #[.string p, .int .i64 t, .int .i64 n, .string m]
  have HB1 := Lib.hid hB1
  have Hblk := Lib.hid hblk
  clear hp hm hB1 hblk
  cases hO : ownsS t p.toList with
  | false =>
    have H : Hid (keyF p.toList t n m.toList = ([], 12)) := Lib.hid (by unfold keyF; rw [if_neg (by rw [hO]; simp)])
    have HO := Lib.hid hO
    clear hO hk
    go_enter Try.func31, Try.ntmps31
    go_wp2_with (go_at_call 104; refine (Ho.out _).mono ?_; rw [HO.out]; rintro e w1 ⟨rfl, hb⟩)
    go_ret2
    rw [H.out]
    exact ⟨rfl, HB1.out.trans (hb.mono (by simp))⟩
  | true =>
    cases hF : fitsS t n m.toList with
    | false =>
      have H : Hid (keyF p.toList t n m.toList = ([], 12)) := Lib.hid (by unfold keyF; rw [if_neg (by rw [hF]; simp)])
      have HO := Lib.hid hO
      have HF := Lib.hid hF
      clear hO hF hk
      go_enter Try.func31, Try.ntmps31
      go_wp2_with (first
        | (go_at_call 104; refine (Ho.out _).mono ?_; rw [HO.out]; rintro e w1 ⟨rfl, hb⟩; have b1 := Blk.below Hblk.out hb (by simp); have c2 := b1.cell 2; have c3 := b1.cell 3; simp at c2 c3; have Hb := Lib.hid hb; clear hb b1)
        | (go_at_call 105; refine (Hf.out _).mono ?_; rw [HF.out]; rintro e w2 ⟨rfl, rfl⟩))
      go_ret2
      rw [H.out]
      exact ⟨rfl, HB1.out.trans (Hb.out.mono (by simp))⟩
    | true =>
      have H : Hid (keyF p.toList t n m.toList = (keyK t p.toList n m.toList, 0)) := Lib.hid (by unfold keyF; rw [if_pos ⟨hO, hF⟩])
      have Hk := Lib.hid (hk (ownsS_range hO) (fitsS_range hF))
      have HO := Lib.hid hO
      have HF := Lib.hid hF
      clear hO hF hk
      go_enter Try.func31, Try.ntmps31
      go_wp2_with (first
        | (go_at_call 104; refine (Ho.out _).mono ?_; rw [HO.out]; rintro e w1 ⟨rfl, hb⟩; have b1 := Blk.below Hblk.out hb (by simp); have c0 := b1.cell 0; have c1 := b1.cell 1; have c2 := b1.cell 2; have c3 := b1.cell 3; simp at c0 c1 c2 c3; have Hb := Lib.hid hb; clear hb b1)
        | (go_at_call 105; refine (Hf.out _).mono ?_; rw [HF.out]; rintro e w2 ⟨rfl, rfl⟩)
        | (go_at_call 106; refine (Hk.out _).mono ?_; rintro e w2 ⟨rfl, hb2⟩; have Hb2 := Lib.hid hb2; clear hb2))
      go_ret2
      rw [H.out]
      exact ⟨rfl, (HB1.out.trans (Hb.out.mono (by simp))).trans (Hb2.out.mono (by have := Hb.out.size; simp at this; omega))⟩

/-- The result of split, as a value. -/
def splitV (a b : Bs) (n : Int) : Value := .agg #[.string (Str a), .string (Str b), .int .i64 n]

set_option maxHeartbeats 1000000 in
theorem lsplit_w (p : ByteArray) (w : World) (hp : p.size ≤ 140737488355328) :
    Calls Try.prog 24 #[.string p] w fun e w' => e = .returned (splitV (splitS p.toList).1 (splitS p.toList).2.1 (splitS p.toList).2.2) ∧ Below w.heap.size w w' := by
  have Hs := Lib.hid (fun w => split_w p w hp)
  have hB1 : Below w.heap.size w (w.alloc (.cells #[.string (Str []), .string (Str []), .int .i64 0] 37)) := (Below.refl _ w).alloc (Nat.le_refl _) _
  have hblk := Blk.new w 37 #[.string (Str []), .string (Str []), .int .i64 0]
  have HB1 := Lib.hid hB1
  have Hblk := Lib.hid hblk
  clear hp hB1 hblk
  generalize splitS p.toList = q at *
  obtain ⟨a, b, n⟩ := q
  go_enter Try.func24, Try.ntmps24
  go_wp2_with (go_at_call 101; refine (Hs.out _).mono ?_; rintro e w1 ⟨rfl, hb⟩; have b1 := Blk.below Hblk.out hb (by simp); have c0 := b1.cell 0; have c1 := b1.cell 1; have c2 := b1.cell 2; have f0 := b1.free 0; have f1 := b1.free 1; have f2 := b1.free 2; simp at c0 c1 c2; have Hb := Lib.hid hb; clear hb b1)
  refine bodyPost_ret (v := splitV a b n) (by simp [results, Try.results24, go_sem, splitV, c0, c1, c2]) rfl ⟨rfl, ?_⟩
  exact (((HB1.out.trans (Hb.out.mono (by simp))).setCell (Nat.le_refl _) _).setCell (Nat.le_refl _) _).setCell (Nat.le_refl _) _

end Go.Proofs.Yticlomakmcjcfaa
