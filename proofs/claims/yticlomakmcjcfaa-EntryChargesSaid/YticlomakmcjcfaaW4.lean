/-
  Walks: the parser of keys.
-/
import Derived.Test.YticlomakmcjcfaaW3
import Derived.BigRegion
import Derived.Deep.RegionWith
namespace Go.Proofs.Yticlomakmcjcfaa
open Go.RowKit
set_option linter.unusedVariables false

theorem ownP_of {l : Bs} (h : 10 ≤ l.length) (hB : bodyB (l.take 10) = true) : ownP l = (l.take 10, l.drop 10) := by unfold ownP; rw [if_pos ⟨h, hB⟩]
theorem ownP_no {l : Bs} (h : ¬ (10 ≤ l.length ∧ bodyB (l.take 10) = true)) : ownP l = (pathP l, restP l) := by unfold ownP; rw [if_neg h]

set_option maxHeartbeats 400000 in
theorem owner_w (b : Nat) (T : TypeId) (cs : Array Value) (s : ByteArray) (w : World) (hs : s.size ≤ maxLen) (hb : Blk w b T cs) (h0 : cs[0]? = some (.string s)) :
    Calls Try.prog 132 #[.pointer (some ⟨b, 0, none⟩)] w fun e w' => e = .returned (.string (Str (ownP s.toList).1)) ∧ Took b T cs (ownP s.toList).2 w w' := by
  have hc : w.cell? ⟨b, 0, none⟩ = some (.string s) := by rw [hb.cell, h0]
  have Hs := Lib.hid hs
  have H0 := Lib.hid h0
  clear h0
  unfold maxLen at hs
  by_cases hz : s.size < 10
  · have HO := Lib.hid (ownP_no (l := s.toList) (by rw [← size_len]; omega))
    go_enter Try.func132, Try.ntmps132
    go_wp2_with (go_at_call 99; refine (path_w b T cs s _ Hs.out hb H0.out).mono ?_; rintro e w' ⟨rfl, ht⟩)
    go_ret
    rw [HO.out]
    exact ⟨rfl, ht⟩
  · have hz' : 10 ≤ s.size := by omega
    have Hx : Hid ((s.extract 0 10).toList = s.toList.take 10) := Lib.hid (by rw [extract_to, toList_Str])
    by_cases hB : bodyB (s.toList.take 10) = true
    · have HO := Lib.hid (ownP_of (l := s.toList) (by rw [← size_len]; omega) hB)
      have HB := Lib.hid hB
      clear hB hz
      go_enter Try.func132, Try.ntmps132
      go_wp2_with (first
        | (go_at_call 138; refine (isBody_w _ _ (by simp; unfold maxLen; omega)).mono ?_; rw [Hx.out, HB.out]; rintro e w' ⟨rfl, rfl⟩)
        | (go_at_call 160; refine (take_yes b T cs s 10 _ Hs.out hb H0.out (by omega) (by omega)).mono ?_; rintro e w' ⟨rfl, ht⟩))
      go_ret
      rw [HO.out]
      exact ⟨rfl, ht⟩
    · have HO := Lib.hid (ownP_no (l := s.toList) (fun h => hB h.2))
      have HB : Hid (bodyB (s.toList.take 10) = false) := Lib.hid (by simpa using hB)
      clear hB hz
      go_enter Try.func132, Try.ntmps132
      go_wp2_with (first
        | (go_at_call 138; refine (isBody_w _ _ (by simp; unfold maxLen; omega)).mono ?_; rw [Hx.out, HB.out]; rintro e w' ⟨rfl, rfl⟩)
        | (go_at_call 99; refine (path_w b T cs s _ Hs.out hb H0.out).mono ?_; rintro e w' ⟨rfl, ht⟩))
      go_ret
      rw [HO.out]
      exact ⟨rfl, ht⟩

/-- The cells of the parser of keys. -/
def PSt.cells (s : PSt) : Array Value := #[.string (Str s.rest), .string (Str s.path), .int .i64 s.tag, .int .i64 s.n, .string (Str s.name)]
def PAt (b : Nat) (s : PSt) (w : World) : Prop := Blk w b 118 s.cells
/-- What a call leaves. -/
def PDone (b : Nat) (f : Bool × PSt) (w : World) (e : Ending) (w' : World) : Prop := e = .returned (.bool f.1) ∧ PAt b f.2 w' ∧ Only b w w'

set_option maxHeartbeats 1000000 in
theorem block_w (b : Nat) (s : PSt) (w : World) (hs : s.rest.length ≤ maxLen) (hb : PAt b s w) :
    Calls Try.prog 161 #[.pointer (some ⟨b, 0, none⟩)] w (PDone b (blockS s) w) := by
  unfold PAt at hb
  obtain ⟨r, p, t, n, m⟩ := s
  simp only at hs
  unfold PSt.cells at hb
  simp only at hb
  cases r with
  | nil =>
    have Hb := Lib.hid hb
    go_enter Try.func161, Try.ntmps161
    go_wp2_with (go_at_call 160; refine (take_no b _ _ (Str []) 2 _ (by rw [size_Str]; exact hs) hb rfl (by rw [size_Str]; simp)).mono ?_; rintro e w' ⟨rfl, rfl⟩)
    go_ret
    exact ⟨rfl, Hb.out, Only.refl _ _⟩
  | cons x r =>
    cases r with
    | nil =>
      have Hb := Lib.hid hb
      go_enter Try.func161, Try.ntmps161
      go_wp2_with (go_at_call 160; refine (take_no b _ _ (Str [x]) 2 _ (by rw [size_Str]; exact hs) hb rfl (by rw [size_Str]; simp)).mono ?_; rintro e w' ⟨rfl, rfl⟩)
      go_ret
      exact ⟨rfl, Hb.out, Only.refl _ _⟩
    | cons y r =>
      have hx : x.toNat < 256 := x.toNat_lt
      have hy : y.toNat < 256 := y.toNat_lt
      go_enter Try.func161, Try.ntmps161
      go_wp2_with (go_at_call 160; refine (take_yes b _ _ (Str (x :: y :: r)) 2 _ (by rw [size_Str]; exact hs) hb rfl (by omega) (by rw [size_Str]; simp; omega)).mono ?_; rintro e w1 ⟨rfl, ht⟩)
      have ht' : Blk w1 b 118 #[.string (Str r), .string (Str p), .int .i64 t, .int .i64 n, .string (Str m)] ∧ Only b w w1 := by
        have := ht; unfold Took at this; rw [toList_Str] at this; exact this
      clear ht
      have c3 := ht'.1.cell 3
      have f3 := ht'.1.free 3
      simp at c3
      have q0 : (Str (List.take (Int.toNat 2) (Str (x :: y :: r)).toList)) = Str [x, y] := by rw [toList_Str]; rfl
      have Hb := Lib.hid hb
      have Ht := Lib.hid ht'
      clear hb ht' q0
      go_region
      go_wp2
      go_ret
      have e : bits .or .i64 ((x.toNat : Int) * 256) y.toNat = (x.toNat : Int) * 256 + y.toNat :=
        bits_join .i64 31 (by decide) (fun n h1 h2 => by rw [IntKind.wrap_i64]; omega) 8 _ _ (by omega) (by omega) (by omega) (by omega) (by omega) (by omega)
      rw [e]
      exact ⟨rfl, Ht.out.1.setCell 3 _, (Ht.out.2.trans (Only.setCell _ _ _ _)).drew⟩

set_option maxHeartbeats 1000000 in
theorem attr_w (b : Nat) (s : PSt) (w : World) (hs : s.rest.length ≤ maxLen) (hb : PAt b s w) :
    Calls Try.prog 162 #[.pointer (some ⟨b, 0, none⟩)] w (PDone b (attrS s) w) := by
  unfold PAt at hb
  obtain ⟨r, p, t, n, m⟩ := s
  simp only at hs
  unfold PSt.cells at hb
  simp only at hb
  have c0 : w.cell? ⟨b, 0, none⟩ = some (.string (Str r)) := hb.cell 0
  have f0 := hb.free 0
  have Hb := Lib.hid hb
  have Hs : Hid ((Str r).size ≤ maxLen) := Lib.hid (by rw [size_Str]; exact hs)
  clear hb
  have Htk : ∀ wx, Blk wx b 118 #[.string (Str r), .string (Str p), .int .i64 t, .int .i64 n, .string (Str m)] → Calls Try.prog 160 #[.pointer (some ⟨b, 0, none⟩), .int .i64 r.length] wx fun e w' => e = .returned (.tuple #[.string (Str r), .bool true]) ∧ Blk w' b 118 #[.string (Str []), .string (Str p), .int .i64 t, .int .i64 n, .string (Str m)] ∧ Only b wx w' := fun wx hbx =>
    (take_yes b _ _ (Str r) r.length wx Hs.out hbx rfl (by omega) (by rw [size_Str]; omega)).mono (fun e w1 ⟨he, ht⟩ => by
      rw [toList_Str, Int.toNat_natCast, List.take_length] at he
      refine ⟨he, ?_⟩
      unfold Took at ht; rw [toList_Str, Int.toNat_natCast, List.drop_length] at ht; exact ht)
  have Htk' := Lib.hid Htk
  clear Htk
  go_enter Try.func162, Try.ntmps162
  go_wp2
  go_region_with (go_at_call 160; refine (Htk'.out _ (by exact Hb.out)).mono ?_; rintro e w1 ⟨rfl, ht⟩; have c4 := ht.1.cell 4; have f4 := ht.1.free 4; simp at c4; have Ht := Lib.hid ht; clear ht)
  go_wp2_with (go_at_call 95; refine (isName_w (Str r) _ Hs.out).mono ?_; rintro e w' ⟨rfl, rfl⟩)
  go_ret
  exact ⟨rfl, Ht.out.1.setCell 4 _, ((Only.refl b w).drew.trans Ht.out.2).trans (Only.setCell _ _ _ _)⟩

set_option maxHeartbeats 1000000 in
theorem tagged_w (b : Nat) (s : PSt) (w : World) (hs : s.rest.length ≤ maxLen) (hb : PAt b s w) :
    Calls Try.prog 133 #[.pointer (some ⟨b, 0, none⟩)] w (PDone b (taggedS s) w) := by
  have HB := Lib.hid hb
  unfold PAt at hb
  obtain ⟨r, p, t, n, m⟩ := s
  simp only at hs
  unfold PSt.cells at hb
  simp only at hb
  cases r with
  | nil =>
    have Hb := Lib.hid hb
    go_enter Try.func133, Try.ntmps133
    go_wp2_with (go_at_call 160; refine (take_no b _ _ (Str []) 1 _ (by rw [size_Str]; exact hs) hb rfl (by rw [size_Str]; simp)).mono ?_; rintro e w' ⟨rfl, rfl⟩)
    go_ret
    exact ⟨rfl, Hb.out, Only.refl _ _⟩
  | cons x r =>
    have hx : x.toNat < 256 := x.toNat_lt
    have hx0 : (x.toNat : Int) ≤ 255 := by omega
    have hs' : r.length ≤ maxLen := by simp only [List.length_cons] at hs; omega
    have Htk : ∀ wx, Blk wx b 118 #[.string (Str (x :: r)), .string (Str p), .int .i64 t, .int .i64 n, .string (Str m)] → Calls Try.prog 160 #[.pointer (some ⟨b, 0, none⟩), .int .i64 1] wx fun e w' => e = .returned (.tuple #[.string (Str [x]), .bool true]) ∧ Blk w' b 118 #[.string (Str r), .string (Str p), .int .i64 t, .int .i64 n, .string (Str m)] ∧ Only b wx w' := fun wx hbx =>
      (take_yes b _ _ (Str (x :: r)) 1 wx (by rw [size_Str]; exact hs) hbx rfl (by omega) (by rw [size_Str]; simp; omega)).mono (fun e w1 ⟨he, ht⟩ => by
        rw [toList_Str] at he
        refine ⟨he, ?_⟩
        unfold Took at ht; rw [toList_Str] at ht; exact ht)
    have Htk' := Lib.hid Htk
    have Hb := Lib.hid hb
    clear Htk hb
    by_cases e1 : (x.toNat : Int) = 1
    · have H1 : Hid (taggedS ⟨x :: r, p, t, n, m⟩ = (true, ⟨r, p, x.toNat, n, m⟩)) := Lib.hid (by simp only [taggedS]; rw [if_pos e1])
      have d1 : ((x.toNat : Int) == 1) = true := by rw [e1]; rfl
      clear e1
      go_enter Try.func133, Try.ntmps133
      go_wp2_with (go_at_call 160; refine (Htk'.out _ (by exact Hb.out)).mono ?_; rintro e w1 ⟨rfl, ht⟩; have c2 := ht.1.cell 2; have f2 := ht.1.free 2; simp at c2; have Ht := Lib.hid ht; clear ht)
      go_ret
      rw [H1.out]
      exact ⟨rfl, Ht.out.1.setCell 2 _, Ht.out.2.trans (Only.setCell _ _ _ _)⟩
    · have d1 : ((x.toNat : Int) == 1) = false := by simpa using e1
      by_cases e2 : (x.toNat : Int) = 2
      · have H1 : Hid (taggedS ⟨x :: r, p, t, n, m⟩ = blockS ⟨r, p, x.toNat, n, m⟩) := Lib.hid (by simp only [taggedS]; rw [if_neg e1, if_pos e2])
        have d2 : ((x.toNat : Int) == 2) = true := by rw [e2]; rfl
        clear e1 e2
        go_enter Try.func133, Try.ntmps133
        go_wp2_with (first
          | (go_at_call 160; refine (Htk'.out _ (by exact Hb.out)).mono ?_; rintro e w1 ⟨rfl, ht⟩; have c2 := ht.1.cell 2; have f2 := ht.1.free 2; simp at c2; have Ht := Lib.hid ht; clear ht)
          | (go_at_call 161; refine (block_w b ⟨r, p, x.toNat, n, m⟩ _ (by exact hs') (by exact Blk.setCell (Hid.out ‹Hid (Blk _ _ _ _ ∧ Only _ _ _)›).1 2 _)).mono ?_; rintro e w2 ⟨rfl, ht2, ho2⟩; have Ht2 := Lib.hid ht2; have Ho2 := Lib.hid ho2; clear ht2 ho2))
        go_ret
        rw [H1.out]
        exact ⟨rfl, Ht2.out, (Ht.out.2.trans (Only.setCell _ _ _ _)).trans Ho2.out⟩
      · have d2 : ((x.toNat : Int) == 2) = false := by simpa using e2
        by_cases e3 : (x.toNat : Int) = 3
        · have H1 : Hid (taggedS ⟨x :: r, p, t, n, m⟩ = attrS ⟨r, p, x.toNat, n, m⟩) := Lib.hid (by simp only [taggedS]; rw [if_neg e1, if_neg e2, if_pos e3])
          have d3 : ((x.toNat : Int) == 3) = true := by rw [e3]; rfl
          clear e1 e2 e3
          go_enter Try.func133, Try.ntmps133
          go_wp2_with (first
            | (go_at_call 160; refine (Htk'.out _ (by exact Hb.out)).mono ?_; rintro e w1 ⟨rfl, ht⟩; have c2 := ht.1.cell 2; have f2 := ht.1.free 2; simp at c2; have Ht := Lib.hid ht; clear ht)
            | (go_at_call 162; refine (attr_w b ⟨r, p, x.toNat, n, m⟩ _ (by exact hs') (by exact Blk.setCell (Hid.out ‹Hid (Blk _ _ _ _ ∧ Only _ _ _)›).1 2 _)).mono ?_; rintro e w2 ⟨rfl, ht2, ho2⟩; have Ht2 := Lib.hid ht2; have Ho2 := Lib.hid ho2; clear ht2 ho2))
          go_ret
          rw [H1.out]
          exact ⟨rfl, Ht2.out, (Ht.out.2.trans (Only.setCell _ _ _ _)).trans Ho2.out⟩
        · have d3 : ((x.toNat : Int) == 3) = false := by simpa using e3
          have H1 : Hid (taggedS ⟨x :: r, p, t, n, m⟩ = (false, ⟨r, p, x.toNat, n, m⟩)) := Lib.hid (by simp only [taggedS]; rw [if_neg e1, if_neg e2, if_neg e3])
          clear e1 e2 e3
          go_enter Try.func133, Try.ntmps133
          go_wp2_with (go_at_call 160; refine (Htk'.out _ (by exact Hb.out)).mono ?_; rintro e w1 ⟨rfl, ht⟩; have c2 := ht.1.cell 2; have f2 := ht.1.free 2; simp at c2; have Ht := Lib.hid ht; clear ht)
          go_ret
          rw [H1.out]
          exact ⟨rfl, Ht.out.1.setCell 2 _, Ht.out.2.trans (Only.setCell _ _ _ _)⟩

end Go.Proofs.Yticlomakmcjcfaa
