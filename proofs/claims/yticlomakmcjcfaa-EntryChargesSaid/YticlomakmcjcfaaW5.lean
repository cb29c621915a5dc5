/-
  Walks: Place and Valid of package path.
-/
import Derived.Test.YticlomakmcjcfaaW4
namespace Go.Proofs.Yticlomakmcjcfaa
open Go.RowKit
set_option linter.unusedVariables false

set_option maxHeartbeats 1000000 in
theorem key_w (b : Nat) (s : PSt) (w : World) (hs : s.rest.length ≤ maxLen) (hb : PAt b s w) :
    Calls Try.prog 97 #[.pointer (some ⟨b, 0, none⟩)] w (PDone b (keyS s) w) := by
  unfold PAt at hb
  obtain ⟨r, p, t, n, m⟩ := s
  simp only at hs
  unfold PSt.cells at hb
  simp only at hb
  have hm := mark_w b 118 _ (Str r) 6 w (by rw [size_Str]; exact hs) hb rfl
  rw [toList_Str] at hm
  cases hk : markS 6 r with
  | some r' =>
    rw [hk] at hm
    have hr' : r'.length ≤ maxLen := by
      cases r with
      | nil => simp [markS] at hk
      | cons x r => simp only [markS] at hk; split at hk <;> simp at hk; subst hk; simp only [List.length_cons] at hs; omega
    have hrp : (restP r').length ≤ maxLen := by have := restP_length r'; omega
    have H1 : Hid (keyS ⟨r, p, t, n, m⟩ = ((markS 1 (restP r')).isSome, ⟨(markS 1 (restP r')).getD (restP r'), pathP r', 4, 0, []⟩)) := Lib.hid (by unfold keyS; rw [hk])
    have Hm := Lib.hid hm
    have Hb := Lib.hid hb
    clear hm hb hk
    go_enter Try.func97, Try.ntmps97
    go_wp2_with (first
      | (go_at_call_of 131 (Value.int IntKind.u8 6); refine Hm.out.mono ?_; rintro e w1 ⟨rfl, ht⟩; have Ht : Hid (Blk w1 b 118 #[.string (Str r'), .string (Str p), .int .i64 t, .int .i64 n, .string (Str m)] ∧ Only b w w1) := Lib.hid ht; clear ht)
      | (go_at_call 99; refine (path_w b 118 _ (Str r') _ (by rw [size_Str]; exact hr') (by exact (Hid.out ‹Hid (Blk _ _ _ _ ∧ Only _ _ _)›).1) rfl).mono ?_; rintro e w2 ⟨rfl, ht2⟩; have Ht2 : Hid (Blk w2 b 118 #[.string (Str (restP r')), .string (Str p), .int .i64 t, .int .i64 n, .string (Str m)] ∧ Only b w1 w2) := Lib.hid (by unfold Took at ht2; rw [toList_Str] at ht2; exact ht2); clear ht2; have c1 := Ht2.out.1.cell 1; have c2 := Ht2.out.1.cell 2; have c3 := Ht2.out.1.cell 3; have c4 := Ht2.out.1.cell 4; have f1 := Ht2.out.1.free 1; have f2 := Ht2.out.1.free 2; have f3 := Ht2.out.1.free 3; have f4 := Ht2.out.1.free 4; simp at c1 c2 c3 c4))
    refine (mark_w b 118 #[.string (Str (restP r')), .string (Str (pathP r')), .int .i64 4, .int .i64 0, .string (Str [])] (Str (restP r')) 1 _ (by rw [size_Str]; exact hrp) (by exact (((Ht2.out.1.setCell 1 _).setCell 2 _).setCell 3 _).setCell 4 _) rfl).mono ?_
    rintro e w3 ⟨rfl, ht3⟩
    have Ht3 := Lib.hid ht3
    clear ht3
    go_wp2
    go_ret
    rw [H1.out]
    have h3 := Ht3.out
    rw [toList_Str] at h3
    refine ⟨rfl, h3.1, (Ht.out.2.trans Ht2.out.2).trans (Only.trans ?_ h3.2)⟩
    exact (((Only.setCell _ _ _ _).trans (Only.setCell _ _ _ _)).trans (Only.setCell _ _ _ _)).trans (Only.setCell _ _ _ _)
  | none =>
    rw [hk] at hm
    have hol : (ownP r).2.length ≤ maxLen := by
      unfold ownP; split
      · simp; omega
      · have := restP_length r; simp; omega
    have H1 : Hid (keyS ⟨r, p, t, n, m⟩ = taggedS ⟨(ownP r).2, (ownP r).1, t, n, m⟩) := Lib.hid (by unfold keyS; rw [hk])
    have Hm := Lib.hid hm
    have Hb := Lib.hid hb
    clear hm hb hk
    go_enter Try.func97, Try.ntmps97
    go_wp2_with (first
      | (go_at_call 131; refine Hm.out.mono ?_; rintro e w1 ⟨rfl, ht⟩; have Ht : Hid (Blk w1 b 118 #[.string (Str r), .string (Str p), .int .i64 t, .int .i64 n, .string (Str m)] ∧ Only b w w1) := Lib.hid ht; clear ht)
      | (go_at_call 132; refine (owner_w b 118 _ (Str r) _ (by rw [size_Str]; exact hs) (by exact (Hid.out ‹Hid (Blk _ _ _ _ ∧ Only _ _ _)›).1) rfl).mono ?_; rintro e w2 ⟨rfl, ht2⟩; have Ht2 : Hid (Blk w2 b 118 #[.string (Str (ownP r).2), .string (Str p), .int .i64 t, .int .i64 n, .string (Str m)] ∧ Only b w1 w2) := Lib.hid (by unfold Took at ht2; rw [toList_Str] at ht2; exact ht2); clear ht2; have c1 := Ht2.out.1.cell 1; have f1 := Ht2.out.1.free 1; simp at c1)
      | (go_at_call 133; refine (tagged_w b ⟨(ownP r).2, (ownP r).1, t, n, m⟩ _ (by exact hol) (by exact Ht2.out.1.setCell 1 _)).mono ?_; rintro e w3 ⟨rfl, ht3, ho3⟩; have Ht3 := Lib.hid ht3; have Ho3 := Lib.hid ho3; clear ht3 ho3))
    go_ret
    rw [H1.out]
    exact ⟨rfl, Ht3.out, ((Ht.out.2.trans Ht2.out.2).trans (Only.setCell _ _ _ _)).trans Ho3.out⟩

/-- The result of Place, as a value. -/
def placeV (p : Bs) (t n : Int) (m : Bs) : Value := .agg #[.string (Str p), .int .i64 t, .int .i64 n, .string (Str m)]
def placeR (k : Bs) : Value :=
  match placeS k with
  | some s => .tuple #[placeV s.path s.tag s.n s.name, .int .i64 0]
  | none => .tuple #[placeV [] 0 0 [], .int .i64 12]

theorem Str_ex (s : ByteArray) : ∃ l, s = Str l := ⟨s.toList, (Str_toList s).symm⟩

set_option maxHeartbeats 1000000 in
theorem place_w (s : ByteArray) (w : World) (hs : s.size ≤ maxLen) :
    Calls Try.prog 20 #[.string s] w fun e w' => e = .returned (placeR s.toList) ∧ Below w.heap.size w w' := by
  obtain ⟨l, rfl⟩ := Str_ex s
  rw [size_Str] at hs
  rw [toList_Str]
  have hk := key_w (w.heap.size + 1) ⟨l, [], 0, 0, []⟩
  generalize hg : keyS ⟨l, [], 0, 0, []⟩ = f at hk
  obtain ⟨g, r, p, t, n, m⟩ := f
  have H1 : Hid (placeS l = if g = true ∧ r = [] then some ⟨r, p, t, n, m⟩ else none) := Lib.hid (by unfold placeS; rw [hg])
  have Hk := Lib.hid hk
  clear hk hg
  go_enter Try.func20, Try.ntmps20
  go_wp2_with fail
  refine (Hk.out _ hs (by exact (Blk.new' (w.alloc (.cells #[.string (Str []), .int .i64 0, .int .i64 0, .string (Str [])] 32)) 118 (PSt.cells ⟨l, [], 0, 0, []⟩) (by simp)))).mono ?_
  rintro e w1 ⟨rfl, ht, ho⟩
  have hb := Blk.only (((Blk.new w 32 #[.string (Str []), .int .i64 0, .int .i64 0, .string (Str [])])).alloc (.cells (PSt.cells ⟨l, [], 0, 0, []⟩) 118)) (by exact ho) (by omega)
  have hB : Below w.heap.size w w1 := (((Below.refl _ w).alloc (Nat.le_refl _) _).alloc (by simp) _).trans (ho.below (by omega))
  unfold PAt PSt.cells at ht
  have c0 := ht.cell 0
  have c1 := ht.cell 1
  have c2 := ht.cell 2
  have c3 := ht.cell 3
  have c4 := ht.cell 4
  have d0 := hb.cell 0
  have d1 := hb.cell 1
  have d2 := hb.cell 2
  have d3 := hb.cell 3
  have f0 := hb.free 0
  have f1 := hb.free 1
  have f2 := hb.free 2
  have f3 := hb.free 3
  simp at c0 c1 c2 c3 c4 d0 d1 d2 d3
  have Ht := Lib.hid ht
  have Ho := Lib.hid ho
  have Hb := Lib.hid hb
  have HB := Lib.hid hB
  clear ht ho hb hB
  have hbelow : ∀ a0 a1 a2 a3 : Value, Below w.heap.size w ((((w1.setCell ⟨w.heap.size, 0, none⟩ a0).setCell ⟨w.heap.size, 1, none⟩ a1).setCell ⟨w.heap.size, 2, none⟩ a2).setCell ⟨w.heap.size, 3, none⟩ a3) := fun a0 a1 a2 a3 =>
    (((HB.out.setCell (Nat.le_refl _) a0).setCell (Nat.le_refl _) a1).setCell (Nat.le_refl _) a2).setCell (Nat.le_refl _) a3
  have Hbelow := Lib.hid hbelow
  clear hbelow
  by_cases hgr : g = true ∧ r = []
  · have H2 : Hid (placeR l = .tuple #[placeV p t n m, .int .i64 0]) := Lib.hid (by unfold placeR; rw [H1.out, if_pos hgr])
    obtain ⟨rfl, rfl⟩ := hgr
    go_wp2
    exact bodyPost_ret (v := .tuple #[placeV p t n m, .int .i64 0]) (by simp [results, Try.results20, go_sem, placeV, d0, d1, d2, d3]) rfl ⟨by rw [H2.out], Hbelow.out _ _ _ _⟩
  · have H2 : Hid (placeR l = .tuple #[placeV [] 0 0 [], .int .i64 12]) := Lib.hid (by unfold placeR; rw [H1.out, if_neg hgr])
    cases g with
    | false =>
      go_wp2
      exact bodyPost_ret (v := .tuple #[placeV [] 0 0 [], .int .i64 12]) (by simp [results, Try.results20, go_sem, placeV, d0, d1, d2, d3]; rfl) rfl ⟨by rw [H2.out], Hbelow.out _ _ _ _⟩
    | true =>
      have hr : r.isEmpty = false := by simp at hgr; simp [hgr]
      clear hgr
      go_wp2
      exact bodyPost_ret (v := .tuple #[placeV [] 0 0 [], .int .i64 12]) (by simp [results, Try.results20, go_sem, placeV, d0, d1, d2, d3]; rfl) rfl ⟨by rw [H2.out], Hbelow.out _ _ _ _⟩

theorem Took.below {b B : Nat} {T : TypeId} {cs : Array Value} {l : Bs} {w w' : World} (h : Took b T cs l w w') (hB : B ≤ b) : Below B w w' := h.2.below hB

end Go.Proofs.Yticlomakmcjcfaa
