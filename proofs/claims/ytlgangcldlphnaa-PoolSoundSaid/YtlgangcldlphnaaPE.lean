/-
  Walks: whether all ids are those of used slots; the least index that is free; slots that are spoiled.
-/
import Derived.Test.YtlgangcldlphnaaPD
namespace Go.Proofs.Ytlgangcldlphnaa
open Go.RowKit Go.Sort
set_option linter.unusedVariables false
set_option maxRecDepth 100000

/-- What calls a box with a pool. -/
def PoolBox (w : World) (b : Nat) (P : List Sl) : Prop := ∃ v, Blk w b 29 #[v] ∧ IsSlots w v P
theorem PoolBox.below {w w' : World} {b : Nat} {P : List Sl} (h : PoolBox w b P) (hb : Below w.heap.size w w') : PoolBox w' b P := by
  obtain ⟨v, h1, h2⟩ := h
  exact ⟨v, h1.below hb h1.lt, h2.below hb⟩
theorem poolBox_new {w : World} {v : Value} {P : List Sl} (h : IsSlots w v P) : PoolBox (w.alloc (.cells #[v] 29)) w.heap.size P := ⟨v, Blk.new _ _ _, h.below (below_box _)⟩

set_option maxHeartbeats 1000000 in
theorem allUsed1_w (b : Nat) (P : List Sl) (i : Int) (w : World) (h : PoolBox w b P) :
    Calls Try.prog 57 #[.int .i64 i, .pointer (some ⟨b, 0, none⟩)] w fun e w' => e = .returned (.bool (!usedB P i)) ∧ Below w.heap.size w w' := by
  obtain ⟨v, h1, h2⟩ := h
  have c0 := h1.c0 0 _ rfl
  have HU := Lib.hid (used_w v P i w h2)
  generalize usedB P i = r at *
  clear h1 h2
  go_enter Try.func57, Try.ntmps57
  go_wp2_with (go_at_call 39; refine HU.out.mono ?_; rintro e w1 ⟨rfl, hb⟩; have Hb := Lib.hid hb; clear hb)
  go_ret
  exact ⟨rfl, Hb.out⟩
set_option maxHeartbeats 2000000 in
theorem indexInt_w (v : Value) (l : List Int) (F : FuncId) (cs : Array Value) (p : Int → Bool) (w : World) (h : IsInts w v l) (hF : F = 57) (b : Nat) (hcs : cs = #[.pointer (some ⟨b, 0, none⟩)])
    (hf : ∀ wx, Below w.heap.size w wx → ∀ x ∈ l, Calls Try.prog 57 #[.int .i64 x, .pointer (some ⟨b, 0, none⟩)] wx fun e w' => e = .returned (.bool (p x)) ∧ Below wx.heap.size wx w') :
    Calls Try.prog 61 #[v, .func (.func 57) #[] #[.pointer (some ⟨b, 0, none⟩)]] w fun e w' => ∃ r : Int, e = .returned (.int .i64 r) ∧ decide (0 ≤ r) = l.any p ∧ Below w.heap.size w w' := by
  have mixed := mixedA
  have H := Lib.hid h
  have HL := Lib.hid hf
  obtain ⟨a, cap, rfl, hlc, hcm, -⟩ := h
  unfold maxLen at hcm
  clear hf hF hcs
  go_enter Try.func61, Try.ntmps61
  go_wp2
  go_loopw [8] (fun i wr => ∃ k : Nat, k ≤ l.length ∧ i = .int .i64 k ∧ Below w.heap.size w wr ∧ (l.take k).any p = false) (fun i _ => l.length - (intOf i).toNat)
  case atStart => exact ⟨0, Nat.zero_le _, rfl, Below.refl _ _, by simp⟩
  case round =>
    obtain ⟨k, hk, rfl, hg, hno⟩ := hrel
    have Hg := Lib.hid hg
    have Hno := Lib.hid hno
    clear hg hno
    by_cases hlt : k < l.length
    · obtain ⟨bb, off, cap', he, hbl, hlz, x0⟩ := at_int (H.out.below Hg.out) k hlt
      injection he with he1 he2 he3
      subst he1 he3
      clear he2
      have hltz : (k : Int) < (l.length : Int) := by omega
      have HT := Lib.hid (show (l.take (k + 1)).any p = ((l.take k).any p || p l[k]) by rw [List.take_succ_eq_append_getElem hlt, List.any_append]; simp)
      have HA := Lib.hid (fun (h : p l[k] = true) => (List.any_eq_true.2 ⟨l[k], List.getElem_mem hlt, h⟩ : l.any p = true))
      have HC := Lib.hid (HL.out _ Hg.out l[k] (List.getElem_mem hlt))
      generalize l[k] = x at *
      generalize hlk : p x = lk at *
      have Hlk := Lib.hid hlk
      clear hlk
      cases lk
      all_goals
        go_wp2_with (go_at_call 57; refine HC.out.mono ?_; rintro e w2 ⟨rfl, hg2⟩; have Hg2 := Lib.hid (Below.next Hg.out (Nat.le_refl _) hg2); clear hg2)
      · go_roundw
        case rel => exact ⟨k + 1, by omega, by go_num, Hg2.out, by rw [HT.out, Hno.out]; rfl⟩
        case measure => simp [intOf]; omega
      · go_ret
        exact ⟨_, rfl, by rw [HA.out trivial]; simp, Hg2.out⟩
    · obtain rfl : k = l.length := by omega
      rw [List.take_length] at Hno
      go_wp2
      go_ret
      exact ⟨_, rfl, by rw [Hno.out]; rfl, Hg.out⟩
set_option maxHeartbeats 1000000 in
theorem containsInt_w (v : Value) (l : List Int) (p : Int → Bool) (w : World) (h : IsInts w v l) (b : Nat)
    (hf : ∀ wx, Below w.heap.size w wx → ∀ x ∈ l, Calls Try.prog 57 #[.int .i64 x, .pointer (some ⟨b, 0, none⟩)] wx fun e w' => e = .returned (.bool (p x)) ∧ Below wx.heap.size wx w') :
    Calls Try.prog 56 #[v, .func (.func 57) #[] #[.pointer (some ⟨b, 0, none⟩)]] w fun e w' => e = .returned (.bool (l.any p)) ∧ Below w.heap.size w w' := by
  have HI := Lib.hid (indexInt_w v l _ _ p w h rfl b rfl hf)
  clear h hf
  go_enter Try.func56, Try.ntmps56
  go_wp2_with (go_at_call 61; refine HI.out.mono ?_; rintro e w2 ⟨r, rfl, hr, hg2⟩; have Hg2 := Lib.hid hg2; have Hr := Lib.hid hr; clear hg2 hr)
  go_ret
  exact ⟨ret_bool (by rw [← Hr.out]), Hg2.out⟩
set_option maxHeartbeats 1000000 in
theorem allUsed_w (v u : Value) (P : List Sl) (l : List Int) (w : World) (h : IsSlots w v P) (hu : IsInts w u l) :
    Calls Try.prog 48 #[poolV v, u] w fun e w' => e = .returned (.bool (l.all (usedB P))) ∧ Below w.heap.size w w' := by
  have HB := Lib.hid (below_box (w := w) (.cells #[v] 29))
  have HI := Lib.hid (containsInt_w u l (fun i => !usedB P i) (w.alloc (.cells #[v] 29)) (hu.below HB.out) w.heap.size (fun wx hx x _ => allUsed1_w _ P x wx ((poolBox_new h).below hx)))
  have HQ : Hid ((!l.any fun i => !usedB P i) = l.all (usedB P)) := Lib.hid (by rw [List.all_eq_not_any_not])
  generalize (l.any fun i => !usedB P i) = r at *
  clear h hu
  go_enter Try.func48, Try.ntmps48
  go_wp2_with (go_at_call 56; refine HI.out.mono ?_; rintro e w2 ⟨rfl, hg2⟩; have Hg2 := Lib.hid hg2; clear hg2)
  go_ret
  exact ⟨ret_bool (by rw [← HQ.out]), Below.next HB.out (Nat.le_refl _) Hg2.out⟩

set_option maxHeartbeats 1000000 in
theorem firstFree1_w (s : Sv) (w : World) :
    Calls Try.prog 60 #[slotV s] w fun e w' => e = .returned (.bool (!s.used)) ∧ Below w.heap.size w w' := by
  obtain ⟨u, l, r, a, b, c, d, f⟩ := s
  go_enter Try.func60, Try.ntmps60
  go_wp2
  go_ret
  exact ⟨rfl, below_box _⟩
/-- Whether a slot is not used, but not the zero value either. -/
def spoilB (s : Sl) : Bool := !s.used && (s.lost || (!(s.refs == 0)) || decide (0 < s.node.pairs.length + s.node.pivots.length + s.node.kids.length + s.node.sums.length + s.node.buf.length))

end Go.Proofs.Ytlgangcldlphnaa
