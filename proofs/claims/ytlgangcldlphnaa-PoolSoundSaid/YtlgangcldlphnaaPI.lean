/-
  Walks: copies of lists of numbers; how many slots are used; dropping.
-/
import Derived.Test.YtlgangcldlphnaaPG
import Derived.Deep.LoopGhost
namespace Go.Proofs.Ytlgangcldlphnaa
open Go.RowKit Go.Sort
set_option linter.unusedVariables false
set_option maxRecDepth 100000

theorem keepP {W wx : World} (h : Below W.heap.size W wx) (o : Obj) : Below W.heap.size W (wx.alloc o) := h.alloc h.size o
theorem cell_all {w : World} {b o : Nat} {u : Value} (h : w.cell? ⟨b, o, none⟩ = some u) : ∀ wx, Below w.heap.size w wx → wx.cell? ⟨b, o, none⟩ = some u := fun wx hx => (hx.cell (p := ⟨b, o, none⟩) (by exact cell_lt h)).trans h
def encI (x : Int) : List Value := [.int .i64 x]
theorem infoI : (Try.prog.info? 3).map (fun i => (i.zero, i.size, i.bytes)) = some (some (.int .i64 0), 1, 8) := by kernel_rfl
theorem encI_len (x : Int) : (encI x).length = 1 := rfl
theorem encI_one (x : Int) : ∀ u ∈ encI x, u.oneCell' = true := by
  intro u hu; simp [encI] at hu; subst hu; rfl
theorem flatI (l : List Int) : l.flatMap encI = l.map (Value.int .i64) := by
  induction l with
  | nil => rfl
  | cons x l ih => rw [List.flatMap_cons, List.map_cons, ih]; rfl
theorem IsInts.any {w : World} {v : Value} {l : List Int} (h : IsInts w v l) : IsAny encI 1 w v l := by
  obtain ⟨a, cap, rfl, h2, h3, h4⟩ := h
  refine ⟨a, cap, rfl, fun hne => ?_⟩
  obtain ⟨b, off, rfl, hlt, hc⟩ := h4 hne
  refine ⟨b, off, rfl, fun i hi j u hu => ?_⟩
  match j, hu with
  | 0, hu => rw [Nat.mul_one, Nat.add_zero]; exact (hc i hi).trans hu
  | j + 1, hu => simp [encI] at hu
theorem own_emptyI (W : World) (B : Nat) (hB : B ≤ W.heap.size) : (W.alloc (.cells #[] 3)).ownsRow B 3 1 (.slice (some ⟨W.heap.size, 0, none⟩) 0 0) ([] : List Int).length (([] : List Int).flatMap encI) :=
  ⟨rfl, .inr ⟨W.heap.size, 0, #[], rfl, hB, Blk.new _ _ _, Nat.le_refl _, by unfold maxLen; omega, rfl, rfl⟩⟩
theorem IsInts.owned {w : World} {base : Nat} {v : Value} {n : Nat} {l : List Int} (h : w.ownsRow base 3 1 v n (l.flatMap encI)) : IsInts w v l := by
  have hlen := h.1
  rw [flatI, List.length_map, Nat.mul_one] at hlen
  subst hlen
  rcases h.2 with ⟨rfl, h0⟩ | ⟨g, cap, cur, rfl, hb, hg, hn, hm, hsz, htk⟩
  · have : l = [] := List.length_eq_zero_iff.1 h0
    subst this
    exact IsInts.nil w
  · refine ⟨_, cap, rfl, hn, hm, fun hne => ⟨g, 0, rfl, (Array.getElem?_eq_some_iff.1 hg).1, fun i hi => ?_⟩⟩
    rw [Nat.zero_add, h.cellAt i (by omega), flatI, List.getElem?_map, List.getElem?_eq_getElem hi]; rfl
theorem IsInts.slice {w : World} {v : Value} {l : List Int} (h : IsInts w v l) : ∃ a cap, v = .slice a l.length cap ∧ l.length ≤ cap ∧ (cap : Int) ≤ 9223372036854775807 := by
  obtain ⟨a, cap, rfl, h2, h3, h4⟩ := h
  unfold maxLen at h3
  exact ⟨a, cap, rfl, h2, by omega⟩
theorem isInts_lit {w : World} {n : Nat} (l : List Int) (hn : n = w.heap.size) (hl : l.length ≤ 1000) (hne : l ≠ []) : IsInts (w.alloc (.cells (l.map (Value.int .i64)).toArray 3)) (.slice (some ⟨n, 0, none⟩) l.length l.length) l := by
  subst hn
  have hB : Blk (w.alloc (.cells (l.map (Value.int .i64)).toArray 3)) w.heap.size 3 (l.map (Value.int .i64)).toArray := Blk.new _ _ _
  refine ⟨_, l.length, rfl, Nat.le_refl _, by unfold maxLen; omega, fun _ => ⟨w.heap.size, 0, rfl, hB.lt, fun i hi => ?_⟩⟩
  rw [hB.cell, Nat.zero_add]
  simp [hi]
/-- An append of a list of numbers to a row of the call's own. -/
theorem append_ints {w : World} {ops : Array Oper} {rest : List Oper} {o : Oper} {a : Act} {Q : Exit → Act → World → Prop} (hgd : o.guard = none) (s x : Operand)
    (ho : o.op = .call { callee := .builtin .append, args := #[s, x], argTypes := #[30, 30] }) (base : Nat) (v : Value) (l : List Int) (hs : a.eval s = v) (hown : w.ownsRow base 3 1 v l.length (l.flatMap encI))
    (u : Value) (m : List Int) (hx : a.eval x = u) (hp : IsInts w u m) (hl : l.length + m.length ≤ 1000000000) (hbase : base ≤ w.heap.size)
    (h : ∀ v' w', w'.ownsRow base 3 1 v' (l ++ m).length ((l ++ m).flatMap encI) → Below base w w' → wpList Try.prog ops Q rest (a.put o.dst v') w') : wpList Try.prog ops Q (o :: rest) a w :=
  append_any (en := encI) hgd s x 30 3 _ 1 8 infoI Try.underlying30 rfl (by decide) (by decide) encI_len encI_one ho base v l hs hown u m hx hp.any hl hbase h

set_option maxHeartbeats 2000000 in
theorem cloneInt_w (v : Value) (l : List Int) (w : World) (h : IsInts w v l) (hl : l.length ≤ 1000000) :
    Calls Try.prog 54 #[v] w fun e w' => ∃ v', e = .returned v' ∧ w'.ownsRow w.heap.size 3 1 v' l.length (l.flatMap encI) ∧ Below w.heap.size w w' := by
  have H := Lib.hid h
  obtain ⟨a, cap, rfl, hle, hcm, hne⟩ := h
  unfold maxLen at hcm
  have HNE := Lib.hid hne
  clear hne
  have q26 : ∀ (w : World) (a : Option Addr) (n c n' c' : Nat), (binOp .eql 30 (.slice a n c) (.slice none n' c')).run Try.prog w = .ok (.bool a.isNone) w := fun w a n c n' c' => Lib.run_eql_slice_nil w _ _ a n c n' c' Try.underlying30
  cases a with
  | none =>
    have hn : l = [] := by
      rcases l with _ | ⟨x, r⟩
      · rfl
      · obtain ⟨b, off, e, _⟩ := HNE.out (by simp); cases e
    subst hn
    go_enter Try.func54, Try.ntmps54
    go_wp2
    go_ret
    exact ⟨_, rfl, World.ownsRow_nil _ _ _ _, Below.refl _ _⟩
  | some ad =>
    have HB := Lib.hid (H.out.below (below_box (.cells #[] 3)))
    go_enter Try.func54, Try.ntmps54
    go_wp2_with (at_builtin; refine append_ints rfl _ _ rfl w.heap.size _ [] rfl (own_emptyI w w.heap.size (Nat.le_refl _)) _ l rfl HB.out (by simp; omega) (by simp) ?_; intro v' w1 hown hbel)
    have Hown := Lib.hid hown
    have Hbel : Hid (Below w.heap.size w w1) := Lib.hid ((below_box _).trans hbel)
    clear hown hbel
    go_wp2
    go_ret
    exact ⟨_, rfl, by have := Hown.out; rwa [List.nil_append] at this, Hbel.out⟩

/-- How many slots are used. -/
def liveP (P : List Sl) : Nat := P.countP fun s => s.used
theorem live_snoc {P : List Sl} {k : Nat} (h : k < P.length) : liveP (P.take (k + 1)) = liveP (P.take k) + if (atP P k).used then 1 else 0 := by
  unfold liveP
  rw [List.take_succ_eq_append_getElem h, List.countP_append, atP_lt h]
  simp [List.countP_cons]
theorem live_le (P : List Sl) : liveP P ≤ P.length := List.countP_le_length
set_option maxHeartbeats 2000000 in
theorem live_w (v : Value) (P : List Sl) (w : World) (h : IsSlots w v P) :
    Calls Try.prog 17 #[poolV v] w fun e w' => e = .returned (.int .i64 (liveP P : Nat)) ∧ Below w.heap.size w w' := by
  have mixed := mixedA
  have H := Lib.hid h
  have HB := Lib.hid (below_box (w := w) (.cells #[v] 29))
  obtain ⟨a, cap, rfl, hle, hcm, hpm⟩ := h.slice
  clear h
  go_enter Try.func17, Try.ntmps17
  go_wp2
  go_loopw [3, 9] (fun n i wr => ∃ k : Nat, k ≤ P.length ∧ i = .int .i64 k ∧ n = .int .i64 (liveP (P.take k) : Nat) ∧ Hid (Below w.heap.size w wr)) (fun _ i _ => P.length - (intOf i).toNat)
  case atStart => exact ⟨0, Nat.zero_le _, rfl, rfl, HB⟩
  case round =>
    obtain ⟨k, hk, rfl, rfl, Hg⟩ := hrel
    by_cases hlt : k < P.length
    · obtain ⟨bb, off, cap', s, he, hbl, hlz, hs, x0, x1, x2, x3, x4, x5, x6, x7⟩ := slot_at (H.out.below Hg.out) k hlt
      injection he with he1 he2 he3
      subst he1 he3
      clear he2
      have hltz : (k : Int) < (P.length : Int) := by omega
      have HU := Lib.hid hs.used
      have HT := Lib.hid (live_snoc hlt)
      have hlv : liveP (P.take k) ≤ k := Nat.le_trans (live_le _) (by rw [List.length_take]; omega)
      generalize liveP (P.take k) = m at *
      clear hs
      cases hu : s.used
      all_goals
        have Hu := Lib.hid hu
        rw [hu] at x0
        clear hu
        go_wp2
        go_roundw
        case rel =>
          refine ⟨k + 1, by omega, by go_num, ?_, Lib.hid (Hg.out.trans ((below_box _).mono Hg.out.size))⟩
          rw [HT.out, ← HU.out, Hu.out]
          first | rfl | go_num
        case measure => simp [intOf]; omega
    · obtain rfl : k = P.length := by omega
      rw [List.take_length]
      go_wp2
      go_ret
      exact ⟨rfl, Hg.out⟩

end Go.Proofs.Ytlgangcldlphnaa
