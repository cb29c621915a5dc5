/-
  The walk of the law TraceParts.
-/
import Derived.Test.YthncnijkgkeohaaIL
import Derived.Test.YthncnijkgkeohaaIK
namespace Go.Proofs.Ythncnijkgkeohaa
open Go.RowKit Go.Sort
set_option linter.unusedVariables false

theorem below_box' {W : World} {n : Nat} (hn : n = W.heap.size) (o : Obj) : Below n W (W.alloc o) := by subst hn; exact below_box o
theorem own_empty_p {n : Nat} (W : World) (B : Nat) (hn : n = W.heap.size) (hB : B ≤ n) : OwnM (W.alloc (.cells #[] 49)) B (.slice (some ⟨n, 0, none⟩) 0 0) [] := by
  subst hn
  exact ⟨rfl, .inr ⟨W.heap.size, 0, #[], rfl, hB, Blk.new _ _ _, Nat.le_refl _, by unfold maxLen; omega, rfl, rfl⟩⟩
theorem own_form8 {w : World} {base n : Nat} {e : TypeId} {size : Nat} {v : Value} {xs : List Value} (h : w.ownsRow base e size v n xs) : ∃ p cap, v = .slice p n cap ∧ n ≤ cap ∧ cap ≤ maxLen := by
  have hl := h.1
  rcases h.2 with ⟨rfl, h0⟩ | ⟨g, cap, cur, rfl, hb, hg, hn, hm, _⟩
  · exact ⟨none, 0, by rw [h0], by omega, by unfold maxLen; omega⟩
  · exact ⟨_, cap, rfl, hn, hm⟩
/-- The two lists and the three bytes of a law, in its memory. -/
structure A5 (w : World) (l0 l1 : Value) (a b c : Nat) (wx : World) : Prop where
  l : Blk wx w.heap.size 23 #[l0, l1]
  b : Blk wx (w.heap.size + 1) 24 #[.int .u8 a, .int .u8 b, .int .u8 c]
  g : Below w.heap.size w wx
theorem A5.below {w wx wy : World} {l0 l1 : Value} {a b c : Nat} (h : A5 w l0 l1 a b c wx) (hb : Below wx.heap.size wx wy) : A5 w l0 l1 a b c wy := ⟨h.l.below hb h.l.lt, h.b.below hb h.b.lt, h.g.trans (hb.mono h.g.size)⟩
theorem A5.drew {w wx : World} {l0 l1 : Value} {a b c : Nat} (h : A5 w l0 l1 a b c wx) : A5 w l0 l1 a b c wx.drew := ⟨h.l, h.b, h.g.drew⟩

/-- The four that TraceParts compares and writes: all, late, want, early. -/
structure Quad (w7 : World) (fA fL fE fW : Fd) (nE : Nat) (wx : World) : Prop where
  g : Below w7.heap.size w7 wx
  A : Blk wx w7.heap.size 32 (encF fA)
  L : Blk wx (w7.heap.size + 1) 32 (encF fL)
  W : Blk wx (w7.heap.size + 1 + 1) 32 (encF fW)
  E : Blk wx nE 32 (encF fE)
  lt : w7.heap.size + 2 < nE
section
variable {w7 wx : World} {fA fL fE fW : Fd} {nE : Nat}
theorem Quad.setW (h : Quad w7 fA fL fE fW nE wx) (i : Nat) (v : Value) (f' : Fd) (e : (encF fW).set! i v = encF f') : Quad w7 fA fL fE f' nE (wx.setCell ⟨w7.heap.size + 1 + 1, i, none⟩ v) where
  g := h.g.setCell (by show w7.heap.size ≤ w7.heap.size + 1 + 1; omega) _
  A := h.A.setCell_other (by omega) _ _
  L := h.L.setCell_other (by omega) _ _
  W := by have k := h.W.setCell i v; rw [← e]; simpa using k
  E := h.E.setCell_other (by have := h.lt; omega) _ _
  lt := h.lt
end
theorem Quad.drew {w7 wx : World} {fA fL fE fW : Fd} {nE : Nat} (h : Quad w7 fA fL fE fW nE wx) : Quad w7 fA fL fE fW nE wx.drew := ⟨h.g.drew, h.A, h.L, h.W, h.E, h.lt⟩
def belowS (R : List Sp) (a : List Ms) (j : Nat) : List Sp := (R.take j).flatMap fun x => spansF x a
theorem below_succ (R : List Sp) (a : List Ms) (j : Nat) (h : j < R.length) : belowS R a (j + 1) = belowS R a j ++ spansF R[j] a := by
  unfold belowS
  rw [List.take_succ_eq_append_getElem h, List.flatMap_append]
  simp
theorem below_all (R : List Sp) (a : List Ms) : belowS R a R.length = R.flatMap fun x => spansF x a := by unfold belowS; rw [List.take_length]
theorem below_len (R : List Sp) (a : List Ms) : ∀ j, (belowS R a j).length ≤ (1 + 3 * a.length) * j
  | 0 => by simp [belowS]
  | j + 1 => by
    have h := below_len R a j
    by_cases hj : j < R.length
    · rw [below_succ R a j hj, List.length_append, Nat.mul_succ]
      have := spans_len R[j] a
      omega
    · have e : belowS R a (j + 1) = belowS R a j := by unfold belowS; rw [List.take_of_length_le (by omega), List.take_of_length_le (by omega)]
      rw [e]
      exact Nat.le_trans h (Nat.mul_le_mul_left _ (by omega))
theorem look_keyL {m : Ms} (hm : Few5 m) (f : Fd) : (lookK m f).key.length ≤ f.key.length + 100 := by
  have hback : (backF m f).key.length ≤ f.key.length + 100 := by
    unfold backF
    cases e : movedS f.key m.dst m.src with
    | none => simp
    | some j => have := movedS_len e; have := hm.2.2.2.1; show j.length ≤ _; omega
  have hend : ∀ b, (endF b f).key.length ≤ f.key.length + 100 := by
    intro b
    cases b
    · exact Nat.le_add_right _ _
    · exact Nat.zero_le _
  unfold lookK
  split
  · split
    · exact Nat.zero_le _
    · exact Nat.le_add_right _ _
  split
  · exact hend _
  split
  · exact hend _
  split
  · split
    · exact hback
    · exact hend _
  split
  · exact hback
  split
  · split <;> exact Nat.le_add_right _ _
  · exact Nat.le_add_right _ _
theorem follow_keyL : ∀ (r : List Ms) (f : Fd), (∀ m ∈ r, Few5 m) → (follow r f).key.length ≤ f.key.length + 100 * r.length
  | [], f, _ => Nat.le_add_right _ _
  | m :: r, f, hm => by
    have h1 := look_keyL (hm m List.mem_cons_self) f
    unfold follow
    rw [List.length_cons]
    split
    · omega
    · have h2 := follow_keyL r (lookK m f) (fun x hx => hm x (List.mem_cons_of_mem _ hx))
      omega
theorem keyF_len (k : Bs) {l : List Ms} (hm : ∀ m ∈ l, Few5 m) : (keyF k l).key.length ≤ k.length + 100 * l.length := by
  have h := follow_keyL l.reverse (startF k) (fun m h => hm m (by simpa using h))
  rw [List.length_reverse] at h
  exact h

set_option maxRecDepth 100000 in
set_option maxHeartbeats 4000000 in
theorem traceParts_walk (w : World) (v0 : Value) (x0 : (Value × List R6) × (Value × List R6)) (h0 : v0 = .agg #[x0.1.1, x0.2.1] ∧ IsR6s w x0.1.1 x0.1.2 ∧ IsR6s w x0.2.1 x0.2.2) (v1 : Value) (x1 : Nat × Nat × Nat) (h1 : v1 = .agg #[.int .u8 x1.1, .int .u8 x1.2.1, .int .u8 x1.2.2] ∧ x1.1 < 256 ∧ x1.2.1 < 256 ∧ x1.2.2 < 256) (v2 : Value) (x2 : Bs) (h2 : v2 = .string (Str x2) ∧ x2.length ≤ maxLen) :
    Calls Try.prog 3 #[v0, v1, v2] w fun e w' => e = .returned (.bool true) ∧ Below w.heap.size w w' := by
  obtain ⟨rfl, hr0, hr1⟩ := h0
  obtain ⟨⟨l0, r0⟩, ⟨l1, r1⟩⟩ := x0
  dsimp only at hr0 hr1 ⊢
  obtain ⟨rfl, ha, hb, hc⟩ := h1
  obtain ⟨a, b, c⟩ := x1
  dsimp only at ha hb hc ⊢
  obtain ⟨rfl, h2⟩ := h2
  unfold maxLen at h2
  have hsz := size_Str x2
  have HR0 := Lib.hid hr0
  have HR1 := Lib.hid hr1
  clear hr0 hr1
  by_cases hlong : 60 < x2.length
  · have hlz : (60 : Int) < (x2.length : Int) := by omega
    clear HR0 HR1
    go_enter Try.func3, Try.ntmps3
    go_wp2_with fail
    refine (sanity_w _).mono ?_
    rintro e0 w0 ⟨rfl, hb0⟩
    have HB := Lib.hid ((((below_box (.cells #[l0, l1] 23)).trans ((below_box (.cells #[.int .u8 a, .int .u8 b, .int .u8 c] 24)).mono (by simp))).trans (hb0.mono (by simp; omega))) : Below w.heap.size w w0)
    clear hb0
    go_wp2
    go_ret
    exact ⟨rfl, HB.out⟩
  have hlz : ¬ (60 : Int) < (x2.length : Int) := by omega
  obtain ⟨ma, ema⟩ : ∃ r, r = listS r0 6 := ⟨_, rfl⟩
  obtain ⟨mb, emb⟩ : ∃ r, r = listS r1 6 := ⟨_, rfl⟩
  have hala : ∀ m ∈ ma, Ok m ∧ Few m := by rw [ema]; exact listS_all _ _
  have halb : ∀ m ∈ mb, Ok m ∧ Few m := by rw [emb]; exact listS_all _ _
  have hla : ma.length ≤ 6 := by rw [ema]; exact listS_len _ _
  have hlb : mb.length ≤ 6 := by rw [emb]; exact listS_len _ _
  have HALA := Lib.hid (fun m hm => (hala m hm).1)
  have HALB := Lib.hid (fun m hm => (halb m hm).1)
  have HF5 : Hid (∀ m ∈ mb, Few5 m) := Lib.hid (by rw [emb]; exact listS_few5 _ _)
  have Ema := Lib.hid ema
  have Emb := Lib.hid emb
  clear hala halb ema emb
  go_enter Try.func3, Try.ntmps3
  go_wp2_with fail
  refine (sanity_w _).mono ?_
  rintro e0 w0 ⟨rfl, hb0⟩
  have HS0 : Hid (A5 w l0 l1 a b c w0) := Lib.hid ⟨(show Blk ((w.alloc (.cells #[l0, l1] 23)).alloc (.cells #[.int .u8 a, .int .u8 b, .int .u8 c] 24)) w.heap.size 23 #[l0, l1] from (Blk.new _ _ _).alloc _).below hb0 (by simp; omega), (show Blk ((w.alloc (.cells #[l0, l1] 23)).alloc (.cells #[.int .u8 a, .int .u8 b, .int .u8 c] 24)) (w.heap.size + 1) 24 #[.int .u8 a, .int .u8 b, .int .u8 c] from Blk.new' _ _ _ (by simp)).below hb0 (by simp), (((below_box (.cells #[l0, l1] 23)).trans ((below_box (.cells #[.int .u8 a, .int .u8 b, .int .u8 c] 24)).mono (by simp))).trans (hb0.mono (by simp; omega)))⟩
  clear hb0
  have hkl := keyL_len a x2 (by omega)
  have HK := Lib.hid (fun wx => keyL_w a x2 wx ha)
  generalize keyL a x2 = k at *
  have HLA : Hid (∀ wx, A5 w l0 l1 a b c wx → Calls Try.prog 7 #[l0, .int .i64 6] wx fun e w' => ∃ p c, e = .returned (.slice p ma.length c) ∧ IsMsgs w' (.slice p ma.length c) ma ∧ Below wx.heap.size wx w') := Lib.hid (fun wx h => by
    have hl := list_w l0 r0 6 wx (HR0.out.below h.g) (by omega)
    rw [← Ema.out] at hl
    refine hl.mono ?_
    rintro e1 w1 ⟨v1, rfl, ho1, hb1⟩
    have hm1 := ho1.msgs
    obtain ⟨p1, c1, rfl, -⟩ := id hm1
    exact ⟨p1, c1, rfl, hm1, hb1⟩)
  have HLB : Hid (∀ wx, A5 w l0 l1 a b c wx → Calls Try.prog 7 #[l1, .int .i64 6] wx fun e w' => ∃ p c, e = .returned (.slice p mb.length c) ∧ IsMsgs w' (.slice p mb.length c) mb ∧ Below wx.heap.size wx w') := Lib.hid (fun wx h => by
    have hl := list_w l1 r1 6 wx (HR1.out.below h.g) (by omega)
    rw [← Emb.out] at hl
    refine hl.mono ?_
    rintro e1 w1 ⟨v1, rfl, ho1, hb1⟩
    have hm1 := ho1.msgs
    obtain ⟨p1, c1, rfl, -⟩ := id hm1
    exact ⟨p1, c1, rfl, hm1, hb1⟩)
  go_upto_region 4 with fail
  go_cut [8, 9, 10] (fun s8 s9 s10 wx => ∃ p c' q d', s8 = .slice p ma.length c' ∧ s9 = .slice q mb.length d' ∧ s10 = .string (Str k) ∧ Hid (A5 w l0 l1 a b c wx) ∧ Hid (Sx w [] [(.slice q mb.length d', mb), (.slice p ma.length c', ma)] [] wx))
  case first =>
    have q0 : ∀ wr, A5 w l0 l1 a b c wr → wr.cell? ⟨w.heap.size, 0, none⟩ = some l0 := fun wr h => h.l.c0 0 _ rfl
    have q1 : ∀ wr, A5 w l0 l1 a b c wr → wr.cell? ⟨w.heap.size, 1, none⟩ = some l1 := fun wr h => h.l.c0 1 _ rfl
    have q2 : ∀ wr, A5 w l0 l1 a b c wr → wr.cell? ⟨w.heap.size + 1, 0, none⟩ = some (.int .u8 a) := fun wr h => h.b.c0 0 _ rfl
    have hl0 := HS0.out.b.lt
    go_region_held3 (fun wr => A5 w l0 l1 a b c wr)
      (first | with_reducible assumption | exact HS0.out.drew | exact A5.below (by with_reducible assumption) (by with_reducible assumption))
      (first
        | (go_at_call 7; (with_reducible refine (HLA.out _ (by first | with_reducible assumption | exact HS0.out.drew)).mono ?_); rintro e w2 ⟨p2, c2, rfl, hm2, hb2⟩; have hs2 : A5 w l0 l1 a b c w2 := A5.below (by first | with_reducible assumption | exact HS0.out.drew) hb2)
        | (go_at_call 7; (with_reducible refine (HLB.out _ (by with_reducible assumption)).mono ?_); rintro e w3 ⟨p3, c3, rfl, hn3, hb3⟩; have hs3 : A5 w l0 l1 a b c w3 := A5.below (by with_reducible assumption) hb3; have hm3 := IsMsgs.below hm2 hb3)
        | (go_at_call 8; (with_reducible refine (HK.out _).mono ?_); rintro e w4 ⟨rfl, hb4⟩; have hs4 : A5 w l0 l1 a b c w4 := A5.below (by with_reducible assumption) hb4; have hm4 := IsMsgs.below hm3 hb4; have hn4 := IsMsgs.below hn3 hb4))
    all_goals
      clear q0 q1 q2
      go_wp2_with fail
      go_meet
      exact ⟨p2, c2, p3, c3, rfl, rfl, rfl, Lib.hid hs4, Lib.hid ⟨hs4.g, (fun x hx => by cases hx), (fun x hx => by
        rcases List.mem_cons.1 hx with rfl | hx
        · exact hn4
        · cases List.mem_singleton.1 hx; exact hm4), (fun x hx => by cases hx)⟩⟩
  case rest =>
    obtain ⟨p2, c2, p3, c3, rfl, rfl, rfl, HA, HS⟩ := hcut
    clear HLA HLB HK HS0
    have HB := Lib.hid HA.out.b
    have hE1 := Lib.hid (own_empty_p (n := wc.heap.size) wc wc.heap.size rfl (Nat.le_refl _))
    have hM1 := Lib.hid ((HS.out.m (.slice p2 ma.length c2, ma) (by simp)).below (below_box (.cells #[] 49)))
    have hM2 := Lib.hid ((HS.out.m (.slice p3 mb.length c3, mb) (by simp)).below (below_box (.cells #[] 49)))
    clear HA
    go_wp2_with (at_builtin; first
      | (refine append_msgs rfl _ _ rfl wc.heap.size (.slice (some ⟨wc.heap.size, 0, none⟩) 0 0) [] rfl ?a1 (.slice p2 ma.length c2) ma rfl ?a2 ?a3 ?a4 ?_; (case a1 => exact hE1.out); (case a2 => exact hM1.out); (case a3 => simp; omega); (case a4 => simp); intro v4 w4 hown4 hbel4; rw [List.nil_append] at hown4; obtain ⟨p4, c4, rfl, hd4, hd4'⟩ := own_form8 hown4
         have hB4 : Hid (Below wc.heap.size wc w4) := Lib.hid ((below_box _).trans hbel4)
         have hO4 := Lib.hid hown4
         have hM4 := Lib.hid ((HS.out.m (.slice p3 mb.length c3, mb) (by simp)).below hB4.out)
         clear hown4 hbel4 hE1 hM1 hM2)
      | (refine append_msgs rfl _ _ rfl wc.heap.size (.slice p4 ma.length c4) ma rfl ?a1 (.slice p3 mb.length c3) mb rfl ?a2 ?a3 ?a4 ?_; (case a1 => exact hO4.out); (case a2 => exact hM4.out); (case a3 => omega); (case a4 => exact hB4.out.size); intro v5 w5 hown5 hbel5; obtain ⟨p5, c5, rfl, -, -⟩ := own_form8 hown5
         have HS5 := Lib.hid ((HS.out.below (hB4.out.trans hbel5)).addM hown5.msgs)
         have HB5 := Lib.hid (HB.out.below (hB4.out.trans hbel5) HB.out.lt)
         clear hown5 hbel5 hO4 hM4 hB4 hd4 hd4' HB HS))
    have HM5 : Hid (IsMsgs w5 (.slice p5 (ma.length + mb.length) c5) (ma ++ mb)) := Lib.hid (by
      have h := HS5.out.m (.slice p5 (ma ++ mb).length c5, ma ++ mb) (by simp)
      rw [List.length_append] at h
      exact h)
    have HALL : Hid (∀ m ∈ ma ++ mb, Ok m) := Lib.hid (fun m hm => (List.mem_append.1 hm).elim (HALA.out m) (HALB.out m))
    have hlab : (ma ++ mb).length ≤ 12 := by rw [List.length_append]; omega
    have HKP := Lib.hid (key_parts k ma mb)
    have HKN := Lib.hid (keyF_len k HF5.out)
    have HKF := Lib.hid (fun h => key_from mb k h)
    have HKG := Lib.hid (fun h => key_from ma (keyF k mb).key h)
    obtain ⟨fA, eA⟩ : ∃ f, f = keyF k (ma ++ mb) := ⟨_, rfl⟩
    obtain ⟨fL, eL⟩ : ∃ f, f = keyF k mb := ⟨_, rfl⟩
    rw [← eA] at HKP
    rw [← eL] at HKP HKF HKG HKN
    have ha1 : Calls Try.prog 9 #[.string (Str k), .slice p5 (ma.length + mb.length) c5] w5 fun e w' => e = .returned (fdV fA) ∧ Below w5.heap.size w5 w' := by
      rw [eA]; exact key_any k (.slice p5 (ma.length + mb.length) c5) (ma ++ mb) w5 HM5.out HALL.out (by omega) (by omega)
    have EL := Lib.hid eL
    refine ha1.mono ?_
    clear ha1 eA eL
    rintro e6 w6 ⟨rfl, hb6⟩
    have HS6 := Lib.hid (HS5.out.below hb6)
    have HM6 := Lib.hid (HM5.out.below hb6)
    have HB6 := Lib.hid (HB5.out.below hb6 HB5.out.lt)
    clear HS5 HM5 HB5 hb6
    go_wp2_with fail
    have hl1 : Calls Try.prog 9 #[.string (Str k), .slice p3 mb.length c3] w6 fun e w' => e = .returned (fdV fL) ∧ Below w6.heap.size w6 w' := by
      rw [EL.out]; exact key_any k (.slice p3 mb.length c3) mb w6 (HS6.out.m (.slice p3 mb.length c3, mb) (by simp)) HALB.out (by omega) (by omega)
    refine hl1.mono ?_
    clear hl1
    rintro e7 w7 ⟨rfl, hb7⟩
    have hx7 := ((below_box (w := w7) (.cells (encF fA) 32)).trans ((below_box' (W := w7.alloc (.cells (encF fA) 32)) (n := w7.heap.size + 1) (by simp) (.cells (encF fL) 32)).mono (by omega))).trans ((below_box' (W := (w7.alloc (.cells (encF fA) 32)).alloc (.cells (encF fL) 32)) (n := w7.heap.size + 2) (by simp) (.cells (encF fL) 32)).mono (by omega))
    have HS7 := Lib.hid (HS6.out.below hb7)
    have HM7 := Lib.hid (HM6.out.below hb7)
    have HB7 := Lib.hid (HB6.out.below hb7 HB6.out.lt)
    have HG : Hid (Below w7.heap.size w7 (((w7.alloc (.cells (encF fA) 32)).alloc (.cells (encF fL) 32)).alloc (.cells (encF fL) 32))) := Lib.hid hx7
    have XA : Hid (Blk (((w7.alloc (.cells (encF fA) 32)).alloc (.cells (encF fL) 32)).alloc (.cells (encF fL) 32)) w7.heap.size 32 (encF fA)) := Lib.hid (((Blk.new _ _ _).alloc _).alloc _)
    have XL : Hid (Blk (((w7.alloc (.cells (encF fA) 32)).alloc (.cells (encF fL) 32)).alloc (.cells (encF fL) 32)) (w7.heap.size + 1) 32 (encF fL)) := Lib.hid ((Blk.new' _ _ _ (by simp)).alloc _)
    have XW : Hid (Blk (((w7.alloc (.cells (encF fA) 32)).alloc (.cells (encF fL) 32)).alloc (.cells (encF fL) 32)) (w7.heap.size + 1 + 1) 32 (encF fL)) := Lib.hid (Blk.new' _ _ _ (by simp))
    clear HS6 HM6 HB6 hb7 EL hx7
    obtain ⟨wz, hwz⟩ : ∃ wz, wz = ((w7.alloc (.cells (encF fA) 32)).alloc (.cells (encF fL) 32)).alloc (.cells (encF fL) 32) := ⟨_, rfl⟩
    rw [← hwz] at HG XA XL XW
    go_upto_region 9 with fail
    rw [show ((w7.alloc (.cells #[.bool fA.known, .bool fA.has, .string (Str fA.pair.1), .string (Str fA.pair.2.1), .int .i64 fA.pair.2.2, .string (Str fA.key), .bool fA.stamped, .int .i64 fA.stamp] 32)).alloc (.cells #[.bool fL.known, .bool fL.has, .string (Str fL.pair.1), .string (Str fL.pair.2.1), .int .i64 fL.pair.2.2, .string (Str fL.key), .bool fL.stamped, .int .i64 fL.stamp] 32)).alloc (.cells #[.bool fL.known, .bool fL.has, .string (Str fL.pair.1), .string (Str fL.pair.2.1), .int .i64 fL.pair.2.2, .string (Str fL.key), .bool fL.stamped, .int .i64 fL.stamp] 32) = wz from hwz.symm]
    clear hwz
    have z0 := XL.out.c0 0 _ rfl
    have hsl := XL.out.lt
    go_upto_if 50 with fail
    go_cut [12, 14] (fun s12 s14 wx => s12 = .pointer (some ⟨w7.heap.size, 0, none⟩) ∧ s14 = .pointer (some ⟨w7.heap.size + 1 + 1, 0, none⟩) ∧ Hid (Below w7.heap.size w7 wx) ∧ Hid (Blk wx w7.heap.size 32 (encF fA)) ∧ Hid (Blk wx (w7.heap.size + 1 + 1) 32 (encF fA)))
    case first =>
      cases hlk : fL.known with
      | true =>
        have hE : fA = fL := by have h := HKP.out; rwa [hlk, if_pos rfl] at h
        subst hE
        go_wp2_with fail
        go_meet
        exact ⟨rfl, rfl, HG, XA, XW⟩
      | false =>
        obtain ⟨g1, g2, ⟨g3, g4, g5⟩, g6, g7, g8⟩ := fL
        dsimp only at hlk
        subst hlk
        have hE : fA = wantU k g7 g8 (keyF g6 ma) := HKP.out
        have HKG2 : Hid ((keyF g6 ma).known = false → comesK ma g6 = some (keyF g6 ma).key ∧ (keyF g6 ma).has = false ∧ (keyF g6 ma).pair = (g6, [], 0)) := HKG
        obtain ⟨fE, eE⟩ : ∃ f, f = keyF g6 ma := ⟨_, rfl⟩
        rw [← eE] at hE HKG2
        have EE := Lib.hid eE
        have HE := Lib.hid hE
        clear eE hE HKG HKF HKP
        have hl : g6.length ≤ 1000000000 := by have h : g6.length ≤ k.length + 100 * mb.length := HKN.out; omega
        have z5 := XL.out.c0 5 _ rfl
        have he1 : Calls Try.prog 9 #[.string (Str g6), .slice p2 ma.length c2] wz fun e w' => e = .returned (fdV fE) ∧ Below wz.heap.size wz w' := by
          rw [EE.out]; exact key_any g6 (.slice p2 ma.length c2) ma wz ((HS7.out.m (.slice p2 ma.length c2, ma) (by simp)).below HG.out) HALA.out (by omega) hl
        go_upto_region 10 with fail
        go_cut [14, 15] (fun s14 s15 wx => ∃ nE, s14 = .pointer (some ⟨w7.heap.size + 1 + 1, 0, none⟩) ∧ s15 = .pointer (some ⟨nE, 0, none⟩) ∧ Hid (Quad w7 fA ⟨false, g2, (g3, g4, g5), g6, g7, g8⟩ fE ⟨false, g2, (g3, g4, g5), g6, g7, g8⟩ nE wx))
        case first =>
          go_wp2_with fail
          refine he1.mono ?_
          clear he1
          rintro e8 w8 ⟨rfl, hb8⟩
          have hp8 : Quad w7 fA ⟨false, g2, (g3, g4, g5), g6, g7, g8⟩ fE ⟨false, g2, (g3, g4, g5), g6, g7, g8⟩ w8.heap.size (w8.alloc (.cells (encF fE) 32)) := ⟨(HG.out.trans (hb8.mono HG.out.size)).alloc (Nat.le_trans HG.out.size hb8.size) _, (XA.out.below hb8 XA.out.lt).alloc _, (XL.out.below hb8 XL.out.lt).alloc _, (XW.out.below hb8 XW.out.lt).alloc _, Blk.new _ _ _, (XW.out.below hb8 XW.out.lt).lt⟩
          have HP8 := Lib.hid hp8
          clear hp8 hb8 HG XA XL XW z0 z5 hsl
          go_wp2_with fail
          go_meet
          exact ⟨_, rfl, rfl, HP8⟩
        case rest =>
          obtain ⟨nE, rfl, rfl, HP⟩ := hcut
          clear HG XA XL XW z0 z5 hsl he1
          obtain ⟨e0, e1, e2, e3, e4, e5, e6, e7⟩ := HP.out.E.eightC
          obtain ⟨y0, y1, y2, y3, y4, y5, y6, y7⟩ := HP.out.W.eightF
          obtain ⟨x0, x1, x2', x3, x4, x5, x6, x7⟩ := HP.out.W.eightC
          have hle := HP.out.E.lt
          have hlw := HP.out.W.lt
          go_upto_region 11 with fail
          go_cut [14, 15] (fun s14 s15 wx => s14 = .pointer (some ⟨w7.heap.size + 1 + 1, 0, none⟩) ∧ s15 = .pointer (some ⟨nE, 0, none⟩) ∧ Hid (Quad w7 fA ⟨false, g2, (g3, g4, g5), g6, g7, g8⟩ fE fE nE wx))
          case first =>
            go_wp2_with fail
            go_meet
            exact ⟨rfl, rfl, Lib.hid ((((((((HP.out.setW 0 (.bool fE.known) ⟨fE.known, g2, (g3, g4, g5), g6, g7, g8⟩ rfl).setW 1 (.bool fE.has) ⟨fE.known, fE.has, (g3, g4, g5), g6, g7, g8⟩ rfl).setW 2 (.string (Str fE.pair.1)) ⟨fE.known, fE.has, (fE.pair.1, g4, g5), g6, g7, g8⟩ rfl).setW 3 (.string (Str fE.pair.2.1)) ⟨fE.known, fE.has, (fE.pair.1, fE.pair.2.1, g5), g6, g7, g8⟩ rfl).setW 4 (.int .i64 fE.pair.2.2) ⟨fE.known, fE.has, fE.pair, g6, g7, g8⟩ rfl).setW 5 (.string (Str fE.key)) ⟨fE.known, fE.has, fE.pair, fE.key, g7, g8⟩ rfl).setW 6 (.bool fE.stamped) ⟨fE.known, fE.has, fE.pair, fE.key, fE.stamped, g8⟩ rfl).setW 7 (.int .i64 fE.stamp) fE rfl)⟩
          case rest =>
            obtain ⟨rfl, rfl, HP2⟩ := hcut
            clear HP e0 e1 e2 e3 e4 e5 e6 e7 y0 y1 y2 y3 y4 y5 y6 y7 x0 x1 x2' x3 x4 x5 x6 x7 hle hlw
            have hle := HP2.out.E.lt
            have hlw := HP2.out.W.lt
            have hll := HP2.out.L.lt
            obtain ⟨e1, e2, ⟨e3, e4, e5⟩, e6, e7, e8⟩ := fE
            have c0 := HP2.out.E.c0 0 _ rfl
            have c1 := HP2.out.E.c0 1 _ rfl
            have c6 := HP2.out.L.c0 6 _ rfl
            have f2 := HP2.out.W.free 2
            have x2c := HP2.out.W.c0 2 _ rfl
            cases e1 with
            | true =>
              cases e2 with
              | true =>
                go_upto_region 13 with fail
                go_cut [14] (fun s14 wx => s14 = .pointer (some ⟨w7.heap.size + 1 + 1, 0, none⟩) ∧ Hid (Quad w7 fA ⟨false, g2, (g3, g4, g5), g6, g7, g8⟩ ⟨true, true, (e3, e4, e5), e6, e7, e8⟩ ⟨true, true, (k, e4, e5), e6, e7, e8⟩ nE wx))
                case first =>
                  go_wp2_with fail
                  go_meet
                  exact ⟨rfl, Lib.hid (HP2.out.setW 2 (.string (Str k)) ⟨true, true, (k, e4, e5), e6, e7, e8⟩ rfl)⟩
                case rest =>
                  obtain ⟨rfl, HP3⟩ := hcut
                  clear HP2 c0 c1 c6 f2 x2c hle hlw hll
                  have hle := HP3.out.E.lt
                  have hlw := HP3.out.W.lt
                  have hll := HP3.out.L.lt
                  have c0 := HP3.out.E.c0 0 _ rfl
                  have c1 := HP3.out.E.c0 1 _ rfl
                  have c6 := HP3.out.L.c0 6 _ rfl
                  have c7 := HP3.out.L.c0 7 _ rfl
                  have f4 := HP3.out.W.free 4
                  have x4 := HP3.out.W.c0 4 _ rfl
                  cases g7 with
                  | true =>
                    have hA : fA = ⟨true, true, (k, e4, g8), e6, e7, e8⟩ := HE.out
                    go_wp2_with fail
                    go_meet
                    exact ⟨rfl, rfl, Lib.hid (HP3.out.setW 4 (.int .i64 g8) ⟨true, true, (k, e4, g8), e6, e7, e8⟩ rfl).g, Lib.hid (HP3.out.setW 4 (.int .i64 g8) ⟨true, true, (k, e4, g8), e6, e7, e8⟩ rfl).A, Lib.hid (by rw [hA]; exact (HP3.out.setW 4 (.int .i64 g8) ⟨true, true, (k, e4, g8), e6, e7, e8⟩ rfl).W)⟩
                  | false =>
                    have hA : fA = ⟨true, true, (k, e4, e5), e6, e7, e8⟩ := HE.out
                    go_wp2_with fail
                    go_meet
                    exact ⟨rfl, rfl, Lib.hid HP3.out.g, Lib.hid HP3.out.A, Lib.hid (by rw [hA]; exact HP3.out.W)⟩
              | false =>
                have hA : fA = ⟨true, false, (e3, e4, e5), e6, e7, e8⟩ := HE.out
                go_wp2_with fail
                go_meet
                exact ⟨rfl, rfl, Lib.hid HP2.out.g, Lib.hid HP2.out.A, Lib.hid (by rw [hA]; exact HP2.out.W)⟩
            | false =>
              obtain ⟨-, hz1, hz2⟩ := HKG2.out rfl
              dsimp only at hz1 hz2
              subst hz1
              obtain ⟨rfl, rfl, rfl⟩ : e3 = g6 ∧ e4 = [] ∧ e5 = 0 := by simpa using hz2
              clear hz2
              go_upto_region 13 with fail
              go_cut [14] (fun s14 wx => s14 = .pointer (some ⟨w7.heap.size + 1 + 1, 0, none⟩) ∧ Hid (Quad w7 fA ⟨false, g2, (g3, g4, g5), e3, g7, g8⟩ ⟨false, false, (e3, [], 0), e6, e7, e8⟩ ⟨false, false, (k, [], 0), e6, e7, e8⟩ nE wx))
              case first =>
                go_wp2_with fail
                go_meet
                exact ⟨rfl, Lib.hid (HP2.out.setW 2 (.string (Str k)) ⟨false, false, (k, [], 0), e6, e7, e8⟩ rfl)⟩
              case rest =>
                obtain ⟨rfl, HP3⟩ := hcut
                clear HP2 c0 c1 c6 f2 x2c hle hlw hll
                have hle := HP3.out.E.lt
                have hlw := HP3.out.W.lt
                have hll := HP3.out.L.lt
                have c0 := HP3.out.E.c0 0 _ rfl
                have c1 := HP3.out.E.c0 1 _ rfl
                have c6 := HP3.out.L.c0 6 _ rfl
                have c7 := HP3.out.L.c0 7 _ rfl
                have f6 := HP3.out.W.free 6
                have f7 := HP3.out.W.free 7
                have x6 := HP3.out.W.c0 6 _ rfl
                have x7 := HP3.out.W.c0 7 _ rfl
                cases g7 with
                | true =>
                  have hA : fA = ⟨false, false, (k, [], 0), e6, true, g8⟩ := HE.out
                  go_upto_region 15 with fail
                  go_cut [14] (fun s14 wx => s14 = .pointer (some ⟨w7.heap.size + 1 + 1, 0, none⟩) ∧ Hid (Quad w7 fA ⟨false, g2, (g3, g4, g5), e3, true, g8⟩ ⟨false, false, (e3, [], 0), e6, e7, e8⟩ ⟨false, false, (k, [], 0), e6, true, g8⟩ nE wx))
                  case first =>
                    have hne : w7.heap.size + 1 + 1 ≠ w7.heap.size + 1 := by omega
                    have hne2 : w7.heap.size + 1 ≠ w7.heap.size + 1 + 1 := by omega
                    go_region
                    all_goals
                      go_wp2_with fail
                      go_meet
                      first
                        | exact ⟨rfl, Lib.hid ((HP3.out.setW 6 (.bool true) ⟨false, false, (k, [], 0), e6, true, e8⟩ rfl).setW 7 (.int .i64 g8) ⟨false, false, (k, [], 0), e6, true, g8⟩ rfl)⟩
                        | exact ⟨rfl, Lib.hid ((HP3.out.setW 7 (.int .i64 g8) ⟨false, false, (k, [], 0), e6, e7, g8⟩ rfl).setW 6 (.bool true) ⟨false, false, (k, [], 0), e6, true, g8⟩ rfl)⟩
                        | exact ⟨rfl, Lib.hid ((HP3.out.drew.setW 6 (.bool true) ⟨false, false, (k, [], 0), e6, true, e8⟩ rfl).setW 7 (.int .i64 g8) ⟨false, false, (k, [], 0), e6, true, g8⟩ rfl)⟩
                        | exact ⟨rfl, Lib.hid ((HP3.out.drew.setW 7 (.int .i64 g8) ⟨false, false, (k, [], 0), e6, e7, g8⟩ rfl).setW 6 (.bool true) ⟨false, false, (k, [], 0), e6, true, g8⟩ rfl)⟩
                  case rest =>
                    obtain ⟨rfl, HP4⟩ := hcut
                    clear HP3 c0 c1 c6 c7 f6 f7 x6 x7 hle hlw hll
                    have hle := HP4.out.E.lt
                    have c1 := HP4.out.E.c0 1 _ rfl
                    go_wp2_with fail
                    go_meet
                    exact ⟨rfl, rfl, Lib.hid HP4.out.g, Lib.hid HP4.out.A, Lib.hid (by rw [hA]; exact HP4.out.W)⟩
                | false =>
                  have hA : fA = ⟨false, false, (k, [], 0), e6, e7, e8⟩ := HE.out
                  go_wp2_with fail
                  go_meet
                  exact ⟨rfl, rfl, Lib.hid HP3.out.g, Lib.hid HP3.out.A, Lib.hid (by rw [hA]; exact HP3.out.W)⟩
    case rest =>
      obtain ⟨rfl, rfl, HG8, XA8, XW8⟩ := hcut
      clear HG XA XL XW HKG HKF HKP z0 hsl
      have a8 := XA8.out.eightC
      have y8 := XW8.out.eightC
      have hqn := neq_same_fd fA
      have hlt1 := XA8.out.lt
      have hlt2 := XW8.out.lt
      obtain ⟨a0, a1, a2, a3, a4, a5, a6, a7⟩ := a8
      obtain ⟨y0, y1, y2, y3, y4, y5, y6, y7⟩ := y8
      go_upto_region 20 with fail
      have hHB := HB7.out.below HG8.out HB7.out.lt
      obtain ⟨-, z1, z2, -⟩ := hHB.three
      have hlb3 := hHB.lt
      have HSP := Lib.hid (fun wx => T4.span_w b c wx hb hc)
      obtain ⟨hs1, hs2⟩ := spanS_len b c
      generalize T4.spanS b c = sp at *
      obtain ⟨s1, s2⟩ := sp
      dsimp only at hs1 hs2
      clear XA8 XW8 a0 a1 a2 a3 a4 a5 a6 a7 y0 y1 y2 y3 y4 y5 y6 y7 hqn hlt1 hlt2 hHB
      go_wp2_with fail
      refine (HSP.out _).mono ?_
      rintro e9 w9 ⟨rfl, hb9⟩
      have HG9 := Lib.hid ((HG8.out.trans (hb9.mono HG8.out.size)).alloc (Nat.le_trans HG8.out.size hb9.size) (.cells #[.string (Str s1), .string (Str s2)] 35))
      have HN9 : Hid (Blk (w9.alloc (.cells #[.string (Str s1), .string (Str s2)] 35)) w9.heap.size 35 #[.string (Str s1), .string (Str s2)]) := Lib.hid (Blk.new _ _ _)
      clear hb9 HG8 z1 z2 hlb3 HSP
      obtain ⟨R, eR⟩ : ∃ R, R = spansF (s1, s2) mb := ⟨_, rfl⟩
      have hRl := spans_len (s1, s2) mb
      have HR5 := Lib.hid (spans_len5 (s := (s1, s2)) (M := 101) (by omega) (by dsimp only; omega) (by dsimp only; omega) HF5.out)
      have HNP := Lib.hid (spans_parts (s1, s2) (fun m hm => (HALA.out m hm).2) (fun m hm => (HALB.out m hm).2))
      rw [← eR] at hRl HR5 HNP
      have ER := Lib.hid eR
      clear eR
      have hRz : ¬ (400 : Int) < (R.length : Int) := by omega
      go_wp2_with fail
      refine (spans_any (s1, s2) (.slice p3 mb.length c3) mb _ ((HS7.out.m (.slice p3 mb.length c3, mb) (by simp)).below HG9.out) HALB.out (by omega) (by dsimp only; omega) (by dsimp only; omega)).mono ?_
      rintro e10 w10 ⟨v10, rfl, ho10, hb10⟩
      rw [← ER.out] at ho10
      have hm10 := IsSpans.owned ho10
      obtain ⟨g, off, cap, p10, rfl, hlc, hcm, hpp, hcc⟩ := hm10.form
      unfold maxLen at hcm
      have HPP := Lib.hid hpp
      have HCC := Lib.hid hcc
      have HG10 := Lib.hid (HG9.out.trans (hb10.mono HG9.out.size))
      have HN10 := Lib.hid (HN9.out.below hb10 HN9.out.lt)
      clear ho10 hm10 hb10 hpp hcc HG9 HN9
      go_wp2_with fail
      go_loopw [18, 19] (fun vs i wr => ∃ j : Nat, j ≤ R.length ∧ i = .int .i64 j ∧ Hid (wr.ownsRow w10.heap.size 35 2 vs (belowS R ma j).length ((belowS R ma j).flatMap encS)) ∧ Hid (Below w10.heap.size w10 wr)) (fun _ i _ => R.length - (intOf i).toNat)
      case atStart => exact ⟨0, Nat.zero_le _, rfl, Lib.hid (own_emptyS w10 w10.heap.size (Nat.le_refl _)), Lib.hid (below_box _)⟩
      case round =>
        obtain ⟨j, hj, rfl, HO, HW⟩ := hrel
        by_cases hlt : j < R.length
        · obtain ⟨rfl, c0, c1⟩ := HCC.out j hlt
          have hgl := (HPP.out (by rintro rfl; simp at hlt)).2
          have c0 := (HW.out.cell (p := ⟨g, off + j * 2, none⟩) (by exact hgl)).trans c0
          have c1 := (HW.out.cell (p := ⟨g, off + j * 2 + 1, none⟩) (by exact hgl)).trans c1
          have hjz : (j : Int) < (R.length : Int) := by omega
          have Hsu := Lib.hid (below_succ R ma j hlt)
          have hlj := below_len R ma j
          have hls := spans_len R[j] ma
          obtain ⟨ht1, ht2⟩ := HR5.out R[j] (List.getElem_mem hlt)
          generalize R[j] = t at *
          obtain ⟨t1, t2⟩ := t
          dsimp only at c0 c1 ht1 ht2
          have hjm : (1 + 3 * ma.length) * j ≤ 19 * 19 := Nat.mul_le_mul (by omega) (by omega)
          go_wp2_with (first
            | (go_at_call 11; refine (spans_any (t1, t2) (.slice p2 ma.length c2) ma wr (((HS7.out.m (.slice p2 ma.length c2, ma) (by simp)).below HG10.out).below HW.out) HALA.out (by omega) (by dsimp only; omega) (by dsimp only; omega)).mono ?_; rintro e11 w11 ⟨v11, rfl, ho11, hb11⟩
               have HX := Lib.hid (IsSpans.owned ho11)
               have HO2 := Lib.hid (owns_below HO.out hb11)
               have HW2 := Lib.hid (HW.out.trans (hb11.mono HW.out.size))
               clear ho11 hb11 HO HW)
            | (at_builtin; refine append_spans rfl _ _ rfl w10.heap.size _ (belowS R ma j) rfl HO2.out _ (spansF (t1, t2) ma) rfl HX.out (by omega) HW2.out.size ?_; intro v12 w12 hown12 hbel12
               have HO3 : Hid (w12.ownsRow w10.heap.size 35 2 v12 (belowS R ma (j + 1)).length ((belowS R ma (j + 1)).flatMap encS)) := Lib.hid (by rw [Hsu.out]; exact hown12)
               have HW3 := Lib.hid (HW2.out.trans hbel12)
               clear hown12 hbel12 HO2 HW2 HX))
          go_roundw
          case rel => exact ⟨j + 1, by omega, by go_num, HO3, HW3⟩
          case measure => simp [intOf]; omega
        · obtain rfl : j = R.length := by omega
          have hlj := below_len R ma R.length
          have hjm : (1 + 3 * ma.length) * R.length ≤ 19 * 19 := Nat.mul_le_mul (by omega) (by omega)
          have HBE : Hid (belowS R ma R.length = R.flatMap fun x => spansF x ma) := Lib.hid (below_all R ma)
          have HNW := Lib.hid (HN10.out.below HW.out HN10.out.lt)
          have n0 := HNW.out.c0 0 _ rfl
          have n1 := HNW.out.c0 1 _ rfl
          have hnl := HNW.out.lt
          have hlab2 : (ma ++ mb).length ≤ 30 := by omega
          go_wp2_with fail
          refine (spans_any (s1, s2) (.slice p5 (ma.length + mb.length) c5) (ma ++ mb) wr ((HM7.out.below HG10.out).below HW.out) HALL.out hlab2 (by dsimp only; omega) (by dsimp only; omega)).mono ?_
          rintro e11 w11 ⟨v11, rfl, ho11, hb11⟩
          have HX := Lib.hid (IsSpans.owned ho11)
          have HY := Lib.hid (IsSpans.owned (owns_below HO.out hb11))
          have HZ := Lib.hid (HG10.out.trans ((HW.out.trans (hb11.mono HW.out.size)).mono HG10.out.size))
          clear ho11 hb11 HO HW HNW n0 n1 hnl
          go_wp2_with fail
          refine (rnorm_w _ (belowS R ma R.length) w11 HY.out (by omega)).mono ?_
          rintro e12 w12 ⟨v12, rfl, ho12, hb12⟩
          rw [HBE.out, HNP.out] at ho12
          have HY2 := Lib.hid (IsSpans.owned ho12)
          have HX2 := Lib.hid (HX.out.below hb12)
          have HZ2 := Lib.hid (HZ.out.trans (hb12.mono HZ.out.size))
          clear ho12 hb12 HX HY HZ
          go_wp2_with fail
          refine (spsame_w v11 v12 (spansF (s1, s2) (ma ++ mb)) (spansF (s1, s2) (ma ++ mb)) w12 HX2.out HY2.out).mono ?_
          rintro e13 w13 ⟨rfl, hg13⟩
          have HE13 := Lib.hid (HS7.out.g.trans ((HZ2.out.trans (hg13.below HZ2.out.size)).mono HS7.out.g.size))
          clear hg13 HX2 HY2 HZ2
          rw [decide_eq_true rfl]
          go_wp2_with fail
          go_ret
          exact ⟨rfl, HE13.out⟩

end Go.Proofs.Ythncnijkgkeohaa
