/-
  The walk of the law TraceEnds.
-/
import Derived.Test.YthncnijkgkeohaaIG
namespace Go.Proofs.Ythncnijkgkeohaa
open Go.RowKit Go.Sort
set_option linter.unusedVariables false

theorem own_empty_at {n : Nat} (W : World) (B : Nat) (hn : n = W.heap.size) (hB : B ≤ n) : OwnM (W.alloc (.cells #[] 49)) B (.slice (some ⟨n, 0, none⟩) 0 0) [] := by
  subst hn
  exact ⟨rfl, .inr ⟨W.heap.size, 0, #[], rfl, hB, Blk.new _ _ _, Nat.le_refl _, by unfold maxLen; omega, rfl, rfl⟩⟩
theorem own_form7 {w : World} {base n : Nat} {e : TypeId} {size : Nat} {v : Value} {xs : List Value} (h : w.ownsRow base e size v n xs) : ∃ p cap, v = .slice p n cap ∧ n ≤ cap ∧ cap ≤ maxLen := by
  have hl := h.1
  rcases h.2 with ⟨rfl, h0⟩ | ⟨g, cap, cur, rfl, hb, hg, hn, hm, _⟩
  · exact ⟨none, 0, by rw [h0], by omega, by unfold maxLen; omega⟩
  · exact ⟨_, cap, rfl, hn, hm⟩
theorem below_box' {W : World} {n : Nat} (hn : n = W.heap.size) (o : Obj) : Below n W (W.alloc o) := by subst hn; exact below_box o
theorem ek_nil (s : Bs) (w : World) (hs : s.length ≤ 60) : Calls Try.prog 9 #[.string (Str s), .slice none 0 0] w fun e w' => e = .returned (fV false false (Str s) ⟨#[]⟩ 0 (Str s) false 0) ∧ Below w.heap.size w w' :=
  key_any s (.slice none 0 0) [] w (isMsgs_nil _) (fun m hm => by cases hm) (by simp) (by omega)
theorem ek_put (s : Bs) (n : Int) (v : Value) (ms : List Ms) (w : World) (hv : IsMsgs w v (ms ++ [putM s n])) (ho : ∀ m ∈ ms, Ok m) (hl : ms.length ≤ 10) (h1 : 1 ≤ s.length) (h2 : s.length ≤ 60) (h3 : 0 ≤ n) (h4 : n ≤ 1000000000) : Calls Try.prog 9 #[.string (Str s), v] w fun e w' => e = .returned (fV true true (Str s) ⟨#[118]⟩ n ⟨#[]⟩ false 0) ∧ Below w.heap.size w w' := by
  have h := key_any s v (ms ++ [putM s n]) w hv (fun m hm => by
    rcases List.mem_append.1 hm with h | h
    · exact ho m h
    · rw [List.mem_singleton] at h; subst h; exact putM_ok _ _ (by omega) (by omega) h3 h4) (by simp; omega) (by omega)
  rw [key_put] at h
  exact h
theorem drop_ok {ms : List Ms} (ho : ∀ m ∈ ms, Ok m) : ∀ m ∈ ms ++ [dropM], Ok m := fun m hm => by
  rcases List.mem_append.1 hm with h | h
  · exact ho m h
  · rw [List.mem_singleton] at h; subst h; exact dropM_ok
theorem ek_drop (s : Bs) (v : Value) (ms : List Ms) (w : World) (hv : IsMsgs w v (ms ++ [dropM])) (ho : ∀ m ∈ ms, Ok m) (hl : ms.length ≤ 10) (h2 : s.length ≤ 60) : Calls Try.prog 9 #[.string (Str s), v] w fun e w' => e = .returned (fV true false ⟨#[]⟩ ⟨#[]⟩ 0 ⟨#[]⟩ false 0) ∧ Below w.heap.size w w' := by
  have h := key_any s v (ms ++ [dropM]) w hv (drop_ok ho) (by simp; omega) (by omega)
  rw [key_drop] at h
  exact h
theorem ev_put (s : Bs) (n : Int) (w : World) : Calls Try.prog 17 #[fV true true (Str s) ⟨#[118]⟩ n ⟨#[]⟩ false 0, .agg #[.string ⟨#[]⟩, .string ⟨#[]⟩, .int .i64 0], .bool false] w fun e w' => e = .returned (.tuple #[.agg #[.string (Str s), .string ⟨#[118]⟩, .int .i64 n], .bool true]) ∧ Grown w w' :=
  tvalue_w ⟨true, true, (s, [118], n), [], false, 0⟩ ([], [], 0) false w
theorem es_drop (v : Value) (ms : List Ms) (w : World) (hv : IsMsgs w v (ms ++ [dropM])) (ho : ∀ m ∈ ms, Ok m) (hl : ms.length ≤ 10) : Calls Try.prog 11 #[.agg #[.string ⟨#[]⟩, .string ⟨#[]⟩], v] w fun e w' => (∃ p c, e = .returned (.slice p 0 c)) ∧ Below w.heap.size w w' :=
  (spans_any ([], []) v (ms ++ [dropM]) w hv (drop_ok ho) (by simp; omega) (by simp) (by simp)).mono fun e w' ⟨v', h1, h2, h3⟩ => by
    rw [spans_drop (fun m hm => (ho m hm).2)] at h2
    have h4 := IsSpans.owned h2
    obtain ⟨p, c, rfl, -⟩ := id h4
    exact ⟨⟨p, c, h1⟩, h3⟩
theorem es_one (s : Bs) (w : World) (hs : s.length ≤ 60) : Calls Try.prog 11 #[.agg #[.string (Str s), .string ⟨#[]⟩], .slice none 0 0] w fun e w' => ∃ p c, e = .returned (.slice p 1 c) ∧ IsSpans w' (.slice p 1 c) [(s, [])] ∧ Below w.heap.size w w' :=
  (spans_any (s, []) (.slice none 0 0) [] w (isMsgs_nil _) (fun m hm => by cases hm) (by simp) (by simp; omega) (by simp)).mono fun e w' ⟨v', h1, h2, h3⟩ => by
    rw [spans_one] at h2
    have h4 := IsSpans.owned h2
    obtain ⟨p, c, rfl, -⟩ := id h4
    exact ⟨p, c, h1, h4, h3⟩
theorem new_sp1 {n : Nat} (s : Bs) (W : World) (hn : n = W.heap.size) : IsSpans (W.alloc (.cells #[.string (Str s), .string ⟨#[]⟩] 35)) (.slice (some ⟨n, 0, none⟩) 1 1) [(s, [])] := by
  subst hn
  refine ⟨_, 1, rfl, Nat.le_refl _, by unfold maxLen; omega, fun _ => ⟨_, 0, rfl, by simp, fun i hi => ?_⟩⟩
  match i, hi with
  | 0, _ => simp [World.cell?_alloc_new, Str]
theorem eqf_none (s : Bs) (w : World) : (binOp .eql 32 (fV false false (Str s) ⟨#[]⟩ 0 (Str s) false 0) (fV false false (Str s) ⟨#[]⟩ 0 (Str s) false 0)).run Try.prog w = .ok (.bool true) w := eql_same_fd ⟨false, false, (s, [], 0), s, false, 0⟩ w
theorem eqf_drop (w : World) : (binOp .eql 32 (fV true false ⟨#[]⟩ ⟨#[]⟩ 0 ⟨#[]⟩ false 0) (fV true false ⟨#[]⟩ ⟨#[]⟩ 0 ⟨#[]⟩ false 0)).run Try.prog w = .ok (.bool true) w := eql_same_fd ⟨true, false, ([], [], 0), [], false, 0⟩ w
theorem eqp_same (s : Bs) (n : Int) (w : World) : (binOp .eql 30 (.agg #[.string (Str s), .string ⟨#[118]⟩, .int .i64 n]) (.agg #[.string (Str s), .string ⟨#[118]⟩, .int .i64 n])).run Try.prog w = .ok (.bool true) w :=
  (T4.eql_pair s [118] n s [118] n w).trans (by simp [T4.prQ])
set_option maxRecDepth 100000 in
set_option maxHeartbeats 4000000 in
theorem traceEnds_walk (w : World) (v0 : Value) (x0 : List R6) (h0 : IsR6s w v0 x0) (v1 : Value) (x1 : Bs) (h1 : v1 = .string (Str x1) ∧ x1.length ≤ maxLen) (v2 : Value) (x2 : Nat) (h2 : v2 = .int .u32 x2 ∧ x2 < 4294967296) :
    Calls Try.prog 5 #[v0, v1, v2] w fun e w' => e = .returned (.bool true) ∧ Below w.heap.size w w' := by
  obtain ⟨rfl, h1⟩ := h1
  obtain ⟨rfl, h2⟩ := h2
  unfold maxLen at h1
  have hsz := size_Str x1
  have H0 := Lib.hid h0
  clear h0
  by_cases hlong : 60 < x1.length
  · have hlz : (60 : Int) < (x1.length : Int) := by omega
    clear H0
    go_enter Try.func5, Try.ntmps5
    go_wp2_with fail
    refine (sanity_w w).mono ?_
    rintro e0 w0 ⟨rfl, hb0⟩
    have HB := Lib.hid hb0
    clear hb0
    go_wp2
    go_ret
    exact ⟨rfl, HB.out⟩
  have hlz : ¬ (60 : Int) < (x1.length : Int) := by omega
  by_cases hnil : x1.length = 0
  · have hnz : ((x1.length : Int) == 0) = true := by rw [hnil]; rfl
    clear H0 hnil
    go_enter Try.func5, Try.ntmps5
    go_wp2_with fail
    refine (sanity_w w).mono ?_
    rintro e0 w0 ⟨rfl, hb0⟩
    have HB := Lib.hid hb0
    clear hb0
    go_wp2
    go_ret
    exact ⟨rfl, HB.out⟩
  have hnz : ((x1.length : Int) == 0) = false := beq_eq_false_iff_ne.2 (by omega)
  obtain ⟨ms, ems⟩ : ∃ r, r = listS x0 10 := ⟨_, rfl⟩
  have hall : ∀ m ∈ ms, Ok m ∧ Few m := by rw [ems]; exact listS_all _ _
  have hml : ms.length ≤ 10 := by rw [ems]; exact listS_len _ _
  have HALL := Lib.hid (fun m hm => (hall m hm).1)
  have Ems := Lib.hid ems
  clear hall ems
  go_enter Try.func5, Try.ntmps5
  go_wp2_with fail
  refine (sanity_w w).mono ?_
  rintro e0 w0 ⟨rfl, hb0⟩
  have S0 := Lib.hid (Sx.start hb0)
  clear hb0
  go_wp2_with fail
  refine (sx_list S0.out (H0.out.below S0.out.g) 10 (by omega) ms Ems.out).mono ?_
  rintro e2 w2 ⟨p2, c2, rfl, hs2⟩
  have S2 := Lib.hid hs2
  clear hs2 S0
  go_wp2_with fail
  refine (ek_nil x1 w2 (by omega)).mono ?_
  rintro e3 w3 ⟨rfl, hb3⟩
  have S3 := Lib.hid ((S2.out.below hb3).alloc (.cells (fA false false (Str x1) ⟨#[]⟩ 0 (Str x1) false 0) 32))
  have F3 : Hid (Blk (w3.alloc (.cells (fA false false (Str x1) ⟨#[]⟩ 0 (Str x1) false 0) 32)) w3.heap.size 32 (fA false false (Str x1) ⟨#[]⟩ 0 (Str x1) false 0)) := Lib.hid (Blk.new _ _ _)
  clear hb3 S2
  have hE1 := Lib.hid (own_empty_at (n := w3.heap.size + 1) (w3.alloc (.cells (fA false false (Str x1) ⟨#[]⟩ 0 (Str x1) false 0) 32)) (w3.heap.size + 1) (by simp) (Nat.le_refl _))
  have hM3 := Lib.hid ((S3.out.m (.slice p2 ms.length c2, ms) (by simp)).below (below_box (.cells #[] 49)))
  go_wp2_with (at_builtin; first
    | (refine append_msgs rfl _ _ rfl (w3.heap.size + 1) (.slice (some ⟨w3.heap.size + 1, 0, none⟩) 0 0) [] rfl ?a1 (.slice p2 ms.length c2) ms rfl ?a2 ?a3 ?a4 ?_; (case a1 => exact hE1.out); (case a2 => exact hM3.out); (case a3 => simp; omega); (case a4 => simp); intro v4 w4 hown4 hbel4; rw [List.nil_append] at hown4; obtain ⟨p4, c4, rfl, hd4, hd4'⟩ := own_form7 hown4
       have hB4 : Hid (Below (w3.heap.size + 1) (w3.alloc (.cells (fA false false (Str x1) ⟨#[]⟩ 0 (Str x1) false 0) 32)) w4) := Lib.hid ((below_box' (by simp) _).trans hbel4)
       have hO4 := Lib.hid hown4
       clear hown4 hbel4 hE1 hM3)
    | (refine append_msg rfl _ _ rfl (w3.heap.size + 1) (.slice p4 ms.length c4) ms rfl ?a1 ⟨w4.heap.size, 0, none⟩ 1 dropM rfl (cells_new' w4 (encML dropM) 49 rfl) ?a2 ?a3 ?_; (case a1 => exact hO4.out.below (below_box _)); (case a2 => omega); (case a3 => exact Nat.le_trans (Nat.le_trans (by simp) hB4.out.size) (by simp)); intro v5 w5 hown5 hbel5; obtain ⟨p5, c5, rfl, -, -⟩ := own_form7 hown5
       have hB5 := Lib.hid ((hB4.out.trans ((below_box _).mono (Nat.le_trans (by simp) hB4.out.size))).trans hbel5)
       have S5 := Lib.hid ((S3.out.below (hB5.out.mono (by simp))).addM hown5.msgs)
       have F5 := Lib.hid (F3.out.below hB5.out (Nat.lt_succ_self _))
       clear hB4 hO4 hown5 hbel5 hB5 S3 F3 hd4 hd4'
       have hE1 := Lib.hid (own_empty_at (n := w5.heap.size) w5 w5.heap.size rfl (Nat.le_refl _))
       have hM3 := Lib.hid ((S5.out.m (.slice p2 ms.length c2, ms) (by simp)).below (below_box (.cells #[] 49))))
    | (refine append_msgs rfl _ _ rfl w5.heap.size (.slice (some ⟨w5.heap.size, 0, none⟩) 0 0) [] rfl ?a1 (.slice p2 ms.length c2) ms rfl ?a2 ?a3 ?a4 ?_; (case a1 => exact hE1.out); (case a2 => exact hM3.out); (case a3 => simp; omega); (case a4 => simp); intro v6 w6 hown6 hbel6; rw [List.nil_append] at hown6; obtain ⟨p6, c6, rfl, hd6, hd6'⟩ := own_form7 hown6
       have hB6 := Lib.hid ((below_box (w := w5) (.cells #[] 49)).trans hbel6)
       have hO6 := Lib.hid hown6
       clear hown6 hbel6 hE1 hM3)
    | (refine append_msg rfl _ _ rfl w5.heap.size (.slice p6 ms.length c6) ms rfl ?a1 ⟨w6.heap.size, 0, none⟩ 1 (putM x1 ((x2 : Int) % 1000000001)) rfl (cells_new' w6 (encML (putM x1 ((x2 : Int) % 1000000001))) 49 rfl) ?a2 ?a3 ?_; (case a1 => exact hO6.out.below (below_box _)); (case a2 => omega); (case a3 => exact Nat.le_trans hB6.out.size (by simp)); intro v7 w7 hown7 hbel7; obtain ⟨p7, c7, rfl, -, -⟩ := own_form7 hown7
       have hB7 := Lib.hid ((hB6.out.trans ((below_box _).mono hB6.out.size)).trans hbel7)
       have S7 := Lib.hid ((S5.out.below hB7.out).addM hown7.msgs)
       have F7 := Lib.hid (F5.out.below hB7.out F5.out.lt)
       clear hB6 hO6 hown7 hbel7 hB7 S5 F5 hd6 hd6'))
  have hn0 : 0 ≤ (x2 : Int) % 1000000001 := by omega
  have hn1 : (x2 : Int) % 1000000001 ≤ 1000000000 := by omega
  have HP7 : Hid (IsMsgs w7 (.slice p7 (ms.length + 1) c7) (ms ++ [putM x1 ((x2 : Int) % 1000000001)])) := Lib.hid (by
    have h := S7.out.m (.slice p7 (ms ++ [putM x1 ((x2 : Int) % 1000000001)]).length c7, ms ++ [putM x1 ((x2 : Int) % 1000000001)]) (by simp)
    rw [List.length_append] at h
    exact h)
  have HD7 : Hid (IsMsgs w7 (.slice p5 (ms.length + 1) c5) (ms ++ [dropM])) := Lib.hid (by
    have h := S7.out.m (.slice p5 (ms ++ [dropM]).length c5, ms ++ [dropM]) (by simp)
    rw [List.length_append] at h
    exact h)
  have HG7 := Lib.hid S7.out.g
  clear S7
  refine (ek_put x1 ((x2 : Int) % 1000000001) (.slice p7 (ms.length + 1) c7) ms w7 HP7.out HALL.out hml (by omega) (by omega) hn0 hn1).mono ?_
  clear HP7
  rintro e8 w8 ⟨rfl, hb8⟩
  have F8 := Lib.hid (F7.out.below hb8 F7.out.lt)
  have HD8 := Lib.hid (HD7.out.below hb8)
  have HG8 := Lib.hid (HG7.out.trans (hb8.mono HG7.out.size))
  clear hb8 F7 HD7 HG7
  go_wp2_with fail
  refine (ev_put x1 ((x2 : Int) % 1000000001) w8).mono ?_
  rintro e9 w9 ⟨rfl, hg9⟩
  have hb9 := hg9.below (Nat.le_refl _)
  have F9 := Lib.hid ((F8.out.below hb9 F8.out.lt).alloc (.cells #[.string (Str x1), .string ⟨#[118]⟩, .int .i64 ((x2 : Int) % 1000000001)] 30))
  have P9 : Hid (Blk (w9.alloc (.cells #[.string (Str x1), .string ⟨#[118]⟩, .int .i64 ((x2 : Int) % 1000000001)] 30)) w9.heap.size 30 #[.string (Str x1), .string ⟨#[118]⟩, .int .i64 ((x2 : Int) % 1000000001)]) := Lib.hid (Blk.new _ _ _)
  have HD9 := Lib.hid ((HD8.out.below hb9).below (below_box (.cells #[.string (Str x1), .string ⟨#[118]⟩, .int .i64 ((x2 : Int) % 1000000001)] 30)))
  have HG9 := Lib.hid ((HG8.out.trans (hb9.mono HG8.out.size)).alloc (Nat.le_trans HG8.out.size hb9.size) (.cells #[.string (Str x1), .string ⟨#[118]⟩, .int .i64 ((x2 : Int) % 1000000001)] 30))
  have hlf := (F8.out.below hb9 F8.out.lt).lt
  obtain ⟨z0, z1, z2, z3, z4, z5, z6, z7⟩ := (F8.out.below hb9 F8.out.lt).eightC
  clear hb9 hg9 F8 HD8 HG8
  have hq0 := eqf_none x1
  go_wp2_with fail
  refine (ek_drop x1 (.slice p5 (ms.length + 1) c5) ms _ HD9.out HALL.out hml (by omega)).mono ?_
  rintro e10 w10 ⟨rfl, hb10⟩
  have P10 := Lib.hid (P9.out.below hb10 P9.out.lt)
  have HD10 := Lib.hid (HD9.out.below hb10)
  have HG10 := Lib.hid (HG9.out.trans (hb10.mono HG9.out.size))
  clear hb10 F9 P9 HD9 HG9 z0 z1 z2 z3 z4 z5 z6 z7 hlf hq0
  have hq0 := eqf_drop
  go_wp2_with fail
  refine (es_drop (.slice p5 (ms.length + 1) c5) ms w10 HD10.out HALL.out hml).mono ?_
  rintro e11 w11 ⟨⟨p11, c11, rfl⟩, hb11⟩
  have P11 := Lib.hid (P10.out.below hb11 P10.out.lt)
  have HG11 := Lib.hid (HG10.out.trans (hb11.mono HG10.out.size))
  clear hb11 P10 HD10 HG10 hq0
  have hlp := P11.out.lt
  obtain ⟨y0, y1, y2, -⟩ := P11.out.three
  have hq0 := eqp_same x1 ((x2 : Int) % 1000000001)
  go_wp2_with fail
  refine (es_one x1 w11 (by omega)).mono ?_
  rintro e12 w12 ⟨p12, c12, rfl, hs12, hb12⟩
  have HG12 := Lib.hid (HG11.out.trans (hb12.mono HG11.out.size))
  have HS12 := Lib.hid hs12
  clear hb12 hs12 P11 HG11 hq0 y0 y1 y2 hlp
  go_wp2_with fail
  refine (spsame_w (.slice p12 1 c12) (.slice (some ⟨w12.heap.size, 0, none⟩) 1 1) [(x1, [])] [(x1, [])] (w12.alloc (.cells #[.string (Str x1), .string ⟨#[]⟩] 35)) (HS12.out.below (below_box _)) (new_sp1 x1 w12 rfl)).mono ?_
  rintro e13 w13 ⟨rfl, hg13⟩
  have HG13 := Lib.hid ((HG12.out.alloc HG12.out.size (.cells #[.string (Str x1), .string ⟨#[]⟩] 35)).trans (hg13.below (Nat.le_trans HG12.out.size (by simp))))
  clear hg13 HG12 HS12
  rw [decide_eq_true rfl]
  go_wp2_with fail
  go_ret
  exact ⟨rfl, HG13.out⟩

end Go.Proofs.Ythncnijkgkeohaa
