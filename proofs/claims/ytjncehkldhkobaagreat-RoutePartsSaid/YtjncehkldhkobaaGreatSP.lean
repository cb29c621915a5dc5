/-
  The walk of the law RouteParts: its first regions.
-/
import Derived.Test.YtjncehkldhkobaaGreatSN
namespace Go.Proofs.YtjncehkldhkobaaGreat
open Go.RowKit Go.Sort
set_option linter.unusedVariables false

def zerM : Array Value := #[.int .i64 0, .string ⟨#[]⟩, .string ⟨#[]⟩, .string ⟨#[]⟩, .string ⟨#[]⟩, .string ⟨#[]⟩, .string ⟨#[]⟩, .int .i64 0]
theorem zer_str (o : Nat) (x : Bs) (h : zerM[o]? = some (.string (Str x))) : x = [] := by
  have e : ∀ s : ByteArray, s = ⟨#[]⟩ → s = Str x → x = [] := fun s h1 h2 => by
    have := congrArg ByteArray.toList h2
    rw [toList_Str, h1, show (⟨#[]⟩ : ByteArray) = Str [] from rfl, toList_Str] at this
    exact this.symm
  unfold zerM at h
  rcases o with _ | _ | _ | _ | _ | _ | _ | _ | o
  all_goals simp at h
  all_goals exact e _ rfl h
theorem strs_keep {y wz : World} {v : Value} {ps : List Bs} {n : Nat} (h : IsStrs y v ps) (hne : ∀ x ∈ ps, x ≠ []) (hz : Blk y n 40 zerM ∨ y.heap.size ≤ n) (hk : ∀ k, k < y.heap.size → k ≠ n → wz.heap[k]? = y.heap[k]?) (hs : y.heap.size ≤ wz.heap.size) : IsStrs wz v ps := by
  obtain ⟨a, cap, rfl, h1, h2, h3⟩ := h
  refine ⟨a, cap, rfl, h1, h2, fun hps => ?_⟩
  obtain ⟨b, off, rfl, hb, hc⟩ := h3 hps
  have hbn : b ≠ n := by
    rintro rfl
    rcases hz with hz | hz
    · have h0 : 0 < ps.length := by cases ps; exact absurd rfl hps; simp
      have hx := hc 0 h0
      have hnn := hne ps[0] (List.getElem_mem _)
      rw [hz.cell] at hx
      exact hnn (zer_str _ _ hx)
    · omega
  refine ⟨b, off, rfl, Nat.lt_of_lt_of_le hb hs, fun i hi => ?_⟩
  have := hc i hi
  unfold World.cell? at this ⊢
  rw [hk b hb hbn]
  exact this

theorem srt_ne : ∀ {ps : List Bs}, SrtP ps → ∀ x ∈ ps, x ≠ []
  | [], _, x, h => by cases h
  | p :: r, hs, x, h => by
    rcases List.mem_cons.1 h with rfl | h
    · exact hs.1
    · exact srt_ne hs.2.2 x h
/-- What region 2 leaves: the table, the box of the message, the pivots. -/
def PtAt (w : World) (T : List Pr) (m : Ms) (ps : List Bs) (s8 s9 s10 : Value) (wx : World) : Prop :=
  ∃ n a c p d, s9 = .pointer (some ⟨n, 0, none⟩) ∧ s8 = .slice a T.length c ∧ s10 = .slice p ps.length d ∧ Blk wx n 40 (encM m) ∧ IsPairs wx (.slice a T.length c) T ∧ IsStrs wx (.slice p ps.length d) ps ∧ Below w.heap.size w wx
theorem pt_fin {w wx y2 y4 wz : World} {T : List Pr} {m : Ms} {ps : List Bs} {n : Nat} {a p : Option Addr} {c d : Nat} (h8 : y2.ownsRow wx.heap.size 82 3 (.slice a T.length c) T.length (T.flatMap encP)) (hT : ∀ x ∈ T, x.1.length ≤ maxLen ∧ x.2.1.length ≤ maxLen)
    (hn : n < wx.heap.size ∨ y2.heap.size ≤ n) (h24 : Below y2.heap.size y2 y4) (hps : IsStrs y4 (.slice p ps.length d) ps) (hs : SrtP ps) (hz : Blk y4 n 40 zerM ∨ y4.heap.size ≤ n) (hk : ∀ k, k < y4.heap.size → k ≠ n → wz.heap[k]? = y4.heap[k]?) (hsz : y4.heap.size ≤ wz.heap.size) (hB : Blk wz n 40 (encM m)) (hb : Below w.heap.size w wz) :
    PtAt w T m ps (.slice a T.length c) (.pointer (some ⟨n, 0, none⟩)) (.slice p ps.length d) wz := by
  refine ⟨n, a, c, p, d, rfl, rfl, rfl, hB, ?_, strs_keep hps (srt_ne hs) hz hk hsz, hb⟩
  refine IsPairs.owned (owns_keep h8 fun k h1 h2 => ?_) hT
  have hk4 : k < y4.heap.size := Nat.lt_of_lt_of_le h2 h24.size
  rw [hk k hk4 (by omega)]
  exact h24.block k h2
theorem set8 {wy : World} {n : Nat} {m : Ms} (h : Blk wy n 40 zerM) : Blk ((((((((wy.setCell ⟨n, 0, none⟩ (.int .i64 m.kind)).setCell ⟨n, 1, none⟩ (.string (Str m.key))).setCell ⟨n, 2, none⟩ (.string (Str m.val))).setCell ⟨n, 3, none⟩ (.string (Str m.lo))).setCell ⟨n, 4, none⟩ (.string (Str m.hi))).setCell ⟨n, 5, none⟩ (.string (Str m.src))).setCell ⟨n, 6, none⟩ (.string (Str m.dst))).setCell ⟨n, 7, none⟩ (.int .i64 m.n)) n 40 (encM m) := by
  have h8 := (Blk.setCell (Blk.setCell (Blk.setCell (Blk.setCell (Blk.setCell (Blk.setCell (Blk.setCell (Blk.setCell h 0 (.int .i64 m.kind)) 1 (.string (Str m.key))) 2 (.string (Str m.val))) 3 (.string (Str m.lo))) 4 (.string (Str m.hi))) 5 (.string (Str m.src))) 6 (.string (Str m.dst))) 7 (.int .i64 m.n))
  have e : ((((((((zerM.setIfInBounds 0 (.int .i64 m.kind)).setIfInBounds 1 (.string (Str m.key))).setIfInBounds 2 (.string (Str m.val))).setIfInBounds 3 (.string (Str m.lo))).setIfInBounds 4 (.string (Str m.hi))).setIfInBounds 5 (.string (Str m.src))).setIfInBounds 6 (.string (Str m.dst))).setIfInBounds 7 (.int .i64 m.n)) = encM m := by unfold zerM encM; simp
  rw [e] at h8
  exact h8
theorem set8k {wy : World} {n : Nat} {m : Ms} (k : Nat) (hk : k ≠ n) : ((((((((wy.setCell ⟨n, 0, none⟩ (.int .i64 m.kind)).setCell ⟨n, 1, none⟩ (.string (Str m.key))).setCell ⟨n, 2, none⟩ (.string (Str m.val))).setCell ⟨n, 3, none⟩ (.string (Str m.lo))).setCell ⟨n, 4, none⟩ (.string (Str m.hi))).setCell ⟨n, 5, none⟩ (.string (Str m.src))).setCell ⟨n, 6, none⟩ (.string (Str m.dst))).setCell ⟨n, 7, none⟩ (.int .i64 m.n)).heap[k]? = wy.heap[k]? := by
  rw [Below.heap_setCell _ _ _ _ hk, Below.heap_setCell _ _ _ _ hk, Below.heap_setCell _ _ _ _ hk, Below.heap_setCell _ _ _ _ hk, Below.heap_setCell _ _ _ _ hk, Below.heap_setCell _ _ _ _ hk, Below.heap_setCell _ _ _ _ hk, Below.heap_setCell _ _ _ _ hk]
theorem set8b {w wy : World} {n : Nat} {m : Ms} (h : Below w.heap.size w wy) (hn : w.heap.size ≤ n) : Below w.heap.size w ((((((((wy.setCell ⟨n, 0, none⟩ (.int .i64 m.kind)).setCell ⟨n, 1, none⟩ (.string (Str m.key))).setCell ⟨n, 2, none⟩ (.string (Str m.val))).setCell ⟨n, 3, none⟩ (.string (Str m.lo))).setCell ⟨n, 4, none⟩ (.string (Str m.hi))).setCell ⟨n, 5, none⟩ (.string (Str m.src))).setCell ⟨n, 6, none⟩ (.string (Str m.dst))).setCell ⟨n, 7, none⟩ (.int .i64 m.n)) :=
  (((((((h.setCell hn _).setCell hn _).setCell hn _).setCell hn _).setCell hn _).setCell hn _).setCell hn _).setCell hn _

theorem blk_madeP {W w2 : World} {T : TypeId} {cs : Array Value} (hb : Below (W.alloc (.cells cs T)).heap.size (W.alloc (.cells cs T)) w2) : Blk w2 W.heap.size T cs := Blk.below (Blk.new W T cs) hb (by simp)
theorem set8s {wy : World} {n : Nat} {m : Ms} : ((((((((wy.setCell ⟨n, 0, none⟩ (.int .i64 m.kind)).setCell ⟨n, 1, none⟩ (.string (Str m.key))).setCell ⟨n, 2, none⟩ (.string (Str m.val))).setCell ⟨n, 3, none⟩ (.string (Str m.lo))).setCell ⟨n, 4, none⟩ (.string (Str m.hi))).setCell ⟨n, 5, none⟩ (.string (Str m.src))).setCell ⟨n, 6, none⟩ (.string (Str m.dst))).setCell ⟨n, 7, none⟩ (.int .i64 m.n)).heap.size = wy.heap.size := by simp
theorem pt_set {w wx y2 y4 : World} {T : List Pr} {m : Ms} {ps : List Bs} {n : Nat} {a p : Option Addr} {c d : Nat} (hz : Blk y4 n 40 zerM) (h8 : y2.ownsRow wx.heap.size 82 3 (.slice a T.length c) T.length (T.flatMap encP)) (hT : ∀ x ∈ T, x.1.length ≤ maxLen ∧ x.2.1.length ≤ maxLen)
    (hn : n < wx.heap.size ∨ y2.heap.size ≤ n) (h24 : Below y2.heap.size y2 y4) (hps : IsStrs y4 (.slice p ps.length d) ps) (hs : SrtP ps) (hb : Below w.heap.size w y4) (hwn : w.heap.size ≤ n) :
    PtAt w T m ps (.slice a T.length c) (.pointer (some ⟨n, 0, none⟩)) (.slice p ps.length d) ((((((((y4.setCell ⟨n, 0, none⟩ (.int .i64 m.kind)).setCell ⟨n, 1, none⟩ (.string (Str m.key))).setCell ⟨n, 2, none⟩ (.string (Str m.val))).setCell ⟨n, 3, none⟩ (.string (Str m.lo))).setCell ⟨n, 4, none⟩ (.string (Str m.hi))).setCell ⟨n, 5, none⟩ (.string (Str m.src))).setCell ⟨n, 6, none⟩ (.string (Str m.dst))).setCell ⟨n, 7, none⟩ (.int .i64 m.n)) :=
  pt_fin h8 hT hn h24 hps hs (.inl hz) (fun k _ hk => set8k k hk) (Nat.le_of_eq set8s.symm) (set8 hz) (set8b hb hwn)
theorem pt_new {w wx y2 y4 : World} {T : List Pr} {m : Ms} {ps : List Bs} {a p : Option Addr} {c d : Nat} (h8 : y2.ownsRow wx.heap.size 82 3 (.slice a T.length c) T.length (T.flatMap encP)) (hT : ∀ x ∈ T, x.1.length ≤ maxLen ∧ x.2.1.length ≤ maxLen)
    (h24 : Below y2.heap.size y2 y4) (hps : IsStrs y4 (.slice p ps.length d) ps) (hs : SrtP ps) (hb : Below w.heap.size w y4) :
    PtAt w T m ps (.slice a T.length c) (.pointer (some ⟨y4.heap.size, 0, none⟩)) (.slice p ps.length d) (y4.alloc (.cells (encM m) 40)) :=
  pt_fin h8 hT (.inr h24.size) h24 hps hs (.inr (Nat.le_refl _)) (fun k h _ => Below.heap_alloc _ _ _ h) (by simp) (Blk.new _ _ _) (keepA hb _)

set_option maxRecDepth 100000 in
set_option maxHeartbeats 8000000 in
theorem routeParts_walk (w : World) (v0 : Value) (x0 : List Rw) (r0 : IsRaws w v0 x0) (v1 : Value) (x1 : R6) (r1 : IsRaw6 w v1 x1) (v2 : Value) (x2 : Bs) (r2 : IsBytes w v2 x2) :
    Calls Tryz.prog 5 #[v0, v1, v2] w fun e w' => e = .returned (.bool true) ∧ Below w.heap.size w w' := by
  have mixed := mixedA
  obtain ⟨m1, m2, m3, m4, m5, m6⟩ := x1
  obtain ⟨rfl, hsm⟩ := r1
  change Small6 m1 m2 m3 m4 m5 m6 at hsm
  show Calls _ _ #[v0, .agg (raw6 m1 m2 m3 m4 m5 m6), v2] _ _
  have r1 := r0
  have R1 := Lib.hid r1
  have R2 := Lib.hid r2
  obtain ⟨a1, q1, rfl, -⟩ := r1
  obtain ⟨a2, q2, rfl, -⟩ := r2
  have hbx := below_box (w := w) (.cells (raw6 m1 m2 m3 m4 m5 m6) 51)
  have HBX := Lib.hid hbx
  have hX : Blk (w.alloc (.cells (raw6 m1 m2 m3 m4 m5 m6) 51)) w.heap.size 51 (raw6 m1 m2 m3 m4 m5 m6) := Blk.new _ _ _
  have HX := Lib.hid hX
  obtain ⟨W0, hW0⟩ : ∃ W0, W0 = w.alloc (.cells (raw6 m1 m2 m3 m4 m5 m6) 51) := ⟨_, rfl⟩
  have HW0 := Lib.hid hW0
  have HSAN := Lib.hid (sanity_w W0)
  have Hmd : Hid (∀ wx, Calls Tryz.prog 29 #[.agg #[.int .u8 m1, .int .u8 m2, .int .u8 m3, .int .u8 m4, .int .u8 m5, .int .u8 m6]] wx fun e' w' => e' = .returned (msgV (madeM m1 m2 m3 m4 m5 m6)) ∧ Below wx.heap.size wx w') := Lib.hid (fun wx => made_w m1 m2 m3 m4 m5 m6 wx hsm)
  have hokM : OkR (madeM m1 m2 m3 m4 m5 m6) := madeX_okR (m1, m2, m3, m4, m5, m6)
  have hvM : validM (madeM m1 m2 m3 m4 m5 m6) = true := made_valid _ _ _ _ _ _
  generalize madeM m1 m2 m3 m4 m5 m6 = m at *
  clear hX hbx hW0 hsm
  go_enter Tryz.func5, Tryz.ntmps5
  go_wp2_with fail
  rw [← HW0.out]
  refine HSAN.out.mono ?_
  rintro e w1 ⟨rfl, hb1⟩
  have hx1 : Blk w1 w.heap.size 51 (raw6 m1 m2 m3 m4 m5 m6) := Blk.below (by rw [HW0.out]; exact HX.out) hb1 (by rw [HW0.out]; simp)
  have HB1 : Hid (Below w.heap.size w w1) := Lib.hid (Below.trans (by rw [HW0.out]; exact HBX.out) (hb1.mono (by rw [HW0.out]; simp)))
  have HX1 := Lib.hid hx1
  have hc := fun i x (hi : (raw6 m1 m2 m3 m4 m5 m6)[i]? = some x) wx (hx : Below w1.heap.size w1 wx) => (Blk.below HX1.out hx HX1.out.lt).c0 i x hi
  have c0 := hc 0 _ rfl
  have c1 := hc 1 _ rfl
  have c2 := hc 2 _ rfl
  have c3 := hc 3 _ rfl
  have c4 := hc 4 _ rfl
  have c5 := hc 5 _ rfl
  have hps := pivR_srt x2
  have hpl := pivR_len x2
  have hkz := kid_size x2
  have hst := srt_table x0 12
  have htl := table_len x0 12
  have htk : ∀ x ∈ tableS x0 12, x.1.length ≤ 20 ∧ x.2.1.length ≤ 10 := fun x hx => table_small x hx
  have HTB := Lib.hid (fun wx (h : Below w1.heap.size w1 wx) => table_w _ x0 12 wx (R1.out.below (HB1.out.trans (h.mono HB1.out.size))) (by decide))
  have HPV := Lib.hid (fun wx (h : Below w1.heap.size w1 wx) => pivots8_w _ x2 wx (R2.out.below (HB1.out.trans (h.mono HB1.out.size))))
  generalize tableS x0 12 = T at *
  generalize pivR x2 = ps at *
  have hTm : ∀ x ∈ T, x.1.length ≤ maxLen ∧ x.2.1.length ≤ maxLen := fun x hx => by have := htk x hx; unfold maxLen; omega
  have HTM := Lib.hid hTm
  have HST := Lib.hid hst
  have HTK := Lib.hid htk
  have HPS := Lib.hid hps
  have HKZ := Lib.hid hkz
  have HOM := Lib.hid hokM
  have HVM := Lib.hid hvM
  have HTX : Hid (∀ wx, Below w1.heap.size w1 wx → Calls Tryz.prog 28 #[.slice a1 x0.length q1, .int .i64 12] wx fun e w' => ∃ a c, e = .returned (.slice a T.length c) ∧ w'.ownsRow wx.heap.size 82 3 (.slice a T.length c) T.length (T.flatMap encP) ∧ Below w1.heap.size w1 w' ∧ Below wx.heap.size wx w') := Lib.hid (fun wx hx => (HTB.out wx hx).mono fun e w' ⟨v', h1, h2, h3, h4⟩ => by
    obtain ⟨a, c, rfl⟩ := slice_tbl h3
    exact ⟨a, c, h1, h2, keepB hx h4, h4⟩)
  have HPX : Hid (∀ wx, Below w1.heap.size w1 wx → Calls Tryz.prog 13 #[.slice a2 x2.length q2] wx fun e w' => ∃ p d, e = .returned (.slice p ps.length d) ∧ IsStrs w' (.slice p ps.length d) ps ∧ Below w1.heap.size w1 w' ∧ Below wx.heap.size wx w') := Lib.hid (fun wx hx => (HPV.out wx hx).mono fun e w' ⟨v', h1, h2, h3⟩ => by
    obtain ⟨p, d, rfl, -⟩ := id h2
    exact ⟨p, d, h1, h2, keepB hx h3, h3⟩)
  have HL0 : Hid (Below w1.heap.size w1 w1) := Lib.hid (Below.refl _ _)
  clear hb1 hx1 hc HSAN HW0 HX HBX HTB HPV hTm hst hps hkz hokM hvM htk R1 R2 HX1
  go_wp2_with fail
  go_cut [8, 9, 10] (fun s8 s9 s10 wx => Hid (PtAt w1 T m ps s8 s9 s10 wx))
  case first =>
    go_region_held3 (fun wx => Below w1.heap.size w1 wx)
      (repeat (first | with_reducible assumption | with_reducible exact HL0.out | with_reducible refine Below.drew ?_ | with_reducible refine keepA ?_ _ | with_reducible refine keepSetN ?_ (by first | exact Nat.le_refl _ | exact hS2.size | exact hS3.size) _ _))
      (first
        | (go_at_call 28; (refine (HTX.out _ (by repeat (first | with_reducible assumption | with_reducible exact HL0.out | with_reducible refine Below.drew ?_ | with_reducible refine keepA ?_ _))).mono ?_); rintro e2 y2 ⟨a2', c2', rfl, ho2, hS2, hT2⟩; (first | (have hz2 := blk_made hT2) | (have hz2 := blk_madeP hT2) | skip))
        | (go_at_call 29; (refine (Hmd.out _).mono ?_); rintro e3 y3 ⟨rfl, hT3⟩; have hS3 : Below w1.heap.size w1 y3 := keepB (by repeat (first | with_reducible assumption | with_reducible refine Below.drew ?_ | with_reducible refine keepA ?_ _)) hT3; have h23 : Below y2.heap.size y2 y3 := keepB (by repeat (first | with_reducible exact Below.refl _ _ | with_reducible refine Below.drew ?_ | with_reducible refine keepA ?_ _)) hT3; (first | (have hz3 := Blk.below hz2 h23 hz2.lt) | (have hz3 := blk_made hT3) | (have hz3 := blk_madeP hT3) | skip))
        | (go_at_call 13; (refine (HPX.out _ (by repeat (first | with_reducible assumption | with_reducible refine Below.drew ?_ | with_reducible refine keepA ?_ _))).mono ?_); rintro e4 y4 ⟨p4, d4, rfl, hs4, hS4, hT4⟩; have h34 : Below y3.heap.size y3 y4 := keepB (by repeat (first | with_reducible exact Below.refl _ _ | with_reducible refine Below.drew ?_ | with_reducible refine keepA ?_ _)) hT4; have h24 := h23.trans (h34.mono h23.size); (first | (have hz4 := Blk.below hz3 h34 hz3.lt) | (have hz4 := blk_made hT4) | (have hz4 := blk_madeP hT4) | skip); (first | (have z0 := hz4.c0 0 _ rfl; have z1 := hz4.c0 1 _ rfl; have z2 := hz4.c0 2 _ rfl; have z3 := hz4.c0 3 _ rfl; have z4 := hz4.c0 4 _ rfl; have z5 := hz4.c0 5 _ rfl; have z6 := hz4.c0 6 _ rfl; have z7 := hz4.c0 7 _ rfl; have f0 := hz4.free 0; have f1 := hz4.free 1; have f2 := hz4.free 2; have f3 := hz4.free 3; have f4 := hz4.free 4; have f5 := hz4.free 5; have f6 := hz4.free 6; have f7 := hz4.free 7) | skip))
        | fail "no arm")
    all_goals (go_wp2_with fail; go_meet)
    · exact Lib.hid (pt_new ho2 HTM.out h24 hs4 HPS.out hS4)
    · exact Lib.hid (pt_set hz4 ho2 HTM.out (.inr h23.size) h24 hs4 HPS.out hS4 hS3.size)
    · exact Lib.hid (pt_set hz4 ho2 HTM.out (.inr (Nat.le_refl _)) h24 hs4 HPS.out hS4 hS2.size)
    · exact Lib.hid (pt_set hz4 ho2 HTM.out (.inl (by simp)) h24 hs4 HPS.out hS4 (Nat.le_refl _))
  case rest =>
    obtain ⟨n, at', ct, ap, cp, rfl, rfl, rfl, hB, hT, hS, hb⟩ := hcut.out
    have HBn := Lib.hid hB
    have HT := Lib.hid hT
    have HS := Lib.hid hS
    have HBc := Lib.hid (HB1.out.trans (hb.mono HB1.out.size))
    clear hcut hB hT hS hb c0 c1 c2 c3 c4 c5 HTX HPX HL0
    have hx : ∀ i x, (encM m)[i]? = some x → ∀ wx, Below wc.heap.size wc wx → wx.cell? ⟨n, i, none⟩ = some x := fun i x hi wx hg => (Blk.below HBn.out hg HBn.out.lt).c0 i x hi
    have xa : ∀ wx, Below wc.heap.size wc wx → wx.cell? ⟨n, 0, none⟩ = some (.int .i64 m.kind) := hx 0 _ rfl
    have xb : ∀ wx, Below wc.heap.size wc wx → wx.cell? ⟨n, 1, none⟩ = some (.string (Str m.key)) := hx 1 _ rfl
    have xc : ∀ wx, Below wc.heap.size wc wx → wx.cell? ⟨n, 2, none⟩ = some (.string (Str m.val)) := hx 2 _ rfl
    have xd : ∀ wx, Below wc.heap.size wc wx → wx.cell? ⟨n, 3, none⟩ = some (.string (Str m.lo)) := hx 3 _ rfl
    have xe : ∀ wx, Below wc.heap.size wc wx → wx.cell? ⟨n, 4, none⟩ = some (.string (Str m.hi)) := hx 4 _ rfl
    have xf : ∀ wx, Below wc.heap.size wc wx → wx.cell? ⟨n, 5, none⟩ = some (.string (Str m.src)) := hx 5 _ rfl
    have xg : ∀ wx, Below wc.heap.size wc wx → wx.cell? ⟨n, 6, none⟩ = some (.string (Str m.dst)) := hx 6 _ rfl
    have xh : ∀ wx, Below wc.heap.size wc wx → wx.cell? ⟨n, 7, none⟩ = some (.int .i64 m.n) := hx 7 _ rfl
    have HXX := Lib.hid hx
    clear hx
    have HL1 : Hid (Below wc.heap.size wc wc) := Lib.hid (Below.refl _ _)
    have HOK : Hid (OkAll [m] T) := Lib.hid (okAll_mv _ HST.out (by omega) (fun x hx => by have := HTK.out x hx; omega) (fun o ho => by obtain rfl := List.mem_singleton.1 ho; exact HOM.out.2.2) (by simp) (Nat.le_trans (mv_len _) (by simp)))
    have hal : (applyS m T).length ≤ 500000000 := by have h9 := (okAll_end HOK.out).1; rw [all_one] at h9; omega
    have HSX : Hid (∀ wx, Below wc.heap.size wc wx → Calls Tryz.prog 14 #[.slice ap ps.length cp] wx fun e w' => ∃ p c, e = .returned (.slice p (ps.length + 1) c) ∧ IsSpans w' (.slice p (kidsS ps).length c) (kidsS ps) ∧ Below wc.heap.size wc w' ∧ Below wx.heap.size wx w') := Lib.hid (fun wx hx => (spans8_w _ ps wx (HS.out.below hx) (by omega)).mono fun e w' ⟨v', h1, h2, h3⟩ => by
      have h4 := IsSpans.owned h2
      obtain ⟨p, c, rfl, -⟩ := id h4
      exact ⟨p, c, by rw [h1, kids_len], h4, keepB hx h3, h3⟩)
    have HAX : Hid (∀ wx, Below wc.heap.size wc wx → Calls Tryz.prog 30 #[.slice at' T.length ct, msgV m] wx fun e w' => ∃ p c, e = .returned (.slice p (applyS m T).length c) ∧ IsPairs w' (.slice p (applyS m T).length c) (applyS m T) ∧ Below wc.heap.size wc w' ∧ Below wx.heap.size wx w') := Lib.hid (fun wx hx => (rapply_w m _ T wx (HT.out.below hx) HST.out (by omega) HOM.out.1 (fun x hx => by have := HTK.out x hx; omega) (one_six HVM.out) (valid_apart HVM.out)).mono fun e w' ⟨v', h1, _, h3, h4⟩ => by
      obtain ⟨p, c, rfl⟩ := slice_tbl h3
      exact ⟨p, c, h1, h3, keepB hx h4, h4⟩)
    go_wp2_with fail
    go_region_held3 (fun wx => Below wc.heap.size wc wx)
      (repeat (first | with_reducible assumption | with_reducible exact HL1.out | with_reducible refine Below.drew ?_ | with_reducible refine keepA ?_ _))
      (first
        | (go_at_call 14; (refine (HSX.out _ (by repeat (first | with_reducible assumption | with_reducible exact HL1.out | with_reducible refine Below.drew ?_ | with_reducible refine keepA ?_ _))).mono ?_); rintro e2 y2 ⟨aK, cK, rfl, hk2, hS2, hT2⟩)
        | (go_at_call 30; (refine (HAX.out _ (by repeat (first | with_reducible assumption | with_reducible exact HL1.out | with_reducible refine Below.drew ?_ | with_reducible refine keepA ?_ _))).mono ?_); rintro e3 y3 ⟨aw, cw, rfl, hw3, hS3, hT3⟩; have h23 : Below y2.heap.size y2 y3 := keepB (by repeat (first | with_reducible exact Below.refl _ _ | with_reducible refine Below.drew ?_ | with_reducible refine keepA ?_ _)) hT3)
        | fail "no arm")
    have HK3 := Lib.hid (hk2.below h23)
    have HW3 := Lib.hid hw3
    have HY3 := Lib.hid hS3
    have d0 : y3.cell? ⟨n, 0, none⟩ = some (.int .i64 m.kind) := (fun i x (h : (encM m)[i]? = some x) => HXX.out i x h y3 HY3.out) 0 _ rfl
    have d1 : y3.cell? ⟨n, 1, none⟩ = some (.string (Str m.key)) := (fun i x (h : (encM m)[i]? = some x) => HXX.out i x h y3 HY3.out) 1 _ rfl
    have d2 : y3.cell? ⟨n, 2, none⟩ = some (.string (Str m.val)) := (fun i x (h : (encM m)[i]? = some x) => HXX.out i x h y3 HY3.out) 2 _ rfl
    have d3 : y3.cell? ⟨n, 3, none⟩ = some (.string (Str m.lo)) := (fun i x (h : (encM m)[i]? = some x) => HXX.out i x h y3 HY3.out) 3 _ rfl
    have d4 : y3.cell? ⟨n, 4, none⟩ = some (.string (Str m.hi)) := (fun i x (h : (encM m)[i]? = some x) => HXX.out i x h y3 HY3.out) 4 _ rfl
    have d5 : y3.cell? ⟨n, 5, none⟩ = some (.string (Str m.src)) := (fun i x (h : (encM m)[i]? = some x) => HXX.out i x h y3 HY3.out) 5 _ rfl
    have d6 : y3.cell? ⟨n, 6, none⟩ = some (.string (Str m.dst)) := (fun i x (h : (encM m)[i]? = some x) => HXX.out i x h y3 HY3.out) 6 _ rfl
    have d7 : y3.cell? ⟨n, 7, none⟩ = some (.int .i64 m.n) := (fun i x (h : (encM m)[i]? = some x) => HXX.out i x h y3 HY3.out) 7 _ rfl
    clear hk2 hw3 hS2 hS3 hT2 hT3 h23 HSX HAX HL1 xa xb xc xd xe xf xg xh
    go_wp2_with fail
    refine (crosses_w m _ ps _ HOM.out.1 (HS.out.below HY3.out) HPS.out (by omega)).mono ?_
    rintro e4 w4 ⟨rfl, hb4⟩
    have HK4 := Lib.hid (HK3.out.below hb4)
    have HW4 := Lib.hid (HW3.out.below hb4)
    have HY4 := Lib.hid (keepB HY3.out hb4)
    have HT4 := Lib.hid (HT.out.below HY4.out)
    have HB4 := Lib.hid (HBc.out.trans (HY4.out.mono HBc.out.size))
    have HBn4 := Lib.hid (Blk.below HBn.out HY4.out HBn.out.lt)
    have hcq : Hid (crossB m ps = crossB m ps) := Lib.hid rfl
    have HTWO := Lib.hid (fun (h : crossB m ps = true) => tchN_two HPS.out h)
    have HSIDE := Lib.hid (fun (h : crossB m ps = false) k (hk : k < ps.length + 1) => side_kid HPS.out h hk)
    have HSTEP := Lib.hid (fun k (hk : k < ps.length + 1) => tchN_step m ps hk)
    have HTL := Lib.hid (fun k => tchN_len m ps k)
    have HT0 : Hid (tchN m ps 0 = 0) := Lib.hid (Nat.le_zero.1 (tchN_len m ps 0))
    have HKE := Lib.hid (fun k (h : k < ps.length + 1) => kidSp_at (ps := ps) h)
    have HKL := Lib.hid (kids_len ps)
    generalize crossB m ps = q at *
    clear hb4 d0 d1 d2 d3 d4 d5 d6 d7 hcq HK3 HW3
    go_wp2
    go_loopw [13, 15] (fun g i wr => ∃ k : Nat, i = .int .i64 k ∧ k ≤ ps.length + 1 ∧ g = .int .i64 (tchN m ps k : Nat) ∧ Below w4.heap.size w4 wr) (fun _ i _ => ps.length + 1 - (intOf i).toNat)
    case atStart => exact ⟨0, rfl, Nat.zero_le _, by rw [HT0.out]; rfl, Below.refl _ _⟩
    case round =>
      obtain ⟨k, rfl, hk, rfl, hbel⟩ := hrel
      have Hbel := Lib.hid hbel
      have hsz := hbel.size
      clear hbel
      by_cases hle : k < ps.length + 1
      · have hlez : (k : Int) < ((ps.length + 1 : Nat) : Int) := by omega
        have hkk : k < (kidsS ps).length := by rw [HKL.out]; exact hle
        obtain ⟨b2, off2, cap2, he, hbl2, -, y0, y1⟩ := span_cells (HK4.out.below Hbel.out) k hkk
        injection he with he1 he2 he3
        subst he1 he3
        clear he2
        rw [show (kidsS ps)[k] = kidSp ps k from (HKE.out k hle).symm] at y0 y1
        have HSTk := Lib.hid (HSTEP.out k hle)
        have HSDk := Lib.hid (fun h => HSIDE.out h k hle)
        have hkz := HKZ.out k
        have htn := HTL.out k
        generalize kidSp ps k = S at *
        have hp1 : (partR m S).length ≤ 1 := by unfold partR; split <;> simp
        have hp1z : ((partR m S).length : Int) ≤ 1 := by omega
        have hokP : ∀ o ∈ partR m S, OkR o := fun o ho => by
          unfold partR at ho
          split at ho
          · next hm => obtain rfl := List.mem_singleton.1 ho; exact okR_only HOM.out hkz (.inr hm)
          · cases ho
        have HOKP : Hid (OkAll (partR m S) (withinS [S] T)) := Lib.hid (okAll_mv _ (srt_filter _ HST.out) (Nat.le_trans (List.length_filter_le _ _) (by omega)) (fun x hx => by have := HTK.out x (List.mem_filter.1 hx).1; omega) (fun o ho => (hokP o ho).2.2) (by omega) (Nat.le_trans (mv_len _) (by omega)))
        have HPW := Lib.hid (fun h => part_within (HSDk.out h) (writes_valid HVM.out) HST.out)
        have HA := Lib.hid (fun u v wx (h1 : IsPairs wx u (withinS [S] T)) (h2 : IsMsgs wx v (partR m S)) => all_w u v _ _ wx h1 h2 (srt_filter _ HST.out) (fun o ho => (hokP o ho).1) HOKP.out)
        clear hokP hkz
        obtain ⟨o8, ho8⟩ : ∃ o, o = Obj.cells #[.string (Str S.1), .string (Str S.2)] 38 := ⟨_, rfl⟩
        have hbo8 := below_box (w := wr) o8
        have HSI : Hid (IsSpans (wr.alloc o8) (.slice (some ⟨wr.heap.size, 0, none⟩) 1 1) [S]) := Lib.hid (by rw [ho8]; exact spans_single wr S 38)
        have HBW := Lib.hid (Hbel.out.trans (hbo8.mono hsz))
        have HO8 := Lib.hid ho8
        have hy0' := Lib.hid (fun wx (hx : Below (wr.alloc o8).heap.size (wr.alloc o8) wx) => ((hbo8.trans (hx.mono hbo8.size)).cell (p := ⟨b2, off2 + k * 2, none⟩) hbl2).trans y0)
        have hy1' := Lib.hid (fun wx (hx : Below (wr.alloc o8).heap.size (wr.alloc o8) wx) => ((hbo8.trans (hx.mono hbo8.size)).cell (p := ⟨b2, off2 + k * 2 + 1, none⟩) hbl2).trans y1)
        clear hbo8 ho8
        go_wp2_with fail
        rw [← HO8.out]
        clear HO8 y0 y1 hbl2
        generalize wr.alloc o8 = w8 at *
        generalize wr.heap.size = bs at *
        have HBn8 := Lib.hid (Blk.below HBn4.out HBW.out HBn4.out.lt)
        have hx : ∀ i x, (encM m)[i]? = some x → ∀ wx, Below w8.heap.size w8 wx → wx.cell? ⟨n, i, none⟩ = some x := fun i x hi wx hg => (Blk.below HBn8.out hg HBn8.out.lt).c0 i x hi
        have xa : ∀ wx, Below w8.heap.size w8 wx → wx.cell? ⟨n, 0, none⟩ = some (.int .i64 m.kind) := hx 0 _ rfl
        have xb : ∀ wx, Below w8.heap.size w8 wx → wx.cell? ⟨n, 1, none⟩ = some (.string (Str m.key)) := hx 1 _ rfl
        have xc : ∀ wx, Below w8.heap.size w8 wx → wx.cell? ⟨n, 2, none⟩ = some (.string (Str m.val)) := hx 2 _ rfl
        have xd : ∀ wx, Below w8.heap.size w8 wx → wx.cell? ⟨n, 3, none⟩ = some (.string (Str m.lo)) := hx 3 _ rfl
        have xe : ∀ wx, Below w8.heap.size w8 wx → wx.cell? ⟨n, 4, none⟩ = some (.string (Str m.hi)) := hx 4 _ rfl
        have xf : ∀ wx, Below w8.heap.size w8 wx → wx.cell? ⟨n, 5, none⟩ = some (.string (Str m.src)) := hx 5 _ rfl
        have xg : ∀ wx, Below w8.heap.size w8 wx → wx.cell? ⟨n, 6, none⟩ = some (.string (Str m.dst)) := hx 6 _ rfl
        have xh : ∀ wx, Below w8.heap.size w8 wx → wx.cell? ⟨n, 7, none⟩ = some (.int .i64 m.n) := hx 7 _ rfl
        have HXX := Lib.hid hx
        have hy0 := hy0'.out
        have hy1 := hy1'.out
        clear hx hy0' hy1'
        have HL1 : Hid (Below w8.heap.size w8 w8) := Lib.hid (Below.refl _ _)
        have HPA := Lib.hid (fun wx => part_w m S wx HOM.out.1)
        go_region_held3 (fun wx => Below w8.heap.size w8 wx)
          (repeat (first | with_reducible assumption | with_reducible exact HL1.out | with_reducible refine Below.drew ?_ | with_reducible refine keepA ?_ _))
          (first
            | (go_at_call 23; (refine (HPA.out _).mono ?_); rintro e9 y9 ⟨v9, rfl, hm9, hg9⟩; obtain ⟨p9, c9, rfl, -⟩ := id hm9; have hS9 : Below w8.heap.size w8 y9 := keepG (by repeat (first | with_reducible assumption | with_reducible exact HL1.out | with_reducible refine Below.drew ?_ | with_reducible refine keepA ?_ _)) hg9)
            | fail "no arm")
        have HM9 := Lib.hid hm9
        have HY9 := Lib.hid hS9
        have d0 : y9.cell? ⟨n, 0, none⟩ = some (.int .i64 m.kind) := HXX.out 0 _ rfl _ HY9.out
        have d1 : y9.cell? ⟨n, 1, none⟩ = some (.string (Str m.key)) := HXX.out 1 _ rfl _ HY9.out
        have d2 : y9.cell? ⟨n, 2, none⟩ = some (.string (Str m.val)) := HXX.out 2 _ rfl _ HY9.out
        have d3 : y9.cell? ⟨n, 3, none⟩ = some (.string (Str m.lo)) := HXX.out 3 _ rfl _ HY9.out
        have d4 : y9.cell? ⟨n, 4, none⟩ = some (.string (Str m.hi)) := HXX.out 4 _ rfl _ HY9.out
        have d5 : y9.cell? ⟨n, 5, none⟩ = some (.string (Str m.src)) := HXX.out 5 _ rfl _ HY9.out
        have d6 : y9.cell? ⟨n, 6, none⟩ = some (.string (Str m.dst)) := HXX.out 6 _ rfl _ HY9.out
        have d7 : y9.cell? ⟨n, 7, none⟩ = some (.int .i64 m.n) := HXX.out 7 _ rfl _ HY9.out
        clear hm9 hg9 hS9 xa xb xc xd xe xf xg xh hy0 hy1 HL1 HPA
        have HSP9 := Lib.hid (HSI.out.below HY9.out)
        go_wp2_with fail
        refine (rwrites_w m _ HOM.out.1 (one_six HVM.out)).mono ?_
        rintro e10 y10 ⟨v10, rfl, hi10, hg10⟩
        have HI10 := Lib.hid hi10
        have h10 := hg10.below (Nat.le_refl _)
        have HY10 := Lib.hid (keepB HY9.out h10)
        have HM10 := Lib.hid (HM9.out.below h10)
        have HSP10 := Lib.hid (HSP9.out.below h10)
        clear hi10 hg10 h10 d0 d1 d2 d3 d4 d5 d6 d7 HM9 HSP9
        go_wp2_with fail
        refine (rtouch_w _ _ [S] (writesS m) _ HSP10.out HI10.out).mono ?_
        rintro e11 y11 ⟨rfl, hg11⟩
        have h11 := hg11.below (Nat.le_refl _)
        have HY11 := Lib.hid (keepB HY10.out h11)
        have HM11 := Lib.hid (HM10.out.below h11)
        have HSP11 := Lib.hid (HSP10.out.below h11)
        clear hg11 h11 HM10 HSP10 HI10
        have HTB : Hid (tchB m S = (touchB [S] (writesS m) || touchB [S] (readsS m))) := Lib.hid rfl
        cases htw : touchB [S] (writesS m) with
        | true =>
          have HTV : Hid ((if tchB m S = true then 1 else 0) = 1) := Lib.hid (by rw [HTB.out, htw]; rfl)
          clear htw
          cases q with
          | true =>
            have HF := Lib.hid (HBW.out.trans (HY11.out.mono HBW.out.size))
            go_wp2
            go_roundw
            case rel => exact ⟨k + 1, by go_num, by omega, by rw [HSTk.out, HTV.out]; go_num, HF.out⟩
            case measure => simp [intOf]; omega
          | false =>
            have hpw := HPW.out rfl
            have HTy := Lib.hid ((HT4.out.below HBW.out).below HY11.out)
            have HWy := Lib.hid ((HW4.out.below HBW.out).below HY11.out)
            rw [hpw] at HA
            clear hpw
            go_wp2_with fail
            refine (within_w _ _ T [S] _ HTy.out HSP11.out (by omega)).mono ?_
            rintro e20 y20 ⟨v20, rfl, -, hq20, hb20⟩
            have HQ20 := Lib.hid hq20
            have HM20 := Lib.hid (HM11.out.below hb20)
            have HSP20 := Lib.hid (HSP11.out.below hb20)
            have HW20 := Lib.hid (HWy.out.below hb20)
            have HY20 := Lib.hid (keepB HY11.out hb20)
            obtain ⟨a20, c20, rfl⟩ := slice_tbl hq20
            clear hq20 hb20
            go_wp2_with fail
            refine (HA.out _ _ _ HQ20.out HM20.out).mono ?_
            rintro e21 y21 ⟨v21, rfl, -, hq21, hb21⟩
            have HQ21 := Lib.hid hq21
            have HSP21 := Lib.hid (HSP20.out.below hb21)
            have HW21 := Lib.hid (HW20.out.below hb21)
            have HY21 := Lib.hid (keepB HY20.out hb21)
            obtain ⟨a21, c21, rfl⟩ := slice_tbl hq21
            clear hq21 hb21
            go_wp2_with fail
            refine (within_w _ _ _ [S] _ HW21.out HSP21.out hal).mono ?_
            rintro e22 y22 ⟨v22, rfl, -, hq22, hb22⟩
            have HQ22 := Lib.hid hq22
            have HQ21b := Lib.hid (HQ21.out.below hb22)
            have HY22 := Lib.hid (keepB HY21.out hb22)
            obtain ⟨a22, c22, rfl⟩ := slice_tbl hq22
            clear hq22 hb22
            go_wp2_with fail
            refine (rsame_w _ _ _ _ _ HQ21b.out HQ22.out).mono ?_
            rintro e23 y23 ⟨rfl, nd, hw23⟩
            have hb23 : Below y22.heap.size y22 y23 := by rw [hw23]; exact below_drewN _ _
            rw [decide_eq_true rfl]
            have HF := Lib.hid (HBW.out.trans ((keepB HY22.out hb23).mono HBW.out.size))
            clear hw23 hb23
            go_wp2
            go_roundw
            case rel => exact ⟨k + 1, by go_num, by omega, by rw [HSTk.out, HTV.out]; go_num, HF.out⟩
            case measure => simp [intOf]; omega
        | false =>
          have d0 : y11.cell? ⟨n, 0, none⟩ = some (.int .i64 m.kind) := HXX.out 0 _ rfl _ HY11.out
          have d1 : y11.cell? ⟨n, 1, none⟩ = some (.string (Str m.key)) := HXX.out 1 _ rfl _ HY11.out
          have d2 : y11.cell? ⟨n, 2, none⟩ = some (.string (Str m.val)) := HXX.out 2 _ rfl _ HY11.out
          have d3 : y11.cell? ⟨n, 3, none⟩ = some (.string (Str m.lo)) := HXX.out 3 _ rfl _ HY11.out
          have d4 : y11.cell? ⟨n, 4, none⟩ = some (.string (Str m.hi)) := HXX.out 4 _ rfl _ HY11.out
          have d5 : y11.cell? ⟨n, 5, none⟩ = some (.string (Str m.src)) := HXX.out 5 _ rfl _ HY11.out
          have d6 : y11.cell? ⟨n, 6, none⟩ = some (.string (Str m.dst)) := HXX.out 6 _ rfl _ HY11.out
          have d7 : y11.cell? ⟨n, 7, none⟩ = some (.int .i64 m.n) := HXX.out 7 _ rfl _ HY11.out
          go_wp2_with fail
          refine (rreads_w m _ HOM.out.1 (one_six HVM.out)).mono ?_
          rintro e12 y12 ⟨v12, rfl, hi12, hg12⟩
          have HI12 := Lib.hid hi12
          have h12 := hg12.below (Nat.le_refl _)
          have HY12 := Lib.hid (keepB HY11.out h12)
          have HM12 := Lib.hid (HM11.out.below h12)
          have HSP12 := Lib.hid (HSP11.out.below h12)
          clear hi12 hg12 h12 d0 d1 d2 d3 d4 d5 d6 d7
          go_wp2_with fail
          refine (rtouch_w _ _ [S] (readsS m) _ HSP12.out HI12.out).mono ?_
          rintro e13 y13 ⟨rfl, hg13⟩
          have h13 := hg13.below (Nat.le_refl _)
          have HY13 := Lib.hid (keepB HY12.out h13)
          have HM13 := Lib.hid (HM12.out.below h13)
          have HSP13 := Lib.hid (HSP12.out.below h13)
          clear hg13 h13 HM12 HSP12 HI12
          cases htr : touchB [S] (readsS m) with
          | true =>
            have HTV : Hid ((if tchB m S = true then 1 else 0) = 1) := Lib.hid (by rw [HTB.out, htw, htr]; rfl)
            clear htw htr
            cases q with
            | true =>
              have HF := Lib.hid (HBW.out.trans (HY13.out.mono HBW.out.size))
              go_wp2
              go_roundw
              case rel => exact ⟨k + 1, by go_num, by omega, by rw [HSTk.out, HTV.out]; go_num, HF.out⟩
              case measure => simp [intOf]; omega
            | false =>
              have hpw := HPW.out rfl
              have HTy := Lib.hid ((HT4.out.below HBW.out).below HY13.out)
              have HWy := Lib.hid ((HW4.out.below HBW.out).below HY13.out)
              rw [hpw] at HA
              clear hpw
              go_wp2_with fail
              refine (within_w _ _ T [S] _ HTy.out HSP13.out (by omega)).mono ?_
              rintro e20 y20 ⟨v20, rfl, -, hq20, hb20⟩
              have HQ20 := Lib.hid hq20
              have HM20 := Lib.hid (HM13.out.below hb20)
              have HSP20 := Lib.hid (HSP13.out.below hb20)
              have HW20 := Lib.hid (HWy.out.below hb20)
              have HY20 := Lib.hid (keepB HY13.out hb20)
              obtain ⟨a20, c20, rfl⟩ := slice_tbl hq20
              clear hq20 hb20
              go_wp2_with fail
              refine (HA.out _ _ _ HQ20.out HM20.out).mono ?_
              rintro e21 y21 ⟨v21, rfl, -, hq21, hb21⟩
              have HQ21 := Lib.hid hq21
              have HSP21 := Lib.hid (HSP20.out.below hb21)
              have HW21 := Lib.hid (HW20.out.below hb21)
              have HY21 := Lib.hid (keepB HY20.out hb21)
              obtain ⟨a21, c21, rfl⟩ := slice_tbl hq21
              clear hq21 hb21
              go_wp2_with fail
              refine (within_w _ _ _ [S] _ HW21.out HSP21.out hal).mono ?_
              rintro e22 y22 ⟨v22, rfl, -, hq22, hb22⟩
              have HQ22 := Lib.hid hq22
              have HQ21b := Lib.hid (HQ21.out.below hb22)
              have HY22 := Lib.hid (keepB HY21.out hb22)
              obtain ⟨a22, c22, rfl⟩ := slice_tbl hq22
              clear hq22 hb22
              go_wp2_with fail
              refine (rsame_w _ _ _ _ _ HQ21b.out HQ22.out).mono ?_
              rintro e23 y23 ⟨rfl, nd, hw23⟩
              have hb23 : Below y22.heap.size y22 y23 := by rw [hw23]; exact below_drewN _ _
              rw [decide_eq_true rfl]
              have HF := Lib.hid (HBW.out.trans ((keepB HY22.out hb23).mono HBW.out.size))
              clear hw23 hb23
              go_wp2
              go_roundw
              case rel => exact ⟨k + 1, by go_num, by omega, by rw [HSTk.out, HTV.out]; go_num, HF.out⟩
              case measure => simp [intOf]; omega
          | false =>
            have HTV : Hid ((if tchB m S = true then 1 else 0) = 0) := Lib.hid (by rw [HTB.out, htw, htr]; rfl)
            clear htw htr
            cases q with
            | true =>
              have HF := Lib.hid (HBW.out.trans (HY13.out.mono HBW.out.size))
              go_wp2
              go_roundw
              case rel => exact ⟨k + 1, by go_num, by omega, by rw [HSTk.out, HTV.out]; rfl, HF.out⟩
              case measure => simp [intOf]; omega
            | false =>
              have hpw := HPW.out rfl
              have HTy := Lib.hid ((HT4.out.below HBW.out).below HY13.out)
              have HWy := Lib.hid ((HW4.out.below HBW.out).below HY13.out)
              rw [hpw] at HA
              clear hpw
              go_wp2_with fail
              refine (within_w _ _ T [S] _ HTy.out HSP13.out (by omega)).mono ?_
              rintro e20 y20 ⟨v20, rfl, -, hq20, hb20⟩
              have HQ20 := Lib.hid hq20
              have HM20 := Lib.hid (HM13.out.below hb20)
              have HSP20 := Lib.hid (HSP13.out.below hb20)
              have HW20 := Lib.hid (HWy.out.below hb20)
              have HY20 := Lib.hid (keepB HY13.out hb20)
              obtain ⟨a20, c20, rfl⟩ := slice_tbl hq20
              clear hq20 hb20
              go_wp2_with fail
              refine (HA.out _ _ _ HQ20.out HM20.out).mono ?_
              rintro e21 y21 ⟨v21, rfl, -, hq21, hb21⟩
              have HQ21 := Lib.hid hq21
              have HSP21 := Lib.hid (HSP20.out.below hb21)
              have HW21 := Lib.hid (HW20.out.below hb21)
              have HY21 := Lib.hid (keepB HY20.out hb21)
              obtain ⟨a21, c21, rfl⟩ := slice_tbl hq21
              clear hq21 hb21
              go_wp2_with fail
              refine (within_w _ _ _ [S] _ HW21.out HSP21.out hal).mono ?_
              rintro e22 y22 ⟨v22, rfl, -, hq22, hb22⟩
              have HQ22 := Lib.hid hq22
              have HQ21b := Lib.hid (HQ21.out.below hb22)
              have HY22 := Lib.hid (keepB HY21.out hb22)
              obtain ⟨a22, c22, rfl⟩ := slice_tbl hq22
              clear hq22 hb22
              go_wp2_with fail
              refine (rsame_w _ _ _ _ _ HQ21b.out HQ22.out).mono ?_
              rintro e23 y23 ⟨rfl, nd, hw23⟩
              have hb23 : Below y22.heap.size y22 y23 := by rw [hw23]; exact below_drewN _ _
              rw [decide_eq_true rfl]
              have HF := Lib.hid (HBW.out.trans ((keepB HY22.out hb23).mono HBW.out.size))
              clear hw23 hb23
              go_wp2
              go_roundw
              case rel => exact ⟨k + 1, by go_num, by omega, by rw [HSTk.out, HTV.out]; rfl, HF.out⟩
              case measure => simp [intOf]; omega
      · obtain rfl : k = ps.length + 1 := by omega
        have htw := HTWO.out
        have htl := HTL.out (ps.length + 1)
        generalize tchN m ps (ps.length + 1) = tn at *
        have HF := Lib.hid (HB4.out.trans (Hbel.out.mono HB4.out.size))
        cases q with
        | true =>
          have h2 := htw rfl
          have h2z : (1 : Int) < (tn : Int) := by omega
          clear htw HSIDE
          go_wp2
          go_ret
          exact ⟨by first | rfl | simp, HF.out⟩
        | false =>
          clear htw HSIDE
          go_wp2
          go_ret
          exact ⟨by first | rfl | simp, HF.out⟩

end Go.Proofs.YtjncehkldhkobaaGreat
