/-
  The walk of the law MsgMatchesReference.
-/
import Derived.Test.YtdckiaokldkfmaaGreatNI
import Derived.Test.YtdckiaokldkfmaaGreatNV
namespace Go.Proofs.YtdckiaokldkfmaaGreat
open Go.RowKit Go.Sort
set_option linter.unusedVariables false

def Few (m : Ms) : Prop := m.key.length ≤ 100 ∧ m.dst.length ≤ 100
theorem apply_keys (m : Ms) (K : Nat) {t : List Pr} (ht : Srt t) (hk : ∀ x ∈ t, x.1.length ≤ K) (hm : Few m) : ∀ x ∈ applyS m t, x.1.length ≤ K + 100 := by
  intro x hx
  have old : x ∈ t → x.1.length ≤ K + 100 := fun h => by have := hk x h; omega
  have hcl : ∀ a b, b.length ≤ 100 → x ∈ cloneT a b t → x.1.length ≤ K + 100 := by
    intro a b hb hx
    rcases (mem_clone a b ht x).1 hx with h | h
    · obtain ⟨r, h1, h2⟩ := (mem_moved a b t x).1 h
      have := hk _ h1
      simp only [List.length_append] at this
      rw [h2, List.length_append]; omega
    · exact old h.1
  unfold applyS at hx
  split at hx
  · rcases (mem_put _ _ _).1 hx with h | h
    · rw [h]; have := hm.1; show m.key.length ≤ K + 100; omega
    · exact old h.1
  split at hx
  · exact old ((mem_del _ _ _).1 hx).1
  split at hx
  · exact old ((mem_drop _ _ _).1 hx).1
  split at hx
  · exact hcl m.src m.dst hm.2 ((mem_drop _ _ _).1 hx).1
  split at hx
  · exact hcl m.src m.dst hm.2 hx
  split at hx
  · obtain ⟨y, hy, rfl⟩ := (mem_stamp _ _ _ _).1 hx
    rw [stampP_key]; have := hk y hy; omega
  · exact old hx
theorem all_few (ms : List Ms) {t : List Pr} (ht : Srt t) (hl : t.length ≤ 12) (hk : ∀ x ∈ t, x.1.length ≤ 100) (hm : ∀ m ∈ ms, Few m) : ∀ k, k ≤ ms.length → (allS (ms.take k) t).length + 1 ≤ 13 * 2 ^ k ∧ ∀ x ∈ allS (ms.take k) t, x.1.length ≤ 100 + 100 * k
  | 0, _ => by simp only [List.take_zero]; exact ⟨by show t.length + 1 ≤ _; omega, fun x hx => by have := hk x hx; omega⟩
  | k + 1, h => by
    obtain ⟨h1, h2⟩ := all_few ms ht hl hk hm k (by omega)
    have hlt : k < ms.length := h
    rw [all_take ms t k hlt]
    have h3 := apply_len ms[k] (allS (ms.take k) t)
    have h4 := apply_keys ms[k] _ (srt_all (ms.take k) ht) h2 (hm _ (List.getElem_mem hlt))
    refine ⟨?_, fun x hx => ?_⟩
    · rw [Nat.pow_succ]; omega
    · have := h4 x hx; omega
theorem okAll_few (ms : List Ms) {t : List Pr} (ht : Srt t) (hl : t.length ≤ 12) (hk : ∀ x ∈ t, x.1.length ≤ 100) (hm : ∀ m ∈ ms, Few m) (h8 : ms.length ≤ 8) : OkAll ms t := by
  intro k h
  obtain ⟨h1, h2⟩ := all_few ms ht hl hk hm k h
  have h3 : 2 ^ k ≤ 2 ^ 8 := Nat.pow_le_pow_right (by decide) (by omega)
  refine ⟨by omega, fun x hx => ?_⟩
  have := h2 x hx; omega
theorem made_few (a b c d e f : Nat) : Few (madeM a b c d e f) := by
  have k1 := key_len b
  have t1 := to_len b d
  unfold Few madeM
  split
  · simp; omega
  split
  · simp; omega
  split
  · simp
  split
  · simp; omega
  split
  · simp; omega
  · simp
theorem made_apart (a b c d e f : Nat) : ApartM (madeM a b c d e f) := by
  intro hk
  have hv := made_valid a b c d e f
  generalize madeM a b c d e f = m at *
  unfold validM fitsB at hv
  simp only [hk] at hv
  simp [apartB] at hv
  exact ⟨by simp [hv], by simp [hv]⟩
theorem made_kinds (a b c d e f : Nat) : OneToSix (madeM a b c d e f) := by
  unfold OneToSix madeM
  split
  · simp
  split
  · simp
  split
  · simp
  split
  · simp
  split
  · simp
  simp
theorem listS_good (x : List R6) (n : Nat) : ∀ m ∈ listS x n, SizeM m ∧ OneToSix m ∧ ApartM m ∧ Few m := by
  intro m hm
  obtain ⟨y, -, rfl⟩ := List.mem_map.1 hm
  exact ⟨made_size _ _ _ _ _ _, made_kinds _ _ _ _ _ _, made_apart _ _ _ _ _ _, made_few _ _ _ _ _ _⟩
theorem listS_len (x : List R6) (n : Nat) : (listS x n).length ≤ n := by unfold listS; rw [List.length_map]; exact List.length_take_le _ _

set_option maxRecDepth 100000 in
set_option maxHeartbeats 4000000 in
theorem msgMatchesReference_walk0 (hsan : SanityW) (w : World) (v0 : Value) (l : List Rw) (h0 : IsRaws w v0 l) (v1 : Value) (x : List R6) (h1 : IsR6s w v1 x) :
    Calls Tryz.prog 3 #[v0, v1] w fun e w' => e = .returned (.bool true) ∧ Below w.heap.size w w' := by
  have H0 := Lib.hid h0
  have H1 := Lib.hid h1
  have Hsan := Lib.hid hsan
  have sT := Lib.hid (srt_table l 12)
  have nT := Lib.hid (table_len l 12)
  have kT := Lib.hid (table_small (l := l) (n := 12))
  have Hgd := Lib.hid (listS_good x 8)
  have hms := listS_len x 8
  have Hok : Hid (OkAll (listS x 8) (tableS l 12)) := Lib.hid (okAll_few _ sT.out (by have := nT.out; omega) (fun y hy => by have := (kT.out y hy).1; omega) (fun m hm => (Hgd.out m hm).2.2.2) hms)
  clear h0 h1 hsan
  go_enter Tryz.func3, Tryz.ntmps3
  go_wp2_with fail
  refine (Hsan.out _).mono ?_
  rintro e1 w1 ⟨rfl, hb1⟩
  have HL1 := Lib.hid (Lw.start hb1)
  clear hb1 Hsan
  go_wp2_with fail
  refine (lw_table HL1.out l 12 H0.out (by omega)).mono ?_
  rintro e2 w2 ⟨pt, ct, rfl, hp2, -, hL2⟩
  have HL2 := Lib.hid (hL2.add hp2)
  clear hp2 hL2 HL1 H0
  go_wp2_with fail
  refine (list_w v1 x 8 w2 (H1.out.below HL2.out.g) (by omega)).mono ?_
  rintro e3 w3 ⟨vm, rfl, hown, hb3⟩
  have HM3 := Lib.hid hown.msgs
  have HL3 := Lib.hid (HL2.out.below hb3)
  clear hown hb3 HL2 H1
  generalize tableS l 12 = T at *
  generalize listS x 8 = ms at *
  go_wp2_with fail
  refine (lw_all HL3.out T ms (HL3.out.at (by simp)) HM3.out sT.out (fun m hm => (Hgd.out m hm).1) Hok.out).mono ?_
  rintro e4 w4 ⟨pa, ca, rfl, hpa, hba, hLa⟩
  have HM4 := Lib.hid (HM3.out.below hba)
  have HL4 := Lib.hid (hLa.add hpa)
  clear hpa hba hLa HM3 HL3
  go_wp2_with fail
  refine (rall_w _ vm T ms w4 (HL4.out.at (v := .slice pt T.length ct) (by simp)) HM4.out sT.out (fun m hm => ⟨(Hgd.out m hm).1, (Hgd.out m hm).2.1, (Hgd.out m hm).2.2.1⟩) Hok.out).mono ?_
  rintro e5 w5 ⟨vb, rfl, hpb, hbb⟩
  have HM5 := Lib.hid (HM4.out.below hbb)
  have HL5 := Lib.hid ((HL4.out.below hbb).add hpb)
  clear hpb hbb HM4 HL4
  go_wp2_with fail
  refine (lw_same_yes HL5.out (allS ms T) (allS ms T) (HL5.out.at (by simp)) (HL5.out.at (by simp)) rfl).mono ?_
  rintro e6 w6 ⟨rfl, hb6, hL6⟩
  have HM6 := Lib.hid (HM5.out.below hb6)
  have HL6 := Lib.hid (hL6.sub (L' := [(.slice pt T.length ct, T)]) (B' := []) (S' := []) (by simp) (by simp) (by simp))
  clear hb6 hL6 HM5 HL5
  obtain ⟨g, off, cap, p, rfl, hlc, hcm, hpp, hcc⟩ := HM6.out.form
  unfold maxLen at hcm
  have HP := Lib.hid hpp
  have HC := Lib.hid hcc
  clear hpp hcc
  go_wp2_with fail
  have HG6 := Lib.hid HL6.out.g
  have HL7 : Hid (Lw w6 [(.slice pt T.length ct, T)] [] [] w6) := Lib.hid ⟨Below.refl _ _, HL6.out.p, HL6.out.m, HL6.out.s⟩
  clear HL6
  have HAp := Lib.hid (fun m n wx (hz : SizeM m) (h : Lw w6 [(.slice pt T.length ct, T)] [(n, m)] [] wx) => lw_apply h m T (h.at (v := .slice pt T.length ct) (by simp)) sT.out (by have := nT.out; omega) (fun y hy => by have := (kT.out y hy).1; omega) hz)
  have HRp := Lib.hid (fun m n wx (hz : SizeM m) (hk : OneToSix m) (ha : ApartM m) (h : Lw w6 [(.slice pt T.length ct, T)] [(n, m)] [] wx) => (rapply_w m _ T wx (h.at (v := .slice pt T.length ct) (by simp)) sT.out (by have := nT.out; omega) hz (fun y hy => by have := (kT.out y hy).1; omega) hk ha).mono fun _ _ hh => OwnOut.lw h hh)
  have HSp := Lib.hid (fun v u a m n wx (h : Lw w6 [(.slice pt T.length ct, T)] [(n, m)] [] wx) (ha : IsSpans wx v a) (hb : IsSpans wx u a) => (show Calls Tryz.prog 20 #[v, u] wx (LbOut w6 [(.slice pt T.length ct, T)] [(n, m)] [] wx true) from (spsame_w v u a a wx ha hb).mono fun _ _ hh => lb_grown h ⟨by rw [hh.1]; simp, hh.2⟩))
  go_loopw [8] (fun i wr => ∃ k : Nat, k ≤ ms.length ∧ i = .int .i64 k ∧ Lw w6 [(.slice pt T.length ct, T)] [] [] wr) (fun i _ => ms.length - (intOf i).toNat)
  case atStart => exact ⟨0, Nat.zero_le _, rfl, HL7.out⟩
  case round =>
    clear HL7
    obtain ⟨k, hk, rfl, hl⟩ := hrel
    have Hl := Lib.hid hl
    have Hbel := Lib.hid hl.g
    clear hl
    by_cases hlt : k < ms.length
    · obtain ⟨rfl, hc⟩ := HC.out k hlt
      have hgl := (HP.out (by rintro rfl; simp at hlt)).2
      have hltz : (k : Int) < (ms.length : Int) := by omega
      obtain ⟨c0, c1, c2, c3, c4, c5, c6, c7⟩ := hc.below Hbel.out hgl
      obtain ⟨z1, z2, z3, -⟩ := Hgd.out _ (List.getElem_mem hlt)
      have Hz1 := Lib.hid z1
      have Hz2 := Lib.hid z2
      have Hz3 := Lib.hid z3
      clear hc z1 z2 z3
      generalize ms[k] = m at *
      obtain ⟨wo, rfl⟩ : ∃ wo : World, wo = wr := ⟨_, rfl⟩
      have HB := Lib.hid (Hl.out.box m)
      have q0 : ∀ wx, Lw w6 [(.slice pt T.length ct, T)] [(wo.heap.size, m)] [] wx → wx.cell? ⟨wo.heap.size, 0, none⟩ = some (.int .i64 m.kind) := fun wx h => (h.msg (n := wo.heap.size) (m := m) (by simp)).c0 0 _ rfl
      have q1 : ∀ wx, Lw w6 [(.slice pt T.length ct, T)] [(wo.heap.size, m)] [] wx → wx.cell? ⟨wo.heap.size, 1, none⟩ = some (.string (Str m.key)) := fun wx h => (h.msg (n := wo.heap.size) (m := m) (by simp)).c0 1 _ rfl
      have q2 : ∀ wx, Lw w6 [(.slice pt T.length ct, T)] [(wo.heap.size, m)] [] wx → wx.cell? ⟨wo.heap.size, 2, none⟩ = some (.string (Str m.val)) := fun wx h => (h.msg (n := wo.heap.size) (m := m) (by simp)).c0 2 _ rfl
      have q3 : ∀ wx, Lw w6 [(.slice pt T.length ct, T)] [(wo.heap.size, m)] [] wx → wx.cell? ⟨wo.heap.size, 3, none⟩ = some (.string (Str m.lo)) := fun wx h => (h.msg (n := wo.heap.size) (m := m) (by simp)).c0 3 _ rfl
      have q4 : ∀ wx, Lw w6 [(.slice pt T.length ct, T)] [(wo.heap.size, m)] [] wx → wx.cell? ⟨wo.heap.size, 4, none⟩ = some (.string (Str m.hi)) := fun wx h => (h.msg (n := wo.heap.size) (m := m) (by simp)).c0 4 _ rfl
      have q5 : ∀ wx, Lw w6 [(.slice pt T.length ct, T)] [(wo.heap.size, m)] [] wx → wx.cell? ⟨wo.heap.size, 5, none⟩ = some (.string (Str m.src)) := fun wx h => (h.msg (n := wo.heap.size) (m := m) (by simp)).c0 5 _ rfl
      have q6 : ∀ wx, Lw w6 [(.slice pt T.length ct, T)] [(wo.heap.size, m)] [] wx → wx.cell? ⟨wo.heap.size, 6, none⟩ = some (.string (Str m.dst)) := fun wx h => (h.msg (n := wo.heap.size) (m := m) (by simp)).c0 6 _ rfl
      have q7 : ∀ wx, Lw w6 [(.slice pt T.length ct, T)] [(wo.heap.size, m)] [] wx → wx.cell? ⟨wo.heap.size, 7, none⟩ = some (.int .i64 m.n) := fun wx h => (h.msg (n := wo.heap.size) (m := m) (by simp)).c0 7 _ rfl
      go_wp2_with fail
      go_region_held3 (fun wx => Lw w6 [(.slice pt T.length ct, T)] [(wo.heap.size, m)] [] wx)
        (first | with_reducible assumption | with_reducible exact HB.out.drew)
        (first
        | (go_at_call 18; (with_reducible refine (HAp.out m _ _ Hz1.out (by assumption)).mono ?_); rintro e12 w12 ⟨p12, c12, rfl, hp12, hb12, hL12⟩)
        | (go_at_call 19; (with_reducible refine (HRp.out m _ _ Hz1.out Hz2.out Hz3.out (by assumption)).mono ?_); rintro e13 w13 ⟨p13, c13, rfl, hp13, hb13, hL13⟩; have hp12 := hp12.below hb13)
        | (go_at_call 15; (refine (lw_same_yes (by assumption : Lw w6 [(.slice pt T.length ct, T)] [(wo.heap.size, m)] [] _) _ _ hp12 hp13 rfl).mono ?_); rintro e14 w14 ⟨rfl, hb14, hL14⟩)
        | (go_at_call 21; (refine (lw_reads hL14 m Hz1.out).mono ?_); rintro e15 w15 ⟨p15, c15, rfl, hp15, hb15, hL15⟩)
        | (go_at_call 22; (refine ((rreads_w m _ Hz1.out Hz2.out).mono fun _ _ hh => SpOut.lw hL15 hh).mono ?_); rintro e16 w16 ⟨p16, c16, rfl, hp16, hb16, hL16⟩; have hp15 := hp15.below hb16)
        | (go_at_call 23; (refine (lw_writes hL17 m Hz1.out).mono ?_); rintro e18 w18 ⟨p18, c18, rfl, hp18, hb18, hL18⟩)
        | (go_at_call 24; (refine ((rwrites_w m _ Hz1.out Hz2.out).mono fun _ _ hh => SpOut.lw hL18 hh).mono ?_); rintro e19 w19 ⟨p19, c19, rfl, hp19, hb19, hL19⟩; have hp18 := hp18.below hb19)
        | (go_at_call 25; (refine (lw_kills hL20 m Hz1.out).mono ?_); rintro e21 w21 ⟨p21, c21, rfl, hp21, hb21, hL21⟩)
        | (go_at_call 26; (refine ((rkills_w m _ Hz1.out Hz2.out).mono fun _ _ hh => SpOut.lw hL21 hh).mono ?_); rintro e22 w22 ⟨p22, c22, rfl, hp22, hb22, hL22⟩; have hp21 := hp21.below hb22)
        | (go_at_call 20; (refine (HSp.out _ _ _ _ _ _ hL22 hp21 hp22).mono ?_); rintro e23 w23 ⟨rfl, hb23, hL23⟩)
        | (go_at_call 20; (refine (HSp.out _ _ _ _ _ _ hL19 hp18 hp19).mono ?_); rintro e20 w20 ⟨rfl, hb20, hL20⟩)
        | (go_at_call 20; (refine (HSp.out _ _ _ _ _ _ hL16 hp15 hp16).mono ?_); rintro e17 w17 ⟨rfl, hb17, hL17⟩)
        | fail "no arm")
      all_goals
        have HL9 := Lib.hid hL23
        clear hL12 hL13 hL14 hL15 hL16 hL17 hL18 hL19 hL20 hL21 hL22 hL23 hb12 hb13 hb14 hb15 hb16 hb17 hb18 hb19 hb20 hb21 hb22 hb23 hp12 hp13 hp15 hp16 hp18 hp19 hp21 hp22
        go_wp2_with fail
        go_loopw [10] (fun i wx => ∃ j : Nat, j ≤ ms.length ∧ i = .int .i64 j ∧ Lw w6 [(.slice pt T.length ct, T)] [(wo.heap.size, m)] [] wx) (fun i _ => ms.length - (intOf i).toNat)
        case atStart => exact ⟨0, Nat.zero_le _, rfl, HL9.out⟩
        case round =>
          obtain ⟨j, hj, rfl, hl2⟩ := hrel
          have Hl2 := Lib.hid hl2
          clear hl2 HL9
          by_cases hlt2 : j < ms.length
          · obtain ⟨-, hc⟩ := HC.out j hlt2
            have hltz2 : (j : Int) < (ms.length : Int) := by omega
            obtain ⟨y1, y2, y3, -⟩ := Hgd.out _ (List.getElem_mem hlt2)
            have e0 : ∀ wx, Lw w6 [(.slice pt T.length ct, T)] [(wo.heap.size, m)] [] wx → wx.cell? ⟨g, off + j * 8, none⟩ = some (.int .i64 ms[j].kind) := fun wx h => by obtain ⟨c0, c1, c2, c3, c4, c5, c6, c7⟩ := hc.below h.g hgl; exact c0
            have e1 : ∀ wx, Lw w6 [(.slice pt T.length ct, T)] [(wo.heap.size, m)] [] wx → wx.cell? ⟨g, off + j * 8 + 1, none⟩ = some (.string (Str ms[j].key)) := fun wx h => by obtain ⟨c0, c1, c2, c3, c4, c5, c6, c7⟩ := hc.below h.g hgl; exact c1
            have e2 : ∀ wx, Lw w6 [(.slice pt T.length ct, T)] [(wo.heap.size, m)] [] wx → wx.cell? ⟨g, off + j * 8 + 2, none⟩ = some (.string (Str ms[j].val)) := fun wx h => by obtain ⟨c0, c1, c2, c3, c4, c5, c6, c7⟩ := hc.below h.g hgl; exact c2
            have e3 : ∀ wx, Lw w6 [(.slice pt T.length ct, T)] [(wo.heap.size, m)] [] wx → wx.cell? ⟨g, off + j * 8 + 3, none⟩ = some (.string (Str ms[j].lo)) := fun wx h => by obtain ⟨c0, c1, c2, c3, c4, c5, c6, c7⟩ := hc.below h.g hgl; exact c3
            have e4 : ∀ wx, Lw w6 [(.slice pt T.length ct, T)] [(wo.heap.size, m)] [] wx → wx.cell? ⟨g, off + j * 8 + 4, none⟩ = some (.string (Str ms[j].hi)) := fun wx h => by obtain ⟨c0, c1, c2, c3, c4, c5, c6, c7⟩ := hc.below h.g hgl; exact c4
            have e5 : ∀ wx, Lw w6 [(.slice pt T.length ct, T)] [(wo.heap.size, m)] [] wx → wx.cell? ⟨g, off + j * 8 + 5, none⟩ = some (.string (Str ms[j].src)) := fun wx h => by obtain ⟨c0, c1, c2, c3, c4, c5, c6, c7⟩ := hc.below h.g hgl; exact c5
            have e6 : ∀ wx, Lw w6 [(.slice pt T.length ct, T)] [(wo.heap.size, m)] [] wx → wx.cell? ⟨g, off + j * 8 + 6, none⟩ = some (.string (Str ms[j].dst)) := fun wx h => by obtain ⟨c0, c1, c2, c3, c4, c5, c6, c7⟩ := hc.below h.g hgl; exact c6
            have e7 : ∀ wx, Lw w6 [(.slice pt T.length ct, T)] [(wo.heap.size, m)] [] wx → wx.cell? ⟨g, off + j * 8 + 7, none⟩ = some (.int .i64 ms[j].n) := fun wx h => by obtain ⟨c0, c1, c2, c3, c4, c5, c6, c7⟩ := hc.below h.g hgl; exact c7
            have HF1 := Lib.hid (fun wx (h : Lw w6 [(.slice pt T.length ct, T)] [(wo.heap.size, m)] [] wx) => lw_free h m ms[j] Hz1.out y1)
            have HF2 := Lib.hid (fun wx (h : Lw w6 [(.slice pt T.length ct, T)] [(wo.heap.size, m)] [] wx) => (rfree_w m ms[j] wx Hz1.out y1 Hz2.out y2).mono fun _ _ hh => lb_grown h hh)
            clear hc y1 y2 y3
            generalize ms[j] = o at *
            generalize freeB m o = fb at *
            cases fb
            all_goals
              go_wp2_with fail
              go_region_held3 (fun wx => Lw w6 [(.slice pt T.length ct, T)] [(wo.heap.size, m)] [] wx)
                (first | with_reducible assumption | with_reducible exact Hl2.out.drew)
                (first
                  | (go_at_call 27; (with_reducible refine (HF1.out _ (by assumption)).mono ?_); rintro e24 w24 ⟨rfl, hb24, hL24⟩)
                  | (go_at_call 28; (with_reducible refine (HF2.out _ (by assumption)).mono ?_); rintro e25 w25 ⟨rfl, hb25, hL25⟩)
                  | fail "no arm")
              all_goals
                have HL10 := Lib.hid hL25
                clear hL24 hL25 hb24 hb25
                go_wp2
                go_roundw
                case rel => exact ⟨j + 1, by omega, by go_num, HL10.out⟩
                case measure => simp [intOf]; omega
          · clear q0 q1 q2 q3 q4 q5 q6 q7
            go_wp2
            go_roundw
            case rel => exact ⟨k + 1, by omega, by go_num, Hl2.out.sub (by simp) (by simp) (by simp)⟩
            case measure => simp [intOf]; omega
    · obtain rfl : k = ms.length := by omega
      go_wp2
      go_ret
      exact ⟨rfl, HG6.out.trans (Hbel.out.mono HG6.out.size)⟩

end Go.Proofs.YtdckiaokldkfmaaGreat
