/-
  The walk of the law RouteFree.
-/
import Derived.Test.YtjncehkldhkobaaGreatSK
namespace Go.Proofs.YtjncehkldhkobaaGreat
open Go.RowKit Go.Sort
set_option linter.unusedVariables false

theorem valid_apart {m : Ms} (h : validM m = true) : ApartM m := fun h4 => by
  unfold validM fitsB at h
  simp [h4] at h
  have h1 := h.1
  unfold apartB at h1
  simp at h1
  exact ⟨by simpa using h1.2.2.2, by simpa using h1.2.2.1⟩
theorem blk_made2 {W w2 : World} {T : TypeId} {cs : Array Value} {o : Obj} (hb : Below ((W.alloc o).alloc (.cells cs T)).drew.heap.size ((W.alloc o).alloc (.cells cs T)).drew w2) : Blk w2 (W.heap.size + 1) T cs :=
  Blk.below (show Blk ((W.alloc o).alloc (.cells cs T)).drew _ _ _ from Blk.new' (W.alloc o) T cs (by simp)) hb (by simp)
theorem blk_made3 {W w2 : World} {T U : TypeId} {cs ds : Array Value} (hb : Below ((W.alloc (.cells cs T)).alloc (.cells ds U)).drew.heap.size ((W.alloc (.cells cs T)).alloc (.cells ds U)).drew w2) : Blk w2 W.heap.size T cs :=
  Blk.below (show Blk ((W.alloc (.cells cs T)).alloc (.cells ds U)).drew _ _ _ from (Blk.new W T cs).alloc _) hb (by simp; omega)
theorem keepSetN {W wx : World} {n : Nat} (h : Below W.heap.size W wx) (hn : W.heap.size ≤ n) (i : Nat) (v : Value) : Below W.heap.size W (wx.setCell ⟨n, i, none⟩ v) := h.setCell hn _
theorem spans_blk {w : World} {b : Nat} {x : Sp} {T : TypeId} (h : Blk w b T #[.string (Str x.1), .string (Str x.2)]) : IsSpans w (.slice (some ⟨b, 0, none⟩) 1 1) [x] := by
  refine ⟨_, _, rfl, Nat.le_refl _, by unfold maxLen; omega, fun _ => ⟨b, 0, rfl, h.lt, fun i hi => ?_⟩⟩
  obtain rfl : i = 0 := by simp at hi; exact hi
  exact ⟨h.c0 0 _ rfl, h.c0 1 _ rfl⟩
theorem blk_other {w : World} {b n : Nat} {T : TypeId} {cs : Array Value} (h : Blk w b T cs) (hn : b ≠ n) (i : Nat) (v : Value) : Blk (w.setCell ⟨n, i, none⟩ v) b T cs := by
  unfold Blk; rw [Below.heap_setCell _ _ _ _ hn]; exact h
def FreeAt (w : World) (b n : Nat) (x : Sp) (G St : List Ms) (wz : World) : Prop :=
  Hid (∃ b', Value.slice (some ⟨b, 0, none⟩) 1 1 = Value.slice (some ⟨b', 0, none⟩) 1 1 ∧ IsSpans wz (.slice (some ⟨b, 0, none⟩) 1 1) [x]) ∧ Hid (WayAt w (.pointer (some ⟨n, 0, none⟩)) G St wz)
theorem free_fin {w wx y2 wz : World} {n b : Nat} {x : Sp} {p q : Option Addr} {c d : Nat} {G St : List Ms} {U : TypeId} (g2 : OwnM y2 wx.heap.size (.slice p G.length c) G) (t2 : OwnM y2 wx.heap.size (.slice q St.length d) St)
    (hk : ∀ k, wx.heap.size ≤ k → k < y2.heap.size → wz.heap[k]? = y2.heap[k]?) (hB : Blk wz n 34 #[.slice p G.length c, .slice q St.length d, .slice none 0 0]) (hS : Blk wz b U #[.string (Str x.1), .string (Str x.2)]) (hb : Below w.heap.size w wz) : FreeAt w b n x G St wz :=
  ⟨Lib.hid ⟨b, rfl, spans_blk hS⟩, Lib.hid ⟨n, p, q, c, d, rfl, hB, OwnM.msgs (owns_keep g2 hk), OwnM.msgs (owns_keep t2 hk), hb⟩⟩
section
variable {w y2 : World} {x : Sp} {p q : Option Addr} {c d : Nat} {G St : List Ms} {U : TypeId}
theorem free1 (g2 : OwnM y2 (w.alloc (.cells #[.string (Str x.1), .string (Str x.2)] U)).drew.heap.size (.slice p G.length c) G) (t2 : OwnM y2 (w.alloc (.cells #[.string (Str x.1), .string (Str x.2)] U)).drew.heap.size (.slice q St.length d) St)
    (hS2 : Below w.heap.size w y2) (hT2 : Below (w.alloc (.cells #[.string (Str x.1), .string (Str x.2)] U)).drew.heap.size (w.alloc (.cells #[.string (Str x.1), .string (Str x.2)] U)).drew y2) :
    FreeAt w w.heap.size y2.heap.size x G St (y2.alloc (.cells #[.slice p G.length c, .slice q St.length d, .slice none 0 0] 34)) :=
  free_fin g2 t2 (fun k _ h => Below.heap_alloc _ _ _ h) (Blk.new _ _ _) ((blk_made hT2).alloc _) (keepA hS2 _)
theorem free2 {zs : Array Value} {x0 x1 x2 : Value} (hz : zs = #[x0, x1, x2]) (g2 : OwnM y2 ((w.alloc (.cells #[.string (Str x.1), .string (Str x.2)] U)).alloc (.cells zs 34)).drew.heap.size (.slice p G.length c) G)
    (t2 : OwnM y2 ((w.alloc (.cells #[.string (Str x.1), .string (Str x.2)] U)).alloc (.cells zs 34)).drew.heap.size (.slice q St.length d) St)
    (hS2 : Below w.heap.size w y2) (hT2 : Below ((w.alloc (.cells #[.string (Str x.1), .string (Str x.2)] U)).alloc (.cells zs 34)).drew.heap.size ((w.alloc (.cells #[.string (Str x.1), .string (Str x.2)] U)).alloc (.cells zs 34)).drew y2) :
    FreeAt w w.heap.size (w.heap.size + 1) x G St (((y2.setCell ⟨w.heap.size + 1, 0, none⟩ (.slice p G.length c)).setCell ⟨w.heap.size + 1, 1, none⟩ (.slice q St.length d)).setCell ⟨w.heap.size + 1, 2, none⟩ (.slice none 0 0)) := by
  subst hz
  have hne : w.heap.size ≠ w.heap.size + 1 := by omega
  refine free_fin g2 t2 (fun k h _ => ?_) ((((blk_made2 hT2).setCell 0 _).setCell 1 _).setCell 2 _) (blk_other (blk_other (blk_other (blk_made3 hT2) hne _ _) hne _ _) hne _ _) (((hS2.setCell (Nat.le_succ _) _).setCell (Nat.le_succ _) _).setCell (Nat.le_succ _) _)
  have hn : k ≠ w.heap.size + 1 := by simp at h; omega
  rw [Below.heap_setCell _ _ _ _ hn, Below.heap_setCell _ _ _ _ hn, Below.heap_setCell _ _ _ _ hn]
theorem free3 (g2 : OwnM y2 w.drew.heap.size (.slice p G.length c) G) (t2 : OwnM y2 w.drew.heap.size (.slice q St.length d) St) (hS2 : Below w.heap.size w y2) :
    FreeAt w y2.heap.size (y2.heap.size + 1) x G St ((y2.alloc (.cells #[.string (Str x.1), .string (Str x.2)] U)).alloc (.cells #[.slice p G.length c, .slice q St.length d, .slice none 0 0] 34)) :=
  free_fin g2 t2 (fun k _ h => by rw [Below.heap_alloc _ _ _ (by simp; omega), Below.heap_alloc _ _ _ h]) (Blk.new' _ _ _ (by simp)) ((Blk.new _ _ _).alloc _) (keepA (keepA hS2 _) _)
theorem free4 (g2 : OwnM y2 w.drew.heap.size (.slice p G.length c) G) (t2 : OwnM y2 w.drew.heap.size (.slice q St.length d) St) (hS2 : Below w.heap.size w y2) :
    FreeAt w (y2.heap.size + 1) y2.heap.size x G St ((y2.alloc (.cells #[.slice p G.length c, .slice q St.length d, .slice none 0 0] 34)).alloc (.cells #[.string (Str x.1), .string (Str x.2)] U)) :=
  free_fin g2 t2 (fun k _ h => by rw [Below.heap_alloc _ _ _ (by simp; omega), Below.heap_alloc _ _ _ h]) ((Blk.new _ _ _).alloc _) (Blk.new' _ _ _ (by simp)) (keepA (keepA hS2 _) _)
theorem free5 {zs : Array Value} {x0 x1 x2 : Value} (hz : zs = #[x0, x1, x2]) (g2 : OwnM y2 ((w.alloc (.cells zs 34)).alloc (.cells #[.string (Str x.1), .string (Str x.2)] U)).drew.heap.size (.slice p G.length c) G)
    (t2 : OwnM y2 ((w.alloc (.cells zs 34)).alloc (.cells #[.string (Str x.1), .string (Str x.2)] U)).drew.heap.size (.slice q St.length d) St)
    (hS2 : Below w.heap.size w y2) (hT2 : Below ((w.alloc (.cells zs 34)).alloc (.cells #[.string (Str x.1), .string (Str x.2)] U)).drew.heap.size ((w.alloc (.cells zs 34)).alloc (.cells #[.string (Str x.1), .string (Str x.2)] U)).drew y2) :
    FreeAt w (w.heap.size + 1) w.heap.size x G St (((y2.setCell ⟨w.heap.size, 0, none⟩ (.slice p G.length c)).setCell ⟨w.heap.size, 1, none⟩ (.slice q St.length d)).setCell ⟨w.heap.size, 2, none⟩ (.slice none 0 0)) := by
  subst hz
  have hne : w.heap.size + 1 ≠ w.heap.size := by omega
  refine free_fin g2 t2 (fun k h _ => ?_) ((((blk_made3 hT2).setCell 0 _).setCell 1 _).setCell 2 _) (blk_other (blk_other (blk_other (blk_made2 hT2) hne _ _) hne _ _) hne _ _) (((hS2.setCell (Nat.le_refl _) _).setCell (Nat.le_refl _) _).setCell (Nat.le_refl _) _)
  have hn : k ≠ w.heap.size := by simp at h; omega
  rw [Below.heap_setCell _ _ _ _ hn, Below.heap_setCell _ _ _ _ hn, Below.heap_setCell _ _ _ _ hn]
theorem free6 {zs : Array Value} {x0 x1 x2 : Value} (hz : zs = #[x0, x1, x2]) (g2 : OwnM y2 (w.alloc (.cells zs 34)).drew.heap.size (.slice p G.length c) G)
    (t2 : OwnM y2 (w.alloc (.cells zs 34)).drew.heap.size (.slice q St.length d) St)
    (hS2 : Below w.heap.size w y2) (hT2 : Below (w.alloc (.cells zs 34)).drew.heap.size (w.alloc (.cells zs 34)).drew y2) :
    FreeAt w y2.heap.size w.heap.size x G St ((((y2.alloc (.cells #[.string (Str x.1), .string (Str x.2)] U)).setCell ⟨w.heap.size, 0, none⟩ (.slice p G.length c)).setCell ⟨w.heap.size, 1, none⟩ (.slice q St.length d)).setCell ⟨w.heap.size, 2, none⟩ (.slice none 0 0)) := by
  subst hz
  have hz := blk_made hT2
  have hlt := hz.lt
  have hne : y2.heap.size ≠ w.heap.size := by omega
  refine free_fin g2 t2 (fun k h h2 => ?_) ((((hz.alloc _).setCell 0 _).setCell 1 _).setCell 2 _) (blk_other (blk_other (blk_other (Blk.new _ _ _) hne _ _) hne _ _) hne _ _) ((((keepA hS2 _).setCell (Nat.le_refl _) _).setCell (Nat.le_refl _) _).setCell (Nat.le_refl _) _)
  have hn : k ≠ w.heap.size := by simp at h; omega
  rw [Below.heap_setCell _ _ _ _ hn, Below.heap_setCell _ _ _ _ hn, Below.heap_setCell _ _ _ _ hn, Below.heap_alloc _ _ _ h2]
end
def okF (ps : List Bs) (l : List Ms) : List Ms := l.filter fun m => !crossB m ps
theorem okF_take (ps : List Bs) (l : List Ms) (j : Nat) (h : j < l.length) : okF ps (l.take (j + 1)) = okF ps (l.take j) ++ if crossB l[j] ps then [] else [l[j]] := by
  unfold okF
  rw [List.take_succ_eq_append_getElem h, List.filter_append]
  cases hc : crossB l[j] ps <;> simp [hc]
theorem okF_mem {ps : List Bs} {l : List Ms} {m : Ms} (h : m ∈ okF ps l) : m ∈ l ∧ crossB m ps = false := by
  unfold okF at h
  rw [List.mem_filter] at h
  exact ⟨h.1, by simpa using h.2⟩
theorem okF_len (ps : List Bs) (l : List Ms) : (okF ps l).length ≤ l.length := List.length_filter_le _ _

set_option maxRecDepth 100000 in
set_option maxHeartbeats 8000000 in
theorem routeFree_walk (w : World) (v0 : Value) (x0 : List Rw) (r0 : IsRaws w v0 x0) (v1 : Value) (x1 : List R6) (r1 : IsR6s w v1 x1) (v2 : Value) (x2 : Bs) (r2 : IsBytes w v2 x2) :
    Calls Tryz.prog 8 #[v0, v1, v2] w fun e w' => e = .returned (.bool true) ∧ Below w.heap.size w w' := by
  have mixed := mixedA
  have R0 := Lib.hid r0
  have R1 := Lib.hid r1
  have R2 := Lib.hid r2
  obtain ⟨a0, q0, rfl, -⟩ := r0
  obtain ⟨a1, q1, rfl, -⟩ := r1
  obtain ⟨a2, q2, rfl, -⟩ := r2
  have HSAN := Lib.hid (sanity_w w)
  go_enter Tryz.func8, Tryz.ntmps8
  go_wp2_with fail
  refine HSAN.out.mono ?_
  rintro e w1 ⟨rfl, hb1⟩
  have HB1 := Lib.hid hb1
  clear hb1 HSAN
  go_wp2_with fail
  refine (table_w _ x0 12 w1 (R0.out.below HB1.out) (by decide)).mono ?_
  rintro e w2 ⟨vt, rfl, ht1, ht2, hb2⟩
  have HT2 := Lib.hid ht2
  have HB2 := Lib.hid (HB1.out.trans (hb2.mono HB1.out.size))
  clear ht1 ht2 hb2 HB1
  go_wp2_with fail
  refine (list_w _ x1 10 w2 (R1.out.below HB2.out) (by decide)).mono ?_
  rintro e w3 ⟨vb, rfl, ho3, hb3⟩
  have HM3 := Lib.hid ho3.msgs
  have HT3 := Lib.hid (HT2.out.below hb3)
  have HB3 := Lib.hid (HB2.out.trans (hb3.mono HB2.out.size))
  clear ho3 hb3 HT2 HB2
  go_wp2_with fail
  refine (pivots8_w _ x2 w3 (R2.out.below HB3.out)).mono ?_
  rintro e w4 ⟨vp, rfl, hs4, hb4⟩
  have HS4 := Lib.hid hs4
  have HM4 := Lib.hid (HM3.out.below hb4)
  have HT4 := Lib.hid (HT3.out.below hb4)
  have HB4 := Lib.hid (HB3.out.trans (hb4.mono HB3.out.size))
  clear hb4 HM3 HT3 HB3 R0 R1 R2
  -- what is known
  have hst := srt_table x0 12
  have htl := table_len x0 12
  have htk : ∀ x ∈ tableS x0 12, x.1.length ≤ 100 := fun x hx => Nat.le_trans (table_small x hx).1 (by decide)
  have hbo := listS_okR x1 10
  have hbl := listS_len x1 10
  have hps := pivR_srt x2
  have hpl := pivR_len x2
  have hkz := kid_size x2
  generalize tableS x0 12 = T at *
  generalize listS x1 10 = B at *
  generalize pivR x2 = ps at *
  have HST := Lib.hid hst
  have HKZ := Lib.hid hkz
  have HPS := Lib.hid hps
  have HTK := Lib.hid htk
  have HBO := Lib.hid hbo
  obtain ⟨at', ct, rfl⟩ := slice_tbl HT4.out
  obtain ⟨ab, cb, rfl, hcb, hcbm, -⟩ := id HM4.out
  obtain ⟨ap, cp, rfl, hcp, hcpm, -⟩ := id HS4.out
  have htlz : T.length ≤ 500000000 := by omega
  have hblz : (B.length : Int) ≤ 9223372036854775807 := by omega
  clear hst htk hbo hps hkz hs4
  go_wp2
  go_loopw [11, 12] (fun o i wr => ∃ j : Nat, j ≤ B.length ∧ i = .int .i64 j ∧ OwnM wr w4.heap.size o (okF ps (B.take j)) ∧ Below w4.heap.size w4 wr) (fun _ i _ => B.length - (intOf i).toNat)
  case atStart => exact ⟨0, Nat.zero_le _, rfl, by rw [List.take_zero]; exact own_emptyM w4 w4.heap.size (Nat.le_refl _), below_box _⟩
  case round =>
    obtain ⟨j, hj, rfl, hown, hbel⟩ := hrel
    have Hown := Lib.hid hown
    have Hbel := Lib.hid hbel
    have hsz := hbel.size
    clear hown hbel
    by_cases hlt : j < B.length
    · obtain ⟨b, off, cap, he, hbl1, hlz, hm⟩ := msg_cells (HM4.out.below Hbel.out) j hlt
      injection he with he1 he2 he3
      subst he1 he3
      clear he2
      have hltz : (j : Int) < (B.length : Int) := by omega
      have Htk := Lib.hid (okF_take ps B j hlt)
      have hlen : (okF ps (B.take j)).length ≤ 10 := Nat.le_trans (okF_len _ _) (by rw [List.length_take]; omega)
      obtain ⟨g1, g2⟩ := HBO.out B[j] (List.getElem_mem hlt)
      have HCR := Lib.hid (fun wx (hx : Below wr.heap.size wr wx) => rcrosses_w B[j] _ ps wx g1.1 (one_six g2) (HS4.out.below (Hbel.out.trans (hx.mono hsz))) HPS.out (by omega))
      clear g1 g2
      generalize okF ps (B.take j) = left at *
      generalize B[j] = m at *
      obtain ⟨c0, c1, c2, c3, c4, c5, c6, c7⟩ := hm
      go_wp2_with fail
      refine (HCR.out _ (Below.refl _ _)).mono ?_
      rintro e2 w5 ⟨rfl, hb2⟩
      have Hown2 := Lib.hid (Hown.out.below hb2)
      have Hb2 : Hid (Below w4.heap.size w4 w5) := Lib.hid (Hbel.out.trans (hb2.mono hsz))
      cases hcr : crossB m ps with
      | true =>
        rw [hcr] at Htk
        clear hb2 c0 c1 c2 c3 c4 c5 c6 c7 hcr
        go_wp2
        go_roundw
        case rel => exact ⟨j + 1, by omega, by go_num, by rw [Htk.out]; simpa using Hown2.out, Hb2.out⟩
        case measure => simp [intOf]; omega
      | false =>
        rw [hcr] at Htk
        have d0 := (hb2.cell (p := ⟨b, off + j * 8, none⟩) hbl1).trans c0
        have d1 := (hb2.cell (p := ⟨b, off + j * 8 + 1, none⟩) hbl1).trans c1
        have d2 := (hb2.cell (p := ⟨b, off + j * 8 + 2, none⟩) hbl1).trans c2
        have d3 := (hb2.cell (p := ⟨b, off + j * 8 + 3, none⟩) hbl1).trans c3
        have d4 := (hb2.cell (p := ⟨b, off + j * 8 + 4, none⟩) hbl1).trans c4
        have d5 := (hb2.cell (p := ⟨b, off + j * 8 + 5, none⟩) hbl1).trans c5
        have d6 := (hb2.cell (p := ⟨b, off + j * 8 + 6, none⟩) hbl1).trans c6
        have d7 := (hb2.cell (p := ⟨b, off + j * 8 + 7, none⟩) hbl1).trans c7
        clear hb2 c0 c1 c2 c3 c4 c5 c6 c7 hcr
        go_wp2_with (at_builtin; refine append_msg rfl _ _ rfl w4.heap.size _ left rfl (Hown2.out.below (below_box _)) ⟨w5.heap.size, 0, none⟩ 1 m rfl (cells_new' w5 (encML m) 40 rfl) (by omega) (Nat.le_trans Hb2.out.size (by simp)) ?_; intro v3 w3 hown3 hb3)
        have Hown3 : Hid (OwnM w3 w4.heap.size v3 (okF ps (B.take (j + 1)))) := Lib.hid (by rw [Htk.out]; exact hown3)
        have Hb3 : Hid (Below w4.heap.size w4 w3) := Lib.hid ((Hb2.out.alloc Hb2.out.size _).trans hb3)
        clear hown3 hb3 d0 d1 d2 d3 d4 d5 d6 d7
        go_wp2
        go_roundw
        case rel => exact ⟨j + 1, by omega, by go_num, Hown3.out, Hb3.out⟩
        case measure => simp [intOf]; omega
    · obtain rfl : j = B.length := by omega
      rw [List.take_length] at Hown
      have hfl := okF_len ps B
      have HFO : Hid (∀ m ∈ okF ps B, OkR m ∧ validM m = true ∧ crossB m ps = false) := Lib.hid (fun m hm => ⟨(HBO.out m (okF_mem hm).1).1, (HBO.out m (okF_mem hm).1).2, (okF_mem hm).2⟩)
      generalize okF ps B = F at *
      have HF := Lib.hid Hown.out.msgs
      obtain ⟨af, cf, rfl, hcf, hcfm, -⟩ := id HF.out
      have HOK : Hid (OkAll F T) := Lib.hid (okAll_mv _ HST.out (by omega) HTK.out (fun m hm => (HFO.out m hm).1.2.2) (by omega) (Nat.le_trans (mv_len F) (by omega)))
      have HT5 := Lib.hid (HT4.out.below Hbel.out)
      have HS5 := Lib.hid (HS4.out.below Hbel.out)
      have HB5 := Lib.hid (HB4.out.trans (Hbel.out.mono HB4.out.size))
      clear Hown hsz hlt hj
      go_wp2_with fail
      refine (spans8_w _ ps wr HS5.out (by omega)).mono ?_
      rintro e w6 ⟨vs, rfl, ho6, hb6⟩
      have HK6 := Lib.hid (IsSpans.owned ho6)
      have HS6 := Lib.hid (HS5.out.below hb6)
      have HF6 := Lib.hid (HF.out.below hb6)
      have HT6 := Lib.hid (HT5.out.below hb6)
      have HB6 := Lib.hid (HB5.out.trans (hb6.mono HB5.out.size))
      obtain ⟨aK, cK, rfl, -⟩ := id HK6.out
      clear ho6 hb6 HS5 HF HT5 HB5
      go_wp2_with fail
      refine (rall_w _ _ T F w6 HT6.out HF6.out HST.out (fun m hm => ⟨(HFO.out m hm).1.1, one_six (HFO.out m hm).2.1, valid_apart (HFO.out m hm).2.1⟩) HOK.out).mono ?_
      rintro e w7 ⟨vw, rfl, hw7, hb7⟩
      have HW7 := Lib.hid hw7
      have HK7 := Lib.hid (HK6.out.below hb7)
      have HS7 := Lib.hid (HS6.out.below hb7)
      have HF7 := Lib.hid (HF6.out.below hb7)
      have HT7 := Lib.hid (HT6.out.below hb7)
      have HB7 := Lib.hid (HB6.out.trans (hb7.mono HB6.out.size))
      obtain ⟨aw, cw, rfl⟩ := slice_tbl hw7
      clear hw7 hb7 HK6 HS6 HF6 HT6 HB6 HS4 HM4 HT4 Hbel
      have HKL := Lib.hid (kids_len ps)
      have hkl := kids_len ps
      rw [hkl]
      clear hkl
      go_wp2
      go_loopw [15] (fun i wr => ∃ k : Nat, i = .int .i64 k ∧ k ≤ ps.length + 1 ∧ Below w7.heap.size w7 wr) (fun i _ => ps.length + 1 - (intOf i).toNat)
      case atStart => exact ⟨0, rfl, Nat.zero_le _, Below.refl _ _⟩
      case round =>
        obtain ⟨k, rfl, hk, hbel⟩ := hrel
        have Hbel := Lib.hid hbel
        clear hbel
        by_cases hle : k < ps.length + 1
        · have hlez : (k : Int) < ((ps.length + 1 : Nat) : Int) := by omega
          have hokG := ready_ok (HKZ.out k) (fun m hm => (HFO.out m hm).1)
          have hlen := ready_len (kidSp ps k) F
          have HR1 := Lib.hid (fun wx (h1 : IsMsgs wx (.slice af F.length cf) F) (h2 : IsStrs wx (.slice ap ps.length cp) ps) => lready_w _ _ F ps k wx h1 h2 (fun m hm => (HFO.out m hm).1.1) (fun m hm => (HFO.out m hm).1.2.1) (by omega) (HKZ.out k) (by omega) (by omega))
          have hfr := frInv (kidSp ps k) (l := F) (fun m hm => ⟨side_kid HPS.out (HFO.out m hm).2.2 (by omega), writes_valid (HFO.out m hm).2.1⟩)
          have HST1 := Lib.hid hfr.stay
          have HEF := Lib.hid (hfr.eff T HST.out)
          clear hfr
          have HOKk : Hid (OkAll (readyW (kidSp ps k) F).1 (withinS [kidSp ps k] T)) := Lib.hid (by
            have c1 := mv_ready (kidSp ps k) F
            have c3 := mv_len F
            exact okAll_mv _ (srt_filter _ HST.out) (Nat.le_trans (List.length_filter_le _ _) (by omega)) (fun x hx => HTK.out x (List.mem_filter.1 hx).1) (fun m hm => (hokG.1 m hm).2.2) (by omega) (by omega))
          unfold WayOut at HR1
          have HEK : Hid (kidSp ps k = (kidsS ps)[k]'(by rw [HKL.out]; exact hle)) := Lib.hid (kidSp_at hle)
          have hkk : k < (kidsS ps).length := by rw [HKL.out]; exact hle
          obtain ⟨b2, off2, cap2, he, hbl2, -, y0, y1⟩ := span_cells (HK7.out.below Hbel.out) k hkk
          injection he with he1 he2 he3
          subst he1 he3
          clear he2
          rw [show (kidsS ps)[k] = kidSp ps k from HEK.out.symm] at y0 y1
          generalize kidSp ps k = S at *
          generalize readyW S F = W1 at *
          obtain ⟨G, St, Bl⟩ := W1
          dsimp only at HR1 HEF HST1 HOKk hokG hlen
          have HA1 := Lib.hid (fun u v wx (h1 : IsPairs wx u (withinS [S] T)) (h2 : IsMsgs wx v G) => all_w u v _ G wx h1 h2 (srt_filter _ HST.out) (fun m hm => (hokG.1 m hm).1) HOKk.out)
          have HGS := Lib.hid (fun m (hm : m ∈ St) => (hokG.2 m hm).1)
          clear hokG HOKk
          have hwn : (withinS [S] T).length ≤ 500000000 := Nat.le_trans (List.length_filter_le _ _) htlz
          have hy0 : ∀ wx, Below wr.heap.size wr wx → wx.cell? ⟨b2, off2 + k * 2, none⟩ = some (.string (Str S.1)) := fun wx hx => (hx.cell (p := ⟨b2, off2 + k * 2, none⟩) hbl2).trans y0
          have hy1 : ∀ wx, Below wr.heap.size wr wx → wx.cell? ⟨b2, off2 + k * 2 + 1, none⟩ = some (.string (Str S.2)) := fun wx hx => (hx.cell (p := ⟨b2, off2 + k * 2 + 1, none⟩) hbl2).trans y1
          have HL0 : Hid (Below wr.heap.size wr wr) := Lib.hid (Below.refl _ _)
          have HFw := Lib.hid (HF7.out.below Hbel.out)
          have HSw := Lib.hid (HS7.out.below Hbel.out)
          have HRX : Hid (∀ wx, Below wr.heap.size wr wx → Calls Tryz.prog 18 #[.slice af F.length cf, .slice ap ps.length cp, .int .i64 k] wx fun e w' => ∃ p q c d, e = .returned (wayV (.slice p G.length c) (.slice q St.length d)) ∧ OwnM w' wx.heap.size (.slice p G.length c) G ∧ OwnM w' wx.heap.size (.slice q St.length d) St ∧ Below wr.heap.size wr w' ∧ Below wx.heap.size wx w') := Lib.hid (fun wx hx => (HR1.out wx (HFw.out.below hx) (HSw.out.below hx)).mono fun e w' ⟨u1, u2, h1, h2, h3, h4⟩ => by
            obtain ⟨p, c, rfl, -⟩ := h2.msgs
            obtain ⟨q, d, rfl, -⟩ := h3.msgs
            exact ⟨p, q, c, d, h1, h2, h3, keepB hx h4, h4⟩)
          clear y0 y1 hbl2
          go_wp2_with fail
          go_cut [16, 17] (fun s16 s17 wx => Hid (∃ b, s16 = .slice (some ⟨b, 0, none⟩) 1 1 ∧ IsSpans wx s16 [S]) ∧ Hid (WayAt wr s17 G St wx))
          case first =>
            go_region_held3 (fun wx => Below wr.heap.size wr wx)
              (repeat (first | with_reducible assumption | with_reducible exact HL0.out | with_reducible refine Below.drew ?_ | with_reducible refine keepA ?_ _ | with_reducible refine keepSetN ?_ (by first | exact Nat.le_refl _ | exact Nat.le_succ _ | exact hS2.size | exact Nat.le_succ_of_le hS2.size) _ _))
              (first
                | (go_at_call 18; (refine (HRX.out _ (by repeat (first | with_reducible assumption | with_reducible exact HL0.out | with_reducible refine Below.drew ?_ | with_reducible refine keepA ?_ _))).mono ?_); rintro e2 y2 ⟨p2, q2, c2, d2, rfl, g2, t2, hS2, hT2⟩; (first | (have hz := blk_made2 hT2; have z0 := hz.c0 0 _ rfl; have z1 := hz.c0 1 _ rfl; have z2 := hz.c0 2 _ rfl; have z3 := hz.free 0; have z4 := hz.free 1; have z5 := hz.free 2) | (have hz := blk_made3 hT2; have z0 := hz.c0 0 _ rfl; have z1 := hz.c0 1 _ rfl; have z2 := hz.c0 2 _ rfl; have z3 := hz.free 0; have z4 := hz.free 1; have z5 := hz.free 2) | (have hz := blk_made hT2; have z0 := fun o => (hz.alloc o).c0 0 _ rfl; have z1 := fun o => (hz.alloc o).c0 1 _ rfl; have z2 := fun o => (hz.alloc o).c0 2 _ rfl; have z3 := fun o => (hz.alloc o).free 0; have z4 := fun o => (hz.alloc o).free 1; have z5 := fun o => (hz.alloc o).free 2) | skip))
                | fail "no arm")
            all_goals (go_wp2_with fail; go_meet)
            · exact free1 g2 t2 hS2 hT2
            · exact free2 rfl g2 t2 hS2 hT2
            · exact free3 g2 t2 hS2
            · exact free4 g2 t2 hS2
            · exact free5 rfl g2 t2 hS2 hT2
            · exact free6 rfl g2 t2 hS2 hT2
          case rest =>
            obtain ⟨hc1, hc2⟩ := hcut
            obtain ⟨bs, rfl, hsp⟩ := hc1.out
            obtain ⟨bz, pz, qz, cz, dz, rfl, hY, hG, hSz, hBz⟩ := hc2.out
            have HSP := Lib.hid hsp
            have HG := Lib.hid hG
            have HSZ := Lib.hid hSz
            have HY := Lib.hid hY
            have HBZ := Lib.hid (Hbel.out.trans (hBz.mono Hbel.out.size))
            clear hc1 hc2 hsp hY hG hSz hBz hy0 hy1 HRX HL0 HFw HSw HR1
            have hsz0 : (St.length : Int) ≤ 9223372036854775807 := by omega
            have HSTL := Lib.hid hlen
            go_wp2
            go_loopw [18] (fun i wr => ∃ j : Nat, i = .int .i64 j ∧ j ≤ St.length ∧ Below wc.heap.size wc wr) (fun i _ => St.length - (intOf i).toNat)
            case atStart => exact ⟨0, rfl, Nat.zero_le _, Below.refl _ _⟩
            case round =>
              obtain ⟨j, rfl, hj, hbl⟩ := hrel
              have HBL := Lib.hid hbl
              clear hbl
              by_cases hlt : j < St.length
              · obtain ⟨b, off, cap, he, hbl1, hlz, hm⟩ := msg_cells (HSZ.out.below HBL.out) j hlt
                injection he with he1 he2 he3
                subst he1 he3
                clear he2
                have hltz : (j : Int) < (St.length : Int) := by omega
                have hKW := (HK7.out.below HBZ.out).below HBL.out
                have hkk : k < (kidsS ps).length := by rw [HKL.out]; exact hle
                obtain ⟨b3, off3, cap3, he, hbl2, -, y0, y1⟩ := span_cells hKW k hkk
                injection he with he1 he2 he3
                injection he1 with he1
                injection he1 with he1 he4
                subst he1 he4
                clear he2 he3 hKW
                rw [show (kidsS ps)[k] = S from HEK.out.symm] at y0 y1
                have HPA := Lib.hid (fun wx => part_w St[j] S wx (HGS.out _ (List.getElem_mem hlt)))
                rw [HST1.out St[j] (List.getElem_mem hlt)] at HPA
                generalize St[j] = m at *
                obtain ⟨z0, z1, z2, z3, z4, z5, z6, z7⟩ := hm
                obtain ⟨sa, sb⟩ := S
                dsimp only at y0 y1
                simp only [strS] at HPA
                have hxx : ∀ wx, Below wr.heap.size wr wx → wx.cell? ⟨bz, 1, none⟩ = some (.slice (some ⟨b, off, none⟩) St.length dz) := fun wx hx => ((HY.out.below HBL.out HY.out.lt).below hx (HY.out.below HBL.out HY.out.lt).lt).c0 1 _ rfl
                have c1 : wr.cell? ⟨bz, 1, none⟩ = some (.slice (some ⟨b, off, none⟩) St.length dz) := hxx wr (Below.refl _ _)
                have x0 : ∀ wx, Below wr.heap.size wr wx → wx.cell? ⟨b, off + j * 8, none⟩ = some (.int .i64 m.kind) := fun wx hx => (hx.cell (p := ⟨b, off + j * 8, none⟩) hbl1).trans z0
                have x1 : ∀ wx, Below wr.heap.size wr wx → wx.cell? ⟨b, off + j * 8 + 1, none⟩ = some (.string (Str m.key)) := fun wx hx => (hx.cell (p := ⟨b, off + j * 8 + 1, none⟩) hbl1).trans z1
                have x2 : ∀ wx, Below wr.heap.size wr wx → wx.cell? ⟨b, off + j * 8 + 2, none⟩ = some (.string (Str m.val)) := fun wx hx => (hx.cell (p := ⟨b, off + j * 8 + 2, none⟩) hbl1).trans z2
                have x3 : ∀ wx, Below wr.heap.size wr wx → wx.cell? ⟨b, off + j * 8 + 3, none⟩ = some (.string (Str m.lo)) := fun wx hx => (hx.cell (p := ⟨b, off + j * 8 + 3, none⟩) hbl1).trans z3
                have x4 : ∀ wx, Below wr.heap.size wr wx → wx.cell? ⟨b, off + j * 8 + 4, none⟩ = some (.string (Str m.hi)) := fun wx hx => (hx.cell (p := ⟨b, off + j * 8 + 4, none⟩) hbl1).trans z4
                have x5 : ∀ wx, Below wr.heap.size wr wx → wx.cell? ⟨b, off + j * 8 + 5, none⟩ = some (.string (Str m.src)) := fun wx hx => (hx.cell (p := ⟨b, off + j * 8 + 5, none⟩) hbl1).trans z5
                have x6 : ∀ wx, Below wr.heap.size wr wx → wx.cell? ⟨b, off + j * 8 + 6, none⟩ = some (.string (Str m.dst)) := fun wx hx => (hx.cell (p := ⟨b, off + j * 8 + 6, none⟩) hbl1).trans z6
                have x7 : ∀ wx, Below wr.heap.size wr wx → wx.cell? ⟨b, off + j * 8 + 7, none⟩ = some (.int .i64 m.n) := fun wx hx => (hx.cell (p := ⟨b, off + j * 8 + 7, none⟩) hbl1).trans z7
                have hy0 : ∀ wx, Below wr.heap.size wr wx → wx.cell? ⟨b2, off2 + k * 2, none⟩ = some (.string (Str sa)) := fun wx hx => (hx.cell (p := ⟨b2, off2 + k * 2, none⟩) hbl2).trans y0
                have hy1 : ∀ wx, Below wr.heap.size wr wx → wx.cell? ⟨b2, off2 + k * 2 + 1, none⟩ = some (.string (Str sb)) := fun wx hx => (hx.cell (p := ⟨b2, off2 + k * 2 + 1, none⟩) hbl2).trans y1
                have HL0 : Hid (Below wr.heap.size wr wr) := Lib.hid (Below.refl _ _)
                clear z0 z1 z2 z3 z4 z5 z6 z7 y0 y1 HA1 HGS HST1
                go_wp2_with fail
                go_region_held3 (fun wx => Below wr.heap.size wr wx)
                  (repeat (first | with_reducible assumption | with_reducible exact HL0.out | with_reducible refine Below.drew ?_ | with_reducible refine keepA ?_ _))
                  (first
                    | (go_at_call 23; (refine (HPA.out _).mono ?_); rintro e2 y2 ⟨v2, rfl, hm2, hg2⟩; obtain ⟨pv, cv, rfl, -⟩ := hm2; have hS2 : Below wr.heap.size wr y2 := keepG (by repeat (first | with_reducible assumption | with_reducible exact HL0.out | with_reducible refine Below.drew ?_ | with_reducible refine keepA ?_ _)) hg2)
                    | fail "no arm")
                have HF : Hid (Below wc.heap.size wc y2) := Lib.hid (HBL.out.trans (hS2.mono HBL.out.size))
                clear hS2 hg2 hxx x0 x1 x2 x3 x4 x5 x6 x7 hy0 hy1 c1
                go_wp2
                go_roundw
                case rel => exact ⟨j + 1, by go_num, by omega, HF.out⟩
                case measure => simp [intOf]; omega
              · obtain rfl : j = St.length := by omega
                have HB8 := Lib.hid (HBZ.out.trans (HBL.out.mono HBZ.out.size))
                have HY8 := Lib.hid (HY.out.below HBL.out HY.out.lt)
                have HG8 := Lib.hid (HG.out.below HBL.out)
                have HSP8 := Lib.hid (HSP.out.below HBL.out)
                have HT8 := Lib.hid (HT7.out.below HB8.out)
                have HW8 := Lib.hid (HW7.out.below HB8.out)
                have hy0 : ∀ wx, Below wr.heap.size wr wx → wx.cell? ⟨bz, 0, none⟩ = some (.slice pz G.length cz) := fun wx hx => (HY8.out.below hx HY8.out.lt).c0 0 _ rfl
                have c1 : wr.cell? ⟨bz, 1, none⟩ = some (.slice qz St.length dz) := HY8.out.c0 1 _ rfl
                have HL0 : Hid (Below wr.heap.size wr wr) := Lib.hid (Below.refl _ _)
                have HC1 : Hid (∀ wx, Below wr.heap.size wr wx → Calls Tryz.prog 36 #[.slice at' T.length ct, .slice (some ⟨bs, 0, none⟩) 1 1] wx fun e w' => ∃ a c, e = .returned (.slice a (withinS [S] T).length c) ∧ IsPairs w' (.slice a (withinS [S] T).length c) (withinS [S] T) ∧ Below wr.heap.size wr w') := Lib.hid (fun wx hx => (within_w _ _ T [S] wx (HT8.out.below hx) (HSP8.out.below hx) htlz).mono fun e w' ⟨v', h1, h2, h3, h4⟩ => by
                  obtain ⟨a, c, rfl⟩ := slice_tbl h3
                  exact ⟨a, c, h1, h3, keepB hx h4⟩)
                have HC2 : Hid (∀ u wx, Below wr.heap.size wr wx → IsPairs wx u (withinS [S] T) → Calls Tryz.prog 35 #[u, .slice pz G.length cz] wx fun e w' => ∃ a c, e = .returned (.slice a (allS G (withinS [S] T)).length c) ∧ IsPairs w' (.slice a (allS G (withinS [S] T)).length c) (allS G (withinS [S] T)) ∧ Below wr.heap.size wr w') := Lib.hid (fun u wx hx hu => (HA1.out _ _ wx hu (HG8.out.below hx)).mono fun e w' ⟨v', h1, h2, h3, h4⟩ => by
                  obtain ⟨a, c, rfl⟩ := slice_tbl h3
                  exact ⟨a, c, h1, h3, keepB hx h4⟩)
                have hawl : (allS F T).length ≤ 500000000 := by have h9 := (okAll_end HOK.out).1; omega
                have HC3 : Hid (∀ wx, Below wr.heap.size wr wx → Calls Tryz.prog 36 #[.slice aw (allS F T).length cw, .slice (some ⟨bs, 0, none⟩) 1 1] wx fun e w' => ∃ a c, e = .returned (.slice a (withinS [S] (allS F T)).length c) ∧ IsPairs w' (.slice a (withinS [S] (allS F T)).length c) (withinS [S] (allS F T)) ∧ Below wr.heap.size wr w' ∧ Below wx.heap.size wx w') := Lib.hid (fun wx hx => (within_w _ _ _ [S] wx (HW8.out.below hx) (HSP8.out.below hx) hawl).mono fun e w' ⟨v', h1, h2, h3, h4⟩ => by
                  obtain ⟨a, c, rfl⟩ := slice_tbl h3
                  exact ⟨a, c, h1, h3, keepB hx h4, h4⟩)
                rw [HEF.out] at HC2
                generalize withinS [S] (allS F T) = N2 at *
                generalize withinS [S] T = N1 at *
                have HC4 : Hid (∀ u v wx, Below wr.heap.size wr wx → IsPairs wx u N2 → IsPairs wx v N2 → Calls Tryz.prog 34 #[u, v] wx fun e w' => e = .returned (.bool true) ∧ Below wr.heap.size wr w') := Lib.hid (fun u v wx hx hu hv => (rsame_w _ _ N2 N2 wx hu hv).mono fun e w' ⟨h1, n, h2⟩ => ⟨h1.trans (by rw [decide_eq_true rfl]), hx.trans (by rw [h2]; exact below_drewN _ _)⟩)
                clear HA1 HST1 HGS HEF
                go_wp2_with fail
                go_region_held3 (fun wx => Below wr.heap.size wr wx)
                  (repeat (first | with_reducible assumption | with_reducible exact HL0.out | with_reducible refine Below.drew ?_ | with_reducible refine keepA ?_ _))
                  (first
                    | (go_at_call_of 36 (Value.slice at' T.length ct); (with_reducible refine (HC1.out _ (by repeat (first | with_reducible assumption | with_reducible exact HL0.out | with_reducible refine Below.drew ?_))).mono ?_); rintro e2 y2 ⟨p2, c2, rfl, g2, hS2⟩)
                    | (go_at_call 35; (with_reducible refine (HC2.out _ _ (by repeat (first | with_reducible assumption | with_reducible exact HL0.out | with_reducible refine Below.drew ?_)) (by first | with_reducible exact g2 | with_reducible exact g2.drew)).mono ?_); rintro e3 y3 ⟨p3, c3, rfl, g3, hS3⟩)
                    | (go_at_call 36; (with_reducible refine (HC3.out _ (by repeat (first | with_reducible assumption | with_reducible exact HL0.out | with_reducible refine Below.drew ?_))).mono ?_); rintro e4 y4 ⟨p4, c4, rfl, g4, hS4, hb4⟩; have g5 := IsPairs.below (by first | with_reducible exact g3 | with_reducible exact g3.drew) hb4)
                    | (go_at_call 34; (with_reducible refine (HC4.out _ _ _ (by repeat (first | with_reducible assumption | with_reducible exact HL0.out | with_reducible refine Below.drew ?_)) (by first | with_reducible exact g5 | with_reducible exact g5.drew) (by first | with_reducible exact g4 | with_reducible exact g4.drew)).mono ?_); rintro e6 y6 ⟨rfl, hS6⟩)
                    | fail "no arm")
                have HF : Hid (Below w7.heap.size w7 y6) := Lib.hid (HB8.out.trans (hS6.mono HB8.out.size))
                clear hS2 hS3 hS4 hS6 g2 g3 g4 g5 hb4 hy0 c1
                go_wp2
                go_roundw
                case rel => exact ⟨k + 1, by go_num, by omega, HF.out⟩
                case measure => simp [intOf]; omega
        · obtain rfl : k = ps.length + 1 := by omega
          go_wp2
          go_ret
          exact ⟨rfl, HB7.out.trans (Hbel.out.mono HB7.out.size)⟩

end Go.Proofs.YtjncehkldhkobaaGreat
