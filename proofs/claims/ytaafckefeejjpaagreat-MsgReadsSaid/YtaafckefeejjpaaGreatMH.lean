/-
  Walks: Apply and All.
-/
import Derived.Test.YtaafckefeejjpaaGreatME
import Derived.Test.YtaafckefeejjpaaGreatMG
namespace Go.Proofs.YtaafckefeejjpaaGreat
open Go.RowKit Go.Sort
set_option linter.unusedVariables false

theorem apply_none (b : Nat) (v : Value) (l : List Pr) (w : World) (h : IsPairs w v l) (hl : l.length ≤ 100000) :
    Calls Tryz.prog 217 #[ptrV b, v] w (OwnOut w.heap.size w l) := by
  have H0 := Lib.hid (clone_w v l w h hl)
  clear h
  go_enter Tryz.func217, Tryz.ntmps217
  go_wp2_with (go_at_call 65; refine H0.out.mono ?_; intro e w3 h2; have H2 := Lib.hid h2; obtain ⟨v', rfl, -⟩ := h2)
  go_ret
  exact H2.out
theorem applyF_w (b : Nat) (m : Ms) (v : Value) (l : List Pr) (w : World) (hm : MBlk w b m) (h : IsPairs w v l) (hs : Srt l) (hl : l.length ≤ 10000) (hz : SizeM m) (hk : ∀ x ∈ l, x.1.length ≤ 100000) :
    Calls Tryz.prog (applyF m.kind) #[ptrV b, v] w (OwnOut w.heap.size w (applyS m l)) := by
  obtain ⟨z1, z2, z3, z4, z5, z6⟩ := hz
  unfold applyF pickF applyS
  by_cases h1 : m.kind = 1
  · simp only [h1]; exact apply_put b m v l w hm h hs (by omega) (by omega) (by unfold maxLen; omega)
  by_cases h2 : m.kind = 2
  · simp only [h2]; exact apply_del b m v l w hm h hs (by omega) (by omega)
  by_cases h3 : m.kind = 3
  · simp only [h3]; exact apply_drop b m v l w hm h hs (by omega)
  by_cases h4 : m.kind = 4
  · simp only [h4]; exact apply_move b m v l w hm h hs hl z5 z6 hk
  by_cases h5 : m.kind = 5
  · simp only [h5]; exact apply_clone b m v l w hm h hs hl z5 z6 hk
  by_cases h6 : m.kind = 6
  · simp only [h6]; exact apply_stamp b m v l w hm h (by omega)
  simp only [h1, h2, h3, h4, h5, h6, if_false]
  exact apply_none b v l w h (by omega)
set_option maxRecDepth 100000 in
set_option maxHeartbeats 1000000 in
theorem apply_w (m : Ms) (v : Value) (l : List Pr) (w : World) (h : IsPairs w v l) (hs : Srt l) (hl : l.length ≤ 10000) (hz : SizeM m) (hk : ∀ x ∈ l, x.1.length ≤ 100000) :
    Calls Tryz.prog 47 #[v, msgV m] w (OwnOut w.heap.size w (applyS m l)) := by
  have hB : MBlk (w.alloc (.cells (encM m) 47)) w.heap.size m := Blk.new _ _ _
  have HF := Lib.hid (applyF_w w.heap.size m v l _ hB (h.below (below_box _)) hs hl hz hk)
  have HO := Lib.hid (of_w m.kind w.heap.size _ hB.plain.1)
  have hm := disp_apply.m m.kind w.heap.size
  have hc := disp_apply.c m.kind
  clear hB hz h hs hk
  go_enter Tryz.func47, Tryz.ntmps47
  go_wp2_with fail
  refine HO.out.mono ?_
  rintro e w1 ⟨rfl, rfl⟩
  go_wp2_with fail
  refine HF.out.mono ?_
  intro e w2 h2
  have H2 := Lib.hid (h2.lower (below_box _) (by simp))
  obtain ⟨v', rfl, -⟩ := h2
  go_wp2
  go_ret
  exact H2.out

/-- A slice of messages. -/
def MAt (w : World) (b o : Nat) (m : Ms) : Prop :=
  w.cell? ⟨b, o, none⟩ = some (.int .i64 m.kind) ∧ w.cell? ⟨b, o + 1, none⟩ = some (.string (Str m.key)) ∧ w.cell? ⟨b, o + 2, none⟩ = some (.string (Str m.val)) ∧ w.cell? ⟨b, o + 3, none⟩ = some (.string (Str m.lo)) ∧
  w.cell? ⟨b, o + 4, none⟩ = some (.string (Str m.hi)) ∧ w.cell? ⟨b, o + 5, none⟩ = some (.string (Str m.src)) ∧ w.cell? ⟨b, o + 6, none⟩ = some (.string (Str m.dst)) ∧ w.cell? ⟨b, o + 7, none⟩ = some (.int .i64 m.n)
theorem MAt.below {w w' : World} {b o : Nat} {m : Ms} (h : MAt w b o m) {B : Nat} (hb : Below B w w') (hl : b < B) : MAt w' b o m := by
  have e : ∀ k, w'.cell? ⟨b, k, none⟩ = w.cell? ⟨b, k, none⟩ := fun k => hb.cell (p := ⟨b, k, none⟩) hl
  unfold MAt at *
  simp only [e]; exact h
def IsMsgs (w : World) (v : Value) (l : List Ms) : Prop :=
  ∃ a cap, v = .slice a l.length cap ∧ l.length ≤ cap ∧ cap ≤ maxLen ∧ (l ≠ [] → ∃ b off, a = some ⟨b, off, none⟩ ∧ b < w.heap.size ∧ ∀ i (h : i < l.length), MAt w b (off + i * 8) l[i])
theorem IsMsgs.below {w w' : World} {v : Value} {l : List Ms} (h : IsMsgs w v l) (hb : Below w.heap.size w w') : IsMsgs w' v l := by
  obtain ⟨a, cap, h1, h2, h3, h4⟩ := h
  refine ⟨a, cap, h1, h2, h3, fun hl => ?_⟩
  obtain ⟨b, off, e, hlt, hc⟩ := h4 hl
  exact ⟨b, off, e, Nat.lt_of_lt_of_le hlt hb.size, fun i hi => (hc i hi).below hb hlt⟩
theorem IsMsgs.form {w : World} {v : Value} {l : List Ms} (h : IsMsgs w v l) : ∃ b off cap a, v = .slice a l.length cap ∧ l.length ≤ cap ∧ cap ≤ maxLen ∧ (l ≠ [] → a = some ⟨b, off, none⟩ ∧ b < w.heap.size) ∧
    ∀ i (h : i < l.length), a = some ⟨b, off, none⟩ ∧ MAt w b (off + i * 8) l[i] := by
  obtain ⟨a, cap, h1, h2, h3, h4⟩ := h
  by_cases hl : l = []
  · subst hl; exact ⟨0, 0, cap, a, h1, h2, h3, fun h => absurd rfl h, fun i hi => absurd hi (by simp)⟩
  · obtain ⟨b, off, e, hlt, hc⟩ := h4 hl
    exact ⟨b, off, cap, a, h1, h2, h3, fun _ => ⟨e, hlt⟩, fun i hi => ⟨e, hc i hi⟩⟩

theorem srt_stamp (s : Sp) (n : Int) {l : List Pr} (h : Srt l) : Srt (stampT s n l) := by
  unfold stampT Srt
  rw [List.pairwise_map]
  refine List.Pairwise.imp (fun {x y} hxy => ?_) h
  have e : ∀ z : Pr, (stampP s n z).1 = z.1 := fun z => by unfold stampP; split <;> rfl
  rw [e, e]; exact hxy
theorem srt_apply (m : Ms) {l : List Pr} (h : Srt l) : Srt (applyS m l) := by
  unfold applyS
  split
  · exact srt_put _ h
  split
  · exact srt_del _ h
  split
  · exact srt_drop _ h
  split
  · exact srt_drop _ (srt_union (srt_drop _ h) _)
  split
  · exact srt_union (srt_drop _ h) _
  split
  · exact srt_stamp _ _ h
  exact h
theorem srt_all (ms : List Ms) {l : List Pr} (h : Srt l) : Srt (allS ms l) := by
  induction ms generalizing l with
  | nil => exact h
  | cons m ms ih => exact ih (srt_apply m h)
theorem all_take (ms : List Ms) (l : List Pr) (k : Nat) (h : k < ms.length) : allS (ms.take (k + 1)) l = applyS ms[k] (allS (ms.take k) l) := by
  unfold allS
  rw [List.take_add_one, List.getElem?_eq_getElem h, List.foldl_append]; rfl
/-- On the way no table is too long, and no key. -/
def OkAll (ms : List Ms) (l : List Pr) : Prop := ∀ k, k ≤ ms.length → (allS (ms.take k) l).length ≤ 10000 ∧ ∀ x ∈ allS (ms.take k) l, x.1.length ≤ 100000

set_option maxRecDepth 100000 in
set_option maxHeartbeats 2000000 in
theorem all_w (v u : Value) (l : List Pr) (ms : List Ms) (w : World) (h : IsPairs w v l) (hm : IsMsgs w u ms) (hs : Srt l) (hz : ∀ m ∈ ms, SizeM m) (hok : OkAll ms l) :
    Calls Tryz.prog 26 #[v, u] w (OwnOut w.heap.size w (allS ms l)) := by
  obtain ⟨g, off, cap, p, rfl, hlc, hcm, hpp, hcc⟩ := hm.form
  unfold maxLen at hcm
  have HP := Lib.hid hpp
  have HC := Lib.hid hcc
  have hl0 := (hok 0 (Nat.zero_le _)).1
  have HCl := Lib.hid (clone_w v l w h (by simp only [List.take_zero] at hl0; exact Nat.le_trans hl0 (by omega)))
  have Hok := Lib.hid hok
  have Hz := Lib.hid hz
  have Hs := Lib.hid hs
  clear hm hpp hcc h hok hz hs hl0
  go_enter Tryz.func26, Tryz.ntmps26
  go_wp2_with fail
  refine HCl.out.mono ?_
  rintro e w2 ⟨v2, rfl, hown, hp2, hb2⟩
  have Hown2 := Lib.hid hown
  have Hp2 := Lib.hid hp2
  have Hb2 := Lib.hid hb2
  clear hown hp2 hb2
  go_wp2
  go_loopw [5, 12] (fun x i wr => ∃ k : Nat, k ≤ ms.length ∧ i = .int .i64 k ∧ wr.ownsRow w.heap.size 91 3 x (allS (ms.take k) l).length ((allS (ms.take k) l).flatMap encP) ∧ IsPairs wr x (allS (ms.take k) l) ∧ Below w.heap.size w wr) (fun _ i _ => ms.length - (intOf i).toNat)
  case atStart => exact ⟨0, Nat.zero_le _, rfl, Hown2.out, Hp2.out, Hb2.out⟩
  case round =>
    obtain ⟨k, hk, rfl, hown, hp, hbel⟩ := hrel
    clear Hb2 Hp2 Hown2
    have hsz := hbel.size
    have Hown := Lib.hid hown
    have Hp := Lib.hid hp
    have Hbel := Lib.hid hbel
    clear hown hp hbel
    by_cases hlt : k < ms.length
    · obtain ⟨rfl, hc⟩ := HC.out k hlt
      have hgl := (HP.out (by rintro rfl; simp at hlt)).2
      have hltz : (k : Int) < (ms.length : Int) := by omega
      obtain ⟨c0, c1, c2, c3, c4, c5, c6, c7⟩ := hc.below Hbel.out hgl
      have Htk := Lib.hid (all_take ms l k hlt)
      obtain ⟨n1, n2⟩ := Hok.out k hk
      have HA := Lib.hid (fun wx (hb : Below wr.heap.size wr wx) => apply_w ms[k] u5 _ wx (Hp.out.below hb) (srt_all _ Hs.out) n1 (Hz.out _ (List.getElem_mem hlt)) n2)
      have Hbx := Lib.hid (below_box (w := wr) (.cells (encM ms[k]) 47))
      clear hc n1 n2
      generalize ms[k] = m at *
      go_wp2_with fail
      refine (HA.out _ Hbx.out).mono ?_
      rintro e w3 ⟨v3, rfl, hown3, hp3, hb3⟩
      rw [← Htk.out] at hown3 hp3
      have hbs := Hbx.out.size
      have Hown3 := Lib.hid (owns_lower hown3 (Nat.le_trans hsz hbs))
      have Hp3 := Lib.hid hp3
      have Hb3 : Hid (Below w.heap.size w w3) := Lib.hid ((Hbel.out.trans (Hbx.out.mono hsz)).trans (hb3.mono (Nat.le_trans hsz hbs)))
      clear hown3 hp3 hb3
      go_wp2
      go_roundw
      case rel => exact ⟨k + 1, by omega, by go_num, Hown3.out, Hp3.out, Hb3.out⟩
      case measure => simp [intOf]; omega
    · obtain rfl : k = ms.length := by omega
      rw [List.take_length] at Hown Hp
      go_wp2
      go_ret
      exact ⟨_, rfl, Hown.out, Hp.out, Hbel.out⟩

end Go.Proofs.YtaafckefeejjpaaGreat
