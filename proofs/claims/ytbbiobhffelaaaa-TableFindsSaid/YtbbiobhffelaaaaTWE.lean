/-
  Walks: the reference's choice of tables and of spans.
-/
import Derived.Test.YtbbiobhffelaaaaTWD
namespace Go.Proofs.Ytbbiobhffelaaaa
open Go.RowKit Go.Sort
set_option linter.unusedVariables false

/-- Three bytes that describe a pair. -/
abbrev Rw := Nat × Nat × Nat
def SmallR (x : Rw) : Prop := x.1 < 256 ∧ x.2.1 < 256 ∧ x.2.2 < 256
def IsRaws (w : World) (v : Value) (l : List Rw) : Prop :=
  ∃ a cap, v = .slice a l.length cap ∧ l.length ≤ cap ∧ cap ≤ maxLen ∧ (∀ x ∈ l, SmallR x) ∧ (l ≠ [] → ∃ b off, a = some ⟨b, off, none⟩ ∧ b < w.heap.size ∧
    ∀ i (h : i < l.length), w.cell? ⟨b, off + i * 3, none⟩ = some (.int .u8 l[i].1) ∧ w.cell? ⟨b, off + i * 3 + 1, none⟩ = some (.int .u8 l[i].2.1) ∧ w.cell? ⟨b, off + i * 3 + 2, none⟩ = some (.int .u8 l[i].2.2))
theorem IsRaws.below {w w' : World} {v : Value} {l : List Rw} (h : IsRaws w v l) (hb : Below w.heap.size w w') : IsRaws w' v l := by
  obtain ⟨a, cap, h1, h2, h3, h5, h4⟩ := h
  refine ⟨a, cap, h1, h2, h3, h5, fun hl => ?_⟩
  obtain ⟨b, off, e, hlt, hc⟩ := h4 hl
  exact ⟨b, off, e, Nat.lt_of_lt_of_le hlt hb.size, fun i hi => ⟨by rw [hb.cell (by exact hlt)]; exact (hc i hi).1, by rw [hb.cell (by exact hlt)]; exact (hc i hi).2.1, by rw [hb.cell (by exact hlt)]; exact (hc i hi).2.2⟩⟩
theorem IsRaws.form {w : World} {v : Value} {l : List Rw} (h : IsRaws w v l) : ∃ b off cap a, v = .slice a l.length cap ∧ l.length ≤ cap ∧ cap ≤ maxLen ∧ (l ≠ [] → a = some ⟨b, off, none⟩ ∧ b < w.heap.size) ∧
    ∀ i (h : i < l.length), a = some ⟨b, off, none⟩ ∧ w.cell? ⟨b, off + i * 3, none⟩ = some (.int .u8 l[i].1) ∧ w.cell? ⟨b, off + i * 3 + 1, none⟩ = some (.int .u8 l[i].2.1) ∧ w.cell? ⟨b, off + i * 3 + 2, none⟩ = some (.int .u8 l[i].2.2) := by
  obtain ⟨a, cap, h1, h2, h3, h5, h4⟩ := h
  by_cases hl : l = []
  · subst hl; exact ⟨0, 0, cap, a, h1, h2, h3, fun h => absurd rfl h, fun i hi => absurd hi (by simp)⟩
  · obtain ⟨b, off, e, hlt, hc⟩ := h4 hl
    exact ⟨b, off, cap, a, h1, h2, h3, fun _ => ⟨e, hlt⟩, fun i hi => ⟨e, hc i hi⟩⟩
theorem IsRaws.small {w : World} {v : Value} {l : List Rw} (h : IsRaws w v l) : ∀ x ∈ l, SmallR x := by
  obtain ⟨a, cap, h1, h2, h3, h5, h4⟩ := h; exact h5

def prS (x : Rw) : Pr := pairS x.1 x.2.1 x.2.2
def foldR (l : List Rw) : List Pr := l.foldl (fun t x => putS (prS x) t) []
/-- The table that is described. -/
def madeS (l : List Rw) : List Pr := foldR (l.take 40)
theorem foldR_snoc (l : List Rw) (x : Rw) : foldR (l ++ [x]) = putS (prS x) (foldR l) := by simp [foldR]
theorem foldR_take (l : List Rw) (k : Nat) (h : k < l.length) : foldR (l.take (k + 1)) = putS (prS l[k]) (foldR (l.take k)) := by
  rw [List.take_add_one, List.getElem?_eq_getElem h]; exact foldR_snoc _ _
theorem srt_foldR : ∀ l, Srt (foldR l) := by
  intro l
  suffices ∀ t, Srt t → Srt (l.foldl (fun t x => putS (prS x) t) t) from this [] srt_nil
  induction l with
  | nil => intro t h; exact h
  | cons x l ih => intro t h; exact ih _ (srt_put _ h)
theorem foldR_len : ∀ l, (foldR l).length ≤ l.length := by
  intro l
  suffices ∀ t : List Pr, (l.foldl (fun t x => putS (prS x) t) t).length ≤ t.length + l.length from by have := this []; simp only [List.length_nil, Nat.zero_add] at this; exact this
  induction l with
  | nil => intro t; simp
  | cons x l ih => intro t; have := ih (putS (prS x) t); have := put_length (prS x) t; simp; omega
theorem foldR_mem {l : List Rw} {y : Pr} (h : y ∈ foldR l) : ∃ x ∈ l, y = prS x := by
  suffices ∀ t : List Pr, y ∈ l.foldl (fun t x => putS (prS x) t) t → y ∈ t ∨ ∃ x ∈ l, y = prS x from by
    rcases this [] h with h | h
    · cases h
    · exact h
  induction l with
  | nil => intro t h; exact .inl h
  | cons x l ih =>
    intro t h2
    have ih' : ∀ t : List Pr, y ∈ l.foldl (fun t x => putS (prS x) t) t → y ∈ t ∨ ∃ x ∈ l, y = prS x := by
      intro t
      clear ih h h2
      induction l generalizing t with
      | nil => intro h; exact .inl h
      | cons z l ih2 =>
        intro h
        rcases ih2 (putS (prS z) t) h with h | ⟨q, h3, h4⟩
        · rcases (mem_put _ _ _).1 h with rfl | ⟨h5, -⟩
          · exact .inr ⟨z, by simp, rfl⟩
          · exact .inl h5
        · exact .inr ⟨q, by simp [h3], h4⟩
    rcases ih' _ h2 with h3 | ⟨q, h3, h4⟩
    · rcases (mem_put _ _ _).1 h3 with rfl | ⟨h5, -⟩
      · exact .inr ⟨x, by simp, rfl⟩
      · exact .inl h5
    · exact .inr ⟨q, by simp [h3], h4⟩
theorem prS_small (x : Rw) : (prS x).1.length ≤ 20 ∧ (prS x).2.1.length ≤ 10 := ⟨keyS_len _, getD_len (L := valL) (b := 10) (by decide) _⟩
theorem srt_made (l : List Rw) : Srt (madeS l) := srt_foldR _
theorem made_len (l : List Rw) : (madeS l).length ≤ 40 := Nat.le_trans (foldR_len _) (by rw [List.length_take]; omega)
theorem made_small {l : List Rw} : ∀ x ∈ madeS l, x.1.length ≤ 20 ∧ x.2.1.length ≤ 10 := by
  intro x hx
  obtain ⟨y, -, rfl⟩ := foldR_mem hx
  exact prS_small y

set_option maxRecDepth 100000 in
set_option maxHeartbeats 4000000 in
theorem made_w (v : Value) (l : List Rw) (w : World) (h : IsRaws w v l) : Calls Try.prog 11 #[v] w (OwnOut w.heap.size w (madeS l)) := by
  obtain ⟨b, off, cap, p, rfl, hlc, hcm, hpp, hcc⟩ := h.form
  unfold maxLen at hcm
  have HP := Lib.hid hpp
  have HC := Lib.hid hcc
  have Hls := Lib.hid h.small
  clear h hpp hcc
  go_enter Try.func11, Try.ntmps11
  go_wp2
  go_loopw [3, 4] (fun o i wr => ∃ j : Nat, j ≤ l.length ∧ j ≤ 40 ∧ i = .int .i64 j ∧ wr.ownsRow w.heap.size 30 3 o (foldR (l.take j)).length ((foldR (l.take j)).flatMap encP) ∧ IsPairs wr o (foldR (l.take j)) ∧ Below w.heap.size w wr) (fun _ i _ => l.length - (intOf i).toNat)
  case atStart => exact ⟨0, Nat.zero_le _, by omega, rfl, own_empty w w.heap.size (Nat.le_refl _), IsPairs.owned (l := []) (own_empty w w.heap.size (Nat.le_refl _)) (fun x hx => by simp at hx), below_box _⟩
  case round =>
    obtain ⟨j, hj, hj4, rfl, hown, hpr, hbel⟩ := hrel
    have hsz := hbel.size
    have Hown := Lib.hid hown
    have Hbel := Lib.hid hbel
    have Hpr := Lib.hid hpr
    clear hown hpr
    by_cases hlt : j < l.length ∧ j < 40
    · obtain ⟨hlt, hlt4⟩ := hlt
      obtain ⟨rfl, c0, c1, c2⟩ := HC.out j hlt
      have hgl := (HP.out (by rintro rfl; simp at hlt)).2
      have hltz : (j : Int) < (l.length : Int) := by omega
      have hlt4z : (j : Int) < 40 := by omega
      have c0 := (hbel.cell (p := ⟨b, off + j * 3, none⟩) hgl).trans c0
      have c1 := (hbel.cell (p := ⟨b, off + j * 3 + 1, none⟩) hgl).trans c1
      have c2 := (hbel.cell (p := ⟨b, off + j * 3 + 2, none⟩) hgl).trans c2
      have hxs := Hls.out l[j] (List.getElem_mem hlt)
      have Htk := Lib.hid (foldR_take l j hlt)
      have hfl := foldR_len (l.take j)
      have hfl2 : (foldR (l.take j)).length ≤ 40 := Nat.le_trans hfl (by rw [List.length_take]; omega)
      have Hs2 := Lib.hid (srt_foldR (l.take j))
      clear hbel hfl
      generalize l[j] = x at *
      obtain ⟨xa, xb, xc⟩ := x
      simp only at c0 c1 c2
      generalize foldR (l.take j) = u at *
      have Hps := Lib.hid (prS_small (xa, xb, xc))
      have Hpw := Lib.hid (fun wx => pair_w xa xb xc wx hxs.1 hxs.2.1 hxs.2.2)
      change Hid (foldR (l.take (j + 1)) = putS (keyS xa, valL.getD (xb % 4) [], ((xc % 4 : Nat) : Int)) u) at Htk
      change Hid ((keyS xa).length ≤ 20 ∧ (valL.getD (xb % 4) []).length ≤ 10) at Hps
      clear hxs
      generalize keyS xa = xk at *
      generalize valL.getD (xb % 4) [] = xv at *
      generalize xc % 4 = xt at *
      go_wp2_with fail
      refine (Hpw.out _).mono ?_
      rintro e w1 ⟨rfl, hb1⟩
      have Hb1 : Hid (Below w.heap.size w w1) := Lib.hid (Hbel.out.trans (hb1.mono hsz))
      have Hpr1 := Lib.hid (Hpr.out.below hb1)
      clear hb1
      go_wp2_with fail
      refine (rput_w _ u xk xv xt _ Hpr1.out Hs2.out (by omega) ⟨by have := Hps.out.1; unfold maxLen; omega, by have := Hps.out.2; unfold maxLen; omega⟩).mono ?_
      intro e w2 h2
      have H2 := Lib.hid (h2.lower Hb1.out Hb1.out.size)
      obtain ⟨v', rfl, -⟩ := h2
      go_wp2
      go_roundw
      case rel =>
        obtain ⟨v2, e2, h3, h4, h5⟩ := H2.out
        injection e2 with e2
        subst e2
        exact ⟨j + 1, by omega, by omega, by go_num, by rw [Htk.out]; exact h3, by rw [Htk.out]; exact h4, h5⟩
      case measure => simp [intOf]; omega
    · have hmd : Hid (foldR (l.take j) = madeS l) := Lib.hid (by
        unfold madeS
        by_cases h4 : j = 40
        · rw [h4]
        · have : j = l.length := by omega
          rw [List.take_of_length_le (by omega), List.take_of_length_le (by omega)])
      rw [hmd.out] at Hown Hpr
      clear hbel
      by_cases h1 : j < l.length
      · have h40 : 40 ≤ (j : Int) := by omega
        have hltz : (j : Int) < (l.length : Int) := by omega
        clear hlt
        go_wp2
        go_ret
        exact ⟨_, rfl, Hown.out, Hpr.out, Hbel.out⟩
      · have hltz : (l.length : Int) ≤ (j : Int) := by omega
        clear hlt
        go_wp2
        go_ret
        exact ⟨_, rfl, Hown.out, Hpr.out, Hbel.out⟩

/-- The span that is described. -/
def spanS (a b : Nat) : Sp :=
  (if 200 ≤ a then prefS a else keyS a, if 240 ≤ b then [] else if 200 ≤ b then (if 200 ≤ a then prefS a else keyS a) ++ [0] else keyS b)
theorem prefS_len (n : Nat) : (prefS n).length ≤ 20 := getD_len (L := preL) (b := 20) (by decide) _
end Go.Proofs.Ytbbiobhffelaaaa
