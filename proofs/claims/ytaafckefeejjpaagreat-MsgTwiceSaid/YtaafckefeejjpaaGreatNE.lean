/-
  Walks: the reference's choice of tables.
-/
import Derived.Test.YtaafckefeejjpaaGreatND
namespace Go.Proofs.YtaafckefeejjpaaGreat
open Go.RowKit Go.Sort
set_option linter.unusedVariables false

/-- Three bytes that describe a pair. -/
abbrev Rw := Nat × Nat × Nat
def SmallR (x : Rw) : Prop := x.1 < 256 ∧ x.2.1 < 256 ∧ x.2.2 < 256
def IsRaws (w : World) (v : Value) (l : List Rw) : Prop :=
  ∃ a cap, v = .slice a l.length cap ∧ l.length ≤ cap ∧ cap ≤ maxLen ∧ (∀ x ∈ l, SmallR x) ∧ (l ≠ [] → ∃ b off, a = some ⟨b, off, none⟩ ∧ b < w.heap.size ∧
    ∀ i (h : i < l.length), w.cell? ⟨b, off + i * 3, none⟩ = some (.int .u8 l[i].1) ∧ w.cell? ⟨b, off + i * 3 + 1, none⟩ = some (.int .u8 l[i].2.1) ∧ w.cell? ⟨b, off + i * 3 + 2, none⟩ = some (.int .u8 l[i].2.2))
theorem IsRaws.below {w w' : World} {v : Value} {l : List Rw} (h : IsRaws w v l) (hb : Below w.heap.size w w') : IsRaws w' v l := by
  obtain ⟨a, cap, h1, h2, h3, h5, h4⟩ := h
  refine ⟨a, cap, h1, h2, h3, h5, fun hl => ?_⟩
  obtain ⟨b, off, e, hlt, hc⟩ := h4 hl
  exact ⟨b, off, e, Nat.lt_of_lt_of_le hlt hb.size, fun i hi => ⟨by rw [hb.cell (by exact hlt)]; exact (hc i hi).1, by rw [hb.cell (by exact hlt)]; exact (hc i hi).2.1, by rw [hb.cell (by exact hlt)]; exact (hc i hi).2.2⟩⟩
theorem IsRaws.form {w : World} {v : Value} {l : List Rw} (h : IsRaws w v l) : ∃ b off cap a, v = .slice a l.length cap ∧ l.length ≤ cap ∧ cap ≤ maxLen ∧ (l ≠ [] → a = some ⟨b, off, none⟩ ∧ b < w.heap.size) ∧
    ∀ i (h : i < l.length), a = some ⟨b, off, none⟩ ∧ w.cell? ⟨b, off + i * 3, none⟩ = some (.int .u8 l[i].1) ∧ w.cell? ⟨b, off + i * 3 + 1, none⟩ = some (.int .u8 l[i].2.1) ∧ w.cell? ⟨b, off + i * 3 + 2, none⟩ = some (.int .u8 l[i].2.2) := by
  obtain ⟨a, cap, h1, h2, h3, h5, h4⟩ := h
  by_cases hl : l = []
  · subst hl; exact ⟨0, 0, cap, a, h1, h2, h3, fun h => absurd rfl h, fun i hi => absurd hi (by simp)⟩
  · obtain ⟨b, off, e, hlt, hc⟩ := h4 hl
    exact ⟨b, off, cap, a, h1, h2, h3, fun _ => ⟨e, hlt⟩, fun i hi => ⟨e, hc i hi⟩⟩
theorem IsRaws.small {w : World} {v : Value} {l : List Rw} (h : IsRaws w v l) : ∀ x ∈ l, SmallR x := by
  obtain ⟨a, cap, h1, h2, h3, h5, h4⟩ := h; exact h5
def prS (x : Rw) : Pr := (keyS x.1, valS x.2.1, (x.2.2 % 8 : Nat))
def foldR (l : List Rw) : List Pr := l.foldl (fun t x => putS (prS x) t) []
theorem foldR_snoc (l : List Rw) (x : Rw) : foldR (l ++ [x]) = putS (prS x) (foldR l) := by simp [foldR]
theorem foldR_take (l : List Rw) (k : Nat) (h : k < l.length) : foldR (l.take (k + 1)) = putS (prS l[k]) (foldR (l.take k)) := by
  rw [List.take_add_one, List.getElem?_eq_getElem h]; exact foldR_snoc _ _
theorem srt_foldR : ∀ l, Srt (foldR l) := by
  intro l
  suffices ∀ t, Srt t → Srt (l.foldl (fun t x => putS (prS x) t) t) from this [] srt_nil
  induction l with
  | nil => intro t h; exact h
  | cons x l ih => intro t h; exact ih _ (srt_put _ h)
theorem foldR_len : ∀ l, (foldR l).length ≤ l.length := by
  intro l
  suffices ∀ t : List Pr, (l.foldl (fun t x => putS (prS x) t) t).length ≤ t.length + l.length from by have := this []; simp only [List.length_nil, Nat.zero_add] at this; exact this
  induction l with
  | nil => intro t; simp
  | cons x l ih => intro t; have := ih (putS (prS x) t); have := put_length (prS x) t; simp; omega
theorem foldR_mem {l : List Rw} {y : Pr} (h : y ∈ foldR l) : ∃ x ∈ l, y = prS x := by
  suffices ∀ t : List Pr, y ∈ l.foldl (fun t x => putS (prS x) t) t → y ∈ t ∨ ∃ x ∈ l, y = prS x from by
    rcases this [] h with h | h
    · cases h
    · exact h
  induction l with
  | nil => intro t h; exact .inl h
  | cons x l ih =>
    intro t h2
    have ih' : ∀ t : List Pr, y ∈ l.foldl (fun t x => putS (prS x) t) t → y ∈ t ∨ ∃ x ∈ l, y = prS x := by
      intro t
      clear ih h h2
      induction l generalizing t with
      | nil => intro h; exact .inl h
      | cons z l ih2 =>
        intro h
        rcases ih2 (putS (prS z) t) h with h | ⟨q, h3, h4⟩
        · rcases (mem_put _ _ _).1 h with rfl | ⟨h5, -⟩
          · exact .inr ⟨z, by simp, rfl⟩
          · exact .inl h5
        · exact .inr ⟨q, by simp [h3], h4⟩
    rcases ih' _ h2 with h3 | ⟨q, h3, h4⟩
    · rcases (mem_put _ _ _).1 h3 with rfl | ⟨h5, -⟩
      · exact .inr ⟨x, by simp, rfl⟩
      · exact .inl h5
    · exact .inr ⟨q, by simp [h3], h4⟩
/-- The table that is described. -/
def tableS (l : List Rw) (n : Nat) : List Pr := foldR (l.take n)
theorem prS_small (x : Rw) : (prS x).1.length ≤ 20 ∧ (prS x).2.1.length ≤ 10 := ⟨by have := key_len x.1; show (keyS x.1).length ≤ 20; omega, val_len _⟩
theorem srt_table (l : List Rw) (n : Nat) : Srt (tableS l n) := srt_foldR _
theorem table_len (l : List Rw) (n : Nat) : (tableS l n).length ≤ n := Nat.le_trans (foldR_len _) (by rw [List.length_take]; omega)
theorem table_small {l : List Rw} {n : Nat} : ∀ x ∈ tableS l n, x.1.length ≤ 20 ∧ x.2.1.length ≤ 10 := by
  intro x hx
  obtain ⟨y, -, rfl⟩ := foldR_mem hx
  exact prS_small y

set_option maxRecDepth 100000 in
set_option maxHeartbeats 4000000 in
theorem table_w (v : Value) (l : List Rw) (n : Nat) (w : World) (h : IsRaws w v l) (hn : n ≤ 100) : Calls Tryz.prog 39 #[v, .int .i64 n] w (OwnOut w.heap.size w (tableS l n)) := by
  have mixed := mixedA
  obtain ⟨b, off, cap, p, rfl, hlc, hcm, hpp, hcc⟩ := h.form
  unfold maxLen at hcm
  have HP := Lib.hid hpp
  have HC := Lib.hid hcc
  have Hls := Lib.hid h.small
  have HT : Hid (foldR (l.take n) = tableS l n) := Lib.hid rfl
  clear h hpp hcc
  go_enter Tryz.func39, Tryz.ntmps39
  go_wp2
  go_loopw [5, 6] (fun o i wr => ∃ j : Nat, j ≤ l.length ∧ j ≤ n ∧ i = .int .i64 j ∧ wr.ownsRow w.heap.size 91 3 o (foldR (l.take j)).length ((foldR (l.take j)).flatMap encP) ∧ IsPairs wr o (foldR (l.take j)) ∧ Below w.heap.size w wr) (fun _ i _ => l.length - (intOf i).toNat)
  case atStart => exact ⟨0, Nat.zero_le _, Nat.zero_le _, rfl, own_empty w w.heap.size (Nat.le_refl _), IsPairs.owned (l := []) (own_empty w w.heap.size (Nat.le_refl _)) (fun x hx => by simp at hx), below_box _⟩
  case round =>
    obtain ⟨j, hj, hj4, rfl, hown, hpr, hbel⟩ := hrel
    have hsz := hbel.size
    have Hown := Lib.hid hown
    have Hbel := Lib.hid hbel
    have Hpr := Lib.hid hpr
    clear hown hpr
    by_cases hlt : j < l.length ∧ j < n
    · obtain ⟨hlt, hlt4⟩ := hlt
      obtain ⟨rfl, c0, c1, c2⟩ := HC.out j hlt
      have hgl := (HP.out (by rintro rfl; simp at hlt)).2
      have hltz : (j : Int) < (l.length : Int) := by omega
      have hlt4z : (j : Int) < n := by omega
      have c0 : ∀ wx, SB wr wx → wx.cell? ⟨b, off + j * 3, none⟩ = _ := fun wx hx => ((Hbel.out.trans (hx.g.mono hsz)).cell (p := ⟨b, off + j * 3, none⟩) hgl).trans c0
      have c1 : ∀ wx, SB wr wx → wx.cell? ⟨b, off + j * 3 + 1, none⟩ = _ := fun wx hx => ((Hbel.out.trans (hx.g.mono hsz)).cell (p := ⟨b, off + j * 3 + 1, none⟩) hgl).trans c1
      have c2 : ∀ wx, SB wr wx → wx.cell? ⟨b, off + j * 3 + 2, none⟩ = _ := fun wx hx => ((Hbel.out.trans (hx.g.mono hsz)).cell (p := ⟨b, off + j * 3 + 2, none⟩) hgl).trans c2
      have hxs := Hls.out l[j] (List.getElem_mem hlt)
      have Htk := Lib.hid (foldR_take l j hlt)
      have hfl := foldR_len (l.take j)
      have hfl2 : (foldR (l.take j)).length ≤ 100 := Nat.le_trans hfl (by rw [List.length_take]; omega)
      have Hs2 := Lib.hid (srt_foldR (l.take j))
      clear hbel hfl
      generalize l[j] = x at *
      obtain ⟨xa, xb, xc⟩ := x
      simp only at c0 c1 c2
      generalize foldR (l.take j) = u at *
      have Hps := Lib.hid (prS_small (xa, xb, xc))
      change Hid (foldR (l.take (j + 1)) = putS (keyS xa, valS xb, ((xc % 8 : Nat) : Int)) u) at Htk
      change Hid ((keyS xa).length ≤ 20 ∧ (valS xb).length ≤ 10) at Hps
      have Hk := Lib.hid (fun wx => key_w xa wx hxs.1)
      have Hv := Lib.hid (fun wx => value_w xb wx hxs.2.1)
      have hc8 : xc % 8 < 8 := Nat.mod_lt _ (by decide)
      have hzc : (xc : Int) % 8 = ((xc % 8 : Nat) : Int) := by omega
      have hxc : (xc : Int) < 256 := by have h3 : xc < 256 := hxs.2.2; omega
      clear hxs
      generalize keyS xa = xk at *
      generalize valS xb = xv at *
      generalize xc % 8 = q at *
      have hzq : (q : Int) < 8 := by omega
      have hzq0 : (0 : Int) ≤ (q : Int) := by omega
      have htc : (xc : Int).tmod 8 = (q : Int) := by rw [Int.tmod_eq_emod_of_nonneg (by omega)]; exact hzc
      have hwq : IntKind.u8.wrap (q : Int) = (q : Int) := by simp [IntKind.wrap, IntKind.bits, IntKind.signed]; omega
      have hwi : IntKind.i64.wrap (q : Int) = (q : Int) := IntWalk.i64_in _ (by omega)
      have Hin := Lib.hid (fun wx (hb : SB wr wx) => (insert_w _ u xk xv q wx (Hpr.out.below hb.g) Hs2.out (by omega) ⟨by have := Hps.out.1; unfold maxLen; omega, by have := Hps.out.2; unfold maxLen; omega⟩).mono fun e w' hh => And.intro (OwnOut.lower hh (Hbel.out.trans (hb.g.mono hsz)) (Nat.le_trans hsz hb.g.size)) (show SB wr w' from by obtain ⟨_, _, _, _, h6⟩ := hh; exact SB.below hb h6))
      go_upto_region 5 with fail
      go_region_held3 (fun wx => SB wr wx) (first | with_reducible assumption | exact SB.below (by with_reducible assumption) (by with_reducible assumption) | exact (SB.refl wr).drew)
        (first
          | (go_at_call 68; (with_reducible refine (Hk.out _).mono ?_); rintro e w2 ⟨rfl, hb2⟩)
          | (go_at_call 71; (with_reducible refine (Hv.out _).mono ?_); rintro e w3 ⟨rfl, hb3⟩)
          | (go_at_call 82; (with_reducible refine (Hin.out _ (by with_reducible assumption)).mono ?_); rintro e w4 ⟨h4, hsb4⟩; have H4 := Lib.hid h4; obtain ⟨v', rfl, -⟩ := h4))
      all_goals
        clear c0 c1 c2
        go_wp2
        go_roundw
        case rel =>
          obtain ⟨v2, e2, h3, h5, h6⟩ := H4.out
          injection e2 with e2
          subst e2
          exact ⟨j + 1, by omega, by omega, by go_num, by rw [Htk.out]; exact h3, by rw [Htk.out]; exact h5, h6⟩
        case measure => simp [intOf]; omega
    · have hmd : Hid (foldR (l.take j) = tableS l n) := Lib.hid (by
        rw [← HT.out]
        by_cases h4 : j = n
        · rw [h4]
        · have : j = l.length := by omega
          rw [List.take_of_length_le (by omega), List.take_of_length_le (by omega)])
      rw [hmd.out] at Hown Hpr
      clear hbel
      by_cases h1 : j < l.length
      · have h40 : (n : Int) ≤ (j : Int) := by omega
        have hltz : (j : Int) < (l.length : Int) := by omega
        clear hlt
        go_wp2
        go_ret
        exact ⟨_, rfl, Hown.out, Hpr.out, Hbel.out⟩
      · have hltz : (l.length : Int) ≤ (j : Int) := by omega
        clear hlt
        go_wp2
        go_ret
        exact ⟨_, rfl, Hown.out, Hpr.out, Hbel.out⟩

end Go.Proofs.YtaafckefeejjpaaGreat
