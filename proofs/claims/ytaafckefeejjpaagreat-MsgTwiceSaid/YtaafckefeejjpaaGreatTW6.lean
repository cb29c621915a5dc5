/-
  Walks: Moved and Valid of package table.
-/
import Derived.Test.YtaafckefeejjpaaGreatTW5
namespace Go.Proofs.YtaafckefeejjpaaGreat
open Go.RowKit Go.Sort
set_option linter.unusedVariables false

/-- The first k keys moved. -/
def movF (a b : Bs) (x : Pr) : Pr := (b ++ x.1.drop a.length, x.2)
def movK (a b : Bs) (l : List Pr) (k : Nat) : List Pr := (l.map (movF a b)).take k ++ l.drop k
theorem movK_len (a b : Bs) (l : List Pr) (k : Nat) (h : k ≤ l.length) : (movK a b l k).length = l.length := by
  unfold movK; rw [List.length_append, List.length_take, List.length_drop, List.length_map]; omega
theorem movK_zero (a b : Bs) (l : List Pr) : movK a b l 0 = l := by unfold movK; simp
theorem movK_all (a b : Bs) (l : List Pr) : movK a b l l.length = l.map (movF a b) := by
  unfold movK; rw [List.drop_length, List.take_of_length_le (by simp)]; simp
theorem movK_at (a b : Bs) (l : List Pr) (k : Nat) (h : k < l.length) : (movK a b l k)[k]'(by rw [movK_len a b l k (by omega)]; exact h) = l[k] := by
  unfold movK
  rw [List.getElem_append_right (by rw [List.length_take, List.length_map]; omega)]
  simp [List.getElem_drop]
  congr 1; omega
theorem movK_set (a b : Bs) (l : List Pr) (k : Nat) (h : k < l.length) : (movK a b l k).set k (movF a b l[k]) = movK a b l (k + 1) := by
  unfold movK
  rw [List.set_append_right _ _ (by rw [List.length_take, List.length_map]; omega)]
  have e1 : k - ((l.map (movF a b)).take k).length = 0 := by rw [List.length_take, List.length_map]; omega
  rw [e1, List.drop_eq_getElem_cons h, List.set_cons_zero, List.take_add_one, List.getElem?_map, List.getElem?_eq_getElem h]
  simp
theorem flatP_key (T : List Pr) (i : Nat) (h : i < T.length) (k : Bs) : (T.flatMap encP).set (i * 3) (.string (Str k)) = (T.set i (k, T[i].2)).flatMap encP := by
  induction T generalizing i with
  | nil => simp at h
  | cons t r ih =>
    have e : ∀ (t : Pr) r, (t :: r).flatMap encP = .string (Str t.1) :: .string (Str t.2.1) :: .int .i64 t.2.2 :: r.flatMap encP := fun t r => rfl
    cases i with
    | zero => rw [List.set_cons_zero, e, e]; rfl
    | succ i =>
      rw [List.set_cons_succ, e, e]
      have h2 : (i + 1) * 3 = i * 3 + 1 + 1 + 1 := by omega
      have ih' := ih i (by simpa using h)
      rw [h2]
      simp only [List.set_cons_succ, List.getElem_cons_succ]
      rw [ih']
theorem own_formP {w : World} {base n : Nat} {e : TypeId} {v : Value} {xs : List Value} (h : w.ownsRow base e 3 v n xs) : ∃ p cap, v = .slice p n cap ∧ n ≤ cap ∧ cap ≤ maxLen ∧ (0 < n → ∃ g, p = some ⟨g, 0, none⟩) := by
  rcases h.2 with ⟨rfl, h0⟩ | ⟨g, cap, cur, rfl, _, _, hn, hm, _⟩
  · subst h0; exact ⟨none, 0, rfl, Nat.le_refl _, by unfold maxLen; omega, fun h => absurd h (by omega)⟩
  · exact ⟨_, cap, rfl, hn, hm, fun _ => ⟨g, rfl⟩⟩
theorem own_cellsP {w : World} {base g n cap : Nat} {T : List Pr} (h : w.ownsRow base 91 3 (.slice (some ⟨g, 0, none⟩) n cap) n (T.flatMap encP)) (i : Nat) (hi : i < T.length) :
    w.cell? ⟨g, i * 3, none⟩ = some (.string (Str T[i].1)) ∧ w.cell? ⟨g, i * 3 + 1, none⟩ = some (.string (Str T[i].2.1)) ∧ w.cell? ⟨g, i * 3 + 2, none⟩ = some (.int .i64 T[i].2.2) := by
  have hl := h.1
  rw [flatP_len] at hl
  have f := flatP_get T i hi
  exact ⟨(h.cellAt _ (by omega)).trans f.1, (h.cellAt _ (by omega)).trans f.2.1, (h.cellAt _ (by omega)).trans f.2.2⟩

set_option maxRecDepth 100000 in
set_option maxHeartbeats 4000000 in
theorem tmoved_w (v : Value) (l : List Pr) (a b : Bs) (w : World) (h : IsPairs w v l) (hs : Srt l) (hl : l.length ≤ 50000) (ha : a.length ≤ 100000) (hb : b.length ≤ 100000) (hk : ∀ x ∈ l, x.1.length ≤ 100000) :
    Calls Tryz.prog 199 #[v, .string (Str a), .string (Str b)] w (OwnOut w.heap.size w (movedT a b l)) := by
  have hr := fun w1 (hg : Below w.heap.size w w1) => range_w v l a (preT a) w1 (h.below hg) hs hl
  have hrl : (rangeS (a, preT a) l).length ≤ l.length := List.length_filter_le _ _
  have hrx : ∀ x ∈ rangeS (a, preT a) l, a.isPrefixOf x.1 = true ∧ x.1.length ≤ 100000 ∧ x.2.1.length ≤ maxLen := fun x hx => by
    rw [range_prefix, List.mem_filter] at hx
    exact ⟨hx.2, hk x hx.1, (h.small x hx.1).2⟩
  have hmv : (rangeS (a, preT a) l).map (movF a b) = movedT a b l := by rw [moved_map, range_prefix]; rfl
  generalize rangeS (a, preT a) l = r at *
  have Hsm : Hid (∀ x ∈ movedT a b l, x.1.length ≤ maxLen ∧ x.2.1.length ≤ maxLen) := Lib.hid (by
    rw [← hmv]
    intro x hx
    obtain ⟨y, hy, rfl⟩ := List.mem_map.1 hx
    obtain ⟨-, h1, h2⟩ := hrx y hy
    refine ⟨?_, h2⟩
    unfold movF maxLen
    simp only [List.length_append, List.length_drop]
    omega)
  have Hmv := Lib.hid hmv
  have Hr := Lib.hid hr
  have Hrx := Lib.hid hrx
  have Hp := Lib.hid (prefix_w a w (by omega))
  clear hr hrx hmv h hs hk
  go_enter Tryz.func199, Tryz.ntmps199
  go_wp2_with fail
  refine Hp.out.mono ?_
  rintro e w1 ⟨rfl, hg⟩
  have Hg : Hid (Below w.heap.size w w1) := Lib.hid (hg.below (Nat.le_refl _))
  clear hg Hp
  go_wp2_with fail
  refine (Hr.out _ Hg.out).mono ?_
  rintro e w2 ⟨vr, rfl, hown, -, hb2⟩
  have Hown := Lib.hid (owns_lower hown Hg.out.size)
  have Hb2 : Hid (Below w.heap.size w w2) := Lib.hid (Hg.out.trans (hb2.mono Hg.out.size))
  obtain ⟨p, cap, rfl, hcap1, hcap2, hpp⟩ := own_formP hown
  unfold maxLen at hcap2
  clear hown hb2 Hr Hg
  go_wp2
  go_loopw [16] (fun i wr => ∃ k : Nat, k ≤ r.length ∧ i = .int .i64 k ∧ wr.ownsRow w.heap.size 91 3 (.slice p r.length cap) r.length ((movK a b r k).flatMap encP) ∧ Below w.heap.size w wr) (fun i _ => r.length - (intOf i).toNat)
  case atStart => exact ⟨0, Nat.zero_le _, rfl, by rw [movK_zero]; exact Hown.out, Hb2.out⟩
  case round =>
    obtain ⟨k, hk, rfl, hown, hbel⟩ := hrel
    clear Hown Hb2
    have hsz := hbel.size
    have Hown := Lib.hid hown
    have Hbel := Lib.hid hbel
    clear hbel
    by_cases hlt : k < r.length
    · obtain ⟨g, rfl⟩ := hpp (by omega)
      have hlen := movK_len a b r k (by omega)
      have hkl : k < (movK a b r k).length := by omega
      have hcells := own_cellsP hown k hkl
      rw [movK_at a b r k hlt] at hcells
      have hset := flatP_key (movK a b r k) k hkl (b ++ r[k].1.drop a.length)
      rw [movK_at a b r k hlt] at hset
      have hset2 : ((movK a b r k).flatMap encP).set (k * 3) (.string (Str (b ++ r[k].1.drop a.length))) = (movK a b r (k + 1)).flatMap encP := by
        rw [hset]; exact congrArg _ (movK_set a b r k hlt)
      have Hset := Lib.hid hset2
      have hx := Hrx.out r[k] (List.getElem_mem hlt)
      have hgl := (hown.lt g rfl)
      clear hset hset2 hlen hkl hown
      generalize r[k] = x at *
      obtain ⟨xk, xv, xt⟩ := x
      simp only at hcells hx Hset
      obtain ⟨hx1, hx2, hx3⟩ := hx
      have Hx1 := Lib.hid hx1
      have hgl2 := hgl.2
      have hne : g ≠ wr.heap.size := Nat.ne_of_lt hgl2
      have hltz : (k : Int) < (r.length : Int) := by omega
      obtain ⟨c0, c1, c2⟩ := hcells
      clear hx1 hgl
      go_wp2_with fail
      refine (moved_w xk a b _ (by omega) (by omega)).mono ?_
      rw [movedV_yes Hx1.out]
      rintro e w3 ⟨rfl, hg⟩
      have hbx : Below wr.heap.size wr w3 := (below_box _).trans (hg.below (by simp))
      have hown3 := owns_below Hown.out hbx
      have f0 := hown3.frozenAt (k * 3)
      have hc0 : w3.cell? ⟨g, k * 3, none⟩ = some (.string (Str xk)) := (hbx.cell (p := ⟨g, k * 3, none⟩) hgl2).trans c0
      have hst := hown3.stored (k * 3) (.string (Str (b ++ xk.drop a.length)))
      rw [Hset.out] at hst
      have Hst := Lib.hid hst
      have Hb3 : Hid (Below w.heap.size w w3) := Lib.hid (Hbel.out.trans (hbx.mono hsz))
      have hsz3 := Hb3.out.size
      have hgb := (hown3.lt g rfl).1
      clear hbx hown3 hst c0 c1 c2 hg Hset Hown
      go_wp2
      go_roundw
      case rel => exact ⟨k + 1, by omega, by go_num, Hst.out.1, Below.grown Hb3.out Hst.out.2 hsz3 (fun q hq => by cases hq; exact hgb)⟩
      case measure => simp [intOf]; omega
    · obtain rfl : k = r.length := by omega
      rw [movK_all, Hmv.out] at Hown
      have hll : r.length = (movedT a b l).length := by rw [← Hmv.out, List.length_map]
      have Hll := Lib.hid hll
      clear hll hown
      go_wp2
      go_ret
      have hown := Hown.out
      rw [Hll.out] at hown ⊢
      exact ⟨_, rfl, hown, IsPairs.owned hown Hsm.out, Hbel.out⟩

end Go.Proofs.YtaafckefeejjpaaGreat
