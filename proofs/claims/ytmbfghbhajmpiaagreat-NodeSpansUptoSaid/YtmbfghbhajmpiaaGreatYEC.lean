/-
  Plain: how the parts of a span begin and end, and how many of them have a key. No program.
-/
import Derived.Test.YtmbfghbhajmpiaaGreatYDA
namespace Go.Proofs.YtmbfghbhajmpiaaGreat
set_option linter.unusedVariables false

theorem meet_lo {s : Sp} {p : Bs} (hs : emptyB s = false) (hp : p = [] ∨ Op.bytesLess s.1 p = true) : (meetS s ([], p)).1 = s.1 := by
  have h1 : ltP (keyP s.1) (keyP []) = false := keyP_nil s.1
  have h0 := (emptyB_no s).1 hs
  have hne : emptyB (s.1, if ltP (hiP p) (hiP s.2) then p else s.2) = false := by
    rw [emptyB_no]
    show keyP s.1 < hiP (if ltP (hiP p) (hiP s.2) then p else s.2)
    split
    · rcases hp with rfl | hp
      · exact keyP_top _
      · have hpn : p ≠ [] := by rintro rfl; rw [less_nil] at hp; cases hp
        rw [hiP_ne hpn]; exact hp
    · exact h0
  unfold meetS
  simp only [h1, Bool.false_eq_true, if_false]
  rw [hne]
  simp
theorem meet_hi {s : Sp} {lo : Bs} (hs : emptyB s = false) (hlo : lo = [] ∨ hasB s lo = true) : (meetS s (lo, [])).2 = s.2 := by
  have h1 : ltP (hiP []) (hiP s.2) = false := rfl
  have h0 := (emptyB_no s).1 hs
  have hne : emptyB (if ltP (keyP s.1) (keyP lo) then lo else s.1, s.2) = false := by
    rw [emptyB_no]
    show keyP (if ltP (keyP s.1) (keyP lo) then lo else s.1) < hiP s.2
    split
    · rename_i h
      rcases hlo with rfl | hlo
      · rw [show ltP (keyP s.1) (keyP []) = false from keyP_nil s.1] at h; cases h
      · exact ((hasB_iff s lo).1 hlo).2
    · exact h0
  unfold meetS
  simp only [h1, Bool.false_eq_true, if_false]
  rw [hne]
  simp
theorem pivB_has {s : Sp} : ∀ {ps : List Bs} {lo : Bs}, pivB s lo ps = true → ∀ q ∈ ps, hasB s q = true
  | [], _, _, q, hq => by cases hq
  | p :: r, lo, h, q, hq => by
    unfold pivB at h
    simp only [Bool.and_eq_true] at h
    rcases List.mem_cons.1 hq with rfl | hq
    · exact h.2.1
    · exact pivB_has h.2.2 q hq
theorem parts_first {s : Sp} {ps : List Bs} (hs : emptyB s = false) (hv : pivB s s.1 ps = true) (h : 0 < (partsF s [] ps).length) : ((partsF s [] ps)[0]'h).1 = s.1 := by
  cases ps with
  | nil => exact meet_lo hs (.inl rfl)
  | cons p r =>
    unfold pivB at hv
    simp only [Bool.and_eq_true] at hv
    exact meet_lo hs (.inr hv.1)
theorem parts_last {s : Sp} (hs : emptyB s = false) : ∀ (ps : List Bs) (lo : Bs), (lo = [] ∨ hasB s lo = true) → (∀ q ∈ ps, hasB s q = true) → ∀ h : ps.length < (partsF s lo ps).length, ((partsF s lo ps)[ps.length]'h).2 = s.2
  | [], lo, hlo, _, h => meet_hi hs hlo
  | p :: r, lo, hlo, hq, h => parts_last hs r p (.inr (hq p (by simp))) (fun q hm => hq q (by simp [hm])) (by simpa [partsF] using h)
theorem parts_cnt (s : Sp) (k : Bs) : ∀ (ps : List Bs) (lo : Bs), SrtP ps → Op.bytesLess k lo = false → (partsF s lo ps).countP (fun t => hasB t k) = if hasB s k then 1 else 0
  | [], lo, _, hlo => by
    rw [partsF, List.countP_cons, List.countP_nil, part_has, hlo]
    simp
  | p :: r, lo, hs, hlo => by
    have hp : p.isEmpty = false := by simpa using hs.1
    rw [partsF, List.countP_cons, part_has, hlo]
    cases hk : Op.bytesLess k p with
    | false =>
      rw [parts_cnt s k r p hs.2.2 hk, hp]
      simp
    | true =>
      have hz : (partsF s p r).countP (fun t => hasB t k) = 0 := by
        rw [List.countP_eq_zero]
        intro t ht
        rw [parts_low s k r p hs.2.2 hs.2.1 hk t ht]; simp
      rw [hz]
      simp
theorem cnt_take (l : List Sp) (k : Bs) (i : Nat) (h : i < l.length) : (l.take (i + 1)).countP (fun t => hasB t k) = (l.take i).countP (fun t => hasB t k) + (if hasB l[i] k then 1 else 0) := by
  rw [List.take_succ_eq_append_getElem h, List.countP_append, List.countP_cons, List.countP_nil]
  simp
theorem madeQ_pne (x : Rq) : ∀ q ∈ (madeQ x).pivots, q ≠ [] := by
  intro q hq
  by_cases h : x.kids = []
  · rw [made_leaf h] at hq; cases hq
  · rw [made_inner h] at hq
    exact srtP_ne (pivsQ_srt x) q hq
theorem madeQ_srt (x : Rq) : SrtP (madeQ x).pivots := by
  by_cases h : x.kids = []
  · rw [made_leaf h]; trivial
  · rw [made_inner h]; exact pivsQ_srt x

end Go.Proofs.YtmbfghbhajmpiaaGreat
