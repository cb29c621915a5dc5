/-
  Walks: Turn of package settle.
-/
import Derived.Test.YtfpcaoacbjhkgaaGreatUF
namespace Go.Proofs.YtfpcaoacbjhkgaaGreat
open Go.RowKit Go.Sort
set_option linter.unusedVariables false

/-- Whether a buffer is turned, and what it becomes. -/
def turnB (l : List Ms) : Bool := match l with | [] => false | m :: _ => movesB m
def turnR (l : List Ms) (t : List Pr) : List Ms := if turnB l then turnS l t else []
theorem isMsgs_nilU (w : World) : IsMsgs w (.slice none 0 0) [] := ⟨none, 0, rfl, Nat.le_refl _, by unfold maxLen; omega, fun h => absurd rfl h⟩
theorem elemMU : Tryz.prog.underlying 25 = some (.slice (Tryz.prog.elem 25)) := by
  rw [show Tryz.prog.elem 25 = 40 by kernel_rfl]; exact Tryz.underlying25
theorem mslice_l (a : Option Addr) (n cap lo : Nat) (h2 : lo ≤ n) (w : World) : (Instr.slice 25 (.slice a n cap) (some (.int .i64 lo)) none none).run Tryz.prog w = .ok (sliced a lo n cap 8) w := by
  rw [run_slice_l w 25 a n cap elemMU .i64 lo (by omega) (by omega), show (sizeOf (Tryz.prog.elem 25)) = sizeOf 40 by rw [show Tryz.prog.elem 25 = 40 by kernel_rfl], Tryz.sizeOf40]; rfl
theorem msgs_sliced {w : World} {a : Option Addr} {n cap : Nat} {l : List Ms} (h : IsMsgs w (.slice a n cap) l) (k : Nat) (hk : k ≤ l.length) : IsMsgs w (sliced a k n cap 8) (l.drop k) := by
  obtain ⟨a', c, he, h1, h2, h3⟩ := h
  cases he
  refine ⟨_, cap - k, by rw [List.length_drop]; rfl, by rw [List.length_drop]; omega, by omega, fun hne => ?_⟩
  have hlt : k < l.length := by
    rcases Nat.lt_or_ge k l.length with h | h
    · exact h
    · exact absurd (List.drop_eq_nil_of_le h) hne
  obtain ⟨b', off', rfl, hb, hc⟩ := h3 (by rintro rfl; simp at hlt)
  refine ⟨b', off' + k * 8, by rw [if_neg (by omega)]; simp [Addr.add], hb, fun i hi => ?_⟩
  rw [List.length_drop] at hi
  have := hc (k + i) (by omega)
  rw [List.getElem_drop, show off' + k * 8 + i * 8 = off' + (k + i) * 8 by omega]; exact this
theorem keepAU {W wx : World} (h : Below W.heap.size W wx) (o : Obj) : Below W.heap.size W (wx.alloc o) := h.alloc h.size o
def TurnOut (w : World) (l : List Ms) (t : List Pr) (e : Ending) (w' : World) : Prop :=
  ∃ v', e = .returned (.tuple #[v', .int .i64 (if turnB l then 0 else 50)]) ∧ IsMsgs w' v' (turnR l t) ∧ Below w.heap.size w w'

set_option maxRecDepth 100000 in
set_option maxHeartbeats 4000000 in
theorem sturn_w (v sv : Value) (l : List Ms) (src : List Pr) (w : World) (hm : IsMsgs w v l) (hz : ∀ m ∈ l, SizeM m) (hI : IsPairs w sv src) (hl : src.length ≤ 100000000) (hll : l.length ≤ 100000000)
    (hk : ∀ m r, l = m :: r → movesB m = true → ∀ x ∈ src, m.src.isPrefixOf x.1 = true ∧ x.1.length ≤ 1000000000) :
    Calls Tryz.prog 32 #[v, sv] w (TurnOut w l src) := by
  have mixed := mixedA
  unfold TurnOut
  have HI := Lib.hid hI
  obtain ⟨ap, cp, rfl, -⟩ := hI
  cases l with
  | nil =>
    obtain ⟨a, c, rfl, -⟩ := hm
    go_enter Tryz.func32, Tryz.ntmps32
    go_wp2
    go_ret2
    exact ⟨_, rfl, isMsgs_nilU w, Below.refl _ _⟩
  | cons m r =>
    have HM := Lib.hid hm
    obtain ⟨b, off, cap, a, rfl, hlc, hcm, hab, hc⟩ := hm.form
    obtain ⟨rfl, h0⟩ := hc 0 (by simp)
    simp only [Nat.zero_mul, Nat.add_zero, List.getElem_cons_zero] at h0
    obtain ⟨-, hbl⟩ := hab (by simp)
    have hmv := fun wx => smoves_w m wx
    have hzm := hz m (by simp)
    obtain ⟨x0, x1, x2, x3, x4, x5, x6, x7⟩ := h0
    have hn : 0 < (m :: r).length := by simp
    have htl := msgs_sliced hm 1 (by simp)
    rw [List.drop_one, List.tail_cons] at htl
    have HSL0 := Lib.hid (fun wx => mslice_l (some ⟨b, off, none⟩) (m :: r).length cap 1 (by simp) wx)
    obtain ⟨pt, nt, ct, hvt⟩ : ∃ pt nt ct, sliced (some ⟨b, off, none⟩) 1 (m :: r).length cap 8 = .slice pt nt ct := ⟨_, _, _, rfl⟩
    rw [hvt] at htl HSL0
    have HTL := Lib.hid htl
    clear hvt
    unfold maxLen at hcm
    clear hm hc hab htl hz
    obtain ⟨n, hne⟩ : ∃ n, n = (m :: r).length := ⟨_, rfl⟩
    rw [← hne] at hn HM HSL0 hll hlc ⊢
    have HNE := Lib.hid hne
    clear hne
    have hnz : (0 : Int) < (n : Int) := by omega
    have hnb : ((n : Int) == 0) = false := by simp; omega
    cases hmb : movesB m with
    | false =>
      rw [hmb] at hmv
      have HMV := Lib.hid hmv
      have e1 : turnB (m :: r) = false := hmb
      have e2 : turnR (m :: r) src = [] := by unfold turnR; rw [e1]; rfl
      rw [e1, e2]
      clear hmv hmb hk e1 e2 HTL
      go_enter Tryz.func32, Tryz.ntmps32
      go_wp2_with (go_at_call 73; refine (HMV.out _).mono ?_; rintro e w1 ⟨rfl, hg⟩; have HG := Lib.hid hg; clear hg)
      go_ret2
      exact ⟨_, rfl, isMsgs_nilU _, HG.out.below (Nat.le_refl _)⟩
    | true =>
      rw [hmb] at hmv
      have HMV := Lib.hid hmv
      have e1 : turnB (m :: r) = true := hmb
      have e2 : turnR (m :: r) src = settledS m src ++ r := by unfold turnR; rw [e1]; rfl
      rw [e1, e2]
      have hkk := hk m r rfl hmb
      have hrl : n = r.length + 1 := by rw [HNE.out]; rfl
      have HR : Hid (n - 1 = r.length) := Lib.hid (by omega)
      have hsl := settled_len m src
      have HLI : Hid (∀ wx, Below w.heap.size w wx → Calls Tryz.prog 29 #[msgV m, .slice ap src.length cp] wx fun e w' => ∃ p c, e = .returned (.slice p (settledS m src).length c) ∧ IsMsgs w' (.slice p (settledS m src).length c) (settledS m src) ∧ Below w.heap.size w w') := Lib.hid (fun wx hx => (slist_w m _ src wx hl hzm hkk (HI.out.below hx)).mono fun e w' ⟨v', he, ho, hb⟩ => by
        have h1 := ho.msgs
        obtain ⟨p, c, rfl, -⟩ := id h1
        exact ⟨p, c, he, h1, hx.trans (hb.mono hx.size)⟩)
      have HTT : Hid (∀ wx, Below w.heap.size w wx → IsMsgs wx (.slice pt nt ct) r) := Lib.hid (fun wx hx => HTL.out.below hx)
      generalize settledS m src = L at *
      have HCC : Hid (∀ (p : Option Addr) (c : Nat) y, Below w.heap.size w y → IsMsgs y (.slice p L.length c) L → Calls Tryz.prog 74 #[.slice (some ⟨y.heap.size, 0, none⟩) 2 2] (y.alloc (.cells #[.slice p L.length c, .slice pt nt ct] 25)) fun e w' => ∃ v', e = .returned v' ∧ IsMsgs w' v' (L ++ r) ∧ Below w.heap.size w w') := Lib.hid (fun p c y hy hL => by
        have hbx := below_box (w := y) (.cells #[.slice p L.length c, .slice pt nt ct] 25)
        have h := concatM_w 25 y.heap.size [.slice p L.length c, .slice pt nt ct] [L, r] _ (Blk.new y 25 _) rfl (by simp) (fun i hi hv => by
          match i, hi with
          | 0, _ => exact hL.below hbx
          | 1, _ => exact (HTT.out y hy).below hbx) (by simp; omega)
        refine h.mono fun e w' ⟨v', he, ho, hb⟩ => ⟨v', he, ?_, ?_⟩
        · have h1 := ho.msgs
          simpa using h1
        · exact (hy.trans (hbx.mono hy.size)).trans (hb.mono (hy.trans (hbx.mono hy.size)).size))
      clear hmv hmb hk e1 e2 HTL hkk hsl HTT hrl
      have h1n : 1 ≤ n := hn
      have h1z : (1 : Int) ≤ (n : Int) := by omega
      have hncz : (n : Int) ≤ (cap : Int) := by omega
      have HN1 : Hid (∀ wx, Below w.heap.size w wx → wx.cell? ⟨b, off, none⟩ = some (.int .i64 m.kind)) := Lib.hid (fun wx hx => (hx.cell (p := ⟨b, off, none⟩) hbl).trans x0)
      go_enter Tryz.func32, Tryz.ntmps32
      go_wp2_with (go_at_call 73; refine (HMV.out _).mono ?_; rintro e w1 ⟨rfl, hg⟩; have HG := Lib.hid (hg.below (Nat.le_refl w.heap.size)); clear hg)
      have y0 : ∀ wx, Below w.heap.size w wx → wx.cell? ⟨b, off, none⟩ = some (.int .i64 m.kind) := fun wx hx => (hx.cell (p := ⟨b, off, none⟩) hbl).trans x0
      have y1 : ∀ wx, Below w.heap.size w wx → wx.cell? ⟨b, off + 1, none⟩ = some (.string (Str m.key)) := fun wx hx => (hx.cell (p := ⟨b, off + 1, none⟩) hbl).trans x1
      have y2 : ∀ wx, Below w.heap.size w wx → wx.cell? ⟨b, off + 2, none⟩ = some (.string (Str m.val)) := fun wx hx => (hx.cell (p := ⟨b, off + 2, none⟩) hbl).trans x2
      have y3 : ∀ wx, Below w.heap.size w wx → wx.cell? ⟨b, off + 3, none⟩ = some (.string (Str m.lo)) := fun wx hx => (hx.cell (p := ⟨b, off + 3, none⟩) hbl).trans x3
      have y4 : ∀ wx, Below w.heap.size w wx → wx.cell? ⟨b, off + 4, none⟩ = some (.string (Str m.hi)) := fun wx hx => (hx.cell (p := ⟨b, off + 4, none⟩) hbl).trans x4
      have y5 : ∀ wx, Below w.heap.size w wx → wx.cell? ⟨b, off + 5, none⟩ = some (.string (Str m.src)) := fun wx hx => (hx.cell (p := ⟨b, off + 5, none⟩) hbl).trans x5
      have y6 : ∀ wx, Below w.heap.size w wx → wx.cell? ⟨b, off + 6, none⟩ = some (.string (Str m.dst)) := fun wx hx => (hx.cell (p := ⟨b, off + 6, none⟩) hbl).trans x6
      have y7 : ∀ wx, Below w.heap.size w wx → wx.cell? ⟨b, off + 7, none⟩ = some (.int .i64 m.n) := fun wx hx => (hx.cell (p := ⟨b, off + 7, none⟩) hbl).trans x7
      have hslc : ∀ wx, (Instr.slice 25 (.slice (some ⟨b, off, none⟩) n cap) (some (.int .i64 1)) none none).run Tryz.prog wx = .ok (.slice pt nt ct) wx := HSL0.out
      go_region_held3 (fun wx => Below w.heap.size w wx)
        (repeat (first | with_reducible assumption | with_reducible exact HG.out | with_reducible refine Below.drew ?_ | with_reducible refine keepAU ?_ _))
        (first
          | (go_at_call 29; (refine (HLI.out _ (by repeat (first | with_reducible assumption | with_reducible exact HG.out | with_reducible refine Below.drew ?_))).mono ?_); rintro e2 y2' ⟨p2, c2, rfl, hL2, hS2⟩)
          | (go_at_call 74; (refine (HCC.out p2 c2 _ (by first | with_reducible exact hS2 | with_reducible exact hS2.drew) (by first | with_reducible exact hL2 | exact hL2.below (below_drewN _ 1))).mono ?_); rintro e3 y3' ⟨v3, rfl, hL3, hS3⟩)
          | fail "no arm")
      all_goals
        go_wp2
        go_ret2
        exact ⟨_, rfl, hL3, hS3⟩

end Go.Proofs.YtfpcaoacbjhkgaaGreat
