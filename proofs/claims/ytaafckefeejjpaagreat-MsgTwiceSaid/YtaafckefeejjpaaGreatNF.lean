/-
  Walks: the fixed examples that every law of package msg tries: lists, messages, contracts.
-/
import Derived.Test.YtaafckefeejjpaaGreatNE
import Derived.Test.YtaafckefeejjpaaGreatMJ
import Derived.Test.YtaafckefeejjpaaGreatMT
import Derived.Test.YtaafckefeejjpaaGreatMQ
import Derived.Deep.RegionLawGrows
import Derived.Deep.DrawnRows
namespace Go.Proofs.YtaafckefeejjpaaGreat
open Go.RowKit Go.Sort
set_option linter.unusedVariables false

set_option maxRecDepth 100000 in
set_option maxHeartbeats 1000000 in
theorem samebytes_w (v0 v1 : Value) (a b : Bs) (w : World) (h0 : IsBytes w v0 a) (h1 : IsBytes w v1 b) : Calls Tryz.prog 36 #[v0, v1] w fun e w' => e = .returned (.bool (decide (a = b))) ∧ w = w' := by
  have h0 := conv_bytes h0
  have h1 := conv_bytes h1
  have Hd : Hid (True) := Lib.hid trivial
  go_enter Tryz.func36, Tryz.ntmps36
  go_wp2
  go_ret
  exact ⟨ret_bool (by rw [Bool.eq_iff_iff]; simp), rfl⟩
theorem OwnB.bytes {w : World} {B : Nat} {v : Value} {l : Bs} (h : OwnB w B v l) : IsBytes w v l := by
  unfold OwnB at h
  rcases h.2 with ⟨rfl, h0⟩ | ⟨g, cap, cur, rfl, hb, hg, hn, hm, hsz, htk⟩
  · have : l = [] := List.length_eq_zero_iff.1 h0
    subst this
    exact IsBytes.nil w
  · refine ⟨_, cap, rfl, hn, hm, fun _ => ⟨g, 0, rfl, by rw [Array.getElem?_eq_some_iff] at hg; exact hg.1, fun i hi => ?_⟩⟩
    unfold World.cell?
    simp only [Nat.zero_add]
    rw [hg]
    show cur[i]? = _
    have h1 : (cur.toList.take (l.length * 1))[i]? = (l.map fun c => Value.int .u8 c.toNat)[i]? := by rw [htk]
    rw [List.getElem?_take, if_pos (by omega), Array.getElem?_toList] at h1
    rw [h1]; simp [hi]
/-- A block of bytes that was just laid. -/
theorem new_bytes {W : World} {n : Nat} (l : Bs) (T : TypeId) (hn : n = W.heap.size) (hl : l.length ≤ 1000) : IsBytes (W.alloc (.cells (l.map fun c => Value.int .u8 c.toNat).toArray T)) (.slice (some ⟨n, 0, none⟩) l.length l.length) l := by
  subst hn
  refine ⟨_, _, rfl, Nat.le_refl _, by unfold maxLen; omega, fun _ => ⟨_, 0, rfl, by simp, fun i hi => ?_⟩⟩
  rw [Nat.zero_add, World.cell?_alloc_new]
  simp [hi]
def lT : List Pr := [([97, 47, 120], [49], 5), ([97, 47, 121], [50], 5), ([98, 47, 120], [51], 5)]
def lP : List Pr := [([97, 47, 120], [49], 5), ([97, 47, 121], [50], 5), ([97, 47, 122], [52], 6), ([98, 47, 120], [51], 5)]
def lD : List Pr := [([97, 47, 121], [50], 5), ([98, 47, 120], [51], 5)]
def lM : List Pr := [([98, 47, 120], [49], 5), ([98, 47, 121], [50], 5)]
def lC : List Pr := [([97, 47, 120], [49], 5), ([97, 47, 121], [50], 5), ([98, 47, 120], [49], 5), ([98, 47, 121], [50], 5)]
def lS : List Pr := [([97, 47, 120], [49], 5), ([97, 47, 121], [50], 5), ([98, 47, 120], [51], 7)]
def mP : Ms := ⟨1, [97, 47, 122], [52], [], [], [], [], 6⟩
def mD : Ms := ⟨3, [], [], [97, 47], [97, 47, 121], [], [], 0⟩
def mV : Ms := ⟨4, [], [], [], [], [97, 47], [98, 47], 0⟩
def mC : Ms := ⟨5, [], [], [], [], [97, 47], [98, 47], 0⟩
def mS : Ms := ⟨6, [], [], [98], [], [], [], 7⟩
theorem sT : Srt lT := (validB_iff _).1 (by decide +kernel)
theorem small_of {l : List Pr} (h : l.all (fun x => decide (x.1.length ≤ 1000) && decide (x.2.1.length ≤ 1000)) = true) : ∀ x ∈ l, x.1.length ≤ maxLen ∧ x.2.1.length ≤ maxLen := by
  intro x hx
  have := List.all_eq_true.1 h x hx
  simp only [Bool.and_eq_true, decide_eq_true_eq] at this
  unfold maxLen; omega
theorem small_keys {l : List Pr} (h : l.all (fun x => decide (x.1.length ≤ 1000) && decide (x.2.1.length ≤ 1000)) = true) : ∀ x ∈ l, x.1.length ≤ 100000 := by
  intro x hx
  have := List.all_eq_true.1 h x hx
  simp only [Bool.and_eq_true, decide_eq_true_eq] at this
  omega
theorem blk_pairs {w : World} {b : Nat} {T : TypeId} (l : List Pr) (h : Blk w b T (l.flatMap encP).toArray) (hl : l.length ≤ 1000) (hs : ∀ x ∈ l, x.1.length ≤ maxLen ∧ x.2.1.length ≤ maxLen) : IsPairs w (.slice (some ⟨b, 0, none⟩) l.length l.length) l := by
  refine ⟨_, _, rfl, Nat.le_refl _, by unfold maxLen; omega, hs, fun _ => ⟨b, 0, rfl, h.lt, fun i hi => ?_⟩⟩
  have g := flatP_get l i hi
  refine ⟨?_, ?_, ?_⟩
  · rw [Nat.zero_add, h.cell]; simpa using g.1
  · rw [Nat.zero_add, h.cell]; simpa using g.2.1
  · rw [Nat.zero_add, h.cell]; simpa using g.2.2
/-- The beginning of a list, nothing behind it. -/
theorem IsPairs.front {w : World} {a : Option Addr} {n cap : Nat} {l : List Pr} (h : IsPairs w (.slice a n cap) l) (k : Nat) (hk : k ≤ l.length) : IsPairs w (.slice a k k) (l.take k) := by
  obtain ⟨a', cap', e, hlc, hcm, hs, hc⟩ := h
  cases e
  have hll : (l.take k).length = k := by rw [List.length_take]; omega
  refine ⟨a, k, by rw [hll], by omega, by omega, fun x hx => hs x (List.mem_of_mem_take hx), fun hne => ?_⟩
  obtain ⟨b, off, rfl, hb, hcell⟩ := hc (by rintro rfl; simp at hne)
  exact ⟨b, off, rfl, hb, fun i hi => by rw [List.getElem_take]; exact hcell i (by omega)⟩

/-- The examples: the table, five messages, what is moved. -/
structure SanSt (w : World) (n0 n1 n2 n3 n4 n5 n6 : Nat) (wx : World) : Prop where
  t : Blk wx n0 91 (lT.flatMap encP).toArray
  p : MBlk wx n1 mP
  d : MBlk wx n2 mD
  v : MBlk wx n3 mV
  c : MBlk wx n4 mC
  s : MBlk wx n5 mS
  m : Blk wx n6 91 (lM.flatMap encP).toArray
  g : Below w.heap.size w wx
section
variable {w wx wy : World} {n0 n1 n2 n3 n4 n5 n6 : Nat}
theorem SanSt.below (h : SanSt w n0 n1 n2 n3 n4 n5 n6 wx) (hb : Below wx.heap.size wx wy) : SanSt w n0 n1 n2 n3 n4 n5 n6 wy where
  t := h.t.below hb h.t.lt
  p := h.p.below hb h.p.lt
  d := h.d.below hb h.d.lt
  v := h.v.below hb h.v.lt
  c := h.c.below hb h.c.lt
  s := h.s.below hb h.s.lt
  m := h.m.below hb h.m.lt
  g := h.g.trans (hb.mono h.g.size)
theorem SanSt.alloc (h : SanSt w n0 n1 n2 n3 n4 n5 n6 wx) (o : Obj) : SanSt w n0 n1 n2 n3 n4 n5 n6 (wx.alloc o) := h.below (below_box _)
theorem SanSt.drew (h : SanSt w n0 n1 n2 n3 n4 n5 n6 wx) : SanSt w n0 n1 n2 n3 n4 n5 n6 wx.drew := h.below (below_drewN wx 1)
theorem SanSt.pt (h : SanSt w n0 n1 n2 n3 n4 n5 n6 wx) : IsPairs wx (.slice (some ⟨n0, 0, none⟩) 3 3) lT := blk_pairs lT h.t (by decide) (small_of (by decide +kernel))
theorem SanSt.pm (h : SanSt w n0 n1 n2 n3 n4 n5 n6 wx) : IsPairs wx (.slice (some ⟨n6, 0, none⟩) 2 2) lM := blk_pairs lM h.m (by decide) (small_of (by decide +kernel))
theorem SanSt.tail (h : SanSt w n0 n1 n2 n3 n4 n5 n6 wx) : IsPairs wx (.slice (some ⟨n0, 3, none⟩) 2 2) lD := by
  have := h.pt.sliced 1 3 (by decide) (by decide)
  exact this
theorem SanSt.two (h : SanSt w n0 n1 n2 n3 n4 n5 n6 wx) : IsPairs wx (.slice (some ⟨n0, 0, none⟩) 2 2) (lT.take 2) := h.pt.front 2 (by decide)
/-- A list comes back, and the examples stay. -/
def SanOut (w wx : World) (n0 n1 n2 n3 n4 n5 n6 : Nat) (l : List Pr) (e : Ending) (w' : World) : Prop := ∃ v', e = .returned v' ∧ IsPairs w' v' l ∧ Below wx.heap.size wx w' ∧ SanSt w n0 n1 n2 n3 n4 n5 n6 w'
theorem OwnOut.san {l : List Pr} {e : Ending} {w' : World} (hs : SanSt w n0 n1 n2 n3 n4 n5 n6 wx) (h : OwnOut wx.heap.size wx l e w') : SanOut w wx n0 n1 n2 n3 n4 n5 n6 l e w' := by
  obtain ⟨v', h1, -, h3, h4⟩ := h
  exact ⟨v', h1, h3, h4, hs.below h4⟩
theorem sc_same {v0 v1 : Value} (l : List Pr) (h : SanSt w n0 n1 n2 n3 n4 n5 n6 wx) (h0 : IsPairs wx v0 l) (h1 : IsPairs wx v1 l) : Calls Tryz.prog 46 #[v0, v1] wx fun e w' => e = .returned (.bool true) ∧ SanSt w n0 n1 n2 n3 n4 n5 n6 w' :=
  (rsame_w v0 v1 l l wx h0 h1).mono fun e w' ⟨h2, n, h3⟩ => ⟨by rw [h2]; simp, by rw [h3]; exact h.below (below_drewN _ _)⟩
/-- A list of spans comes back, and the examples stay. -/
def SpsOut (w wx : World) (n0 n1 n2 n3 n4 n5 n6 : Nat) (l : List Sp) (k : Nat) (e : Ending) (w' : World) : Prop := ∃ p c, e = .returned (.slice p k c) ∧ IsSpans w' (.slice p k c) l ∧ Below wx.heap.size wx w' ∧ SanSt w n0 n1 n2 n3 n4 n5 n6 w'
theorem SpOut.san {l : List Sp} {k : Nat} {e : Ending} {w' : World} (hs : SanSt w n0 n1 n2 n3 n4 n5 n6 wx) (h : SpOut wx l e w') (hk : l.length = k) : SpsOut w wx n0 n1 n2 n3 n4 n5 n6 l k e w' := by
  subst hk
  obtain ⟨v', h1, h2, h3⟩ := h
  obtain ⟨-, -, c, p, rfl, -⟩ := h2.form
  exact ⟨p, c, h1, h2, h3.below (Nat.le_refl _), hs.below (h3.below (Nat.le_refl _))⟩
theorem sc_applyP (h : SanSt w n0 n1 n2 n3 n4 n5 n6 wx) : Calls Tryz.prog 47 #[.slice (some ⟨n0, 0, none⟩) 3 3, .agg #[.int .i64 1, .string ⟨#[97, 47, 122]⟩, .string ⟨#[52]⟩, .string ⟨#[]⟩, .string ⟨#[]⟩, .string ⟨#[]⟩, .string ⟨#[]⟩, .int .i64 6]] wx (SanOut w wx n0 n1 n2 n3 n4 n5 n6 lP) :=
  (apply_w mP _ lT wx h.pt sT (by decide) (by unfold SizeM; decide) (small_keys (by decide +kernel))).mono fun e w' hh => OwnOut.san h (by rw [show applyS mP lT = lP from by decide +kernel] at hh; exact hh)
theorem sc_applyD (h : SanSt w n0 n1 n2 n3 n4 n5 n6 wx) : Calls Tryz.prog 47 #[.slice (some ⟨n0, 0, none⟩) 3 3, .agg #[.int .i64 3, .string ⟨#[]⟩, .string ⟨#[]⟩, .string ⟨#[97, 47]⟩, .string ⟨#[97, 47, 121]⟩, .string ⟨#[]⟩, .string ⟨#[]⟩, .int .i64 0]] wx (SanOut w wx n0 n1 n2 n3 n4 n5 n6 lD) :=
  (apply_w mD _ lT wx h.pt sT (by decide) (by unfold SizeM; decide) (small_keys (by decide +kernel))).mono fun e w' hh => OwnOut.san h (by rw [show applyS mD lT = lD from by decide +kernel] at hh; exact hh)
theorem sc_applyV (h : SanSt w n0 n1 n2 n3 n4 n5 n6 wx) : Calls Tryz.prog 47 #[.slice (some ⟨n0, 0, none⟩) 3 3, .agg #[.int .i64 4, .string ⟨#[]⟩, .string ⟨#[]⟩, .string ⟨#[]⟩, .string ⟨#[]⟩, .string ⟨#[97, 47]⟩, .string ⟨#[98, 47]⟩, .int .i64 0]] wx (SanOut w wx n0 n1 n2 n3 n4 n5 n6 lM) :=
  (apply_w mV _ lT wx h.pt sT (by decide) (by unfold SizeM; decide) (small_keys (by decide +kernel))).mono fun e w' hh => OwnOut.san h (by rw [show applyS mV lT = lM from by decide +kernel] at hh; exact hh)
theorem sc_applyC (h : SanSt w n0 n1 n2 n3 n4 n5 n6 wx) : Calls Tryz.prog 47 #[.slice (some ⟨n0, 0, none⟩) 3 3, .agg #[.int .i64 5, .string ⟨#[]⟩, .string ⟨#[]⟩, .string ⟨#[]⟩, .string ⟨#[]⟩, .string ⟨#[97, 47]⟩, .string ⟨#[98, 47]⟩, .int .i64 0]] wx (SanOut w wx n0 n1 n2 n3 n4 n5 n6 lC) :=
  (apply_w mC _ lT wx h.pt sT (by decide) (by unfold SizeM; decide) (small_keys (by decide +kernel))).mono fun e w' hh => OwnOut.san h (by rw [show applyS mC lT = lC from by decide +kernel] at hh; exact hh)
theorem sc_applyS (h : SanSt w n0 n1 n2 n3 n4 n5 n6 wx) : Calls Tryz.prog 47 #[.slice (some ⟨n0, 0, none⟩) 3 3, .agg #[.int .i64 6, .string ⟨#[]⟩, .string ⟨#[]⟩, .string ⟨#[98]⟩, .string ⟨#[]⟩, .string ⟨#[]⟩, .string ⟨#[]⟩, .int .i64 7]] wx (SanOut w wx n0 n1 n2 n3 n4 n5 n6 lS) :=
  (apply_w mS _ lT wx h.pt sT (by decide) (by unfold SizeM; decide) (small_keys (by decide +kernel))).mono fun e w' hh => OwnOut.san h (by rw [show applyS mS lT = lS from by decide +kernel] at hh; exact hh)
theorem sc_readsP (h : SanSt w n0 n1 n2 n3 n4 n5 n6 wx) : Calls Tryz.prog 40 #[.agg #[.int .i64 1, .string ⟨#[97, 47, 122]⟩, .string ⟨#[52]⟩, .string ⟨#[]⟩, .string ⟨#[]⟩, .string ⟨#[]⟩, .string ⟨#[]⟩, .int .i64 6]] wx (SpsOut w wx n0 n1 n2 n3 n4 n5 n6 [] 0) :=
  (reads_w mP wx (by unfold SizeM; decide)).mono fun e w' hh => SpOut.san h (by rw [show readsS mP = [] from by decide +kernel] at hh; exact hh) rfl
theorem sc_writesP (h : SanSt w n0 n1 n2 n3 n4 n5 n6 wx) : Calls Tryz.prog 41 #[.agg #[.int .i64 1, .string ⟨#[97, 47, 122]⟩, .string ⟨#[52]⟩, .string ⟨#[]⟩, .string ⟨#[]⟩, .string ⟨#[]⟩, .string ⟨#[]⟩, .int .i64 6]] wx (SpsOut w wx n0 n1 n2 n3 n4 n5 n6 [([97, 47, 122], [97, 47, 122, 0])] 1) :=
  (writes_w mP wx (by unfold SizeM; decide)).mono fun e w' hh => SpOut.san h (by rw [show writesS mP = [([97, 47, 122], [97, 47, 122, 0])] from by decide +kernel] at hh; exact hh) rfl
theorem sc_readsV (h : SanSt w n0 n1 n2 n3 n4 n5 n6 wx) : Calls Tryz.prog 40 #[.agg #[.int .i64 4, .string ⟨#[]⟩, .string ⟨#[]⟩, .string ⟨#[]⟩, .string ⟨#[]⟩, .string ⟨#[97, 47]⟩, .string ⟨#[98, 47]⟩, .int .i64 0]] wx (SpsOut w wx n0 n1 n2 n3 n4 n5 n6 [([97, 47], [97, 48])] 1) :=
  (reads_w mV wx (by unfold SizeM; decide)).mono fun e w' hh => SpOut.san h (by rw [show readsS mV = [([97, 47], [97, 48])] from by decide +kernel] at hh; exact hh) rfl
theorem sc_writesV (h : SanSt w n0 n1 n2 n3 n4 n5 n6 wx) : Calls Tryz.prog 41 #[.agg #[.int .i64 4, .string ⟨#[]⟩, .string ⟨#[]⟩, .string ⟨#[]⟩, .string ⟨#[]⟩, .string ⟨#[97, 47]⟩, .string ⟨#[98, 47]⟩, .int .i64 0]] wx (SpsOut w wx n0 n1 n2 n3 n4 n5 n6 [([97, 47], [97, 48]), ([98, 47], [98, 48])] 2) :=
  (writes_w mV wx (by unfold SizeM; decide)).mono fun e w' hh => SpOut.san h (by rw [show writesS mV = [([97, 47], [97, 48]), ([98, 47], [98, 48])] from by decide +kernel] at hh; exact hh) rfl
theorem sc_killsC (h : SanSt w n0 n1 n2 n3 n4 n5 n6 wx) : Calls Tryz.prog 42 #[.agg #[.int .i64 5, .string ⟨#[]⟩, .string ⟨#[]⟩, .string ⟨#[]⟩, .string ⟨#[]⟩, .string ⟨#[97, 47]⟩, .string ⟨#[98, 47]⟩, .int .i64 0]] wx (SpsOut w wx n0 n1 n2 n3 n4 n5 n6 [([98, 47], [98, 48])] 1) :=
  (kills_w mC wx (by unfold SizeM; decide)).mono fun e w' hh => SpOut.san h (by rw [show killsS mC = [([98, 47], [98, 48])] from by decide +kernel] at hh; exact hh) rfl
theorem sc_readsS (h : SanSt w n0 n1 n2 n3 n4 n5 n6 wx) : Calls Tryz.prog 40 #[.agg #[.int .i64 6, .string ⟨#[]⟩, .string ⟨#[]⟩, .string ⟨#[98]⟩, .string ⟨#[]⟩, .string ⟨#[]⟩, .string ⟨#[]⟩, .int .i64 7]] wx (SpsOut w wx n0 n1 n2 n3 n4 n5 n6 [([98], [])] 1) :=
  (reads_w mS wx (by unfold SizeM; decide)).mono fun e w' hh => SpOut.san h (by rw [show readsS mS = [([98], [])] from by decide +kernel] at hh; exact hh) rfl
theorem sc_killsS (h : SanSt w n0 n1 n2 n3 n4 n5 n6 wx) : Calls Tryz.prog 42 #[.agg #[.int .i64 6, .string ⟨#[]⟩, .string ⟨#[]⟩, .string ⟨#[98]⟩, .string ⟨#[]⟩, .string ⟨#[]⟩, .string ⟨#[]⟩, .int .i64 7]] wx (SpsOut w wx n0 n1 n2 n3 n4 n5 n6 [] 0) :=
  (kills_w mS wx (by unfold SizeM; decide)).mono fun e w' hh => SpOut.san h (by rw [show killsS mS = [] from by decide +kernel] at hh; exact hh) rfl
theorem sc_spsame {v0 v1 : Value} (l : List Sp) (h : SanSt w n0 n1 n2 n3 n4 n5 n6 wx) (h0 : IsSpans wx v0 l) (h1 : IsSpans wx v1 l) : Calls Tryz.prog 73 #[v0, v1] wx fun e w' => e = .returned (.bool true) ∧ SanSt w n0 n1 n2 n3 n4 n5 n6 w' ∧ Below wx.heap.size wx w' :=
  (spsame_w v0 v1 l l wx h0 h1).mono fun e w' ⟨h2, h3⟩ => ⟨by rw [h2]; simp, h.below (h3.below (Nat.le_refl _)), h3.below (Nat.le_refl _)⟩
end
theorem IsPairs.alloc {w : World} {v : Value} {l : List Pr} (h : IsPairs w v l) (o : Obj) : IsPairs (w.alloc o) v l := h.below (below_box _)
theorem IsPairs.drew {w : World} {v : Value} {l : List Pr} (h : IsPairs w v l) : IsPairs w.drew v l := h.below (below_drewN w 1)
theorem pairs_below {w w' : World} {v : Value} {l : List Pr} (hb : Below w.heap.size w w') (h : IsPairs w v l) : IsPairs w' v l := h.below hb
theorem IsPairs.new {n : Nat} (W : World) (l : List Pr) (T : TypeId) (hn : n = W.heap.size) (hl : l.length ≤ 1000) (hs : ∀ x ∈ l, x.1.length ≤ maxLen ∧ x.2.1.length ≤ maxLen) : IsPairs (W.alloc (.cells (l.flatMap encP).toArray T)) (.slice (some ⟨n, 0, none⟩) l.length l.length) l := by
  subst hn
  exact blk_pairs l (T := T) (Blk.new _ _ _) hl hs
theorem new_lP {n : Nat} (W : World) (hn : n = W.heap.size) : IsPairs (W.alloc (.cells #[.string ⟨#[97, 47, 120]⟩, .string ⟨#[49]⟩, .int .i64 5, .string ⟨#[97, 47, 121]⟩, .string ⟨#[50]⟩, .int .i64 5, .string ⟨#[97, 47, 122]⟩, .string ⟨#[52]⟩, .int .i64 6, .string ⟨#[98, 47, 120]⟩, .string ⟨#[51]⟩, .int .i64 5] 91)) (.slice (some ⟨n, 0, none⟩) 4 4) lP := IsPairs.new W lP 91 hn (by decide) (small_of (by decide +kernel))
theorem new_lS {n : Nat} (W : World) (hn : n = W.heap.size) : IsPairs (W.alloc (.cells #[.string ⟨#[97, 47, 120]⟩, .string ⟨#[49]⟩, .int .i64 5, .string ⟨#[97, 47, 121]⟩, .string ⟨#[50]⟩, .int .i64 5, .string ⟨#[98, 47, 120]⟩, .string ⟨#[51]⟩, .int .i64 7] 91)) (.slice (some ⟨n, 0, none⟩) 3 3) lS := IsPairs.new W lS 91 hn (by decide) (small_of (by decide +kernel))
section
variable {w wx : World} {n0 n1 n2 n3 n4 n5 n6 : Nat}
theorem SanSt.ct (h : SanSt w n0 n1 n2 n3 n4 n5 n6 wx) : wx.cell? ⟨n0, 0, none⟩ = some (.string ⟨#[97, 47, 120]⟩) ∧ wx.cell? ⟨n0, 1, none⟩ = some (.string ⟨#[49]⟩) ∧ wx.cell? ⟨n0, 2, none⟩ = some (.int .i64 5) ∧ wx.cell? ⟨n0, 3, none⟩ = some (.string ⟨#[97, 47, 121]⟩) ∧ wx.cell? ⟨n0, 4, none⟩ = some (.string ⟨#[50]⟩) ∧ wx.cell? ⟨n0, 5, none⟩ = some (.int .i64 5) ∧ wx.cell? ⟨n0, 6, none⟩ = some (.string ⟨#[98, 47, 120]⟩) ∧ wx.cell? ⟨n0, 7, none⟩ = some (.string ⟨#[51]⟩) ∧ wx.cell? ⟨n0, 8, none⟩ = some (.int .i64 5) :=
  ⟨h.t.c0 0 _ rfl, h.t.c0 1 _ rfl, h.t.c0 2 _ rfl, h.t.c0 3 _ rfl, h.t.c0 4 _ rfl, h.t.c0 5 _ rfl, h.t.c0 6 _ rfl, h.t.c0 7 _ rfl, h.t.c0 8 _ rfl⟩
theorem SanSt.cp (h : SanSt w n0 n1 n2 n3 n4 n5 n6 wx) : wx.cell? ⟨n1, 0, none⟩ = some (.int .i64 1) ∧ wx.cell? ⟨n1, 1, none⟩ = some (.string ⟨#[97, 47, 122]⟩) ∧ wx.cell? ⟨n1, 2, none⟩ = some (.string ⟨#[52]⟩) ∧ wx.cell? ⟨n1, 3, none⟩ = some (.string ⟨#[]⟩) ∧ wx.cell? ⟨n1, 4, none⟩ = some (.string ⟨#[]⟩) ∧ wx.cell? ⟨n1, 5, none⟩ = some (.string ⟨#[]⟩) ∧ wx.cell? ⟨n1, 6, none⟩ = some (.string ⟨#[]⟩) ∧ wx.cell? ⟨n1, 7, none⟩ = some (.int .i64 6) :=
  ⟨h.p.c0 0 _ rfl, h.p.c0 1 _ rfl, h.p.c0 2 _ rfl, h.p.c0 3 _ rfl, h.p.c0 4 _ rfl, h.p.c0 5 _ rfl, h.p.c0 6 _ rfl, h.p.c0 7 _ rfl⟩
theorem SanSt.cd (h : SanSt w n0 n1 n2 n3 n4 n5 n6 wx) : wx.cell? ⟨n2, 0, none⟩ = some (.int .i64 3) ∧ wx.cell? ⟨n2, 1, none⟩ = some (.string ⟨#[]⟩) ∧ wx.cell? ⟨n2, 2, none⟩ = some (.string ⟨#[]⟩) ∧ wx.cell? ⟨n2, 3, none⟩ = some (.string ⟨#[97, 47]⟩) ∧ wx.cell? ⟨n2, 4, none⟩ = some (.string ⟨#[97, 47, 121]⟩) ∧ wx.cell? ⟨n2, 5, none⟩ = some (.string ⟨#[]⟩) ∧ wx.cell? ⟨n2, 6, none⟩ = some (.string ⟨#[]⟩) ∧ wx.cell? ⟨n2, 7, none⟩ = some (.int .i64 0) :=
  ⟨h.d.c0 0 _ rfl, h.d.c0 1 _ rfl, h.d.c0 2 _ rfl, h.d.c0 3 _ rfl, h.d.c0 4 _ rfl, h.d.c0 5 _ rfl, h.d.c0 6 _ rfl, h.d.c0 7 _ rfl⟩
theorem SanSt.cv (h : SanSt w n0 n1 n2 n3 n4 n5 n6 wx) : wx.cell? ⟨n3, 0, none⟩ = some (.int .i64 4) ∧ wx.cell? ⟨n3, 1, none⟩ = some (.string ⟨#[]⟩) ∧ wx.cell? ⟨n3, 2, none⟩ = some (.string ⟨#[]⟩) ∧ wx.cell? ⟨n3, 3, none⟩ = some (.string ⟨#[]⟩) ∧ wx.cell? ⟨n3, 4, none⟩ = some (.string ⟨#[]⟩) ∧ wx.cell? ⟨n3, 5, none⟩ = some (.string ⟨#[97, 47]⟩) ∧ wx.cell? ⟨n3, 6, none⟩ = some (.string ⟨#[98, 47]⟩) ∧ wx.cell? ⟨n3, 7, none⟩ = some (.int .i64 0) :=
  ⟨h.v.c0 0 _ rfl, h.v.c0 1 _ rfl, h.v.c0 2 _ rfl, h.v.c0 3 _ rfl, h.v.c0 4 _ rfl, h.v.c0 5 _ rfl, h.v.c0 6 _ rfl, h.v.c0 7 _ rfl⟩
theorem SanSt.cc (h : SanSt w n0 n1 n2 n3 n4 n5 n6 wx) : wx.cell? ⟨n4, 0, none⟩ = some (.int .i64 5) ∧ wx.cell? ⟨n4, 1, none⟩ = some (.string ⟨#[]⟩) ∧ wx.cell? ⟨n4, 2, none⟩ = some (.string ⟨#[]⟩) ∧ wx.cell? ⟨n4, 3, none⟩ = some (.string ⟨#[]⟩) ∧ wx.cell? ⟨n4, 4, none⟩ = some (.string ⟨#[]⟩) ∧ wx.cell? ⟨n4, 5, none⟩ = some (.string ⟨#[97, 47]⟩) ∧ wx.cell? ⟨n4, 6, none⟩ = some (.string ⟨#[98, 47]⟩) ∧ wx.cell? ⟨n4, 7, none⟩ = some (.int .i64 0) :=
  ⟨h.c.c0 0 _ rfl, h.c.c0 1 _ rfl, h.c.c0 2 _ rfl, h.c.c0 3 _ rfl, h.c.c0 4 _ rfl, h.c.c0 5 _ rfl, h.c.c0 6 _ rfl, h.c.c0 7 _ rfl⟩
theorem SanSt.cs (h : SanSt w n0 n1 n2 n3 n4 n5 n6 wx) : wx.cell? ⟨n5, 0, none⟩ = some (.int .i64 6) ∧ wx.cell? ⟨n5, 1, none⟩ = some (.string ⟨#[]⟩) ∧ wx.cell? ⟨n5, 2, none⟩ = some (.string ⟨#[]⟩) ∧ wx.cell? ⟨n5, 3, none⟩ = some (.string ⟨#[98]⟩) ∧ wx.cell? ⟨n5, 4, none⟩ = some (.string ⟨#[]⟩) ∧ wx.cell? ⟨n5, 5, none⟩ = some (.string ⟨#[]⟩) ∧ wx.cell? ⟨n5, 6, none⟩ = some (.string ⟨#[]⟩) ∧ wx.cell? ⟨n5, 7, none⟩ = some (.int .i64 7) :=
  ⟨h.s.c0 0 _ rfl, h.s.c0 1 _ rfl, h.s.c0 2 _ rfl, h.s.c0 3 _ rfl, h.s.c0 4 _ rfl, h.s.c0 5 _ rfl, h.s.c0 6 _ rfl, h.s.c0 7 _ rfl⟩
end

/-- An append onto a list behind which there is no room, as a step of a region that draws. -/
theorem step_app {ops : Array Oper} {o : Oper} {a : Act} {w : World} {K : Act → World → Prop} {Q : Exit → Act → World → Prop} {E : Prop} (hw : Region.wanted o (yielded ops a.tmps) = true)
    (s x : Operand) (hop : o.op = Op.call { callee := Callee.builtin Builtin.append, args := #[s, x], argTypes := #[38, 38] })
    (p : Option Addr) (n : Nat) (l m : List Pr) (hs : a.eval s = .slice p n n) (hl : IsPairs w (.slice p n n) l) (u : Value) (hx : a.eval x = u) (hm : IsPairs w u m) (hm0 : m ≠ []) (hlen : l.length + m.length ≤ 1000)
    (hK : ∀ v' w', IsPairs w' v' (l ++ m) → Below w.heap.size w w' → K (a.put o.dst v') w') :
    if Region.wanted o (yielded ops a.tmps) = true then Oper.wp Tryz.prog o a w K Q else E := by
  rw [if_pos hw]
  obtain ⟨i0, hi, hz0, hz1, hz2⟩ := info_parts infoP
  obtain ⟨p1, cap, rfl, hlc, hcm, hsm, hpp⟩ := hm
  obtain ⟨p2, cap2, e2, hlc2, hcm2, hsm2, hpp2⟩ := hl
  cases e2
  obtain ⟨mb, moff, rfl, hmlt, hmc⟩ := hpp hm0
  have hm1 : 1 ≤ m.length := List.length_pos_iff.2 hm0
  have hnews := flatP_of w mb moff m hmc
  cases p with
  | none =>
    have : l = [] := by
      cases l with
      | nil => rfl
      | cons y r => obtain ⟨b, off, e, -⟩ := hpp2 (by simp); cases e
    subst this
    obtain ⟨v', w', hrun, r1, r2, _⟩ := run_append_own (P := Tryz.prog) w w.heap.size 38 o.type 91 i0 (.agg #[.string ⟨#[]⟩, .string ⟨#[]⟩, .int .i64 0]) 3 40 Tryz.underlying38 hi hz0 hz1 hz2 rfl (by decide) (.slice none 0 0) 0 [] (World.ownsRow_nil w _ 91 3) ⟨mb, moff, none⟩ m.length cap (m.flatMap encP) (flatP_len m) hnews (flatP_one m) (by unfold maxLen; omega) (by omega) (Nat.le_refl _)
    unfold Oper.wp
    simp [execOp, hop, resolve, invoke, builtin, hs, hx, hrun, Result.andThen]
    refine hK v' w' (IsPairs.owned (by simpa using r1) (by simpa using hsm)) (Below.grown (Below.refl _ _) r2 (Nat.le_refl _) (fun q hq => by cases hq))
  | some ad =>
    have holds : ∀ j u, (l.flatMap encP)[j]? = some u → w.cell? (ad.add j) = some u := by
      by_cases hl0 : l = []
      · subst hl0; intro j u hj; simp at hj
      · obtain ⟨b, off, e, -, hc⟩ := hpp2 hl0
        cases e
        exact flatP_of w b off l hc
    obtain ⟨v', w', hrun, r1, r2⟩ := run_append_arg_grows (P := Tryz.prog) w 38 o.type 91 i0 (.agg #[.string ⟨#[]⟩, .string ⟨#[]⟩, .int .i64 0]) 3 40 Tryz.underlying38 hi hz0 hz1 hz2 rfl (by decide) ad l.length l.length (l.flatMap encP) (flatP_len l) holds ⟨mb, moff, none⟩ m.length cap (m.flatMap encP) (flatP_len m) hnews (by omega) (by unfold maxLen; omega) (by omega)
    unfold Oper.wp
    simp [execOp, hop, resolve, invoke, builtin, hs, hx, hrun, Result.andThen]
    refine hK v' w' (IsPairs.owned (by rw [← List.flatMap_append, ← List.length_append] at r1; exact r1) (fun y hy => (List.mem_append.1 hy).elim (hsm2 y) (hsm y))) (Below.grown (Below.refl _ _) r2 (Nat.le_refl _) (fun q hq => by cases hq))

end Go.Proofs.YtaafckefeejjpaaGreat
