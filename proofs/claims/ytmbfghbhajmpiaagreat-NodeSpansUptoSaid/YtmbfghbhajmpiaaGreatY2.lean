/-
  Walks: what package node asks of pairs, kids, bounds and pivots. Walks: Valid of package node, with the functions that it hands over. Walks: Valid of package node.
-/
import Derived.Test.YtmbfghbhajmpiaaGreatY1
import Derived.Test.YtmbfghbhajmpiaaGreatCV
namespace Go.Proofs.YtmbfghbhajmpiaaGreat
open Go.RowKit Go.Sort
set_option linter.unusedVariables false

def pairB (p : Pr) : Bool := decide (p.1 ≠ [] ∧ p.1.length ≤ 65535 ∧ p.2.1.length ≤ 64 ∧ 0 ≤ p.2.2 ∧ p.2.2 ≤ 1000000000)
def kidB (k : Int) : Bool := decide (0 ≤ k ∧ k < 4096)
def rangeB (r : Rg) : Bool := decide (0 ≤ r.1 ∧ r.1 ≤ r.2 ∧ r.2 ≤ 1000000000000000)
def sumB (s : Sm) : Bool := rangeB s.1 && rangeB s.2
def textFB (s : Bs) : Bool := decide (s.length ≤ 65535)
/-- Pivots that grow, from a text on, all of them in a span. -/
def pivB (s : Sp) : Bs → List Bs → Bool
  | _, [] => true
  | last, p :: r => Op.bytesLess last p && (hasB s p && pivB s p r)
theorem ne_isEmpty {k : Bs} (h : k ≠ []) : k.isEmpty = false := by cases k with
  | nil => exact absurd rfl h
  | cons a r => rfl

set_option maxRecDepth 100000 in
set_option maxHeartbeats 2000000 in
theorem validPair_w (k v : Bs) (n : Int) (w : World) : Calls Tryz.prog 131 #[.agg #[.string (Str k), .string (Str v), .int .i64 n]] w fun e w' => e = .returned (.bool (pairB (k, v, n))) ∧ Grown w w' := by
  have mixed := mixedA
  by_cases h1 : k = []
  · have H : Hid (pairB (k, v, n) = false) := Lib.hid (by unfold pairB; simp [h1])
    subst h1
    go_enter Tryz.func131, Tryz.ntmps131
    go_wp2
    go_ret
    exact ⟨ret_bool (by rw [H.out]), (Grown.refl w).alloc _⟩
  have e1 := ne_isEmpty h1
  by_cases h2 : (k.length : Int) ≤ 65535
  · by_cases h3 : (v.length : Int) ≤ 64
    · by_cases h4 : 0 ≤ n
      · by_cases h5 : n ≤ 1000000000
        · have H : Hid (pairB (k, v, n) = true) := Lib.hid (by unfold pairB; simp [h1]; omega)
          clear h1
          go_enter Tryz.func131, Tryz.ntmps131
          go_wp2
          go_ret
          exact ⟨ret_bool (by rw [H.out]), (Grown.refl w).alloc _⟩
        · have H : Hid (pairB (k, v, n) = false) := Lib.hid (by unfold pairB; simp; intros; omega)
          clear h1
          go_enter Tryz.func131, Tryz.ntmps131
          go_wp2
          go_ret
          exact ⟨ret_bool (by rw [H.out]), (Grown.refl w).alloc _⟩
      · have H : Hid (pairB (k, v, n) = false) := Lib.hid (by unfold pairB; simp; intros; omega)
        clear h1
        go_enter Tryz.func131, Tryz.ntmps131
        go_wp2
        go_ret
        exact ⟨ret_bool (by rw [H.out]), (Grown.refl w).alloc _⟩
    · have H : Hid (pairB (k, v, n) = false) := Lib.hid (by unfold pairB; simp; intros; omega)
      clear h1
      go_enter Tryz.func131, Tryz.ntmps131
      go_wp2
      go_ret
      exact ⟨ret_bool (by rw [H.out]), (Grown.refl w).alloc _⟩
  · have H : Hid (pairB (k, v, n) = false) := Lib.hid (by unfold pairB; simp; intros; omega)
    clear h1
    go_enter Tryz.func131, Tryz.ntmps131
    go_wp2
    go_ret
    exact ⟨ret_bool (by rw [H.out]), (Grown.refl w).alloc _⟩

set_option maxHeartbeats 1000000 in
theorem validKid_w (k : Int) (w : World) : Calls Tryz.prog 134 #[.int .i64 k] w fun e w' => e = .returned (.bool (kidB k)) ∧ Grown w w' := by
  have mixed := mixedA
  by_cases h1 : 0 ≤ k
  · by_cases h2 : k < 4096
    · have H : Hid (kidB k = true) := Lib.hid (by unfold kidB; simp; omega)
      go_enter Tryz.func134, Tryz.ntmps134
      go_wp2
      go_ret
      exact ⟨ret_bool (by rw [H.out]), Grown.refl w⟩
    · have H : Hid (kidB k = false) := Lib.hid (by unfold kidB; simp; omega)
      go_enter Tryz.func134, Tryz.ntmps134
      go_wp2
      go_ret
      exact ⟨ret_bool (by rw [H.out]), Grown.refl w⟩
  · have H : Hid (kidB k = false) := Lib.hid (by unfold kidB; simp; omega)
    go_enter Tryz.func134, Tryz.ntmps134
    go_wp2
    go_ret
    exact ⟨ret_bool (by rw [H.out]), Grown.refl w⟩
set_option maxHeartbeats 1000000 in
theorem fitsText_w (k : Bs) (w : World) : Calls Tryz.prog 70 #[.string (Str k)] w fun e w' => e = .returned (.bool (textFB k)) ∧ Grown w w' := by
  have mixed := mixedA
  by_cases h2 : (k.length : Int) ≤ 65535
  · have H : Hid (textFB k = true) := Lib.hid (by unfold textFB; simp; omega)
    go_enter Tryz.func70, Tryz.ntmps70
    go_wp2
    go_ret
    exact ⟨ret_bool (by rw [H.out]), Grown.refl w⟩
  · have H : Hid (textFB k = false) := Lib.hid (by unfold textFB; simp; omega)
    go_enter Tryz.func70, Tryz.ntmps70
    go_wp2
    go_ret
    exact ⟨ret_bool (by rw [H.out]), Grown.refl w⟩
set_option maxHeartbeats 1000000 in
theorem validRange_w (a b : Int) (w : World) : Calls Tryz.prog 184 #[.agg #[.int .i64 a, .int .i64 b]] w fun e w' => e = .returned (.bool (rangeB (a, b))) ∧ Grown w w' := by
  have mixed := mixedA
  by_cases h1 : 0 ≤ a
  · by_cases h2 : a ≤ b
    · by_cases h3 : b ≤ 1000000000000000
      · have H : Hid (rangeB (a, b) = true) := Lib.hid (by unfold rangeB; simp; omega)
        go_enter Tryz.func184, Tryz.ntmps184
        go_wp2
        go_ret
        exact ⟨ret_bool (by rw [H.out]), (Grown.refl w).alloc _⟩
      · have H : Hid (rangeB (a, b) = false) := Lib.hid (by unfold rangeB; simp; omega)
        go_enter Tryz.func184, Tryz.ntmps184
        go_wp2
        go_ret
        exact ⟨ret_bool (by rw [H.out]), (Grown.refl w).alloc _⟩
    · have H : Hid (rangeB (a, b) = false) := Lib.hid (by unfold rangeB; simp; omega)
      go_enter Tryz.func184, Tryz.ntmps184
      go_wp2
      go_ret
      exact ⟨ret_bool (by rw [H.out]), (Grown.refl w).alloc _⟩
  · have H : Hid (rangeB (a, b) = false) := Lib.hid (by unfold rangeB; simp; omega)
    go_enter Tryz.func184, Tryz.ntmps184
    go_wp2
    go_ret
    exact ⟨ret_bool (by rw [H.out]), (Grown.refl w).alloc _⟩

set_option maxHeartbeats 1000000 in
theorem validSum_w (a b c d : Int) (w : World) : Calls Tryz.prog 137 #[.agg #[.int .i64 a, .int .i64 b, .int .i64 c, .int .i64 d]] w fun e w' => e = .returned (.bool (sumB ((a, b), c, d))) ∧ Grown w w' := by
  have mixed := mixedA
  have HB : Hid (Blk (w.alloc (.cells #[.int .i64 a, .int .i64 b, .int .i64 c, .int .i64 d] 52)) w.heap.size 52 #[.int .i64 a, .int .i64 b, .int .i64 c, .int .i64 d]) := Lib.hid (Blk.new _ _ _)
  have H : Hid (sumB ((a, b), c, d) = (rangeB (a, b) && rangeB (c, d))) := Lib.hid rfl
  have h1 := fun wx => validRange_w a b wx
  have h2 := fun wx => validRange_w c d wx
  generalize rangeB (c, d) = r2 at *
  cases hr : rangeB (a, b)
  · rw [hr] at h1 H
    have H1 := Lib.hid h1
    clear h1 h2 hr
    go_enter Tryz.func137, Tryz.ntmps137
    go_wp2_with (go_at_call 184; refine (H1.out _).mono ?_; rintro e w1 ⟨rfl, hg1⟩; have Hg1 := Lib.hid hg1; clear hg1)
    go_ret
    exact ⟨ret_bool (by rw [H.out]; rfl), ((Grown.refl w).alloc _).trans Hg1.out⟩
  · rw [hr] at h1 H
    have H1 := Lib.hid h1
    have H2 := Lib.hid h2
    clear h1 h2 hr
    go_enter Tryz.func137, Tryz.ntmps137
    go_wp2_with fail
    refine (H1.out _).mono ?_
    rintro e w1 ⟨rfl, hg1⟩
    have hb1 := hg1.blk HB.out
    have x2 := hb1.c0 2 _ rfl
    have x3 := hb1.c0 3 _ rfl
    have Hg1 := Lib.hid hg1
    clear hg1 hb1
    go_wp2_with fail
    refine (H2.out _).mono ?_
    rintro e w2 ⟨rfl, hg2⟩
    have Hg2 := Lib.hid hg2
    clear hg2
    go_wp2
    go_ret
    exact ⟨ret_bool (by rw [H.out]; rfl), (((Grown.refl w).alloc _).trans Hg1.out).trans Hg2.out⟩

theorem less_facts {a b : Bs} (h : Op.bytesLess a b = true) : Op.bytesLess b a = false ∧ (b == a) = false := by
  have h2 := less_asymm h
  refine ⟨h2, ?_⟩
  cases hh : b == a with
  | false => rfl
  | true =>
    have : b = a := by simpa using hh
    rw [this, less_irrefl] at h; cases h
theorem nless_facts {a b : Bs} (h : Op.bytesLess a b = false) : (Op.bytesLess b a || b == a) = true := by
  cases h2 : Op.bytesLess b a with
  | true => rfl
  | false => rw [less_total a b h h2]; simp

set_option maxRecDepth 100000 in
set_option maxHeartbeats 2000000 in
theorem validPivots_w (v : Value) (ps : List Bs) (lo hi : Bs) (w : World) (h : IsStrs w v ps) :
    Calls Tryz.prog 135 #[v, .agg #[.string (Str lo), .string (Str hi)]] w fun e w' => e = .returned (.bool (pivB (lo, hi) lo ps)) ∧ Grown w w' := by
  have mixed := mixedA
  have H := Lib.hid h
  obtain ⟨a, cap, rfl, hlc, hcm, -⟩ := h
  unfold maxLen at hcm
  have HB : Hid (Blk (w.alloc (.cells #[.string (Str lo), .string (Str hi)] 41)) w.heap.size 41 #[.string (Str lo), .string (Str hi)]) := Lib.hid (Blk.new _ _ _)
  go_enter Tryz.func135, Tryz.ntmps135
  go_wp2
  go_loopw [5, 12] (fun la i wr => ∃ (k : Nat) (l : Bs), k ≤ ps.length ∧ i = .int .i64 k ∧ la = .string (Str l) ∧ Grown (w.alloc (.cells #[.string (Str lo), .string (Str hi)] 41)) wr ∧ Hid (pivB (lo, hi) lo ps = pivB (lo, hi) l (ps.drop k))) (fun _ i _ => ps.length - (intOf i).toNat)
  case atStart => exact ⟨0, lo, Nat.zero_le _, rfl, rfl, Grown.refl _, Lib.hid (by simp)⟩
  case round =>
    obtain ⟨k, l, hk, rfl, rfl, hg, hp⟩ := hrel
    have hbk := hg.blk HB.out
    have x0 := hbk.c0 0 _ rfl
    have x1 := hbk.c0 1 _ rfl
    have Hg := Lib.hid hg
    clear hg hbk
    by_cases hlt : k < ps.length
    · obtain ⟨bb, off, cap', he, hbl, hlz, y0⟩ := at_str ((H.out.below (below_box _)).below (Hg.out.below (Nat.le_refl _))) k hlt
      injection he with he1 he2 he3
      subst he1 he3
      clear he2
      have hltz : (k : Int) < (ps.length : Int) := by omega
      have Hd := Lib.hid (List.drop_eq_getElem_cons hlt)
      generalize ps[k] = q at *
      have Hq : Hid (pivB (lo, hi) lo ps = (Op.bytesLess l q && (hasB (lo, hi) q && pivB (lo, hi) q (ps.drop (k + 1))))) := Lib.hid (by rw [hp.out, Hd.out]; rfl)
      clear hp Hd
      have hh := fun wx => has_w lo hi q wx
      cases hlq : Op.bytesLess l q with
      | false =>
        have hn := nless_facts hlq
        have Hr : Hid (pivB (lo, hi) lo ps = false) := Lib.hid (by rw [Hq.out, hlq]; rfl)
        clear hlq Hq hh
        go_wp2
        go_ret
        exact ⟨ret_bool (by rw [Hr.out]), ((Grown.refl w).alloc _).trans Hg.out⟩
      | true =>
        obtain ⟨f1, f2⟩ := less_facts hlq
        rw [hlq, Bool.true_and] at Hq
        clear hlq
        cases hhb : hasB (lo, hi) q with
        | false =>
          have Hr : Hid (pivB (lo, hi) lo ps = false) := Lib.hid (by rw [Hq.out, hhb]; rfl)
          rw [hhb] at hh
          have HH := Lib.hid hh
          clear hhb Hq hh
          go_wp2_with (go_at_call 132; refine (HH.out _).mono ?_; rintro e w2 ⟨rfl, hg2⟩; have Hg2 := Lib.hid hg2; clear hg2)
          go_ret
          exact ⟨ret_bool (by rw [Hr.out]), (((Grown.refl w).alloc _).trans Hg.out).trans Hg2.out⟩
        | true =>
          rw [hhb] at hh
          rw [hhb, Bool.true_and] at Hq
          have HH := Lib.hid hh
          clear hhb hh
          go_wp2_with (go_at_call 132; refine (HH.out _).mono ?_; rintro e w2 ⟨rfl, hg2⟩; have Hg2 := Lib.hid hg2; clear hg2)
          go_roundw
          case rel => exact ⟨k + 1, q, by omega, by go_num, rfl, Hg.out.trans Hg2.out, Hq⟩
          case measure => simp [intOf]; omega
    · obtain rfl : k = ps.length := by omega
      have Hr : Hid (pivB (lo, hi) lo ps = true) := Lib.hid (by rw [hp.out, List.drop_length]; rfl)
      clear hp
      go_wp2
      go_ret
      exact ⟨ret_bool (by rw [Hr.out]), ((Grown.refl w).alloc _).trans Hg.out⟩

end Go.Proofs.YtmbfghbhajmpiaaGreat
namespace Go.Proofs.YtmbfghbhajmpiaaGreat
open Go.RowKit Go.Sort
set_option linter.unusedVariables false

/-- A right message has short texts. -/
theorem valid_lens {m : Ms} (h : validM m = true) : m.key.length ≤ 65535 ∧ m.val.length ≤ 64 ∧ m.lo.length ≤ 65535 ∧ m.hi.length ≤ 65535 ∧ m.src.length ≤ 200 ∧ m.dst.length ≤ 200 := by
  obtain ⟨kd, ky, va, lo, hi, sr, ds, n⟩ := m
  unfold validM at h
  rw [Bool.and_eq_true, decide_eq_true_eq] at h
  obtain ⟨hf, hb⟩ := h
  unfold fitsB at hf
  unfold bareM zeroM at hb
  dsimp only at hf hb ⊢
  by_cases h1 : kd = 1
  · subst h1
    simp [keyB, stampB] at hf hb
    obtain ⟨rfl, rfl, rfl, rfl⟩ := hb
    simp; omega
  by_cases h2 : kd = 2
  · subst h2
    simp [keyB] at hf hb
    obtain ⟨rfl, rfl, rfl, rfl, rfl, rfl⟩ := hb
    simp; omega
  by_cases h3 : kd = 3
  · subst h3
    simp [spanB] at hf hb
    obtain ⟨rfl, rfl, rfl, rfl, rfl⟩ := hb
    simp; omega
  by_cases h4 : kd = 4
  · subst h4
    simp [apartB, frontB] at hf hb
    obtain ⟨rfl, rfl, rfl, rfl, rfl⟩ := hb
    simp; omega
  by_cases h5 : kd = 5
  · subst h5
    simp [apartB, frontB] at hf hb
    obtain ⟨rfl, rfl, rfl, rfl, rfl⟩ := hb
    simp; omega
  by_cases h6 : kd = 6
  · subst h6
    simp [spanB, stampB] at hf hb
    obtain ⟨rfl, rfl, rfl, rfl⟩ := hb
    simp; omega
  simp [h1, h2, h3, h4, h5, h6] at hf
theorem valid_sizeM {m : Ms} (h : validM m = true) : SizeM m := by
  have := valid_lens h
  unfold SizeM; omega

/-- All that a message reads and writes is in a span. -/
def staysB (s : Sp) (m : Ms) : Bool := (readsS m).all (coversB s) && (writesS m).all (coversB s)
def bufB (s : Sp) (m : Ms) : Bool := validM m && staysB s m
def leafPB (s : Sp) (p : Pr) : Bool := pairB p && hasB s p.1
def leafB (n : Nd) (s : Sp) : Bool := n.pivots.isEmpty && (n.sums.isEmpty && (n.buf.isEmpty && (validB n.pairs && n.pairs.all (leafPB s))))
def innerB (n : Nd) (s : Sp) : Bool := n.pairs.isEmpty && (decide (n.sums.length = n.kids.length) && (decide (n.pivots.length + 1 = n.kids.length) && (n.kids.all kidB && (pivB s s.1 n.pivots && (n.sums.all sumB && n.buf.all (bufB s))))))
def validN (n : Nd) (s : Sp) : Bool := if n.kids = [] then leafB n s else innerB n s

theorem blkG {w wx : World} {b : Nat} {T : TypeId} {cs : Array Value} (h : Blk w b T cs) (hg : Grown w wx) : Blk wx b T cs := hg.blk h
set_option maxHeartbeats 1000000 in
theorem staysPart_w (c : Nat) (T : TypeId) (s p : Sp) (w : World) (hc : Blk w c T #[.string (Str s.1), .string (Str s.2)]) : Calls Tryz.prog 187 #[.agg #[.string (Str p.1), .string (Str p.2)], .pointer (some ⟨c, 0, none⟩)] w fun e w' => e = .returned (.bool (coversB s p)) ∧ Grown w w' := by
  have mixed := mixedA
  obtain ⟨slo, shi⟩ := s
  obtain ⟨plo, phi⟩ := p
  have hh := fun wx => covers_w (slo, shi) (plo, phi) wx
  simp only [strS] at hh
  generalize coversB (slo, shi) (plo, phi) = r at *
  have hl := hc.lt
  have c0 : (w.alloc (.cells #[.string (Str plo), .string (Str phi)] 41)).cell? ⟨c, 0, none⟩ = some (.string (Str slo)) := (hc.alloc _).c0 0 _ rfl
  have c1 : (w.alloc (.cells #[.string (Str plo), .string (Str phi)] 41)).cell? ⟨c, 1, none⟩ = some (.string (Str shi)) := (hc.alloc _).c0 1 _ rfl
  have HH := Lib.hid hh
  clear hh hc hl
  go_enter Tryz.func187, Tryz.ntmps187
  go_wp2_with (go_at_call 172; refine (HH.out _).mono ?_; rintro e w2 ⟨rfl, hg2⟩; have Hg2 := Lib.hid hg2; clear hg2)
  go_ret
  exact ⟨rfl, ((Grown.refl w).alloc _).trans Hg2.out⟩

theorem MBlk8 {w : World} {b : Nat} {T : TypeId} {m : Ms} (h : Blk w b T (encM m)) :
    w.cell? ⟨b, 0, none⟩ = some (.int .i64 m.kind) ∧ w.cell? ⟨b, 1, none⟩ = some (.string (Str m.key)) ∧ w.cell? ⟨b, 2, none⟩ = some (.string (Str m.val)) ∧ w.cell? ⟨b, 3, none⟩ = some (.string (Str m.lo)) ∧
    w.cell? ⟨b, 4, none⟩ = some (.string (Str m.hi)) ∧ w.cell? ⟨b, 5, none⟩ = some (.string (Str m.src)) ∧ w.cell? ⟨b, 6, none⟩ = some (.string (Str m.dst)) ∧ w.cell? ⟨b, 7, none⟩ = some (.int .i64 m.n) :=
  ⟨h.c0 0 _ rfl, h.c0 1 _ rfl, h.c0 2 _ rfl, h.c0 3 _ rfl, h.c0 4 _ rfl, h.c0 5 _ rfl, h.c0 6 _ rfl, h.c0 7 _ rfl⟩
set_option maxRecDepth 100000 in
set_option maxHeartbeats 2000000 in
theorem staysIn_w (m : Ms) (s : Sp) (w : World) (hv : SizeM m) : Calls Tryz.prog 140 #[msgV m, .agg #[.string (Str s.1), .string (Str s.2)]] w fun e w' => e = .returned (.bool (staysB s m)) ∧ Grown w w' := by
  have mixed := mixedA
  obtain ⟨W1, hW1⟩ : ∃ W1, W1 = (w.alloc (.cells (encM m) 46)).alloc (.cells #[.string (Str s.1), .string (Str s.2)] 41) := ⟨_, rfl⟩
  have HM : Hid (Blk W1 w.heap.size 46 (encM m)) := Lib.hid (by rw [hW1]; exact (Blk.new _ _ _).alloc _)
  have HS : Hid (Blk W1 (w.heap.size + 1) 41 #[.string (Str s.1), .string (Str s.2)]) := Lib.hid (by rw [hW1]; exact Blk.new' _ _ _ (by simp))
  have HG : Hid (Grown w W1) := Lib.hid (by rw [hW1]; exact ((Grown.refl w).alloc _).alloc _)
  have HR := Lib.hid (fun wx => reads_w m wx hv)
  have HW := Lib.hid (fun wx => writes_w m wx hv)
  have H : Hid (staysB s m = ((readsS m).all (coversB s) && (writesS m).all (coversB s))) := Lib.hid rfl
  have HE := Lib.hid (fun (v : Value) (l : List Sp) (wx : World) (hx : Grown W1 wx) (h : IsSpans wx v l) => everyN (w.heap.size + 1) v l (coversB s) wx h (fun wy hy x hx' => staysPart_w _ _ s x wy (blkG HS.out (hx.trans hy))))
  generalize hr1 : (readsS m).all (coversB s) = r1 at *
  generalize hr2 : (writesS m).all (coversB s) = r2 at *
  have H1 := Lib.hid hr1
  have H2 := Lib.hid hr2
  obtain ⟨m0, m1, m2, m3, m4, m5, m6, m7⟩ := MBlk8 HM.out
  have HW1 := Lib.hid hW1
  clear hr1 hr2 hv hW1
  obtain ⟨kd, ky, va, lo, hi, sr, ds, n⟩ := m
  obtain ⟨slo, shi⟩ := s
  cases r1
  · go_enter Tryz.func140, Tryz.ntmps140
    go_wp2_with fail
    rw [← HW1.out]
    refine (HR.out _).mono ?_
    rintro e w2 ⟨v1, rfl, hs1, hg1⟩
    have Hs1 := Lib.hid hs1
    have Hg1 := Lib.hid hg1
    clear hs1 hg1
    go_wp2_with fail
    have he := HE.out _ _ _ Hg1.out Hs1.out
    rw [H1.out] at he
    refine he.mono ?_
    clear he
    rintro e w3 ⟨rfl, hg3⟩
    have Hg3 := Lib.hid hg3
    clear hg3
    go_wp2
    go_ret
    exact ⟨ret_bool (by rw [H.out]; rfl), (HG.out.trans Hg1.out).trans Hg3.out⟩
  · go_enter Tryz.func140, Tryz.ntmps140
    go_wp2_with fail
    rw [← HW1.out]
    refine (HR.out _).mono ?_
    rintro e w2 ⟨v1, rfl, hs1, hg1⟩
    have Hs1 := Lib.hid hs1
    have Hg1 := Lib.hid hg1
    clear hs1 hg1
    go_wp2_with fail
    have he := HE.out _ _ _ Hg1.out Hs1.out
    rw [H1.out] at he
    refine he.mono ?_
    clear he
    rintro e w3 ⟨rfl, hg3⟩
    have Hg3 := Lib.hid (Hg1.out.trans hg3)
    clear hg3 m0 m1 m2 m3 m4 m5 m6 m7
    obtain ⟨m0, m1, m2, m3, m4, m5, m6, m7⟩ := MBlk8 (blkG HM.out Hg3.out)
    go_wp2_with fail
    refine (HW.out _).mono ?_
    rintro e w4 ⟨v2, rfl, hs2, hg4⟩
    have Hs2 := Lib.hid hs2
    have Hg4 := Lib.hid (Hg3.out.trans hg4)
    clear hs2 hg4 m0 m1 m2 m3 m4 m5 m6 m7
    go_wp2_with fail
    have he := HE.out _ _ _ Hg4.out Hs2.out
    rw [H2.out] at he
    refine he.mono ?_
    clear he
    rintro e w5 ⟨rfl, hg5⟩
    have Hg5 := Lib.hid hg5
    clear hg5
    go_wp2
    go_ret
    exact ⟨ret_bool (by rw [H.out]; rfl), (HG.out.trans Hg4.out).trans Hg5.out⟩

set_option maxRecDepth 100000 in
set_option maxHeartbeats 1000000 in
theorem validBuf_w (c : Nat) (T : TypeId) (s : Sp) (m : Ms) (w : World) (hc : Blk w c T #[.string (Str s.1), .string (Str s.2)]) : Calls Tryz.prog 139 #[msgV m, .pointer (some ⟨c, 0, none⟩)] w fun e w' => e = .returned (.bool (bufB s m)) ∧ Grown w w' := by
  have mixed := mixedA
  obtain ⟨W1, hW1⟩ : ∃ W1, W1 = w.alloc (.cells (encM m) 46) := ⟨_, rfl⟩
  have HM : Hid (Blk W1 w.heap.size 46 (encM m)) := Lib.hid (by rw [hW1]; exact Blk.new _ _ _)
  have HC : Hid (Blk W1 c T #[.string (Str s.1), .string (Str s.2)]) := Lib.hid (by rw [hW1]; exact hc.alloc _)
  have HG : Hid (Grown w W1) := Lib.hid (by rw [hW1]; exact (Grown.refl w).alloc _)
  have HV := Lib.hid (fun wx => valid_w m wx)
  obtain ⟨m0, m1, m2, m3, m4, m5, m6, m7⟩ := MBlk8 HM.out
  have HW1 := Lib.hid hW1
  clear hW1 hc
  have H : Hid (bufB s m = (validM m && staysB s m)) := Lib.hid rfl
  cases hv : validM m with
  | false =>
    rw [hv] at HV H
    clear hv
    obtain ⟨kd, ky, va, lo, hi, sr, ds, n⟩ := m
    go_enter Tryz.func139, Tryz.ntmps139
    go_wp2_with fail
    rw [← HW1.out]
    refine (HV.out _).mono ?_
    rintro e w2 ⟨rfl, hg2⟩
    have Hg2 := Lib.hid hg2
    clear hg2
    go_wp2
    go_ret
    exact ⟨ret_bool (by rw [H.out]; rfl), HG.out.trans Hg2.out⟩
  | true =>
    have HT := Lib.hid (fun wx => staysIn_w m s wx (valid_sizeM hv))
    rw [hv] at HV H
    clear hv
    generalize staysB s m = r at *
    obtain ⟨slo, shi⟩ := s
    obtain ⟨kd, ky, va, lo, hi, sr, ds, n⟩ := m
    go_enter Tryz.func139, Tryz.ntmps139
    go_wp2_with fail
    rw [← HW1.out]
    refine (HV.out _).mono ?_
    rintro e w2 ⟨rfl, hg2⟩
    clear m0 m1 m2 m3 m4 m5 m6 m7
    obtain ⟨m0, m1, m2, m3, m4, m5, m6, m7⟩ := MBlk8 (blkG HM.out hg2)
    have c0 := (blkG HC.out hg2).c0 0 _ rfl
    have c1 := (blkG HC.out hg2).c0 1 _ rfl
    have Hg2 := Lib.hid hg2
    clear hg2
    go_wp2_with fail
    refine (HT.out _).mono ?_
    rintro e w3 ⟨rfl, hg3⟩
    have Hg3 := Lib.hid hg3
    clear hg3
    go_wp2
    go_ret
    exact ⟨ret_bool (by rw [H.out]; rfl), (HG.out.trans Hg2.out).trans Hg3.out⟩

set_option maxRecDepth 100000 in
set_option maxHeartbeats 1000000 in
theorem validLeafP_w (c : Nat) (T : TypeId) (s : Sp) (x : Pr) (w : World) (hc : Blk w c T #[.string (Str s.1), .string (Str s.2)]) : Calls Tryz.prog 130 #[.agg #[.string (Str x.1), .string (Str x.2.1), .int .i64 x.2.2], .pointer (some ⟨c, 0, none⟩)] w fun e w' => e = .returned (.bool (leafPB s x)) ∧ Grown w w' := by
  have mixed := mixedA
  obtain ⟨xk, xv, xn⟩ := x
  obtain ⟨slo, shi⟩ := s
  have HM : Hid (Blk (w.alloc (.cells #[.string (Str xk), .string (Str xv), .int .i64 xn] 48)) w.heap.size 48 #[.string (Str xk), .string (Str xv), .int .i64 xn]) := Lib.hid (Blk.new _ _ _)
  have HC : Hid (Blk (w.alloc (.cells #[.string (Str xk), .string (Str xv), .int .i64 xn] 48)) c T #[.string (Str slo), .string (Str shi)]) := Lib.hid (hc.alloc _)
  have H : Hid (leafPB (slo, shi) (xk, xv, xn) = (pairB (xk, xv, xn) && hasB (slo, shi) xk)) := Lib.hid rfl
  have hv := fun wx => validPair_w xk xv xn wx
  have hh := fun wx => has_w slo shi xk wx
  generalize hasB (slo, shi) xk = r at *
  have HH := Lib.hid hh
  clear hh hc
  cases hp : pairB (xk, xv, xn) with
  | false =>
    rw [hp] at hv H
    have HV := Lib.hid hv
    clear hv hp
    go_enter Tryz.func130, Tryz.ntmps130
    go_wp2_with (go_at_call 131; refine (HV.out _).mono ?_; rintro e w2 ⟨rfl, hg2⟩; have Hg2 := Lib.hid hg2; clear hg2)
    go_ret
    exact ⟨ret_bool (by rw [H.out]; rfl), ((Grown.refl w).alloc _).trans Hg2.out⟩
  | true =>
    rw [hp] at hv H
    have HV := Lib.hid hv
    clear hv hp
    go_enter Tryz.func130, Tryz.ntmps130
    go_wp2_with fail
    refine (HV.out _).mono ?_
    rintro e w2 ⟨rfl, hg2⟩
    have c0 := (blkG HC.out hg2).c0 0 _ rfl
    have c1 := (blkG HC.out hg2).c0 1 _ rfl
    have x0 := (blkG HM.out hg2).c0 0 _ rfl
    have Hg2 := Lib.hid hg2
    clear hg2
    go_wp2_with fail
    refine (HH.out _).mono ?_
    rintro e w3 ⟨rfl, hg3⟩
    have Hg3 := Lib.hid hg3
    clear hg3
    go_wp2
    go_ret
    exact ⟨ret_bool (by rw [H.out]; rfl), (((Grown.refl w).alloc _).trans Hg2.out).trans Hg3.out⟩

end Go.Proofs.YtmbfghbhajmpiaaGreat
namespace Go.Proofs.YtmbfghbhajmpiaaGreat
open Go.RowKit Go.Sort
set_option linter.unusedVariables false

theorem len_pos {α : Type} {l : List α} (h : l ≠ []) : (0 : Int) < (l.length : Int) := by
  have : l.length ≠ 0 := fun e => h (List.length_eq_zero_iff.1 e)
  omega
theorem len_posN {α : Type} {l : List α} (h : l ≠ []) : 0 < l.length := by
  have : l.length ≠ 0 := fun e => h (List.length_eq_zero_iff.1 e)
  omega
theorem ne_isEmpty' {α : Type} {l : List α} (h : l ≠ []) : l.isEmpty = false := by cases l with
  | nil => exact absurd rfl h
  | cons a r => rfl
theorem Grown.drewN (w : World) (n : Nat) : Grown w (w.drewN n) := ⟨n, #[], by rw [grow_empty]⟩
theorem IsNode.pairs {w : World} {v : Value} {n : Nd} (h : IsNode w v n) : ∃ a b c d e, v = .agg #[a, b, c, d, e] ∧ IsPairs w a n.pairs := by
  obtain ⟨a, b, c, d, e, h0, h1, h2⟩ := h; exact ⟨a, b, c, d, e, h0, h1⟩

set_option maxRecDepth 100000 in
set_option maxHeartbeats 1000000 in
theorem isLeaf_w (v : Value) (n : Nd) (w : World) (h : IsNode w v n) : Calls Tryz.prog 61 #[v] w fun e w' => e = .returned (.bool (decide (n.kids = []))) ∧ Grown w w' := by
  have mixed := mixedA
  obtain ⟨a, b, c, d, e, rfl, -, -, ⟨pc, cc, rfl, -⟩, -⟩ := h
  by_cases hk : n.kids = []
  · have H : Hid (decide (n.kids = []) = true) := Lib.hid (by simp [hk])
    rw [hk]
    clear hk
    go_enter Tryz.func61, Tryz.ntmps61
    go_wp2
    go_ret
    exact ⟨ret_bool (by simp), (Grown.refl w).alloc _⟩
  · have H : Hid (decide (n.kids = []) = false) := Lib.hid (by simp [hk])
    have hl : ((n.kids.length : Int) == 0) = false := by have := len_pos hk; simp; omega
    clear hk
    go_enter Tryz.func61, Tryz.ntmps61
    go_wp2
    go_ret
    exact ⟨ret_bool (by rw [H.out]), (Grown.refl w).alloc _⟩

set_option maxRecDepth 100000 in
set_option maxHeartbeats 2000000 in
theorem validLeaf_w (v : Value) (n : Nd) (s : Sp) (w : World) (h : IsNode w v n) (hl : n.pairs.length ≤ 100000000000) : Calls Tryz.prog 62 #[v, .agg #[.string (Str s.1), .string (Str s.2)]] w fun e w' => e = .returned (.bool (leafB n s)) ∧ Grown w w' := by
  have mixed := mixedA
  obtain ⟨a, b, c, d, e, rfl, hP, ⟨pb, cb, rfl, hlb, hmb, -⟩, ⟨pc, cc, rfl, -⟩, ⟨pd, cd, rfl, hld, hmd, -⟩, ⟨pe, ce, rfl, hle, hme, -⟩⟩ := h
  obtain ⟨np, ni, nk, ns, nb⟩ := n
  dsimp only at *
  have HF : Hid (leafB ⟨np, ni, nk, ns, nb⟩ s = (ni.isEmpty && (ns.isEmpty && (nb.isEmpty && (validB np && np.all (leafPB s)))))) := Lib.hid rfl
  generalize leafB ⟨np, ni, nk, ns, nb⟩ s = R at *
  have HV := Lib.hid (fun wx (hx : Grown w wx) => tvalid_w a np wx (hP.below (hx.below (Nat.le_refl _))) hl)
  have HE := Lib.hid (fun c (T : TypeId) W1 (hg1 : Grown w W1) (hc : Blk W1 c T #[.string (Str s.1), .string (Str s.2)]) wx (hx : Grown W1 wx) => everyP c a np (leafPB s) wx (hP.below ((hg1.trans hx).below (Nat.le_refl _))) (fun wy hy x hx' => validLeafP_w c T s x wy (blkG hc (hx.trans hy))))
  obtain ⟨pa, ca, rfl, hla, hma, -, -⟩ := hP
  unfold maxLen at hmb hmd hme hma
  by_cases h1 : ni = []
  rotate_left
  · have hp := len_pos h1
    have hpn := len_posN h1
    have HR : Hid (R = false) := Lib.hid (by rw [HF.out, ne_isEmpty' h1]; rfl)
    clear h1 HF HV HE
    go_enter Tryz.func62, Tryz.ntmps62
    go_wp2
    go_ret
    exact ⟨ret_bool (by rw [HR.out]), ((Grown.refl w).alloc _).alloc _⟩
  subst h1
  by_cases h2 : ns = []
  rotate_left
  · have hp := len_pos h2
    have hpn := len_posN h2
    have HR : Hid (R = false) := Lib.hid (by rw [HF.out, ne_isEmpty' h2]; rfl)
    clear h2 HF HV HE
    go_enter Tryz.func62, Tryz.ntmps62
    go_wp2
    go_ret
    exact ⟨ret_bool (by rw [HR.out]), ((Grown.refl w).alloc _).alloc _⟩
  subst h2
  by_cases h3 : nb = []
  rotate_left
  · have hp := len_pos h3
    have hpn := len_posN h3
    have HR : Hid (R = false) := Lib.hid (by rw [HF.out, ne_isEmpty' h3]; rfl)
    clear h3 HF HV HE
    go_enter Tryz.func62, Tryz.ntmps62
    go_wp2
    go_ret
    exact ⟨ret_bool (by rw [HR.out]), ((Grown.refl w).alloc _).alloc _⟩
  subst h3
  obtain ⟨W1, hW1⟩ : ∃ W1, W1 = (w.alloc (.cells #[.slice pa np.length ca, .slice pb 0 cb, .slice pc nk.length cc, .slice pd 0 cd, .slice pe 0 ce] 34)).alloc (.cells #[.string (Str s.1), .string (Str s.2)] 41) := ⟨_, rfl⟩
  have HM : Hid (Blk W1 w.heap.size 34 #[.slice pa np.length ca, .slice pb 0 cb, .slice pc nk.length cc, .slice pd 0 cd, .slice pe 0 ce]) := Lib.hid (by rw [hW1]; exact (Blk.new _ _ _).alloc _)
  have HC : Hid (Blk W1 (w.heap.size + 1) 41 #[.string (Str s.1), .string (Str s.2)]) := Lib.hid (by rw [hW1]; exact Blk.new' _ _ _ (by simp))
  have HG : Hid (Grown w W1) := Lib.hid (by rw [hW1]; exact ((Grown.refl w).alloc _).alloc _)
  have n0 := HM.out.c0 0 _ rfl
  have n1 := HM.out.c0 1 _ rfl
  have n3 := HM.out.c0 3 _ rfl
  have n4 := HM.out.c0 4 _ rfl
  have HW1 := Lib.hid hW1
  clear hW1
  cases h4 : validB np with
  | false =>
    rw [h4] at HV HF
    have HR : Hid (R = false) := Lib.hid (by rw [HF.out]; rfl)
    clear h4 HF HE
    go_enter Tryz.func62, Tryz.ntmps62
    go_wp2_with fail
    rw [← HW1.out]
    refine (HV.out _ HG.out).mono ?_
    rintro e w2 ⟨rfl, nq, rfl⟩
    go_wp2
    go_ret
    exact ⟨ret_bool (by rw [HR.out]), HG.out.trans (Grown.drewN _ _)⟩
  | true =>
    rw [h4] at HV HF
    have HR : Hid (R = np.all (leafPB s)) := Lib.hid (by rw [HF.out]; rfl)
    clear h4 HF
    generalize np.all (leafPB s) = r at *
    go_enter Tryz.func62, Tryz.ntmps62
    go_wp2_with fail
    rw [← HW1.out]
    refine (HV.out _ HG.out).mono ?_
    rintro e w2 ⟨rfl, nq, rfl⟩
    have n0' : (W1.drewN nq).cell? ⟨w.heap.size, 0, none⟩ = some (.slice pa np.length ca) := n0
    go_wp2_with fail
    refine (HE.out _ _ _ HG.out HC.out _ (Grown.drewN _ _)).mono ?_
    rintro e w3 ⟨rfl, hg3⟩
    have Hg3 := Lib.hid hg3
    clear hg3
    go_wp2
    go_ret
    exact ⟨ret_bool (by rw [HR.out]), (HG.out.trans (Grown.drewN _ _)).trans Hg3.out⟩

set_option maxRecDepth 100000 in
set_option maxHeartbeats 4000000 in
theorem validInner_w (v : Value) (n : Nd) (s : Sp) (w : World) (h : IsNode w v n) (hk : n.kids ≠ []) : Calls Tryz.prog 63 #[v, .agg #[.string (Str s.1), .string (Str s.2)]] w fun e w' => e = .returned (.bool (innerB n s)) ∧ Grown w w' := by
  have mixed := mixedA
  obtain ⟨a, b, c, d, e, rfl, hP, hI, hK, hS, hB⟩ := h
  obtain ⟨np, ni, nk, ns, nb⟩ := n
  dsimp only at *
  have HF : Hid (innerB ⟨np, ni, nk, ns, nb⟩ s = (np.isEmpty && (decide (ns.length = nk.length) && (decide (ni.length + 1 = nk.length) && (nk.all kidB && (pivB s s.1 ni && (ns.all sumB && nb.all (bufB s)))))))) := Lib.hid rfl
  generalize innerB ⟨np, ni, nk, ns, nb⟩ s = R at *
  have HE1 := Lib.hid (fun wx (hx : Grown w wx) => everyI c nk kidB wx (hK.below (hx.below (Nat.le_refl _))) (fun wy hy x hx' => validKid_w x wy))
  have HE2 := Lib.hid (fun wx (hx : Grown w wx) => validPivots_w b ni s.1 s.2 wx (hI.below (hx.below (Nat.le_refl _))))
  have HE3 := Lib.hid (fun wx (hx : Grown w wx) => everyS d ns sumB wx (hS.below (hx.below (Nat.le_refl _))) (fun wy hy x hx' => validSum_w x.1.1 x.1.2 x.2.1 x.2.2 wy))
  have HE4 := Lib.hid (fun c (T : TypeId) W1 (hg1 : Grown w W1) (hc : Blk W1 c T #[.string (Str s.1), .string (Str s.2)]) wx (hx : Grown W1 wx) => everyM c e nb (bufB s) wx (hB.below ((hg1.trans hx).below (Nat.le_refl _))) (fun wy hy x hx' => validBuf_w c T s x wy (blkG hc (hx.trans hy))))
  obtain ⟨pa, ca, rfl, hla, hma, -, -⟩ := hP
  obtain ⟨pb, cb, rfl, hlb, hmb, -⟩ := hI
  obtain ⟨pc, cc, rfl, hlc, hmc, -⟩ := hK
  obtain ⟨pd, cd, rfl, hld, hmd, -⟩ := hS
  obtain ⟨pe, ce, rfl, hle, hme, -⟩ := hB
  unfold maxLen at hmb hmd hme hma hmc
  have hkp := len_posN hk
  have hkp1 : (1 : Int) ≤ (nk.length : Int) := by omega
  have hkp2 : (nk.length : Int) ≤ 9223372036854775807 := by omega
  clear hk
  by_cases h1 : np = []
  rotate_left
  · have hp := len_pos h1
    have hpn := len_posN h1
    have HR : Hid (R = false) := Lib.hid (by rw [HF.out, ne_isEmpty' h1]; rfl)
    clear h1 HF HE1 HE2 HE3 HE4
    go_enter Tryz.func63, Tryz.ntmps63
    go_wp2
    go_ret
    exact ⟨ret_bool (by rw [HR.out]), ((Grown.refl w).alloc _).alloc _⟩
  subst h1
  by_cases h2 : ns.length = nk.length
  rotate_left
  · have hne : ((ns.length : Int) != (nk.length : Int)) = true := by simp; omega
    have HR : Hid (R = false) := Lib.hid (by rw [HF.out, decide_eq_false h2]; rfl)
    clear h2 HF HE1 HE2 HE3 HE4
    go_enter Tryz.func63, Tryz.ntmps63
    go_wp2
    go_ret
    exact ⟨ret_bool (by rw [HR.out]), ((Grown.refl w).alloc _).alloc _⟩
  have hne : ((ns.length : Int) != (nk.length : Int)) = false := by simp; omega
  by_cases h3 : ni.length + 1 = nk.length
  rotate_left
  · have hne2 : ((ni.length : Int) != (nk.length : Int) - 1) = true := by simp; omega
    have HR : Hid (R = false) := Lib.hid (by rw [HF.out, decide_eq_false h3]; simp)
    clear h2 h3 HF HE1 HE2 HE3 HE4
    go_enter Tryz.func63, Tryz.ntmps63
    go_wp2
    go_ret
    exact ⟨ret_bool (by rw [HR.out]), ((Grown.refl w).alloc _).alloc _⟩
  have hne2 : ((ni.length : Int) != (nk.length : Int) - 1) = false := by simp; omega
  have HR : Hid (R = (nk.all kidB && (pivB s s.1 ni && (ns.all sumB && nb.all (bufB s))))) := Lib.hid (by rw [HF.out, decide_eq_true h2, decide_eq_true h3]; rfl)
  clear h2 h3 HF
  obtain ⟨W1, hW1⟩ : ∃ W1, W1 = (w.alloc (.cells #[.slice pa 0 ca, .slice pb ni.length cb, .slice pc nk.length cc, .slice pd ns.length cd, .slice pe nb.length ce] 34)).alloc (.cells #[.string (Str s.1), .string (Str s.2)] 41) := ⟨_, rfl⟩
  have HM : Hid (Blk W1 w.heap.size 34 #[.slice pa 0 ca, .slice pb ni.length cb, .slice pc nk.length cc, .slice pd ns.length cd, .slice pe nb.length ce]) := Lib.hid (by rw [hW1]; exact (Blk.new _ _ _).alloc _)
  have HC : Hid (Blk W1 (w.heap.size + 1) 41 #[.string (Str s.1), .string (Str s.2)]) := Lib.hid (by rw [hW1]; exact Blk.new' _ _ _ (by simp))
  have HG : Hid (Grown w W1) := Lib.hid (by rw [hW1]; exact ((Grown.refl w).alloc _).alloc _)
  have n0 := HM.out.c0 0 _ rfl
  have n1 := HM.out.c0 1 _ rfl
  have n2 := HM.out.c0 2 _ rfl
  have n3 := HM.out.c0 3 _ rfl
  have n4 := HM.out.c0 4 _ rfl
  have HW1 := Lib.hid hW1
  clear hW1
  generalize nk.all kidB = r1 at *
  generalize pivB s s.1 ni = r2 at *
  generalize ns.all sumB = r3 at *
  generalize nb.all (bufB s) = r4 at *
  go_enter Tryz.func63, Tryz.ntmps63
  go_wp2_with fail
  rw [← HW1.out]
  refine (HE1.out _ HG.out).mono ?_
  rintro e w2 ⟨rfl, hg⟩
  have Hg2 := Lib.hid hg
  clear hg n0 n1 n2 n3 n4
  have n0 := (blkG HM.out Hg2.out).c0 0 _ rfl
  have n1 := (blkG HM.out Hg2.out).c0 1 _ rfl
  have n2 := (blkG HM.out Hg2.out).c0 2 _ rfl
  have n3 := (blkG HM.out Hg2.out).c0 3 _ rfl
  have n4 := (blkG HM.out Hg2.out).c0 4 _ rfl
  have c0 := (blkG HC.out Hg2.out).c0 0 _ rfl
  have c1 := (blkG HC.out Hg2.out).c0 1 _ rfl
  cases r1
  · go_wp2
    go_ret
    exact ⟨ret_bool (by rw [HR.out]; rfl), HG.out.trans Hg2.out⟩
  go_wp2_with fail
  refine (HE2.out _ (HG.out.trans Hg2.out)).mono ?_
  rintro e w3 ⟨rfl, hg⟩
  have Hg3 := Lib.hid (Hg2.out.trans hg)
  clear hg n0 n1 n2 n3 n4 c0 c1
  have n0 := (blkG HM.out Hg3.out).c0 0 _ rfl
  have n1 := (blkG HM.out Hg3.out).c0 1 _ rfl
  have n2 := (blkG HM.out Hg3.out).c0 2 _ rfl
  have n3 := (blkG HM.out Hg3.out).c0 3 _ rfl
  have n4 := (blkG HM.out Hg3.out).c0 4 _ rfl
  cases r2
  · go_wp2
    go_ret
    exact ⟨ret_bool (by rw [HR.out]; rfl), HG.out.trans Hg3.out⟩
  go_wp2_with fail
  refine (HE3.out _ (HG.out.trans Hg3.out)).mono ?_
  rintro e w4 ⟨rfl, hg⟩
  have Hg4 := Lib.hid (Hg3.out.trans hg)
  clear hg n0 n1 n2 n3 n4
  have n0 := (blkG HM.out Hg4.out).c0 0 _ rfl
  have n1 := (blkG HM.out Hg4.out).c0 1 _ rfl
  have n2 := (blkG HM.out Hg4.out).c0 2 _ rfl
  have n3 := (blkG HM.out Hg4.out).c0 3 _ rfl
  have n4 := (blkG HM.out Hg4.out).c0 4 _ rfl
  cases r3
  · go_wp2
    go_ret
    exact ⟨ret_bool (by rw [HR.out]; rfl), HG.out.trans Hg4.out⟩
  go_wp2_with fail
  refine (HE4.out _ _ _ HG.out HC.out _ Hg4.out).mono ?_
  rintro e w5 ⟨rfl, hg⟩
  have Hg5 := Lib.hid (Hg4.out.trans hg)
  clear hg n0 n1 n2 n3 n4
  go_wp2
  go_ret
  exact ⟨ret_bool (by rw [HR.out]; rfl), HG.out.trans Hg5.out⟩

set_option maxRecDepth 100000 in
set_option maxHeartbeats 2000000 in
theorem nvalid_w (v : Value) (n : Nd) (s : Sp) (w : World) (h : IsNode w v n) (hl : n.pairs.length ≤ 100000000000) : Calls Tryz.prog 17 #[v, .agg #[.string (Str s.1), .string (Str s.2)]] w fun e w' => e = .returned (.bool (validN n s)) ∧ Grown w w' := by
  have mixed := mixedA
  have HL := Lib.hid (fun wx (hx : Grown w wx) => isLeaf_w v n wx (h.below (hx.below (Nat.le_refl _))))
  have HA := Lib.hid (fun wx (hx : Grown w wx) => validLeaf_w v n s wx (h.below (hx.below (Nat.le_refl _))) hl)
  have HB := Lib.hid (fun wx (hx : Grown w wx) => validInner_w v n s wx (h.below (hx.below (Nat.le_refl _))))
  obtain ⟨a, b, c, d, e, rfl, -⟩ := h
  obtain ⟨W1, hW1⟩ : ∃ W1, W1 = (w.alloc (.cells #[a, b, c, d, e] 34)).alloc (.cells #[.string (Str s.1), .string (Str s.2)] 41) := ⟨_, rfl⟩
  have HM : Hid (Blk W1 w.heap.size 34 #[a, b, c, d, e]) := Lib.hid (by rw [hW1]; exact (Blk.new _ _ _).alloc _)
  have HC : Hid (Blk W1 (w.heap.size + 1) 41 #[.string (Str s.1), .string (Str s.2)]) := Lib.hid (by rw [hW1]; exact Blk.new' _ _ _ (by simp))
  have HG : Hid (Grown w W1) := Lib.hid (by rw [hW1]; exact ((Grown.refl w).alloc _).alloc _)
  have n0 := HM.out.c0 0 _ rfl
  have n1 := HM.out.c0 1 _ rfl
  have n2 := HM.out.c0 2 _ rfl
  have n3 := HM.out.c0 3 _ rfl
  have n4 := HM.out.c0 4 _ rfl
  have HW1 := Lib.hid hW1
  clear hW1
  by_cases hk : n.kids = []
  · have HF : Hid (validN n s = leafB n s) := Lib.hid (by unfold validN; rw [if_pos hk])
    rw [decide_eq_true hk] at HL
    clear hk HB
    go_enter Tryz.func17, Tryz.ntmps17
    go_wp2_with fail
    rw [← HW1.out]
    refine (HL.out _ HG.out).mono ?_
    rintro e' w2 ⟨rfl, hg⟩
    have Hg2 := Lib.hid hg
    clear hg n0 n1 n2 n3 n4
    have n0 := (blkG HM.out Hg2.out).c0 0 _ rfl
    have n1 := (blkG HM.out Hg2.out).c0 1 _ rfl
    have n2 := (blkG HM.out Hg2.out).c0 2 _ rfl
    have n3 := (blkG HM.out Hg2.out).c0 3 _ rfl
    have n4 := (blkG HM.out Hg2.out).c0 4 _ rfl
    have c0 := (blkG HC.out Hg2.out).c0 0 _ rfl
    have c1 := (blkG HC.out Hg2.out).c0 1 _ rfl
    go_wp2_with fail
    refine (HA.out _ (HG.out.trans Hg2.out)).mono ?_
    rintro e' w3 ⟨rfl, hg⟩
    have Hg3 := Lib.hid (Hg2.out.trans hg)
    clear hg n0 n1 n2 n3 n4
    go_wp2
    go_ret
    exact ⟨ret_bool (by rw [HF.out]), HG.out.trans Hg3.out⟩
  · have HF : Hid (validN n s = innerB n s) := Lib.hid (by unfold validN; rw [if_neg hk])
    rw [decide_eq_false hk] at HL
    have HK := Lib.hid hk
    clear hk HA
    go_enter Tryz.func17, Tryz.ntmps17
    go_wp2_with fail
    rw [← HW1.out]
    refine (HL.out _ HG.out).mono ?_
    rintro e' w2 ⟨rfl, hg⟩
    have Hg2 := Lib.hid hg
    clear hg n0 n1 n2 n3 n4
    have n0 := (blkG HM.out Hg2.out).c0 0 _ rfl
    have n1 := (blkG HM.out Hg2.out).c0 1 _ rfl
    have n2 := (blkG HM.out Hg2.out).c0 2 _ rfl
    have n3 := (blkG HM.out Hg2.out).c0 3 _ rfl
    have n4 := (blkG HM.out Hg2.out).c0 4 _ rfl
    have c0 := (blkG HC.out Hg2.out).c0 0 _ rfl
    have c1 := (blkG HC.out Hg2.out).c0 1 _ rfl
    go_wp2_with fail
    refine (HB.out _ (HG.out.trans Hg2.out) HK.out).mono ?_
    rintro e' w3 ⟨rfl, hg⟩
    have Hg3 := Lib.hid (Hg2.out.trans hg)
    clear hg n0 n1 n2 n3 n4
    go_wp2
    go_ret
    exact ⟨ret_bool (by rw [HF.out]), HG.out.trans Hg3.out⟩

end Go.Proofs.YtmbfghbhajmpiaaGreat
