/-
  Walks: the reference of package fold compares lists of messages and of spans. Walks: the pairs of a table outside of spans, and in them. Walks: the reference of package table chooses tables, and compares them. What the arguments of laws are, said of the world: raw pairs, and spans.
-/
import Derived.Test.YtfpcaoacbjhkgaaNQJ
import Derived.Test.YtfpcaoacbjhkgaaNO
import Derived.Test.YtfpcaoacbjhkgaaMRR
import Derived.Test.YtfpcaoacbjhkgaaTX
import Derived.Test.YtfpcaoacbjhkgaaNDX
import Derived.Test.YtfpcaoacbjhkgaaRows
import Derived.ProofKit
import Derived.OpenShut
import Derived.ShutString
import Derived.ChangeOld
import Derived.Below
import Derived.Lib.SmallJoins
import Derived.Deep.Slices
namespace Go.Proofs.Ytfpcaoacbjhkgaa
open Go.RowKit Go.Sort
set_option linter.unusedVariables false

set_option maxRecDepth 100000 in
set_option maxHeartbeats 2000000 in
theorem fsame_w (v0 v1 : Value) (a b : List Ms) (w : World) (h0 : IsMsgs w v0 a) (h1 : IsMsgs w v1 b) :
    Calls Try.prog 11 #[v0, v1] w fun e w' => e = .returned (.bool (decide (a = b))) ∧ ∃ n, w' = w.drewN n := by
  have mixed := mixedA
  obtain ⟨g0, o0, cap0, p0, rfl, hl0, hm0, hp0, hc0⟩ := h0.form
  obtain ⟨g1, o1, cap1, p1, rfl, hl1, hm1, hp1, hc1⟩ := h1.form
  unfold maxLen at hm0 hm1
  have HC0 := Lib.hid hc0
  have HC1 := Lib.hid hc1
  clear h0 h1 hp0 hp1 hc0 hc1
  by_cases hlen : a.length = b.length
  · have hlb : ((a.length : Int) != (b.length : Int)) = false := by rw [hlen]; simp
    have Hlen := Lib.hid hlen
    clear hlen
    go_enter Try.func11, Try.ntmps11
    go_wp2
    go_loopw [5] (fun i wr => ∃ k n : Nat, k ≤ a.length ∧ i = .int .i64 k ∧ Hid (a.take k = b.take k) ∧ wr = w.drewN n) (fun i _ => a.length - (intOf i).toNat)
    case atStart => exact ⟨0, 0, Nat.zero_le _, rfl, Lib.hid rfl, rfl⟩
    case round =>
      obtain ⟨k, n, hk, rfl, htake, rfl⟩ := hrel
      by_cases hlt : k < a.length
      · have hltb : k < b.length := by have := Hlen.out; omega
        have hlz : (k : Int) < (b.length : Int) := by omega
        have hlza : (k : Int) < (a.length : Int) := by omega
        obtain ⟨rfl, c0, c1, c2, c3, c4, c5, c6, c7⟩ := HC0.out k hlt
        obtain ⟨rfl, d0, d1, d2, d3, d4, d5, d6, d7⟩ := HC1.out k hltb
        have Ha := Lib.hid (show a.take (k + 1) = a.take k ++ [a[k]] from by rw [List.take_add_one, List.getElem?_eq_getElem hlt]; rfl)
        have Hb := Lib.hid (show b.take (k + 1) = b.take k ++ [b[k]] from by rw [List.take_add_one, List.getElem?_eq_getElem hltb]; rfl)
        have Hne : Hid (a[k] ≠ b[k] → a ≠ b) := Lib.hid (fun h e => h (by subst e; rfl))
        generalize a[k] = x at *
        generalize b[k] = y at *
        have HQ := Lib.hid (fun wx => neq_msg x y wx)
        have HG := Lib.hid (fun o p wx => guard_msg .neq o p (encM x) (encM y) wx)
        have Hxy : Hid (decide (x = y) = true ↔ x = y) := Lib.hid (by simp)
        obtain ⟨x0, x1, x2, x3, x4, x5, x6, x7⟩ := x
        obtain ⟨y0, y1, y2, y3, y4, y5, y6, y7⟩ := y
        have c0 := fun n => (show (w.drewN n).cell? ⟨g0, o0 + k * 8, none⟩ = some (.int .i64 x0) from c0)
        have c1 := fun n => (show (w.drewN n).cell? ⟨g0, o0 + k * 8 + 1, none⟩ = some (.string (Str x1)) from c1)
        have c2 := fun n => (show (w.drewN n).cell? ⟨g0, o0 + k * 8 + 2, none⟩ = some (.string (Str x2)) from c2)
        have c3 := fun n => (show (w.drewN n).cell? ⟨g0, o0 + k * 8 + 3, none⟩ = some (.string (Str x3)) from c3)
        have c4 := fun n => (show (w.drewN n).cell? ⟨g0, o0 + k * 8 + 4, none⟩ = some (.string (Str x4)) from c4)
        have c5 := fun n => (show (w.drewN n).cell? ⟨g0, o0 + k * 8 + 5, none⟩ = some (.string (Str x5)) from c5)
        have c6 := fun n => (show (w.drewN n).cell? ⟨g0, o0 + k * 8 + 6, none⟩ = some (.string (Str x6)) from c6)
        have c7 := fun n => (show (w.drewN n).cell? ⟨g0, o0 + k * 8 + 7, none⟩ = some (.int .i64 x7) from c7)
        have d0 := fun n => (show (w.drewN n).cell? ⟨g1, o1 + k * 8, none⟩ = some (.int .i64 y0) from d0)
        have d1 := fun n => (show (w.drewN n).cell? ⟨g1, o1 + k * 8 + 1, none⟩ = some (.string (Str y1)) from d1)
        have d2 := fun n => (show (w.drewN n).cell? ⟨g1, o1 + k * 8 + 2, none⟩ = some (.string (Str y2)) from d2)
        have d3 := fun n => (show (w.drewN n).cell? ⟨g1, o1 + k * 8 + 3, none⟩ = some (.string (Str y3)) from d3)
        have d4 := fun n => (show (w.drewN n).cell? ⟨g1, o1 + k * 8 + 4, none⟩ = some (.string (Str y4)) from d4)
        have d5 := fun n => (show (w.drewN n).cell? ⟨g1, o1 + k * 8 + 5, none⟩ = some (.string (Str y5)) from d5)
        have d6 := fun n => (show (w.drewN n).cell? ⟨g1, o1 + k * 8 + 6, none⟩ = some (.string (Str y6)) from d6)
        have d7 := fun n => (show (w.drewN n).cell? ⟨g1, o1 + k * 8 + 7, none⟩ = some (.int .i64 y7) from d7)
        have heq := HQ.out
        have hgu := HG.out
        clear HQ HG
        dsimp only [msgV, encM] at heq hgu
        generalize decide ((⟨x0, x1, x2, x3, x4, x5, x6, x7⟩ : Ms) = ⟨y0, y1, y2, y3, y4, y5, y6, y7⟩) = q at *
        cases q with
        | true =>
          have He := Lib.hid (Hxy.out.1 rfl)
          clear Hxy Hne
          go_wp2_with fail
          go_quiet (fail)
          go_wp2
          go_roundw
          case rel => exact ⟨k + 1, n + nq, by omega, by go_num, Lib.hid (by rw [Ha.out, Hb.out, htake.out, He.out]), rfl⟩
          case measure => simp [intOf]; omega
        | false =>
          have He := Lib.hid (Hne.out (fun e => by have := Hxy.out.2 e; cases this))
          clear Hxy Hne
          go_wp2_with fail
          go_quiet (fail)
          go_wp2
          go_ret
          exact ⟨ret_bool (by have := He.out; simp [this]), n + nq, World.drewN_drewN _ _ _⟩
      · obtain rfl : k = a.length := by omega
        have He : Hid (a = b) := Lib.hid (by
          have := htake.out
          rw [List.take_length, Hlen.out, List.take_length] at this
          exact this)
        clear htake
        go_wp2
        go_ret
        exact ⟨ret_bool (by simp [He.out]), n, rfl⟩
  · have hlb : ((a.length : Int) != (b.length : Int)) = true := by simp; omega
    have He : Hid (a ≠ b) := Lib.hid (fun e => hlen (by rw [e]))
    clear hlen
    go_enter Try.func11, Try.ntmps11
    go_wp2
    go_ret
    exact ⟨ret_bool (by have := He.out; simp [this]), 0, rfl⟩

end Go.Proofs.Ytfpcaoacbjhkgaa
namespace Go.Proofs.Ytfpcaoacbjhkgaa
open Go.RowKit Go.Sort
set_option linter.unusedVariables false

theorem inB_take' (l : List Sp) (k : Bs) (j : Nat) (h : j < l.length) : inB (l.take (j + 1)) k = (inB (l.take j) k || hasB l[j] k) := by
  unfold inB
  rw [List.take_add_one, List.getElem?_eq_getElem h, List.any_append]; simp

end Go.Proofs.Ytfpcaoacbjhkgaa
namespace Go.Proofs.Ytfpcaoacbjhkgaa
namespace T4
open Go.RowKit Go.Sort
set_option linter.unusedVariables false
/-- Two pairs are equal. -/
def prQ (k x : Bs) (t : Int) (k' x' : Bs) (t' : Int) : Bool := decide (k = k' ∧ x = x' ∧ t = t')
theorem prQ_iff (k x : Bs) (t : Int) (k' x' : Bs) (t' : Int) : prQ k x t k' x' t' = true ↔ (k, x, t) = (k', x', t') := by unfold prQ; simp
set_option maxHeartbeats 400000 in
theorem neq_pair (k x : Bs) (t : Int) (k' x' : Bs) (t' : Int) (w : World) :
    (binOp .neq 38 (.agg #[.string (Str k), .string (Str x), .int .i64 t]) (.agg #[.string (Str k'), .string (Str x'), .int .i64 t'])).run Try.prog w = .ok (.bool (!prQ k x t k' x' t')) w := by
  by_cases h1 : k = k'
  · by_cases h2 : x = x'
    · by_cases h3 : t = t'
      · have e : prQ k x t k' x' t' = true := by simp [prQ, h1, h2, h3]
        rw [e]; go_simp
      · have e : prQ k x t k' x' t' = false := by simp [prQ, h3]
        rw [e]; go_simp
    · have e : prQ k x t k' x' t' = false := by simp [prQ, h2]
      rw [e]; go_simp
  · have e : prQ k x t k' x' t' = false := by simp [prQ, h1]
    rw [e]; go_simp
set_option maxHeartbeats 400000 in
theorem eql_pair (k x : Bs) (t : Int) (k' x' : Bs) (t' : Int) (w : World) :
    (binOp .eql 38 (.agg #[.string (Str k), .string (Str x), .int .i64 t]) (.agg #[.string (Str k'), .string (Str x'), .int .i64 t'])).run Try.prog w = .ok (.bool (prQ k x t k' x' t')) w := by
  by_cases h1 : k = k'
  · by_cases h2 : x = x'
    · by_cases h3 : t = t'
      · have e : prQ k x t k' x' t' = true := by simp [prQ, h1, h2, h3]
        rw [e]; go_simp
      · have e : prQ k x t k' x' t' = false := by simp [prQ, h3]
        rw [e]; go_simp
    · have e : prQ k x t k' x' t' = false := by simp [prQ, h2]
      rw [e]; go_simp
  · have e : prQ k x t k' x' t' = false := by simp [prQ, h1]
    rw [e]; go_simp
theorem cells_in {w w' : World} {B b o : Nat} {x : Pr} (hb : Below B w w') (hl : b < B) (h : w.cell? ⟨b, o, none⟩ = some (.string (Str x.1)) ∧ w.cell? ⟨b, o + 1, none⟩ = some (.string (Str x.2.1)) ∧ w.cell? ⟨b, o + 2, none⟩ = some (.int .i64 x.2.2)) :
    w'.cell? ⟨b, o, none⟩ = some (.string (Str x.1)) ∧ w'.cell? ⟨b, o + 1, none⟩ = some (.string (Str x.2.1)) ∧ w'.cell? ⟨b, o + 2, none⟩ = some (.int .i64 x.2.2) :=
  ⟨(hb.cell (p := ⟨b, o, none⟩) hl).trans h.1, (hb.cell (p := ⟨b, o + 1, none⟩) hl).trans h.2.1, (hb.cell (p := ⟨b, o + 2, none⟩) hl).trans h.2.2⟩
theorem putR_step (p : Pr) (d : Bool) (l : List Pr) (j : Nat) (h : j < l.length) : putR p d (l.drop j) = (if !d && !Op.bytesLess l[j].1 p.1 then [p] else []) ++ (if l[j].1 == p.1 then [] else [l[j]]) ++ putR p (d || !Op.bytesLess l[j].1 p.1) (l.drop (j + 1)) := by
  rw [List.drop_eq_getElem_cons h, putR]
theorem drewN_cell (w : World) (n : Nat) (a : Addr) : (w.drewN n).cell? a = w.cell? a := rfl
def pathL : List Bs := [[97, 47], [98, 47], [97, 47, 98, 47], [99, 47]]
def endL : List Bs := [[1], [2, 0, 0], [2, 0, 1], [2, 0, 2], [3, 120]]
def otherL : List Bs := [[1], [5, 48, 48, 48, 48, 48, 48, 48, 49, 47, 1], [6, 97, 47, 1], [97, 47, 98, 47, 99, 47, 1]]
def keyS (n : Nat) : Bs := if n % 24 < 20 then pathL.getD (n % 24 / 5) [] ++ endL.getD (n % 24 % 5) [] else otherL.getD (n % 24 - 20) []
theorem keyS_len (n : Nat) : (keyS n).length ≤ 20 := by
  have h : ∀ m < 24, (keyS m).length ≤ 20 := by decide +kernel
  have e : keyS n = keyS (n % 24) := by unfold keyS; rw [Nat.mod_mod]
  rw [e]; exact h _ (Nat.mod_lt _ (by omega))
def valL : List Bs := [[], [118], [119, 120], [120, 121, 122]]
def pairS (a b c : Nat) : Pr := (keyS a, valL.getD (b % 4) [], (c % 4 : Nat))
def preL : List Bs := [[], [97, 47], [98, 47], [97, 47, 98, 47], [97, 47, 2], [99, 47]]
def prefS (n : Nat) : Bs := preL.getD (n % 6) []
theorem strs_cell {W : World} {n : Nat} (L : List Bs) (T : TypeId) (i : Nat) (hi : i < L.length) (hn : n = W.heap.size) : (W.alloc (.cells (L.map fun s => Value.string (Str s)).toArray T)).cell? ⟨n, i, none⟩ = some (.string (Str (L.getD i []))) := by
  subst hn
  rw [World.cell?_alloc_new]
  simp [hi, List.getD_eq_getElem?_getD]
theorem getD_len {L : List Bs} {b : Nat} (h : ∀ x ∈ L, x.length ≤ b) (i : Nat) : (L.getD i []).length ≤ b := by
  rw [List.getD_eq_getElem?_getD]
  cases e : L[i]? with
  | none => simp
  | some x => exact h x (List.mem_of_getElem? e)
/-- Three bytes that describe a pair. -/
abbrev Rw := Nat × Nat × Nat
def SmallR (x : Rw) : Prop := x.1 < 256 ∧ x.2.1 < 256 ∧ x.2.2 < 256
def IsRaws (w : World) (v : Value) (l : List Rw) : Prop :=
  ∃ a cap, v = .slice a l.length cap ∧ l.length ≤ cap ∧ cap ≤ maxLen ∧ (∀ x ∈ l, SmallR x) ∧ (l ≠ [] → ∃ b off, a = some ⟨b, off, none⟩ ∧ b < w.heap.size ∧
    ∀ i (h : i < l.length), w.cell? ⟨b, off + i * 3, none⟩ = some (.int .u8 l[i].1) ∧ w.cell? ⟨b, off + i * 3 + 1, none⟩ = some (.int .u8 l[i].2.1) ∧ w.cell? ⟨b, off + i * 3 + 2, none⟩ = some (.int .u8 l[i].2.2))
theorem IsRaws.below {w w' : World} {v : Value} {l : List Rw} (h : IsRaws w v l) (hb : Below w.heap.size w w') : IsRaws w' v l := by
  obtain ⟨a, cap, h1, h2, h3, h5, h4⟩ := h
  refine ⟨a, cap, h1, h2, h3, h5, fun hl => ?_⟩
  obtain ⟨b, off, e, hlt, hc⟩ := h4 hl
  exact ⟨b, off, e, Nat.lt_of_lt_of_le hlt hb.size, fun i hi => ⟨by rw [hb.cell (by exact hlt)]; exact (hc i hi).1, by rw [hb.cell (by exact hlt)]; exact (hc i hi).2.1, by rw [hb.cell (by exact hlt)]; exact (hc i hi).2.2⟩⟩
theorem IsRaws.form {w : World} {v : Value} {l : List Rw} (h : IsRaws w v l) : ∃ b off cap a, v = .slice a l.length cap ∧ l.length ≤ cap ∧ cap ≤ maxLen ∧ (l ≠ [] → a = some ⟨b, off, none⟩ ∧ b < w.heap.size) ∧
    ∀ i (h : i < l.length), a = some ⟨b, off, none⟩ ∧ w.cell? ⟨b, off + i * 3, none⟩ = some (.int .u8 l[i].1) ∧ w.cell? ⟨b, off + i * 3 + 1, none⟩ = some (.int .u8 l[i].2.1) ∧ w.cell? ⟨b, off + i * 3 + 2, none⟩ = some (.int .u8 l[i].2.2) := by
  obtain ⟨a, cap, h1, h2, h3, h5, h4⟩ := h
  by_cases hl : l = []
  · subst hl; exact ⟨0, 0, cap, a, h1, h2, h3, fun h => absurd rfl h, fun i hi => absurd hi (by simp)⟩
  · obtain ⟨b, off, e, hlt, hc⟩ := h4 hl
    exact ⟨b, off, cap, a, h1, h2, h3, fun _ => ⟨e, hlt⟩, fun i hi => ⟨e, hc i hi⟩⟩
theorem IsRaws.small {w : World} {v : Value} {l : List Rw} (h : IsRaws w v l) : ∀ x ∈ l, SmallR x := by
  obtain ⟨a, cap, h1, h2, h3, h5, h4⟩ := h; exact h5
def prS (x : Rw) : Pr := pairS x.1 x.2.1 x.2.2
def foldR (l : List Rw) : List Pr := l.foldl (fun t x => putS (prS x) t) []
/-- The table that is described. -/
def madeS (l : List Rw) : List Pr := foldR (l.take 40)
theorem foldR_snoc (l : List Rw) (x : Rw) : foldR (l ++ [x]) = putS (prS x) (foldR l) := by simp [foldR]
theorem foldR_take (l : List Rw) (k : Nat) (h : k < l.length) : foldR (l.take (k + 1)) = putS (prS l[k]) (foldR (l.take k)) := by
  rw [List.take_add_one, List.getElem?_eq_getElem h]; exact foldR_snoc _ _
theorem srt_foldR : ∀ l, Srt (foldR l) := by
  intro l
  suffices ∀ t, Srt t → Srt (l.foldl (fun t x => putS (prS x) t) t) from this [] srt_nil
  induction l with
  | nil => intro t h; exact h
  | cons x l ih => intro t h; exact ih _ (srt_put _ h)
theorem foldR_len : ∀ l, (foldR l).length ≤ l.length := by
  intro l
  suffices ∀ t : List Pr, (l.foldl (fun t x => putS (prS x) t) t).length ≤ t.length + l.length from by have := this []; simp only [List.length_nil, Nat.zero_add] at this; exact this
  induction l with
  | nil => intro t; simp
  | cons x l ih => intro t; have := ih (putS (prS x) t); have := put_length (prS x) t; simp; omega
theorem foldR_mem {l : List Rw} {y : Pr} (h : y ∈ foldR l) : ∃ x ∈ l, y = prS x := by
  suffices ∀ t : List Pr, y ∈ l.foldl (fun t x => putS (prS x) t) t → y ∈ t ∨ ∃ x ∈ l, y = prS x from by
    rcases this [] h with h | h
    · cases h
    · exact h
  induction l with
  | nil => intro t h; exact .inl h
  | cons x l ih =>
    intro t h2
    have ih' : ∀ t : List Pr, y ∈ l.foldl (fun t x => putS (prS x) t) t → y ∈ t ∨ ∃ x ∈ l, y = prS x := by
      intro t
      clear ih h h2
      induction l generalizing t with
      | nil => intro h; exact .inl h
      | cons z l ih2 =>
        intro h
        rcases ih2 (putS (prS z) t) h with h | ⟨q, h3, h4⟩
        · rcases (mem_put _ _ _).1 h with rfl | ⟨h5, -⟩
          · exact .inr ⟨z, by simp, rfl⟩
          · exact .inl h5
        · exact .inr ⟨q, by simp [h3], h4⟩
    rcases ih' _ h2 with h3 | ⟨q, h3, h4⟩
    · rcases (mem_put _ _ _).1 h3 with rfl | ⟨h5, -⟩
      · exact .inr ⟨x, by simp, rfl⟩
      · exact .inl h5
    · exact .inr ⟨q, by simp [h3], h4⟩
theorem prS_small (x : Rw) : (prS x).1.length ≤ 20 ∧ (prS x).2.1.length ≤ 10 := ⟨keyS_len _, getD_len (L := valL) (b := 10) (by decide) _⟩
theorem srt_made (l : List Rw) : Srt (madeS l) := srt_foldR _
theorem made_len (l : List Rw) : (madeS l).length ≤ 40 := Nat.le_trans (foldR_len _) (by rw [List.length_take]; omega)
theorem made_small {l : List Rw} : ∀ x ∈ madeS l, x.1.length ≤ 20 ∧ x.2.1.length ≤ 10 := by
  intro x hx
  obtain ⟨y, -, rfl⟩ := foldR_mem hx
  exact prS_small y
end T4
end Go.Proofs.Ytfpcaoacbjhkgaa
namespace Go.Proofs.Ytfpcaoacbjhkgaa
namespace T4
open Go.ChangeShapes Go.WideShapes Go.ChangeAt Go.RowKit Go.Deep
open Go.ChangeMaps (open_string shut_string)
set_option linter.unusedVariables false
set_option maxRecDepth 100000
def IsU8x3 (_w : World) (v : Value) (x : Rw) : Prop := v = .agg #[.int .u8 x.1, .int .u8 x.2.1, .int .u8 x.2.2] ∧ SmallR x
variable {H : Type} {enc : TypeId × Value → H} {W : World} {base : Nat} {r : Reach} {v : Value} {d : DataW H} {p : List MemPlace}
theorem one_str {fuel : Nat} {c : Value} {y : DataW H × List MemPlace} (h : DataW.trod enc Try.prog W 0 (fun _ => true) true fuel 9 [c] = some y) : ∃ l : Bs, c = .string (Str l) ∧ l.length ≤ maxLen := by
  obtain ⟨s, e, _, hs⟩ := DataW.trod_string Try.underlying9 h
  simp only [List.cons.injEq, and_true] at e
  subst e
  exact ⟨s.toList, by rw [Lib.toList_data]; rfl, by rw [Lib.toList_data, ← Lib.size_eq]; exact hs⟩
theorem one_int {fuel : Nat} {c : Value} {y : DataW H × List MemPlace} (h : DataW.trod enc Try.prog W 0 (fun _ => true) true fuel 3 [c] = some y) : ∃ n : Int, c = .int .i64 n := by
  obtain ⟨n, e, _, _⟩ := DataW.trod_int Try.underlying3 h
  simp only [List.cons.injEq, and_true] at e
  exact ⟨n, e⟩
theorem cellsU8 : Try.prog.cellsOf 5 = 1 := by kernel_rfl
theorem cellsInt : Try.prog.cellsOf 3 = 1 := by kernel_rfl
theorem cellsStr : Try.prog.cellsOf 9 = 1 := by kernel_rfl
theorem okWide_arr {n : Nat} {e t : TypeId} (ht : Try.prog.underlying t = some (.array n e)) (h : Value.okWide Try.prog W r base t v) : ∃ cs, v = .agg cs ∧ cs.size = Try.prog.cellsOf t := by
  simp only [Value.okWide, ht] at h
  obtain ⟨cs, h1, h2, _⟩ := h
  exact ⟨cs, h1, h2⟩
theorem one_u8 {fuel : Nat} {c : Value} {y : DataW H × List MemPlace} (h : DataW.trod enc Try.prog W 0 (fun _ => true) true fuel 5 [c] = some y) : ∃ n : Nat, c = .int .u8 n ∧ n < 256 := by
  obtain ⟨n, e, _, hn⟩ := DataW.trod_int Try.underlying5 h
  simp only [List.cons.injEq, and_true] at e
  have hb := bounds_u8 hn
  exact ⟨n.toNat, by rw [e, Int.toNat_of_nonneg hb.1], by omega⟩
theorem rows_raw {a : Addr} : ∀ n : Nat, (∀ i, i < n → ∃ x : Rw, (W.cell? (a.add (i * 3)) = some (.int .u8 x.1) ∧ W.cell? (a.add (i * 3 + 1)) = some (.int .u8 x.2.1) ∧ W.cell? (a.add (i * 3 + 2)) = some (.int .u8 x.2.2)) ∧ SmallR x) →
    ∃ l : List Rw, l.length = n ∧ (∀ x ∈ l, SmallR x) ∧ ∀ i (h : i < l.length), W.cell? (a.add (i * 3)) = some (.int .u8 l[i].1) ∧ W.cell? (a.add (i * 3 + 1)) = some (.int .u8 l[i].2.1) ∧ W.cell? (a.add (i * 3 + 2)) = some (.int .u8 l[i].2.2)
  | 0, _ => ⟨[], rfl, fun x hx => by simp at hx, fun i h => absurd h (by simp)⟩
  | n + 1, h => by
    obtain ⟨l, hl, hs, hc⟩ := rows_raw n (fun i hi => h i (by omega))
    obtain ⟨x, h1, h2⟩ := h n (by omega)
    refine ⟨l ++ [x], by simp [hl], fun z hz => ?_, fun i hi => ?_⟩
    · rcases List.mem_append.1 hz with hz | hz
      · exact hs z hz
      · simp at hz; subst hz; exact h2
    · by_cases hin : i < l.length
      · rw [List.getElem_append_left hin]; exact hc i hin
      · have : i = n := by simp at hi; omega
        subst this
        rw [List.getElem_append_right (by omega)]
        simp [hl]
        exact h1
section
variable {H : Type} {enc : TypeId × Value → H} {W : World} {base : Nat} {r : Reach} {v : Value} {d : DataW H} {p : List MemPlace}
theorem elem_span {fuel : Nat} {cs : List Value} {y : DataW H × List MemPlace} (h : DataW.trod enc Try.prog W 0 (fun _ => true) true fuel 32 cs = some y) (hl : cs.length = 2) : ∃ a b : Bs, cs = [.string (Str a), .string (Str b)] := by
  obtain ⟨xs, n, _, _, _, hxs, hf⟩ := DataW.trod_struct Try.underlying32 h
  match cs, hl with
  | [c0, c1], _ =>
    match xs, hxs with
    | [y0, y1], _ =>
      have e : Try.prog.cellsOf 9 = 1 := by kernel_rfl
      have g0 := hf 0 _ rfl
      have g1 := hf 1 _ rfl
      try simp only [e] at g0 g1
      simp [e] at g0 g1
      obtain ⟨a, rfl, _⟩ := one_str g0
      obtain ⟨b, rfl, _⟩ := one_str g1
      exact ⟨a, b, rfl⟩
theorem rows_span {a : Addr} : ∀ n : Nat, (∀ i, i < n → ∃ x y : Bs, W.cell? (a.add (i * 2)) = some (.string (Str x)) ∧ W.cell? (a.add (i * 2 + 1)) = some (.string (Str y))) →
    ∃ l : List Sp, l.length = n ∧ ∀ i (h : i < l.length), W.cell? (a.add (i * 2)) = some (.string (Str l[i].1)) ∧ W.cell? (a.add (i * 2 + 1)) = some (.string (Str l[i].2))
  | 0, _ => ⟨[], rfl, fun i h => absurd h (by simp)⟩
  | n + 1, h => by
    obtain ⟨l, hl, hc⟩ := rows_span n (fun i hi => h i (by omega))
    obtain ⟨x, y, h1, h2⟩ := h n (by omega)
    refine ⟨l ++ [(x, y)], by simp [hl], fun i hi => ?_⟩
    by_cases hin : i < l.length
    · rw [List.getElem_append_left hin]; exact hc i hin
    · have : i = n := by simp at hi; omega
      subst this
      rw [List.getElem_append_right (by omega)]
      simp [hl]
      exact ⟨h1, h2⟩
theorem open_spans (hval : Value.okWide Try.prog W r base 62 v) (hd : DataW.Trod enc Try.prog W 0 (fun _ => true) true 62 v d p) : ∃ l, IsSpans W v l := by
  obtain ⟨a, len, cap, rfl⟩ := okWide_slice Try.underlying62 hval
  obtain ⟨fuel, hf⟩ := hd
  have hf' : DataW.trod enc Try.prog W 0 (fun _ => true) true fuel 62 [.slice a len cap] = some (d, p) := by simpa [Value.cells] using hf
  rcases open_slice Try.underlying62 hf' with ⟨hcs, _⟩ | ⟨x, len', cap', m, n, D, Pl, hcs, _, hl, hm, hmm, _, hi⟩
  · simp only [List.cons.injEq, and_true] at hcs
    rw [hcs]
    exact ⟨[], none, 0, rfl, Nat.le_refl _, by unfold maxLen; omega, fun h => absurd rfl h⟩
  · simp only [List.cons.injEq, and_true] at hcs
    rw [hcs]
    simp only [↓reduceIte] at hmm
    have e2 : Try.prog.cellsOf 32 = 2 := by kernel_rfl
    have hrow : ∀ i, i < len' → ∃ s t : Bs, W.cell? (x.add (i * 2)) = some (.string (Str s)) ∧ W.cell? (x.add (i * 2 + 1)) = some (.string (Str t)) := by
      intro i hil
      obtain ⟨cs', hc, ht⟩ := hi i (by omega)
      rw [e2] at hc
      obtain ⟨_, hlen, hcell⟩ := World.cells?_some hc
      obtain ⟨s, t, rfl⟩ := elem_span ht hlen
      have h0 := hcell 0 (by omega)
      have h1 := hcell 1 (by omega)
      rw [Go.Deep.add_add] at h0 h1
      exact ⟨s, t, h0, h1⟩
    obtain ⟨l, hll, hc⟩ := rows_span len' hrow
    refine ⟨l, some x, cap', by rw [hll], by omega, hm, fun hne => ?_⟩
    have h0 : 0 < l.length := List.length_pos_iff.2 hne
    obtain ⟨b, off, spot⟩ := x
    have hc0 := (hc 0 h0).1
    have hspot : spot = none := by simpa [Addr.add] using World.cell?_spot hc0
    subst hspot
    have hadd : ∀ i, (⟨b, off, none⟩ : Addr).add i = ⟨b, off + i, none⟩ := by intro i; unfold Addr.add; split <;> simp_all
    rw [hadd] at hc0
    refine ⟨b, off, rfl, cell_lt hc0, fun i hi => ?_⟩
    have hci := hc i hi
    rw [hadd, hadd] at hci
    exact hci
end

end T4
end Go.Proofs.Ytfpcaoacbjhkgaa
