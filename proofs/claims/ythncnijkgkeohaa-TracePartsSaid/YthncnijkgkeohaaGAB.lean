/-
  Walks: the reference of package fold compares lists of messages and of spans. Walks: the pairs of a table outside of spans, and in them. Walks: the reference of package table chooses tables, and compares them. What the arguments of laws are, said of the world: raw pairs, and spans.
-/
import Derived.Test.YthncnijkgkeohaaNQJ
import Derived.Test.YthncnijkgkeohaaNO
import Derived.Test.YthncnijkgkeohaaMRR
import Derived.Test.YthncnijkgkeohaaTX
import Derived.Test.YthncnijkgkeohaaNDX
import Derived.Test.YthncnijkgkeohaaRows
import Derived.ProofKit
import Derived.OpenShut
import Derived.ShutString
import Derived.ChangeOld
import Derived.Below
import Derived.Lib.SmallJoins
import Derived.Deep.Slices
namespace Go.Proofs.Ythncnijkgkeohaa
open Go.RowKit Go.Sort
set_option linter.unusedVariables false

end Go.Proofs.Ythncnijkgkeohaa
namespace Go.Proofs.Ythncnijkgkeohaa
open Go.RowKit Go.Sort
set_option linter.unusedVariables false

theorem inB_take' (l : List Sp) (k : Bs) (j : Nat) (h : j < l.length) : inB (l.take (j + 1)) k = (inB (l.take j) k || hasB l[j] k) := by
  unfold inB
  rw [List.take_add_one, List.getElem?_eq_getElem h, List.any_append]; simp

end Go.Proofs.Ythncnijkgkeohaa
namespace Go.Proofs.Ythncnijkgkeohaa
namespace T4
open Go.RowKit Go.Sort
set_option linter.unusedVariables false
/-- Two pairs are equal. -/
def prQ (k x : Bs) (t : Int) (k' x' : Bs) (t' : Int) : Bool := decide (k = k' ∧ x = x' ∧ t = t')
theorem prQ_iff (k x : Bs) (t : Int) (k' x' : Bs) (t' : Int) : prQ k x t k' x' t' = true ↔ (k, x, t) = (k', x', t') := by unfold prQ; simp
set_option maxHeartbeats 400000 in
theorem neq_pair (k x : Bs) (t : Int) (k' x' : Bs) (t' : Int) (w : World) :
    (binOp .neq 30 (.agg #[.string (Str k), .string (Str x), .int .i64 t]) (.agg #[.string (Str k'), .string (Str x'), .int .i64 t'])).run Try.prog w = .ok (.bool (!prQ k x t k' x' t')) w := by
  by_cases h1 : k = k'
  · by_cases h2 : x = x'
    · by_cases h3 : t = t'
      · have e : prQ k x t k' x' t' = true := by simp [prQ, h1, h2, h3]
        rw [e]; go_simp
      · have e : prQ k x t k' x' t' = false := by simp [prQ, h3]
        rw [e]; go_simp
    · have e : prQ k x t k' x' t' = false := by simp [prQ, h2]
      rw [e]; go_simp
  · have e : prQ k x t k' x' t' = false := by simp [prQ, h1]
    rw [e]; go_simp
set_option maxHeartbeats 400000 in
theorem eql_pair (k x : Bs) (t : Int) (k' x' : Bs) (t' : Int) (w : World) :
    (binOp .eql 30 (.agg #[.string (Str k), .string (Str x), .int .i64 t]) (.agg #[.string (Str k'), .string (Str x'), .int .i64 t'])).run Try.prog w = .ok (.bool (prQ k x t k' x' t')) w := by
  by_cases h1 : k = k'
  · by_cases h2 : x = x'
    · by_cases h3 : t = t'
      · have e : prQ k x t k' x' t' = true := by simp [prQ, h1, h2, h3]
        rw [e]; go_simp
      · have e : prQ k x t k' x' t' = false := by simp [prQ, h3]
        rw [e]; go_simp
    · have e : prQ k x t k' x' t' = false := by simp [prQ, h2]
      rw [e]; go_simp
  · have e : prQ k x t k' x' t' = false := by simp [prQ, h1]
    rw [e]; go_simp
theorem cells_in {w w' : World} {B b o : Nat} {x : Pr} (hb : Below B w w') (hl : b < B) (h : w.cell? ⟨b, o, none⟩ = some (.string (Str x.1)) ∧ w.cell? ⟨b, o + 1, none⟩ = some (.string (Str x.2.1)) ∧ w.cell? ⟨b, o + 2, none⟩ = some (.int .i64 x.2.2)) :
    w'.cell? ⟨b, o, none⟩ = some (.string (Str x.1)) ∧ w'.cell? ⟨b, o + 1, none⟩ = some (.string (Str x.2.1)) ∧ w'.cell? ⟨b, o + 2, none⟩ = some (.int .i64 x.2.2) :=
  ⟨(hb.cell (p := ⟨b, o, none⟩) hl).trans h.1, (hb.cell (p := ⟨b, o + 1, none⟩) hl).trans h.2.1, (hb.cell (p := ⟨b, o + 2, none⟩) hl).trans h.2.2⟩
theorem putR_step (p : Pr) (d : Bool) (l : List Pr) (j : Nat) (h : j < l.length) : putR p d (l.drop j) = (if !d && !Op.bytesLess l[j].1 p.1 then [p] else []) ++ (if l[j].1 == p.1 then [] else [l[j]]) ++ putR p (d || !Op.bytesLess l[j].1 p.1) (l.drop (j + 1)) := by
  rw [List.drop_eq_getElem_cons h, putR]
theorem drewN_cell (w : World) (n : Nat) (a : Addr) : (w.drewN n).cell? a = w.cell? a := rfl
def pathL : List Bs := [[97, 47], [98, 47], [97, 47, 98, 47], [99, 47]]
def endL : List Bs := [[1], [2, 0, 0], [2, 0, 1], [2, 0, 2], [3, 120]]
def otherL : List Bs := [[1], [5, 48, 48, 48, 48, 48, 48, 48, 49, 47, 1], [6, 97, 47, 1], [97, 47, 98, 47, 99, 47, 1]]
def keyS (n : Nat) : Bs := if n % 24 < 20 then pathL.getD (n % 24 / 5) [] ++ endL.getD (n % 24 % 5) [] else otherL.getD (n % 24 - 20) []
theorem keyS_len (n : Nat) : (keyS n).length ≤ 20 := by
  have h : ∀ m < 24, (keyS m).length ≤ 20 := by decide +kernel
  have e : keyS n = keyS (n % 24) := by unfold keyS; rw [Nat.mod_mod]
  rw [e]; exact h _ (Nat.mod_lt _ (by omega))
def valL : List Bs := [[], [118], [119, 120], [120, 121, 122]]
def pairS (a b c : Nat) : Pr := (keyS a, valL.getD (b % 4) [], (c % 4 : Nat))
def preL : List Bs := [[], [97, 47], [98, 47], [97, 47, 98, 47], [97, 47, 2], [99, 47]]
def prefS (n : Nat) : Bs := preL.getD (n % 6) []
theorem strs_cell {W : World} {n : Nat} (L : List Bs) (T : TypeId) (i : Nat) (hi : i < L.length) (hn : n = W.heap.size) : (W.alloc (.cells (L.map fun s => Value.string (Str s)).toArray T)).cell? ⟨n, i, none⟩ = some (.string (Str (L.getD i []))) := by
  subst hn
  rw [World.cell?_alloc_new]
  simp [hi, List.getD_eq_getElem?_getD]
theorem getD_len {L : List Bs} {b : Nat} (h : ∀ x ∈ L, x.length ≤ b) (i : Nat) : (L.getD i []).length ≤ b := by
  rw [List.getD_eq_getElem?_getD]
  cases e : L[i]? with
  | none => simp
  | some x => exact h x (List.mem_of_getElem? e)
set_option maxRecDepth 100000 in
set_option maxHeartbeats 2000000 in
theorem key_w (n : Nat) (w : World) (hn : n < 256) : Calls Try.prog 19 #[.int .u8 n] w fun e w' => e = .returned (.string (Str (keyS n))) ∧ Below w.heap.size w w' := by
  have mixed := mixedA
  have hz : (n : Int) % 24 = ((n % 24 : Nat) : Int) := by omega
  have hm : n % 24 < 24 := Nat.mod_lt _ (by omega)
  by_cases hlt : n % 24 < 20
  · have Hp : Hid (keyS n = pathL.getD (n % 24 / 5) [] ++ endL.getD (n % 24 % 5) []) := Lib.hid (by unfold keyS; rw [if_pos hlt])
    have h1 : ((w.alloc (.cells #[.string ⟨#[97, 47]⟩, .string ⟨#[98, 47]⟩, .string ⟨#[97, 47, 98, 47]⟩, .string ⟨#[99, 47]⟩] 9)).alloc (.cells #[.string ⟨#[1]⟩, .string ⟨#[2, 0, 0]⟩, .string ⟨#[2, 0, 1]⟩, .string ⟨#[2, 0, 2]⟩, .string ⟨#[3, 120]⟩] 9)).cell? ⟨w.heap.size, n % 24 / 5, none⟩ = _ := (World.cell?_alloc_lt _ _ _ (by simp)).trans (strs_cell pathL 9 (n % 24 / 5) (by show _ < 4; omega) rfl)
    have h2 : ((w.alloc (.cells #[.string ⟨#[97, 47]⟩, .string ⟨#[98, 47]⟩, .string ⟨#[97, 47, 98, 47]⟩, .string ⟨#[99, 47]⟩] 9)).alloc (.cells #[.string ⟨#[1]⟩, .string ⟨#[2, 0, 0]⟩, .string ⟨#[2, 0, 1]⟩, .string ⟨#[2, 0, 2]⟩, .string ⟨#[3, 120]⟩] 9)).cell? ⟨w.heap.size + 1, n % 24 % 5, none⟩ = _ := strs_cell endL 9 (n % 24 % 5) (Nat.mod_lt _ (by decide)) (by simp)
    have l1 := getD_len (L := pathL) (b := 10) (by decide) (n % 24 / 5)
    have l2 := getD_len (L := endL) (b := 10) (by decide) (n % 24 % 5)
    have hq : ((n % 24 : Nat) : Int) / 5 = ((n % 24 / 5 : Nat) : Int) := by omega
    have hr : ((n % 24 : Nat) : Int) % 5 = ((n % 24 % 5 : Nat) : Int) := by omega
    have hq4 : n % 24 / 5 < 4 := by omega
    have hr5 : n % 24 % 5 < 5 := Nat.mod_lt _ (by omega)
    generalize pathL.getD (n % 24 / 5) [] = pa at *
    generalize endL.getD (n % 24 % 5) [] = pe at *
    generalize n % 24 / 5 = q at *
    generalize n % 24 % 5 = r at *
    generalize n % 24 = m at *
    have h1' := fun k => (drewN_cell _ k _).trans h1
    have h2' := fun k => (drewN_cell _ k _).trans h2
    have hn' : (n : Int) < 256 := by omega
    have hm' : (m : Int) < 20 := by omega
    have hm0 : (0 : Int) ≤ (m : Int) := by omega
    have hqz : (q : Int) < 4 := by omega
    have hrz : (r : Int) < 5 := by omega
    have hq0 : (0 : Int) ≤ (q : Int) := by omega
    have hr0 : (0 : Int) ≤ (r : Int) := by omega
    have hsum : ¬ 9223372036854775807 < pa.length + pe.length := by omega
    clear hn h1 h2
    go_enter Try.func19, Try.ntmps19
    go_wp2_with fail
    go_quiet (fail)
    go_wp2
    go_ret
    exact ⟨by rw [Hp.out, ← Str_add]; rfl, ((below_box _).alloc (by simp) _).trans (below_drewN _ _)⟩
  · have Hp : Hid (keyS n = otherL.getD (n % 24 - 20) []) := Lib.hid (by unfold keyS; rw [if_neg hlt])
    have h1 : (((w.alloc (.cells #[.string ⟨#[97, 47]⟩, .string ⟨#[98, 47]⟩, .string ⟨#[97, 47, 98, 47]⟩, .string ⟨#[99, 47]⟩] 9)).alloc (.cells #[.string ⟨#[1]⟩, .string ⟨#[2, 0, 0]⟩, .string ⟨#[2, 0, 1]⟩, .string ⟨#[2, 0, 2]⟩, .string ⟨#[3, 120]⟩] 9)).alloc (.cells #[.string ⟨#[1]⟩, .string ⟨#[5, 48, 48, 48, 48, 48, 48, 48, 49, 47, 1]⟩, .string ⟨#[6, 97, 47, 1]⟩, .string ⟨#[97, 47, 98, 47, 99, 47, 1]⟩] 9)).cell? ⟨w.heap.size + 1 + 1, n % 24 - 20, none⟩ = _ := strs_cell otherL 9 (n % 24 - 20) (by show _ < 4; omega) (by simp)
    have hq : ((n % 24 : Nat) : Int) - 20 = ((n % 24 - 20 : Nat) : Int) := by omega
    have hq4 : n % 24 - 20 < 4 := by omega
    generalize otherL.getD (n % 24 - 20) [] = po at *
    generalize n % 24 - 20 = q at *
    generalize n % 24 = m at *
    have hn' : (n : Int) < 256 := by omega
    have hm' : 20 ≤ (m : Int) := by omega
    have hm24 : (m : Int) < 24 := by omega
    have hqz : (q : Int) < 4 := by omega
    have hq0 : (0 : Int) ≤ (q : Int) := by omega
    clear hn
    go_enter Try.func19, Try.ntmps19
    go_wp2
    go_ret
    exact ⟨by rw [Hp.out]; rfl, ((below_box _).alloc (by simp) _).alloc (by simp; omega) _⟩
/-- Three bytes that describe a pair. -/
abbrev Rw := Nat × Nat × Nat
def SmallR (x : Rw) : Prop := x.1 < 256 ∧ x.2.1 < 256 ∧ x.2.2 < 256
def IsRaws (w : World) (v : Value) (l : List Rw) : Prop :=
  ∃ a cap, v = .slice a l.length cap ∧ l.length ≤ cap ∧ cap ≤ maxLen ∧ (∀ x ∈ l, SmallR x) ∧ (l ≠ [] → ∃ b off, a = some ⟨b, off, none⟩ ∧ b < w.heap.size ∧
    ∀ i (h : i < l.length), w.cell? ⟨b, off + i * 3, none⟩ = some (.int .u8 l[i].1) ∧ w.cell? ⟨b, off + i * 3 + 1, none⟩ = some (.int .u8 l[i].2.1) ∧ w.cell? ⟨b, off + i * 3 + 2, none⟩ = some (.int .u8 l[i].2.2))
theorem IsRaws.below {w w' : World} {v : Value} {l : List Rw} (h : IsRaws w v l) (hb : Below w.heap.size w w') : IsRaws w' v l := by
  obtain ⟨a, cap, h1, h2, h3, h5, h4⟩ := h
  refine ⟨a, cap, h1, h2, h3, h5, fun hl => ?_⟩
  obtain ⟨b, off, e, hlt, hc⟩ := h4 hl
  exact ⟨b, off, e, Nat.lt_of_lt_of_le hlt hb.size, fun i hi => ⟨by rw [hb.cell (by exact hlt)]; exact (hc i hi).1, by rw [hb.cell (by exact hlt)]; exact (hc i hi).2.1, by rw [hb.cell (by exact hlt)]; exact (hc i hi).2.2⟩⟩
theorem IsRaws.form {w : World} {v : Value} {l : List Rw} (h : IsRaws w v l) : ∃ b off cap a, v = .slice a l.length cap ∧ l.length ≤ cap ∧ cap ≤ maxLen ∧ (l ≠ [] → a = some ⟨b, off, none⟩ ∧ b < w.heap.size) ∧
    ∀ i (h : i < l.length), a = some ⟨b, off, none⟩ ∧ w.cell? ⟨b, off + i * 3, none⟩ = some (.int .u8 l[i].1) ∧ w.cell? ⟨b, off + i * 3 + 1, none⟩ = some (.int .u8 l[i].2.1) ∧ w.cell? ⟨b, off + i * 3 + 2, none⟩ = some (.int .u8 l[i].2.2) := by
  obtain ⟨a, cap, h1, h2, h3, h5, h4⟩ := h
  by_cases hl : l = []
  · subst hl; exact ⟨0, 0, cap, a, h1, h2, h3, fun h => absurd rfl h, fun i hi => absurd hi (by simp)⟩
  · obtain ⟨b, off, e, hlt, hc⟩ := h4 hl
    exact ⟨b, off, cap, a, h1, h2, h3, fun _ => ⟨e, hlt⟩, fun i hi => ⟨e, hc i hi⟩⟩
theorem IsRaws.small {w : World} {v : Value} {l : List Rw} (h : IsRaws w v l) : ∀ x ∈ l, SmallR x := by
  obtain ⟨a, cap, h1, h2, h3, h5, h4⟩ := h; exact h5
def prS (x : Rw) : Pr := pairS x.1 x.2.1 x.2.2
def foldR (l : List Rw) : List Pr := l.foldl (fun t x => putS (prS x) t) []
/-- The table that is described. -/
def madeS (l : List Rw) : List Pr := foldR (l.take 40)
theorem foldR_snoc (l : List Rw) (x : Rw) : foldR (l ++ [x]) = putS (prS x) (foldR l) := by simp [foldR]
theorem foldR_take (l : List Rw) (k : Nat) (h : k < l.length) : foldR (l.take (k + 1)) = putS (prS l[k]) (foldR (l.take k)) := by
  rw [List.take_add_one, List.getElem?_eq_getElem h]; exact foldR_snoc _ _
theorem srt_foldR : ∀ l, Srt (foldR l) := by
  intro l
  suffices ∀ t, Srt t → Srt (l.foldl (fun t x => putS (prS x) t) t) from this [] srt_nil
  induction l with
  | nil => intro t h; exact h
  | cons x l ih => intro t h; exact ih _ (srt_put _ h)
theorem foldR_len : ∀ l, (foldR l).length ≤ l.length := by
  intro l
  suffices ∀ t : List Pr, (l.foldl (fun t x => putS (prS x) t) t).length ≤ t.length + l.length from by have := this []; simp only [List.length_nil, Nat.zero_add] at this; exact this
  induction l with
  | nil => intro t; simp
  | cons x l ih => intro t; have := ih (putS (prS x) t); have := put_length (prS x) t; simp; omega
theorem foldR_mem {l : List Rw} {y : Pr} (h : y ∈ foldR l) : ∃ x ∈ l, y = prS x := by
  suffices ∀ t : List Pr, y ∈ l.foldl (fun t x => putS (prS x) t) t → y ∈ t ∨ ∃ x ∈ l, y = prS x from by
    rcases this [] h with h | h
    · cases h
    · exact h
  induction l with
  | nil => intro t h; exact .inl h
  | cons x l ih =>
    intro t h2
    have ih' : ∀ t : List Pr, y ∈ l.foldl (fun t x => putS (prS x) t) t → y ∈ t ∨ ∃ x ∈ l, y = prS x := by
      intro t
      clear ih h h2
      induction l generalizing t with
      | nil => intro h; exact .inl h
      | cons z l ih2 =>
        intro h
        rcases ih2 (putS (prS z) t) h with h | ⟨q, h3, h4⟩
        · rcases (mem_put _ _ _).1 h with rfl | ⟨h5, -⟩
          · exact .inr ⟨z, by simp, rfl⟩
          · exact .inl h5
        · exact .inr ⟨q, by simp [h3], h4⟩
    rcases ih' _ h2 with h3 | ⟨q, h3, h4⟩
    · rcases (mem_put _ _ _).1 h3 with rfl | ⟨h5, -⟩
      · exact .inr ⟨x, by simp, rfl⟩
      · exact .inl h5
    · exact .inr ⟨q, by simp [h3], h4⟩
theorem prS_small (x : Rw) : (prS x).1.length ≤ 20 ∧ (prS x).2.1.length ≤ 10 := ⟨keyS_len _, getD_len (L := valL) (b := 10) (by decide) _⟩
theorem srt_made (l : List Rw) : Srt (madeS l) := srt_foldR _
theorem made_len (l : List Rw) : (madeS l).length ≤ 40 := Nat.le_trans (foldR_len _) (by rw [List.length_take]; omega)
theorem made_small {l : List Rw} : ∀ x ∈ madeS l, x.1.length ≤ 20 ∧ x.2.1.length ≤ 10 := by
  intro x hx
  obtain ⟨y, -, rfl⟩ := foldR_mem hx
  exact prS_small y
end T4
end Go.Proofs.Ythncnijkgkeohaa
namespace Go.Proofs.Ythncnijkgkeohaa
namespace T4
open Go.ChangeShapes Go.WideShapes Go.ChangeAt Go.RowKit Go.Deep
open Go.ChangeMaps (open_string shut_string)
set_option linter.unusedVariables false
set_option maxRecDepth 100000
def IsU8x3 (_w : World) (v : Value) (x : Rw) : Prop := v = .agg #[.int .u8 x.1, .int .u8 x.2.1, .int .u8 x.2.2] ∧ SmallR x
variable {H : Type} {enc : TypeId × Value → H} {W : World} {base : Nat} {r : Reach} {v : Value} {d : DataW H} {p : List MemPlace}
theorem one_str {fuel : Nat} {c : Value} {y : DataW H × List MemPlace} (h : DataW.trod enc Try.prog W 0 (fun _ => true) true fuel 9 [c] = some y) : ∃ l : Bs, c = .string (Str l) ∧ l.length ≤ maxLen := by
  obtain ⟨s, e, _, hs⟩ := DataW.trod_string Try.underlying9 h
  simp only [List.cons.injEq, and_true] at e
  subst e
  exact ⟨s.toList, by rw [Lib.toList_data]; rfl, by rw [Lib.toList_data, ← Lib.size_eq]; exact hs⟩
theorem one_int {fuel : Nat} {c : Value} {y : DataW H × List MemPlace} (h : DataW.trod enc Try.prog W 0 (fun _ => true) true fuel 3 [c] = some y) : ∃ n : Int, c = .int .i64 n := by
  obtain ⟨n, e, _, _⟩ := DataW.trod_int Try.underlying3 h
  simp only [List.cons.injEq, and_true] at e
  exact ⟨n, e⟩
theorem cellsU8 : Try.prog.cellsOf 5 = 1 := by kernel_rfl
theorem cellsInt : Try.prog.cellsOf 3 = 1 := by kernel_rfl
theorem cellsStr : Try.prog.cellsOf 9 = 1 := by kernel_rfl
theorem okWide_arr {n : Nat} {e t : TypeId} (ht : Try.prog.underlying t = some (.array n e)) (h : Value.okWide Try.prog W r base t v) : ∃ cs, v = .agg cs ∧ cs.size = Try.prog.cellsOf t := by
  simp only [Value.okWide, ht] at h
  obtain ⟨cs, h1, h2, _⟩ := h
  exact ⟨cs, h1, h2⟩
theorem one_u8 {fuel : Nat} {c : Value} {y : DataW H × List MemPlace} (h : DataW.trod enc Try.prog W 0 (fun _ => true) true fuel 5 [c] = some y) : ∃ n : Nat, c = .int .u8 n ∧ n < 256 := by
  obtain ⟨n, e, _, hn⟩ := DataW.trod_int Try.underlying5 h
  simp only [List.cons.injEq, and_true] at e
  have hb := bounds_u8 hn
  exact ⟨n.toNat, by rw [e, Int.toNat_of_nonneg hb.1], by omega⟩
theorem rows_raw {a : Addr} : ∀ n : Nat, (∀ i, i < n → ∃ x : Rw, (W.cell? (a.add (i * 3)) = some (.int .u8 x.1) ∧ W.cell? (a.add (i * 3 + 1)) = some (.int .u8 x.2.1) ∧ W.cell? (a.add (i * 3 + 2)) = some (.int .u8 x.2.2)) ∧ SmallR x) →
    ∃ l : List Rw, l.length = n ∧ (∀ x ∈ l, SmallR x) ∧ ∀ i (h : i < l.length), W.cell? (a.add (i * 3)) = some (.int .u8 l[i].1) ∧ W.cell? (a.add (i * 3 + 1)) = some (.int .u8 l[i].2.1) ∧ W.cell? (a.add (i * 3 + 2)) = some (.int .u8 l[i].2.2)
  | 0, _ => ⟨[], rfl, fun x hx => by simp at hx, fun i h => absurd h (by simp)⟩
  | n + 1, h => by
    obtain ⟨l, hl, hs, hc⟩ := rows_raw n (fun i hi => h i (by omega))
    obtain ⟨x, h1, h2⟩ := h n (by omega)
    refine ⟨l ++ [x], by simp [hl], fun z hz => ?_, fun i hi => ?_⟩
    · rcases List.mem_append.1 hz with hz | hz
      · exact hs z hz
      · simp at hz; subst hz; exact h2
    · by_cases hin : i < l.length
      · rw [List.getElem_append_left hin]; exact hc i hin
      · have : i = n := by simp at hi; omega
        subst this
        rw [List.getElem_append_right (by omega)]
        simp [hl]
        exact h1
section
variable {H : Type} {enc : TypeId × Value → H} {W : World} {base : Nat} {r : Reach} {v : Value} {d : DataW H} {p : List MemPlace}
theorem elem_span {fuel : Nat} {cs : List Value} {y : DataW H × List MemPlace} (h : DataW.trod enc Try.prog W 0 (fun _ => true) true fuel 35 cs = some y) (hl : cs.length = 2) : ∃ a b : Bs, cs = [.string (Str a), .string (Str b)] := by
  obtain ⟨xs, n, _, _, _, hxs, hf⟩ := DataW.trod_struct Try.underlying35 h
  match cs, hl with
  | [c0, c1], _ =>
    match xs, hxs with
    | [y0, y1], _ =>
      have e : Try.prog.cellsOf 9 = 1 := by kernel_rfl
      have g0 := hf 0 _ rfl
      have g1 := hf 1 _ rfl
      try simp only [e] at g0 g1
      simp [e] at g0 g1
      obtain ⟨a, rfl, _⟩ := one_str g0
      obtain ⟨b, rfl, _⟩ := one_str g1
      exact ⟨a, b, rfl⟩
theorem rows_span {a : Addr} : ∀ n : Nat, (∀ i, i < n → ∃ x y : Bs, W.cell? (a.add (i * 2)) = some (.string (Str x)) ∧ W.cell? (a.add (i * 2 + 1)) = some (.string (Str y))) →
    ∃ l : List Sp, l.length = n ∧ ∀ i (h : i < l.length), W.cell? (a.add (i * 2)) = some (.string (Str l[i].1)) ∧ W.cell? (a.add (i * 2 + 1)) = some (.string (Str l[i].2))
  | 0, _ => ⟨[], rfl, fun i h => absurd h (by simp)⟩
  | n + 1, h => by
    obtain ⟨l, hl, hc⟩ := rows_span n (fun i hi => h i (by omega))
    obtain ⟨x, y, h1, h2⟩ := h n (by omega)
    refine ⟨l ++ [(x, y)], by simp [hl], fun i hi => ?_⟩
    by_cases hin : i < l.length
    · rw [List.getElem_append_left hin]; exact hc i hin
    · have : i = n := by simp at hi; omega
      subst this
      rw [List.getElem_append_right (by omega)]
      simp [hl]
      exact ⟨h1, h2⟩
theorem open_spans (hval : Value.okWide Try.prog W r base 38 v) (hd : DataW.Trod enc Try.prog W 0 (fun _ => true) true 38 v d p) : ∃ l, IsSpans W v l := by
  obtain ⟨a, len, cap, rfl⟩ := okWide_slice Try.underlying38 hval
  obtain ⟨fuel, hf⟩ := hd
  have hf' : DataW.trod enc Try.prog W 0 (fun _ => true) true fuel 38 [.slice a len cap] = some (d, p) := by simpa [Value.cells] using hf
  rcases open_slice Try.underlying38 hf' with ⟨hcs, _⟩ | ⟨x, len', cap', m, n, D, Pl, hcs, _, hl, hm, hmm, _, hi⟩
  · simp only [List.cons.injEq, and_true] at hcs
    rw [hcs]
    exact ⟨[], none, 0, rfl, Nat.le_refl _, by unfold maxLen; omega, fun h => absurd rfl h⟩
  · simp only [List.cons.injEq, and_true] at hcs
    rw [hcs]
    simp only [↓reduceIte] at hmm
    have e2 : Try.prog.cellsOf 35 = 2 := by kernel_rfl
    have hrow : ∀ i, i < len' → ∃ s t : Bs, W.cell? (x.add (i * 2)) = some (.string (Str s)) ∧ W.cell? (x.add (i * 2 + 1)) = some (.string (Str t)) := by
      intro i hil
      obtain ⟨cs', hc, ht⟩ := hi i (by omega)
      rw [e2] at hc
      obtain ⟨_, hlen, hcell⟩ := World.cells?_some hc
      obtain ⟨s, t, rfl⟩ := elem_span ht hlen
      have h0 := hcell 0 (by omega)
      have h1 := hcell 1 (by omega)
      rw [Go.Deep.add_add] at h0 h1
      exact ⟨s, t, h0, h1⟩
    obtain ⟨l, hll, hc⟩ := rows_span len' hrow
    refine ⟨l, some x, cap', by rw [hll], by omega, hm, fun hne => ?_⟩
    have h0 : 0 < l.length := List.length_pos_iff.2 hne
    obtain ⟨b, off, spot⟩ := x
    have hc0 := (hc 0 h0).1
    have hspot : spot = none := by simpa [Addr.add] using World.cell?_spot hc0
    subst hspot
    have hadd : ∀ i, (⟨b, off, none⟩ : Addr).add i = ⟨b, off + i, none⟩ := by intro i; unfold Addr.add; split <;> simp_all
    rw [hadd] at hc0
    refine ⟨b, off, rfl, cell_lt hc0, fun i hi => ?_⟩
    have hci := hc i hi
    rw [hadd, hadd] at hci
    exact hci
end

end T4
end Go.Proofs.Ythncnijkgkeohaa
