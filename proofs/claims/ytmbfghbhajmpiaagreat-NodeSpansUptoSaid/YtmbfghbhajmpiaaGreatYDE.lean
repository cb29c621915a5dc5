/-
  What the arguments of the laws of package node are, said of the world: what describes a node, where it is of bulk at most 1048576.
-/
import Derived.Test.YtmbfghbhajmpiaaGreatGD
import Derived.Test.YtmbfghbhajmpiaaGreatYBA
import Derived.Test.YtmbfghbhajmpiaaGreatYDB
namespace Go.Proofs.YtmbfghbhajmpiaaGreat
open Go.ChangeShapes Go.WideShapes Go.ChangeAt Go.RowKit Go.Deep
open Go.ChangeMaps (open_string shut_string)
set_option linter.unusedVariables false
set_option maxRecDepth 100000

theorem bulk_one {H : Type} (d : DataW H) : 1 ≤ Rows.uptoBulk d := by
  cases d with
  | lit l => cases l <;> simp [Rows.uptoBulk]
  | _ => simp [Rows.uptoBulk]
theorem bulk_len {H : Type} (l : List (DataW H)) : l.length ≤ Rows.uptoBulkAll l := by
  induction l with
  | nil => simp [Rows.uptoBulkAll]
  | cons x r ih => have := bulk_one x; simp only [Rows.uptoBulkAll, List.length_cons]; omega
theorem bulk_slice {H : Type} (l m : List (DataW H)) : l.length ≤ Rows.uptoBulk (.slice l m) := by
  have := bulk_len l
  simp only [Rows.uptoBulk]
  omega
section
variable {H : Type} {enc : TypeId × Value → H} {W : World} {base : Nat} {r : Reach} {v : Value} {d : DataW H} {p : List MemPlace}
theorem bytes_bulk {fuel : Nat} {c : Value} {l : Bs} {y : DataW H × List MemPlace} (hl : IsBytes W c l) (hf : DataW.trod enc Tryz.prog W 0 (fun _ => true) true fuel 23 [c] = some y) : l.length ≤ Rows.uptoBulk y.1 := by
  obtain ⟨p, cap, rfl, -⟩ := hl
  rcases open_ints Tryz.underlying23 Tryz.underlying5 (by kernel_rfl) hf with ⟨hcs, _⟩ | ⟨x, len, cap', zs, hcs, _, hl, hm, hz, rfl, hcell, hwz⟩
  · simp only [List.cons.injEq, and_true] at hcs
    injection hcs with h1 h2 h3
    omega
  · simp only [List.cons.injEq, and_true] at hcs
    injection hcs with h1 h2 h3
    have h4 := bulk_slice (H := H) (lits .u8 (zs.take len)) (lits .u8 (zs.drop len))
    simp only [↓reduceIte] at hz
    simp only [lits, List.length_map, List.length_take] at h4
    simp only [lits]
    omega
theorem elem_four {fuel : Nat} {cs : List Value} {y : DataW H × List MemPlace} (h : DataW.trod enc Tryz.prog W 0 (fun _ => true) true fuel 115 cs = some y) (hl : cs.length = 4) :
    ∃ q : Q4, cs = [.int .u8 q.1, .int .u8 q.2.1, .int .u8 q.2.2.1, .int .u8 q.2.2.2] ∧ q.1 < 256 ∧ q.2.1 < 256 ∧ q.2.2.1 < 256 ∧ q.2.2.2 < 256 := by
  obtain ⟨xs, m, _, _, _, hx, hi⟩ := DataW.trod_array Tryz.underlying115 h
  match cs, hl with
  | [c0, c1, c2, c3], _ =>
    match xs, hx with
    | [y0, y1, y2, y3], _ =>
      have g0 := hi 0 (by omega)
      have g1 := hi 1 (by omega)
      have g2 := hi 2 (by omega)
      have g3 := hi 3 (by omega)
      rw [T4.cellsU8] at g0 g1 g2 g3
      simp at g0 g1 g2 g3
      obtain ⟨a0, rfl, h0⟩ := T4.one_u8 g0
      obtain ⟨a1, rfl, h1⟩ := T4.one_u8 g1
      obtain ⟨a2, rfl, h2⟩ := T4.one_u8 g2
      obtain ⟨a3, rfl, h3⟩ := T4.one_u8 g3
      exact ⟨(a0, a1, a2, a3), rfl, h0, h1, h2, h3⟩
theorem rows_four {a : Addr} : ∀ n : Nat, (∀ i, i < n → ∃ q : Q4, (W.cell? (a.add (i * 4)) = some (.int .u8 q.1) ∧ W.cell? (a.add (i * 4 + 1)) = some (.int .u8 q.2.1) ∧ W.cell? (a.add (i * 4 + 2)) = some (.int .u8 q.2.2.1) ∧ W.cell? (a.add (i * 4 + 3)) = some (.int .u8 q.2.2.2)) ∧ q.1 < 256 ∧ q.2.1 < 256 ∧ q.2.2.1 < 256 ∧ q.2.2.2 < 256) →
    ∃ l : List Q4, l.length = n ∧ (∀ q ∈ l, q.1 < 256 ∧ q.2.1 < 256 ∧ q.2.2.1 < 256 ∧ q.2.2.2 < 256) ∧ ∀ i (h : i < l.length), W.cell? (a.add (i * 4)) = some (.int .u8 l[i].1) ∧ W.cell? (a.add (i * 4 + 1)) = some (.int .u8 l[i].2.1) ∧ W.cell? (a.add (i * 4 + 2)) = some (.int .u8 l[i].2.2.1) ∧ W.cell? (a.add (i * 4 + 3)) = some (.int .u8 l[i].2.2.2)
  | 0, _ => ⟨[], rfl, fun x hx => by simp at hx, fun i h => absurd h (by simp)⟩
  | n + 1, h => by
    obtain ⟨l, hl, hs, hc⟩ := rows_four n (fun i hi => h i (by omega))
    obtain ⟨x, h1, h2⟩ := h n (by omega)
    refine ⟨l ++ [x], by simp [hl], fun z hz => ?_, fun i hi => ?_⟩
    · rcases List.mem_append.1 hz with hz | hz
      · exact hs z hz
      · simp at hz; subst hz; exact h2
    · by_cases hin : i < l.length
      · rw [List.getElem_append_left hin]; exact hc i hin
      · have : i = n := by simp at hi; omega
        subst this
        rw [List.getElem_append_right (by omega)]
        simp [hl]
        exact h1
theorem cells_q4s {fuel : Nat} {c : Value} {y : DataW H × List MemPlace} (hf' : DataW.trod enc Tryz.prog W 0 (fun _ => true) true fuel 24 [c] = some y) : ∃ l, IsQ4s W c l := by
  rcases open_slice Tryz.underlying24 hf' with ⟨hcs, _⟩ | ⟨x, len', cap', m, n, D, Pl, hcs, _, hl, hm, hmm, _, hi⟩
  · simp only [List.cons.injEq, and_true] at hcs
    rw [hcs]
    exact ⟨[], none, 0, rfl, Nat.le_refl _, by unfold maxLen; omega, fun x hx => by simp at hx, fun h => absurd rfl h⟩
  · simp only [List.cons.injEq, and_true] at hcs
    rw [hcs]
    simp only [↓reduceIte] at hmm
    have e3 : Tryz.prog.cellsOf 115 = 4 := by kernel_rfl
    have hrow : ∀ i, i < len' → ∃ q : Q4, (W.cell? (x.add (i * 4)) = some (.int .u8 q.1) ∧ W.cell? (x.add (i * 4 + 1)) = some (.int .u8 q.2.1) ∧ W.cell? (x.add (i * 4 + 2)) = some (.int .u8 q.2.2.1) ∧ W.cell? (x.add (i * 4 + 3)) = some (.int .u8 q.2.2.2)) ∧ q.1 < 256 ∧ q.2.1 < 256 ∧ q.2.2.1 < 256 ∧ q.2.2.2 < 256 := by
      intro i hil
      obtain ⟨cs', hc, ht⟩ := hi i (by omega)
      rw [e3] at hc
      obtain ⟨_, hlen, hcell⟩ := World.cells?_some hc
      obtain ⟨q, rfl, hs⟩ := elem_four ht hlen
      have h0 := hcell 0 (by omega)
      have h1 := hcell 1 (by omega)
      have h2 := hcell 2 (by omega)
      have h3 := hcell 3 (by omega)
      rw [Go.Deep.add_add] at h0 h1 h2 h3
      exact ⟨q, ⟨h0, h1, h2, h3⟩, hs⟩
    obtain ⟨l, hll, hs, hc⟩ := rows_four len' hrow
    refine ⟨l, some x, cap', by rw [hll], by omega, hm, hs, fun hne => ?_⟩
    have h0 : 0 < l.length := List.length_pos_iff.2 hne
    obtain ⟨b, off, spot⟩ := x
    have hc0 := (hc 0 h0).1
    have hspot : spot = none := by simpa [Addr.add] using World.cell?_spot hc0
    subst hspot
    have hadd : ∀ i, (⟨b, off, none⟩ : Addr).add i = ⟨b, off + i, none⟩ := by intro i; unfold Addr.add; split <;> simp_all
    rw [hadd] at hc0
    refine ⟨b, off, rfl, cell_lt hc0, fun i hi => ?_⟩
    have hci := hc i hi
    rw [hadd, hadd, hadd, hadd] at hci
    exact hci
theorem list_fiveQ {l : List Value} (h : l.length = 5) : ∃ c0 c1 c2 c3 c4, l = [c0, c1, c2, c3, c4] := by
  match l, h with
  | [c0, c1, c2, c3, c4], _ => exact ⟨c0, c1, c2, c3, c4, rfl⟩
theorem elem_rq {fuel : Nat} {cs : List Value} {y : DataW H × List MemPlace} (h : DataW.trod enc Tryz.prog W 0 (fun _ => true) true fuel 27 cs = some y) (hl : cs.length = 5) (hb : Rows.uptoBulk y.1 ≤ 1048576) : ∃ x, IsRq W (.agg cs.toArray) x := by
  obtain ⟨xs, n, _, hy, _, hxs, hg⟩ := DataW.trod_struct Tryz.underlying27 h
  obtain ⟨c0, c1, c2, c3, c4, rfl⟩ := list_fiveQ hl
  match xs, hxs with
  | [y0, y1, y2, y3, y4], _ =>
    have e0 : Tryz.prog.cellsOf 22 = 1 := by kernel_rfl
    have e1 : Tryz.prog.cellsOf 23 = 1 := by kernel_rfl
    have e3 : Tryz.prog.cellsOf 24 = 1 := by kernel_rfl
    have e4 : Tryz.prog.cellsOf 25 = 1 := by kernel_rfl
    have g0 := hg 0 _ rfl
    have g1 := hg 1 _ rfl
    have g2 := hg 2 _ rfl
    have g3 := hg 3 _ rfl
    have g4 := hg 4 _ rfl
    simp [e0] at g0
    simp [e1] at g1 g2
    simp [e3] at g3
    simp [e4] at g4
    obtain ⟨l0, h0⟩ := T4.cells_r4s g0
    obtain ⟨l1, h1⟩ := cells_bytes g1
    obtain ⟨l2, h2⟩ := cells_bytes g2
    obtain ⟨l3, h3⟩ := cells_q4s g3
    obtain ⟨l4, h4⟩ := cells_r6s g4
    have hz := bytes_bulk h2 g2
    rw [hy] at hb
    simp only [List.map_cons, List.map_nil, Rows.uptoBulk, Rows.uptoBulkAll] at hb
    exact ⟨⟨l0, l1, l2, l3, l4⟩, c0, c1, c2, c3, c4, rfl, h0, h1, h2, h3, h4, by show l2.length ≤ _; omega⟩
theorem open_rq (hval : Value.okWide Tryz.prog W r base 27 v) (hd : DataW.Trod enc Tryz.prog W 0 (fun _ => true) true 27 v d p) (hb : Rows.uptoBulk d ≤ 1048576) : ∃ x, IsRq W v x := by
  obtain ⟨cs, rfl, hsz⟩ := okWide_struct Tryz.underlying27 hval
  obtain ⟨l⟩ := cs
  have hl : l.length = 5 := hsz.trans (by kernel_rfl)
  obtain ⟨fuel, hf⟩ := hd
  exact elem_rq (cs := l) (by simpa [Value.cells] using hf) hl hb
end

end Go.Proofs.YtmbfghbhajmpiaaGreat
