/-
  Walks: the reference's insertion of a pair. Walks: what the reference takes out of a table, what it leaves, and whether keys grow. Walks: the reference's choice of paths, keys and values. Walks: the reference's choice of messages.
-/
import Derived.Test.YthpajecigkfajaaMRR
import Derived.Test.YthpajecigkfajaaTX
import Derived.Test.YthpajecigkfajaaPL
import Derived.IntWalk
import Derived.Test.YthpajecigkfajaaMDH
namespace Go.Proofs.Ythpajecigkfajaa
open Go.RowKit Go.Sort
set_option linter.unusedVariables false

theorem cells_in {w w' : World} {B b o : Nat} {x : Pr} (hb : Below B w w') (hl : b < B) (h : w.cell? ⟨b, o, none⟩ = some (.string (Str x.1)) ∧ w.cell? ⟨b, o + 1, none⟩ = some (.string (Str x.2.1)) ∧ w.cell? ⟨b, o + 2, none⟩ = some (.int .i64 x.2.2)) :
    w'.cell? ⟨b, o, none⟩ = some (.string (Str x.1)) ∧ w'.cell? ⟨b, o + 1, none⟩ = some (.string (Str x.2.1)) ∧ w'.cell? ⟨b, o + 2, none⟩ = some (.int .i64 x.2.2) :=
  ⟨(hb.cell (p := ⟨b, o, none⟩) hl).trans h.1, (hb.cell (p := ⟨b, o + 1, none⟩) hl).trans h.2.1, (hb.cell (p := ⟨b, o + 2, none⟩) hl).trans h.2.2⟩
theorem putR_step (p : Pr) (d : Bool) (l : List Pr) (j : Nat) (h : j < l.length) : putR p d (l.drop j) = (if !d && !Op.bytesLess l[j].1 p.1 then [p] else []) ++ (if l[j].1 == p.1 then [] else [l[j]]) ++ putR p (d || !Op.bytesLess l[j].1 p.1) (l.drop (j + 1)) := by
  rw [List.drop_eq_getElem_cons h, putR]
end Go.Proofs.Ythpajecigkfajaa
namespace Go.Proofs.Ythpajecigkfajaa
open Go.RowKit Go.Sort
set_option linter.unusedVariables false

theorem without_take (l : List Sp) (t : List Pr) (j : Nat) (h : j < t.length) : withoutS l (t.take (j + 1)) = withoutS l (t.take j) ++ if inB l t[j].1 then [] else [t[j]] := by
  unfold withoutS
  rw [List.take_add_one, List.getElem?_eq_getElem h, List.filter_append]
  congr 1
  simp only [Option.toList_some, List.filter_cons, List.filter_nil]
  cases inB l t[j].1 <;> rfl
theorem within_take (l : List Sp) (t : List Pr) (j : Nat) (h : j < t.length) : withinS l (t.take (j + 1)) = withinS l (t.take j) ++ if inB l t[j].1 then [t[j]] else [] := by
  unfold withinS
  rw [List.take_add_one, List.getElem?_eq_getElem h, List.filter_append]
  congr 1
  simp only [Option.toList_some, List.filter_cons, List.filter_nil]
theorem without_len (l : List Sp) (t : List Pr) : (withoutS l t).length ≤ t.length := List.length_filter_le _ _
theorem within_len (l : List Sp) (t : List Pr) : (withinS l t).length ≤ t.length := List.length_filter_le _ _

end Go.Proofs.Ythpajecigkfajaa
namespace Go.Proofs.Ythpajecigkfajaa
open Go.RowKit Go.Sort
set_option linter.unusedVariables false

def pathL : List Bs := [[97, 47], [98, 47], [97, 47, 98, 47], [99, 47], [100, 47]]
def tailL : List Bs := [[1], [2, 0, 0], [2, 0, 1], [2, 0, 2], [3, 120]]
def valL : List Bs := [[], [120], [121, 121], [49, 50, 51, 52, 53, 54, 55, 56, 57, 48], [0, 255]]
def pathS (n : Nat) : Bs := pathL.getD (n % 5) []
def keyS (n : Nat) : Bs := pathS (n % 4) ++ tailL.getD (n / 4 % 5) []
def valS (n : Nat) : Bs := valL.getD (n % 5) []
theorem getD_len {L : List Bs} {b : Nat} (h : ∀ x ∈ L, x.length ≤ b) (i : Nat) : (L.getD i []).length ≤ b := by
  rw [List.getD_eq_getElem?_getD]
  cases e : L[i]? with
  | none => simp
  | some x => exact h x (List.mem_of_getElem? e)
theorem path_len (n : Nat) : (pathS n).length ≤ 4 := getD_len (L := pathL) (b := 4) (by decide) _
theorem tail_len (n : Nat) : (tailL.getD n []).length ≤ 3 := getD_len (L := tailL) (b := 3) (by decide) _
theorem val_len (n : Nat) : (valS n).length ≤ 10 := getD_len (L := valL) (b := 10) (by decide) _
theorem key_len (n : Nat) : (keyS n).length ≤ 7 := by
  unfold keyS
  have := path_len (n % 4)
  have := tail_len (n / 4 % 5)
  rw [List.length_append]; omega
theorem strs_cell {W : World} {n : Nat} (L : List Bs) (T : TypeId) (i : Nat) (hi : i < L.length) (hn : n = W.heap.size) : (W.alloc (.cells (L.map fun s => Value.string (Str s)).toArray T)).cell? ⟨n, i, none⟩ = some (.string (Str (L.getD i []))) := by
  subst hn
  rw [World.cell?_alloc_new]
  simp [hi, List.getD_eq_getElem?_getD]

set_option maxRecDepth 100000 in
set_option maxHeartbeats 2000000 in
theorem path_w (n : Nat) (w : World) (hn : n < 256) : Calls Try.prog 36 #[.int .u8 n] w fun e w' => e = .returned (.string (Str (pathS n))) ∧ Below w.heap.size w w' := by
  have Hp : Hid (pathS n = pathL.getD (n % 5) []) := Lib.hid rfl
  have hm : n % 5 < 5 := Nat.mod_lt _ (by omega)
  have hz : (n : Int) % 5 = ((n % 5 : Nat) : Int) := by omega
  have h1 : (w.alloc (.cells #[.string ⟨#[97, 47]⟩, .string ⟨#[98, 47]⟩, .string ⟨#[97, 47, 98, 47]⟩, .string ⟨#[99, 47]⟩, .string ⟨#[100, 47]⟩] 9)).cell? ⟨w.heap.size, n % 5, none⟩ = _ := strs_cell pathL 9 (n % 5) hm rfl
  generalize n % 5 = m at *
  generalize pathL.getD m [] = r at *
  have hn' : (n : Int) < 256 := by omega
  have hm' : (m : Int) < 5 := by omega
  have hm0 : (0 : Int) ≤ (m : Int) := by omega
  clear hn
  go_enter Try.func36, Try.ntmps36
  go_wp2
  go_ret
  exact ⟨by rw [Hp.out]; rfl, below_box _⟩
set_option maxRecDepth 100000 in
set_option maxHeartbeats 2000000 in
theorem value_w (n : Nat) (w : World) (hn : n < 256) : Calls Try.prog 39 #[.int .u8 n] w fun e w' => e = .returned (.string (Str (valS n))) ∧ Below w.heap.size w w' := by
  have Hp : Hid (valS n = valL.getD (n % 5) []) := Lib.hid rfl
  have hm : n % 5 < 5 := Nat.mod_lt _ (by omega)
  have hz : (n : Int) % 5 = ((n % 5 : Nat) : Int) := by omega
  have h1 : (w.alloc (.cells #[.string ⟨#[]⟩, .string ⟨#[120]⟩, .string ⟨#[121, 121]⟩, .string ⟨#[49, 50, 51, 52, 53, 54, 55, 56, 57, 48]⟩, .string ⟨#[0, 255]⟩] 9)).cell? ⟨w.heap.size, n % 5, none⟩ = _ := strs_cell valL 9 (n % 5) hm rfl
  generalize n % 5 = m at *
  generalize valL.getD m [] = r at *
  have hn' : (n : Int) < 256 := by omega
  have hm' : (m : Int) < 5 := by omega
  have hm0 : (0 : Int) ≤ (m : Int) := by omega
  clear hn
  go_enter Try.func39, Try.ntmps39
  go_wp2
  go_ret
  exact ⟨by rw [Hp.out]; rfl, below_box _⟩

theorem SB.alloc {w wx : World} (h : SB w wx) (o : Obj) : SB w (wx.alloc o) := h.below (below_box _)
set_option maxRecDepth 100000 in
set_option maxHeartbeats 4000000 in
set_option warningAsError false in
theorem key_w (n : Nat) (w : World) (hn : n < 256) : Calls Try.prog 34 #[.int .u8 n] w fun e w' => e = .returned (.string (Str (keyS n))) ∧ Below w.heap.size w w' := by
  have mixed := mixedA
  have Hp : Hid (keyS n = pathS (n % 4) ++ tailL.getD (n / 4 % 5) []) := Lib.hid rfl
  have hm4 : n % 4 < 4 := Nat.mod_lt _ (by omega)
  have hr5 : n / 4 % 5 < 5 := Nat.mod_lt _ (by omega)
  have hz4 : (n : Int) % 4 = ((n % 4 : Nat) : Int) := by omega
  have hzq : (n : Int) / 4 = ((n / 4 : Nat) : Int) := by omega
  have hzr : ((n / 4 : Nat) : Int) % 5 = ((n / 4 % 5 : Nat) : Int) := by omega
  have hq64 : n / 4 < 64 := by omega
  have hv : ∀ W : World, (W.alloc (.cells #[.string ⟨#[1]⟩, .string ⟨#[2, 0, 0]⟩, .string ⟨#[2, 0, 1]⟩, .string ⟨#[2, 0, 2]⟩, .string ⟨#[3, 120]⟩] 9)).cell? ⟨W.heap.size, n / 4 % 5, none⟩ = some (.string (Str (tailL.getD (n / 4 % 5) []))) := fun W => strs_cell tailL 9 (n / 4 % 5) hr5 rfl
  have l1 := path_len (n % 4)
  have l2 := tail_len (n / 4 % 5)
  have hk := Lib.hid (fun wx => path_w (n % 4) wx (by omega))
  generalize tailL.getD (n / 4 % 5) [] = pe at *
  generalize n / 4 % 5 = r at *
  generalize n / 4 = q at *
  generalize pathS (n % 4) = pa at *
  generalize n % 4 = m at *
  have hsum : ¬ 9223372036854775807 < pa.length + pe.length := by omega
  have hnz : (n : Int) < 256 := by omega
  have hmz : (m : Int) < 4 := by omega
  have hm0 : (0 : Int) ≤ (m : Int) := by omega
  have hqz : (q : Int) < 64 := by omega
  have hq0 : (0 : Int) ≤ (q : Int) := by omega
  have hrz : (r : Int) < 5 := by omega
  have hr0 : (0 : Int) ≤ (r : Int) := by omega
  have ht4 : (n : Int).tmod 4 = (m : Int) := by rw [Int.tmod_eq_emod_of_nonneg (by omega)]; exact hz4
  have htd : (n : Int).tdiv 4 = (q : Int) := by rw [Int.tdiv_eq_ediv_of_nonneg (by omega)]; exact hzq
  have htr : (q : Int).tmod 5 = (r : Int) := by rw [Int.tmod_eq_emod_of_nonneg (by omega)]; exact hzr
  have hwm : IntKind.u8.wrap (m : Int) = (m : Int) := by simp [IntKind.wrap, IntKind.bits, IntKind.signed]; omega
  have hwq : IntKind.u8.wrap (q : Int) = (q : Int) := by simp [IntKind.wrap, IntKind.bits, IntKind.signed]; omega
  have hwr : IntKind.u8.wrap (r : Int) = (r : Int) := by simp [IntKind.wrap, IntKind.bits, IntKind.signed]; omega
  clear hn
  go_enter Try.func34, Try.ntmps34
  go_wp2_with fail
  go_region_held3 (fun wr => SB w wr) (first | with_reducible assumption | exact SB.alloc (by with_reducible assumption) _ | exact (SB.refl w).drew)
    (first
      | (go_at_call 36; (with_reducible refine (hk.out _).mono ?_); rintro e w2 ⟨rfl, hb2⟩; have hs2 : SB w w2 := SB.below (by with_reducible assumption) hb2; first | (have k1 := (hb2.cell (p := ⟨w.heap.size, r, none⟩) (by simp)).trans (hv w)) | skip))
  all_goals
    go_wp2_with fail
    go_ret
    refine ⟨by (rw [Hp.out, ← Str_add]; rfl), ?_⟩
    exact SB.g (by with_reducible assumption)

end Go.Proofs.Ythpajecigkfajaa
namespace Go.Proofs.Ythpajecigkfajaa
open Go.RowKit Go.Sort
set_option linter.unusedVariables false

def minB (a b : Bs) : Bs := if Op.bytesLess b a then b else a
def maxB (a b : Bs) : Bs := if Op.bytesLess a b then b else a
theorem run_min {P : Program} (w : World) (ts : Array TypeId) (t : TypeId) (x y : Bs) : (Builtin.min_ ts t #[.string (Str x), .string (Str y)]).run P w = .ok (.string (Str (minB x y))) w := by
  cases h : Op.bytesLess y x with
  | true =>
    have h2 := less_asymm h
    have h3 : (x == y) = false := by rw [beq_eq_false_iff_ne]; exact (less_ne h).symm
    simp [Builtin.min_, Builtin.min2, Op.stringOp, asBool, minB, toList_Str, h, h2, h3]
  | false =>
    by_cases h5 : x = y
    · subst h5
      simp [Builtin.min_, Builtin.min2, Op.stringOp, asBool, minB, toList_Str, h]
    · have h2 : Op.bytesLess x y = true := by
        rcases ne_less h5 with h6 | h6
        · exact h6
        · rw [h] at h6; cases h6
      simp [Builtin.min_, Builtin.min2, Op.stringOp, asBool, minB, toList_Str, h, h2]
theorem run_max {P : Program} (w : World) (ts : Array TypeId) (t : TypeId) (x y : Bs) : (Builtin.max_ ts t #[.string (Str x), .string (Str y)]).run P w = .ok (.string (Str (maxB x y))) w := by
  cases h : Op.bytesLess x y <;> simp [Builtin.max_, Builtin.max2, Op.stringOp, asBool, maxB, toList_Str, h]
attribute [go_sem high] run_min run_max

/-- The span, the end of a move, that six bytes describe. -/
def spanR (b d e : Nat) : Sp :=
  if e % 4 = 0 then preS (pathS b) else if e % 16 = 1 then (keyS b, []) else if e % 16 = 5 then ([], []) else if keyS b = keyS d then oneS (keyS b) else (minB (keyS b) (keyS d), maxB (keyS b) (keyS d))
def otherR (f t : Bs) : Bs := if t.isPrefixOf f || f.isPrefixOf t then (if f = [100, 47] then [99, 47] else [100, 47]) else t
def toR (b d : Nat) : Bs := otherR (pathS b) (pathS d)
def madeM (a b c d e f : Nat) : Ms :=
  if a % 6 = 0 then ⟨1, keyS b, valS c, [], [], [], [], (f % 8 : Nat)⟩
  else if a % 6 = 1 then ⟨2, keyS b, [], [], [], [], [], 0⟩
  else if a % 6 = 2 then ⟨3, [], [], (spanR b d e).1, (spanR b d e).2, [], [], 0⟩
  else if a % 6 = 3 then ⟨4, [], [], [], [], pathS b, toR b d, 0⟩
  else if a % 6 = 4 then ⟨5, [], [], [], [], pathS b, toR b d, 0⟩
  else ⟨6, [], [], (spanR b d e).1, (spanR b d e).2, [], [], (f % 8 : Nat)⟩

theorem path_pos (n : Nat) : 1 ≤ (pathS n).length := by
  have h : ∀ m < 5, 1 ≤ (pathL.getD m []).length := by decide
  exact h _ (Nat.mod_lt _ (by omega))
theorem key_pos (n : Nat) : 1 ≤ (keyS n).length := by
  unfold keyS
  have := path_pos (n % 4)
  rw [List.length_append]; omega
theorem to_apart (b d : Nat) : apartB (pathS b) (toR b d) = true := by
  have h : ∀ m < 5, ∀ n < 5, apartB (pathL.getD m []) (otherR (pathL.getD m []) (pathL.getD n [])) = true := by decide +kernel
  exact h _ (Nat.mod_lt _ (by omega)) _ (Nat.mod_lt _ (by omega))
theorem to_len (b d : Nat) : (toR b d).length ≤ 4 := by
  have h : ∀ m < 5, ∀ n < 5, (otherR (pathL.getD m []) (pathL.getD n [])).length ≤ 4 := by decide +kernel
  exact h _ (Nat.mod_lt _ (by omega)) _ (Nat.mod_lt _ (by omega))
theorem preT_len (b : Nat) : (preT (pathS b)).length ≤ 4 := by
  have h : ∀ m < 5, (preT (pathL.getD m [])).length ≤ 4 := by decide +kernel
  exact h _ (Nat.mod_lt _ (by omega))
theorem span_small (b d e : Nat) : (spanR b d e).1.length ≤ 8 ∧ (spanR b d e).2.length ≤ 8 := by
  have k1 := key_len b
  have k2 := key_len d
  have p1 := path_len b
  have p2 := preT_len b
  unfold spanR
  split
  · exact ⟨by show (pathS b).length ≤ 8; omega, by show (preT (pathS b)).length ≤ 8; omega⟩
  split
  · exact ⟨by show (keyS b).length ≤ 8; omega, by simp⟩
  split
  · simp
  split
  · refine ⟨by show (keyS b).length ≤ 8; omega, ?_⟩
    show (keyS b ++ [0]).length ≤ 8
    rw [List.length_append]; simp; omega
  · constructor
    · show (minB _ _).length ≤ 8
      unfold minB; split <;> omega
    · show (maxB _ _).length ≤ 8
      unfold maxB; split <;> omega
theorem span_filled (b d e : Nat) : emptyB (spanR b d e) = false := by
  unfold spanR
  split
  · exact prefix_nonempty _
  split
  · exact (emptyB_no _).2 (keyP_top _)
  split
  · exact (emptyB_no _).2 (keyP_top _)
  split
  · exact one_nonempty _
  · rename_i h
    have hlt : Op.bytesLess (minB (keyS b) (keyS d)) (maxB (keyS b) (keyS d)) = true := by
      unfold minB maxB
      rcases ne_less h with h1 | h1
      · rw [h1, less_asymm h1]; simpa using h1
      · rw [h1, less_asymm h1]; simpa using h1
    rw [emptyB_no]
    have hne : maxB (keyS b) (keyS d) ≠ [] := by
      intro e; rw [e, less_nil] at hlt; cases hlt
    show _ < hiP (maxB (keyS b) (keyS d))
    rw [hiP_ne hne]
    exact hlt
theorem made_valid (a b c d e f : Nat) : validM (madeM a b c d e f) = true := by
  have hk : keyB (keyS b) = true := keyB_yes (key_pos b) (by have := key_len b; omega)
  have hv : decide ((valS c).length ≤ 64) = true := by have := val_len c; simp; omega
  have hn : stampB ((f % 8 : Nat) : Int) = true := by unfold stampB; simp; omega
  have hs : spanB (spanR b d e).1 (spanR b d e).2 = true := by
    unfold spanB
    have := span_small b d e
    rw [show emptyB ((spanR b d e).1, (spanR b d e).2) = false from span_filled b d e]
    simp; omega
  have ha := to_apart b d
  unfold madeM validM
  split
  · simp only [fitsB, if_true, hk, hv, hn, bareM, zeroM]; rfl
  split
  · simp only [fitsB, hk, bareM, zeroM]; rfl
  split
  · simp only [fitsB, hs, bareM, zeroM]; rfl
  split
  · simp only [fitsB, ha, bareM, zeroM]; rfl
  split
  · simp only [fitsB, ha, bareM, zeroM]; rfl
  · simp only [fitsB, hs, hn, bareM, zeroM]; rfl
theorem made_size (a b c d e f : Nat) : SizeM (madeM a b c d e f) := by
  have k1 := key_len b
  have v1 := val_len c
  have s1 := span_small b d e
  have p1 := path_len b
  have t1 := to_len b d
  unfold SizeM madeM
  split
  · simp; omega
  split
  · simp; omega
  split
  · simp; omega
  split
  · simp; omega
  split
  · simp; omega
  · simp; omega

end Go.Proofs.Ythpajecigkfajaa
