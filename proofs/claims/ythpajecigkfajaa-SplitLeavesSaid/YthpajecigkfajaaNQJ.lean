/-
  Walks: lists of spans that meet, messages that disturb each other, Free. Walks: the reference's choice of a list of messages, an opener of a slice of raw ones, what messages read, write and kill, what touches, what is free.
-/
import Derived.Test.YthpajecigkfajaaMFG
import Derived.Test.YthpajecigkfajaaNDX
import Derived.Test.YthpajecigkfajaaMDH
import Derived.Test.YthpajecigkfajaaKB
import Derived.Test.YthpajecigkfajaaMRR
namespace Go.Proofs.Ythpajecigkfajaa
open Go.RowKit Go.Sort
set_option linter.unusedVariables false

def touch1 (s : Sp) (m : List Sp) : Bool := m.any fun o => !emptyB (meetS s o)
theorem touchB_eq (l m : List Sp) : touchB l m = l.any fun s => touch1 s m := rfl
theorem any_take {α : Type} (f : α → Bool) (l : List α) (k : Nat) (h : k < l.length) : (l.take (k + 1)).any f = ((l.take k).any f || f l[k]) := by
  rw [List.take_add_one, List.getElem?_eq_getElem h, List.any_append]; simp
theorem any_hit {α : Type} (f : α → Bool) (l : List α) (k : Nat) (h : k < l.length) (hh : f l[k] = true) : l.any f = true := by
  rw [List.any_eq_true]; exact ⟨l[k], List.getElem_mem h, hh⟩

theorem isSpans_grown {w w' : World} {v : Value} {l : List Sp} (h : IsSpans w v l) (hg : Grown w w') : IsSpans w' v l := h.below (hg.below (Nat.le_refl _))
end Go.Proofs.Ythpajecigkfajaa
namespace Go.Proofs.Ythpajecigkfajaa
open Go.RowKit Go.Sort
set_option linter.unusedVariables false

def encML (m : Ms) : List Value := [.int .i64 m.kind, .string (Str m.key), .string (Str m.val), .string (Str m.lo), .string (Str m.hi), .string (Str m.src), .string (Str m.dst), .int .i64 m.n]
theorem flatM_len (l : List Ms) : (l.flatMap encML).length = l.length * 8 := by
  induction l with
  | nil => rfl
  | cons s l ih => rw [List.flatMap_cons, List.length_append, ih]; simp [encML]; omega
theorem flatM_get (l : List Ms) (i j : Nat) (h : i < l.length) (hj : j < 8) : (l.flatMap encML)[i * 8 + j]? = (encML l[i])[j]? := by
  induction l generalizing i with
  | nil => simp at h
  | cons s l ih =>
    rw [List.flatMap_cons]
    cases i with
    | zero =>
      rw [List.getElem?_append_left (by simp [encML]; omega)]
      simp
    | succ i =>
      rw [List.getElem?_append_right (by simp [encML]; omega)]
      have := ih i (by simpa using h)
      rw [show (i + 1) * 8 + j - (encML s).length = i * 8 + j by simp [encML]; omega]
      simpa using this
theorem flatM_one (l : List Ms) : ∀ u ∈ l.flatMap encML, u.oneCell' = true := by
  intro u hu
  obtain ⟨x, _, hx⟩ := List.mem_flatMap.1 hu
  simp [encML] at hx
  rcases hx with rfl | rfl | rfl | rfl | rfl | rfl | rfl | rfl <;> rfl
theorem infoM : (Try.prog.info? 59).map (fun i => (i.zero, i.size, i.bytes)) = some (some (.agg #[.int .i64 0, .string ⟨#[]⟩, .string ⟨#[]⟩, .string ⟨#[]⟩, .string ⟨#[]⟩, .string ⟨#[]⟩, .string ⟨#[]⟩, .int .i64 0]), 8, 112) := by kernel_rfl
def OwnM (w : World) (B : Nat) (v : Value) (l : List Ms) : Prop := w.ownsRow B 59 8 v l.length (l.flatMap encML)
theorem OwnM.msgs {w : World} {B : Nat} {v : Value} {l : List Ms} (h : OwnM w B v l) : IsMsgs w v l := by
  unfold OwnM at h
  rcases h.2 with ⟨rfl, h0⟩ | ⟨g, cap, cur, rfl, hb, hg, hn, hm, hsz, htk⟩
  · have : l = [] := List.length_eq_zero_iff.1 h0
    subst this
    exact ⟨none, 0, rfl, Nat.le_refl _, by unfold maxLen; omega, fun h => absurd rfl h⟩
  · refine ⟨_, cap, rfl, hn, hm, fun hne => ⟨g, 0, rfl, (Array.getElem?_eq_some_iff.1 hg).1, fun i hi => ?_⟩⟩
    have hc : ∀ j, j < 8 → w.cell? ⟨g, 0 + i * 8 + j, none⟩ = (encML l[i])[j]? := by
      intro j hj
      unfold World.cell?
      rw [hg]
      show cur[0 + i * 8 + j]? = _
      have h1 : (cur.toList.take (l.length * 8))[i * 8 + j]? = (encML l[i])[j]? := by rw [htk]; exact flatM_get l i j hi hj
      rw [List.getElem?_take, if_pos (by omega), Array.getElem?_toList] at h1
      rw [Nat.zero_add]; exact h1
    exact ⟨hc 0 (by omega), hc 1 (by omega), hc 2 (by omega), hc 3 (by omega), hc 4 (by omega), hc 5 (by omega), hc 6 (by omega), hc 7 (by omega)⟩
theorem OwnM.below {w w' : World} {B : Nat} {v : Value} {l : List Ms} (h : OwnM w B v l) (hb : Below w.heap.size w w') : OwnM w' B v l := owns_below h hb
theorem own_emptyM (W : World) (B : Nat) (hB : B ≤ W.heap.size) : OwnM (W.alloc (.cells #[] 59)) B (.slice (some ⟨W.heap.size, 0, none⟩) 0 0) [] :=
  ⟨rfl, .inr ⟨W.heap.size, 0, #[], rfl, hB, Blk.new _ _ _, Nat.le_refl _, by unfold maxLen; omega, rfl, rfl⟩⟩
/-- One message more. -/
theorem append_msg {w : World} {ops : Array Oper} {rest : List Oper} {o : Oper} {a : Act} {Q : Exit → Act → World → Prop} (hgd : o.guard = none) (s x : Operand)
    (ho : o.op = .call { callee := .builtin .append, args := #[s, x], argTypes := #[36, 36] }) (base : Nat) (v : Value) (l : List Ms) (hs : a.eval s = v) (hown : OwnM w base v l)
    (ad : Addr) (c : Nat) (m : Ms) (hx : a.eval x = .slice (some ad) 1 c) (hc : ∀ j u, (encML m)[j]? = some u → w.cell? (ad.add j) = some u) (hl : l.length ≤ 1000000000) (hbase : base ≤ w.heap.size)
    (h : ∀ v' w', OwnM w' base v' (l ++ [m]) → Below base w w' → wpList Try.prog ops Q rest (a.put o.dst v') w') : wpList Try.prog ops Q (o :: rest) a w := by
  obtain ⟨i0, hi, hz0, hz1, hz2⟩ := info_parts infoM
  refine wpList_append_own _ hgd s x 36 ho base 59 i0 (.agg #[.int .i64 0, .string ⟨#[]⟩, .string ⟨#[]⟩, .string ⟨#[]⟩, .string ⟨#[]⟩, .string ⟨#[]⟩, .string ⟨#[]⟩, .int .i64 0]) 8 112 Try.underlying36 hi hz0 hz1 hz2 rfl (by decide) v l.length _ hs hown ad 1 c (encML m) hx rfl hc (by simpa using flatM_one [m]) (by unfold maxLen; omega) (by omega) hbase ?_
  intro v' w' h2 h3 _
  refine h v' w' ?_ (Below.grown (Below.refl _ _) h3 hbase (fun q hq => (hown.lt q hq).1))
  unfold OwnM
  rw [List.length_append, List.flatMap_append]; simpa using h2

/-- A slice of raw messages. -/
def IsR6s (w : World) (v : Value) (l : List R6) : Prop :=
  ∃ a cap, v = .slice a l.length cap ∧ l.length ≤ cap ∧ cap ≤ maxLen ∧ (∀ x ∈ l, SmallX x) ∧ (l ≠ [] → ∃ b off, a = some ⟨b, off, none⟩ ∧ b < w.heap.size ∧
    ∀ i (h : i < l.length) j u, (rawA l[i])[j]? = some u → w.cell? ⟨b, off + i * 6 + j, none⟩ = some u)
theorem IsR6s.below {w w' : World} {v : Value} {l : List R6} (h : IsR6s w v l) (hb : Below w.heap.size w w') : IsR6s w' v l := by
  obtain ⟨a, cap, h1, h2, h3, h5, h4⟩ := h
  refine ⟨a, cap, h1, h2, h3, h5, fun hl => ?_⟩
  obtain ⟨b, off, e, hlt, hc⟩ := h4 hl
  exact ⟨b, off, e, Nat.lt_of_lt_of_le hlt hb.size, fun i hi j u hu => by rw [hb.cell (by exact hlt)]; exact hc i hi j u hu⟩
theorem IsR6s.form {w : World} {v : Value} {l : List R6} (h : IsR6s w v l) : ∃ b off cap a, v = .slice a l.length cap ∧ l.length ≤ cap ∧ cap ≤ maxLen ∧ (∀ x ∈ l, SmallX x) ∧ (l ≠ [] → a = some ⟨b, off, none⟩ ∧ b < w.heap.size) ∧
    ∀ i (h : i < l.length), a = some ⟨b, off, none⟩ ∧ ∀ j u, (rawA l[i])[j]? = some u → w.cell? ⟨b, off + i * 6 + j, none⟩ = some u := by
  obtain ⟨a, cap, h1, h2, h3, h5, h4⟩ := h
  by_cases hl : l = []
  · subst hl; exact ⟨0, 0, cap, a, h1, h2, h3, h5, fun h => absurd rfl h, fun i hi => absurd hi (by simp)⟩
  · obtain ⟨b, off, e, hlt, hc⟩ := h4 hl
    exact ⟨b, off, cap, a, h1, h2, h3, h5, fun _ => ⟨e, hlt⟩, fun i hi => ⟨e, hc i hi⟩⟩
/-- The list that is described. -/
def listS (l : List R6) (n : Nat) : List Ms := (l.take n).map madeX
theorem list_take (l : List R6) (j : Nat) (h : j < l.length) : (l.take (j + 1)).map madeX = (l.take j).map madeX ++ [madeX l[j]] := by
  rw [List.take_add_one, List.getElem?_eq_getElem h, List.map_append]; rfl

set_option maxRecDepth 100000 in
set_option maxHeartbeats 4000000 in
theorem list_w (v : Value) (l : List R6) (n : Nat) (w : World) (h : IsR6s w v l) (hn : n ≤ 100) : Calls Try.prog 23 #[v, .int .i64 n] w fun e w' => ∃ v', e = .returned v' ∧ OwnM w' w.heap.size v' (listS l n) ∧ Below w.heap.size w w' := by
  obtain ⟨b, off, cap, p, rfl, hlc, hcm, hsm, hpp, hcc⟩ := h.form
  unfold maxLen at hcm
  have HP := Lib.hid hpp
  have HC := Lib.hid hcc
  have Hls := Lib.hid hsm
  have HT : Hid ((l.take n).map madeX = listS l n) := Lib.hid rfl
  clear h hpp hcc hsm
  go_enter Try.func23, Try.ntmps23
  go_wp2
  go_loopw [5, 6] (fun o i wr => ∃ j : Nat, j ≤ l.length ∧ j ≤ n ∧ i = .int .i64 j ∧ OwnM wr w.heap.size o ((l.take j).map madeX) ∧ Below w.heap.size w wr) (fun _ i _ => l.length - (intOf i).toNat)
  case atStart => exact ⟨0, Nat.zero_le _, Nat.zero_le _, rfl, own_emptyM w w.heap.size (Nat.le_refl _), below_box _⟩
  case round =>
    obtain ⟨j, hj, hj4, rfl, hown, hbel⟩ := hrel
    have hsz := hbel.size
    have Hown := Lib.hid hown
    have Hbel := Lib.hid hbel
    clear hown
    by_cases hlt : j < l.length ∧ j < n
    · obtain ⟨hlt, hlt4⟩ := hlt
      obtain ⟨rfl, hc⟩ := HC.out j hlt
      have hgl := (HP.out (by rintro rfl; simp at hlt)).2
      have hltz : (j : Int) < (l.length : Int) := by omega
      have hlt4z : (j : Int) < n := by omega
      have hxs := Hls.out l[j] (List.getElem_mem hlt)
      have Htk := Lib.hid (list_take l j hlt)
      have hlen : ((l.take j).map madeX).length ≤ 100 := by rw [List.length_map, List.length_take]; omega
      generalize l[j] = x at *
      obtain ⟨a1, a2, a3, a4, a5, a6⟩ := x
      have c0 := (hbel.cell (p := ⟨b, off + j * 6, none⟩) hgl).trans (hc 0 (.int .u8 a1) rfl)
      have c1 := (hbel.cell (p := ⟨b, off + j * 6 + 1, none⟩) hgl).trans (hc 1 (.int .u8 a2) rfl)
      have c2 := (hbel.cell (p := ⟨b, off + j * 6 + 2, none⟩) hgl).trans (hc 2 (.int .u8 a3) rfl)
      have c3 := (hbel.cell (p := ⟨b, off + j * 6 + 3, none⟩) hgl).trans (hc 3 (.int .u8 a4) rfl)
      have c4 := (hbel.cell (p := ⟨b, off + j * 6 + 4, none⟩) hgl).trans (hc 4 (.int .u8 a5) rfl)
      have c5 := (hbel.cell (p := ⟨b, off + j * 6 + 5, none⟩) hgl).trans (hc 5 (.int .u8 a6) rfl)
      have Hmd : Hid (∀ wx, Calls Try.prog 28 #[.agg #[.int .u8 a1, .int .u8 a2, .int .u8 a3, .int .u8 a4, .int .u8 a5, .int .u8 a6]] wx fun e' w' => e' = .returned (msgV (madeX (a1, a2, a3, a4, a5, a6))) ∧ Below wx.heap.size wx w') := Lib.hid (fun wx => made_w a1 a2 a3 a4 a5 a6 wx hxs)
      clear hbel hc hxs
      generalize (l.take j).map madeX = left at *
      generalize madeX (a1, a2, a3, a4, a5, a6) = m at *
      go_wp2_with fail
      refine (Hmd.out _).mono ?_
      rintro e2 w2 ⟨rfl, hb2⟩
      have Hown2 := Lib.hid (Hown.out.below hb2)
      have Hb2 : Hid (Below w.heap.size w w2) := Lib.hid (Hbel.out.trans (hb2.mono hsz))
      clear hb2 c0 c1 c2 c3 c4 c5
      go_wp2_with (at_builtin; refine append_msg rfl _ _ rfl w.heap.size _ left rfl (Hown2.out.below (below_box _)) ⟨w2.heap.size, 0, none⟩ 1 m rfl (cells_new' w2 (encML m) 59 rfl) (by omega) (Nat.le_trans Hb2.out.size (by simp)) ?_; intro v3 w3 hown3 hb3)
      have Hown3 : Hid (OwnM w3 w.heap.size v3 ((l.take (j + 1)).map madeX)) := Lib.hid (by rw [Htk.out]; exact hown3)
      have Hb3 : Hid (Below w.heap.size w w3) := Lib.hid ((Hb2.out.alloc Hb2.out.size _).trans hb3)
      clear hown3 hb3
      go_wp2
      go_roundw
      case rel => exact ⟨j + 1, by omega, by omega, by go_num, Hown3.out, Hb3.out⟩
      case measure => simp [intOf]; omega
    · have hmd : Hid ((l.take j).map madeX = listS l n) := Lib.hid (by
        rw [← HT.out]
        by_cases h4 : j = n
        · rw [h4]
        · have : j = l.length := by omega
          rw [List.take_of_length_le (by omega), List.take_of_length_le (by omega)])
      rw [hmd.out] at Hown
      clear hbel
      by_cases h1 : j < l.length
      · have h40 : (n : Int) ≤ (j : Int) := by omega
        have hltz : (j : Int) < (l.length : Int) := by omega
        clear hlt
        go_wp2
        go_ret
        exact ⟨_, rfl, Hown.out, Hbel.out⟩
      · have hltz : (l.length : Int) ≤ (j : Int) := by omega
        clear hlt
        go_wp2
        go_ret
        exact ⟨_, rfl, Hown.out, Hbel.out⟩

end Go.Proofs.Ythpajecigkfajaa

namespace Go.Proofs.Ythpajecigkfajaa
open Go.ChangeShapes Go.WideShapes Go.ChangeAt Go.RowKit Go.Deep
open Go.ChangeMaps (open_string shut_string)
set_option linter.unusedVariables false
set_option maxRecDepth 100000

section
variable {H : Type} {enc : TypeId × Value → H} {W : World} {base : Nat} {r : Reach} {v : Value} {d : DataW H} {p : List MemPlace}

theorem rows_six {a : Addr} : ∀ n : Nat, (∀ i, i < n → ∃ x : R6, (∀ j u, (rawA x)[j]? = some u → W.cell? (a.add (i * 6 + j)) = some u) ∧ SmallX x) →
    ∃ l : List R6, l.length = n ∧ (∀ x ∈ l, SmallX x) ∧ ∀ i (h : i < l.length) j u, (rawA l[i])[j]? = some u → W.cell? (a.add (i * 6 + j)) = some u
  | 0, _ => ⟨[], rfl, fun x hx => by simp at hx, fun i h => absurd h (by simp)⟩
  | n + 1, h => by
    obtain ⟨l, hl, hs, hc⟩ := rows_six n (fun i hi => h i (by omega))
    obtain ⟨x, h1, h2⟩ := h n (by omega)
    refine ⟨l ++ [x], by simp [hl], fun z hz => ?_, fun i hi => ?_⟩
    · rcases List.mem_append.1 hz with hz | hz
      · exact hs z hz
      · simp at hz; subst hz; exact h2
    · by_cases hin : i < l.length
      · rw [List.getElem_append_left hin]; exact hc i hin
      · have : i = n := by simp at hi; omega
        subst this
        rw [List.getElem_append_right (by omega)]
        simp only [hl, Nat.sub_self, List.getElem_cons_zero]
        exact h1
theorem cells_r6s {fuel : Nat} {c : Value} {y : DataW H × List MemPlace} (hf' : DataW.trod enc Try.prog W 0 (fun _ => true) true fuel 49 [c] = some y) : ∃ l, IsR6s W c l := by
  rcases open_slice Try.underlying49 hf' with ⟨hcs, _⟩ | ⟨x, len', cap', m, n, D, Pl, hcs, _, hl, hm, hmm, _, hi⟩
  · simp only [List.cons.injEq, and_true] at hcs
    rw [hcs]
    exact ⟨[], none, 0, rfl, Nat.le_refl _, by unfold maxLen; omega, fun x hx => by simp at hx, fun h => absurd rfl h⟩
  · simp only [List.cons.injEq, and_true] at hcs
    rw [hcs]
    simp only [↓reduceIte] at hmm
    have e6 : Try.prog.cellsOf 81 = 6 := by kernel_rfl
    have hrow : ∀ i, i < len' → ∃ x' : R6, (∀ j u, (rawA x')[j]? = some u → W.cell? (x.add (i * 6 + j)) = some u) ∧ SmallX x' := by
      intro i hil
      obtain ⟨cs', hc, ht⟩ := hi i (by omega)
      rw [e6] at hc
      obtain ⟨_, hlen, hcell⟩ := World.cells?_some hc
      obtain ⟨q, rfl, hs⟩ := elem_six ht hlen
      refine ⟨q, fun j u hu => ?_, hs⟩
      have hj : j < 6 := by
        have := (Array.getElem?_eq_some_iff.1 hu).1
        simpa [rawA, raw6] using this
      have h0 := hcell j (by simpa [rawA, raw6] using hj)
      rw [Go.Deep.add_add] at h0
      rw [h0, ← hu]
      simp [rawA, raw6, hj]
    obtain ⟨l, hll, hs, hc⟩ := rows_six len' hrow
    refine ⟨l, some x, cap', by rw [hll], by omega, hm, hs, fun hne => ?_⟩
    have h0 : 0 < l.length := List.length_pos_iff.2 hne
    obtain ⟨b, off, spot⟩ := x
    have hc0 := hc 0 h0 0 _ rfl
    have hspot : spot = none := by simpa [Addr.add] using World.cell?_spot hc0
    subst hspot
    have hadd : ∀ i, (⟨b, off, none⟩ : Addr).add i = ⟨b, off + i, none⟩ := by intro i; unfold Addr.add; split <;> simp_all
    rw [hadd] at hc0
    refine ⟨b, off, rfl, cell_lt hc0, fun i hi j u hu => ?_⟩
    have hci := hc i hi j u hu
    rw [hadd, ← Nat.add_assoc] at hci
    exact hci
theorem open_r6s (hval : Value.okWide Try.prog W r base 49 v) (hd : DataW.Trod enc Try.prog W 0 (fun _ => true) true 49 v d p) : ∃ l, IsR6s W v l := by
  obtain ⟨a, len, cap, rfl⟩ := okWide_slice Try.underlying49 hval
  obtain ⟨fuel, hf⟩ := hd
  exact cells_r6s (c := .slice a len cap) (by simpa [Value.cells] using hf)
end

end Go.Proofs.Ythpajecigkfajaa

namespace Go.Proofs.Ythpajecigkfajaa
open Go.RowKit Go.Sort
set_option linter.unusedVariables false

theorem nil_spans (w : World) (p : Option Addr) : IsSpans w (.slice p 0 0) [] := ⟨p, 0, rfl, Nat.zero_le _, by unfold maxLen; omega, fun h => absurd rfl h⟩
/-- The kinds that there are. -/
def OneToSix (m : Ms) : Prop := 1 ≤ m.kind ∧ m.kind ≤ 6
theorem OneToSix.cases {m : Ms} (h : OneToSix m) : m.kind = 1 ∨ m.kind = 2 ∨ m.kind = 3 ∨ m.kind = 4 ∨ m.kind = 5 ∨ m.kind = 6 := by
  unfold OneToSix at h; omega

end Go.Proofs.Ythpajecigkfajaa

namespace Go.Proofs.Ythpajecigkfajaa
open Go.RowKit Go.Sort
set_option linter.unusedVariables false

theorem touch_comm (a b : List Sp) : touchB a b = touchB b a := by
  rw [Bool.eq_iff_iff]
  unfold touchB
  simp only [List.any_eq_true]
  constructor
  · rintro ⟨s, hs, o, ho, h⟩; exact ⟨o, ho, s, hs, by rw [meet_comm]; exact h⟩
  · rintro ⟨s, hs, o, ho, h⟩; exact ⟨o, ho, s, hs, by rw [meet_comm]; exact h⟩
theorem free_parts (m o : Ms) : freeB m o = (!touchB (writesS m) (writesS o) && !touchB (writesS m) (readsS o) && !touchB (writesS o) (readsS m)) := by
  unfold freeB distB
  rw [touch_comm (writesS o) (writesS m)]
  cases touchB (writesS m) (writesS o) <;> cases touchB (writesS m) (readsS o) <;> cases touchB (writesS o) (readsS m) <;> rfl

end Go.Proofs.Ythpajecigkfajaa
