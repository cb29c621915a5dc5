/-
  Walks: One, Moved and Prefix of package span. Walks: lists of pairs as slices, as rows of the call's own; appending to them. Walks: places, borders, clones and joined lists of package table. Walks: clones and joined lists of pairs. Walks: joined lists of pairs. Walks: Range, Drop, Del, Put of package table. Walks: Find and Union of package table. Walks: Moved and Valid of package table.
-/
import Derived.Test.YtmbfghbhajmpiaaGreatZW1
import Derived.Test.YtmbfghbhajmpiaaGreatPL
import Derived.OwnWalk
import Derived.Laws.AppendOwnNone
import Derived.Laws.OwnMore
import Derived.Test.YtmbfghbhajmpiaaGreatSh3
import Derived.Deep.LoopGhost
import Derived.StillTailTactics
import Derived.WalkMore
namespace Go.Proofs.YtmbfghbhajmpiaaGreat
open Go.RowKit Go.Sort
set_option linter.unusedVariables false

set_option maxHeartbeats 1000000 in
theorem one_w (k : Bs) (w : World) (hk : k.length ≤ 140737488355328) : Calls Tryz.prog 300 #[.string (Str k)] w fun e w' => e = .returned (.agg #[.string (Str k), .string (Str (k ++ [0]))]) ∧ Grown w w' := by
  go_enter Tryz.func300, Tryz.ntmps300
  go_wp2
  refine bodyPost_ret (v := .agg #[.string (Str k), .string (Str (k ++ [0]))]) (by simp [results, Tryz.results300, go_sem]; exact Str_add k [0]) rfl ⟨rfl, ?_⟩
  repeat (first | exact Grown.refl _ | refine Grown.setCell ?_ _ _ _ (by simp) | refine Grown.alloc ?_ _)

theorem conv_u8s {n c : Nat} (W : World) (T : TypeId) (xs : List Int) (h : n = W.heap.size) :
    (convert 23 9 (.slice (some ⟨n, 0, none⟩) xs.length c)).run Tryz.prog (W.alloc (.cells (xs.map (Value.int .u8)).toArray T)) =
      .ok (.string (Str (xs.map fun x => UInt8.ofNat x.toNat))) (W.alloc (.cells (xs.map (Value.int .u8)).toArray T)) := by
  subst h
  rw [run_convert_bytes_arg (P := Tryz.prog) _ 23 5 Tryz.underlying23 Tryz.underlying5 W.heap.size 0 xs.length c xs rfl (fun i hi => by
    rw [Nat.zero_add, World.cell?_alloc_new]; simp [hi]) 9 Tryz.underlying9]
  rfl
theorem conv1 {n c : Nat} (W : World) (T : TypeId) (a : Int) (h : n = W.heap.size) :
    (convert 23 9 (.slice (some ⟨n, 0, none⟩) 1 c)).run Tryz.prog (W.alloc (.cells #[.int .u8 a] T)) =
      .ok (.string (Str [UInt8.ofNat a.toNat])) (W.alloc (.cells #[.int .u8 a] T)) := conv_u8s W T [a] h
theorem conv1d {n c : Nat} (W : World) (T : TypeId) (a : Int) (h : n = W.heap.size) :
    (convert 23 9 (.slice (some ⟨n, 0, none⟩) 1 c)).run Tryz.prog ((W.alloc (.cells #[.int .u8 a] T)).drew) =
      .ok (.string (Str [UInt8.ofNat a.toNat])) ((W.alloc (.cells #[.int .u8 a] T)).drew) := conv1 W.drew T a h
attribute [go_sem] conv1 conv1d

theorem drop_full (p : Bs) (i : Nat) (hi : i < p.length) (h : p.drop (i + 1) = List.replicate (p.length - (i + 1)) 255) (hc : p[i] = 255) : p.drop i = List.replicate (p.length - i) 255 := by
  rw [List.drop_eq_getElem_cons hi, h, hc, ← List.replicate_succ]; congr 1; omega
theorem preT_at (p : Bs) (i : Nat) (hi : i < p.length) (h : p.drop (i + 1) = List.replicate (p.length - (i + 1)) 255) (hc : ¬ p[i] = 255) : preT p = p.take i ++ [p[i] + 1] := by
  have : p = p.take i ++ p[i] :: List.replicate (p.length - (i + 1)) 255 := by
    rw [← h, ← List.drop_eq_getElem_cons hi, List.take_append_drop]
  unfold preT
  have h2 := preH_app (p.take i) p[i] (p.length - (i + 1)) hc
  rw [← this] at h2
  rw [h2]; rfl
theorem preT_full (p : Bs) (h : p.drop 0 = List.replicate (p.length - 0) 255) : preT p = [] := by
  unfold preT
  rw [List.drop_zero] at h
  rw [h, preH_full]; rfl
theorem u8_inc (c : UInt8) (h : ¬ c = 255) : UInt8.ofNat (((c.toNat : Int) + 1).toNat) = c + 1 := by
  have h0 : c.toNat ≠ 255 := fun h' => h (UInt8.toNat_inj.1 (by rw [h']; rfl))
  have h1 := c.toNat_lt
  apply UInt8.toNat_inj.1
  rw [UInt8.toNat_ofNat', UInt8.toNat_add]
  have : ((c.toNat : Int) + 1).toNat = c.toNat + 1 := by omega
  rw [this]; rfl

set_option maxRecDepth 100000 in
set_option maxHeartbeats 2000000 in
theorem prefix_w (p : Bs) (w : World) (hp : p.length ≤ 140737488355328) : Calls Tryz.prog 328 #[.string (Str p)] w fun e w' => e = .returned (.agg #[.string (Str p), .string (Str (preT p))]) ∧ Grown w w' := by
  have hsz := size_Str p
  go_enter Tryz.func328, Tryz.ntmps328
  go_wp2
  go_loop [3] (fun i => ∃ k : Nat, k ≤ p.length ∧ i = .int .i64 ((k : Int) - 1) ∧ Hid (p.drop k = List.replicate (p.length - k) 255)) (fun i => (intOf i + 1).toNat)
  case atStart => exact ⟨p.length, Nat.le_refl _, by first | rfl | go_num, Lib.hid (by simp)⟩
  case round =>
    obtain ⟨k, hk, rfl, HD⟩ := hrel
    by_cases hk0 : k = 0
    · subst hk0
      have H := Lib.hid (preT_full p HD.out)
      go_wp2
      refine bodyPost_ret (v := .agg #[.string (Str p), .string (Str [])]) (by simp [results, Tryz.results328, go_sem]; try rfl) rfl ⟨by rw [H.out], ?_⟩
      repeat (first | exact Grown.refl _ | refine Grown.setCell ?_ _ _ _ (by simp) | refine Grown.alloc ?_ _)
    · obtain ⟨j, rfl⟩ : ∃ j, k = j + 1 := ⟨k - 1, by omega⟩
      have hj : j < p.length := by omega
      by_cases hc : p[j] = 255
      · have HD' := Lib.hid (drop_full p j hj HD.out hc)
        have hcn : (p[j].toNat : Int) = 255 := by rw [hc]; rfl
        have hcb : ((p[j].toNat : Int) == 255) = true := by rw [hcn]; rfl
        clear hc hcn
        go_wp2
        go_round
        case rel => exact ⟨j, by omega, by go_num, HD'⟩
        case measure => simp [intOf]
      · have H := Lib.hid (preT_at p j hj HD.out hc)
        have hcn : (p[j].toNat : Int) < 255 := by
          have h0 : p[j].toNat ≠ 255 := fun h' => hc (UInt8.toNat_inj.1 (by rw [h']; rfl))
          have h1 := p[j].toNat_lt
          omega
        have hcb : ((p[j].toNat : Int) == 255) = false := by simp; omega
        have Hi := Lib.hid (u8_inc p[j] hc)
        have hwr : IntKind.u8.wrap ((p[j].toNat : Int) + 1) = (p[j].toNat : Int) + 1 := by simp [IntKind.wrap, IntKind.bits, IntKind.signed]; omega
        clear hc
        go_wp2
        go_region
        all_goals go_wp2
        all_goals
          refine bodyPost_ret (v := .agg #[.string (Str p), .string (Str (p.take j ++ [p[j] + 1]))]) (by simp [results, Tryz.results328, go_sem, Str_add]) rfl ⟨by rw [H.out], ?_⟩
          repeat (first | exact Grown.refl _ | refine Grown.setCell ?_ _ _ _ (by simp) | refine Grown.alloc ?_ _ | refine Grown.draw ?_)

end Go.Proofs.YtmbfghbhajmpiaaGreat
namespace Go.Proofs.YtmbfghbhajmpiaaGreat
open Go.RowKit Go.Sort
set_option linter.unusedVariables false

theorem cell_lt {w : World} {b o : Nat} {v : Value} (h : w.cell? ⟨b, o, none⟩ = some v) : b < w.heap.size := by
  unfold World.cell? at h
  simp only at h
  cases hb : w.heap[b]? with
  | none => rw [hb] at h; cases h
  | some x => rw [Array.getElem?_eq_some_iff] at hb; exact hb.1
theorem Grown.blk {W W' : World} {b : Nat} {T : TypeId} {cs : Array Value} (hg : Grown W W') (h : Blk W b T cs) : Blk W' b T cs := Blk.below h (hg.below (B := W.heap.size) (Nat.le_refl _)) h.lt
@[reducible] def st4 (w : World) (b : Nat) (y0 y1 y2 y3 : Value) : World := (((w.setCell ⟨b, 0, none⟩ y0).setCell ⟨b, 1, none⟩ y1).setCell ⟨b, 2, none⟩ y2).setCell ⟨b, 3, none⟩ y3
/-- A slice of strings. -/
def IsStrs (w : World) (v : Value) (l : List Bs) : Prop :=
  ∃ a cap, v = .slice a l.length cap ∧ l.length ≤ cap ∧ cap ≤ maxLen ∧ (l ≠ [] → ∃ b off, a = some ⟨b, off, none⟩ ∧ b < w.heap.size ∧
    ∀ i (h : i < l.length), w.cell? ⟨b, off + i, none⟩ = some (.string (Str l[i])))
theorem IsStrs.below {w w' : World} {v : Value} {l : List Bs} (h : IsStrs w v l) (hb : Below w.heap.size w w') : IsStrs w' v l := by
  obtain ⟨a, cap, h1, h2, h3, h4⟩ := h
  refine ⟨a, cap, h1, h2, h3, fun hl => ?_⟩
  obtain ⟨b, off, e, hlt, hc⟩ := h4 hl
  exact ⟨b, off, e, Nat.lt_of_lt_of_le hlt hb.size, fun i hi => by rw [hb.cell (by exact hlt)]; exact hc i hi⟩
theorem IsStrs.form {w : World} {v : Value} {l : List Bs} (h : IsStrs w v l) : ∃ b off cap a, v = .slice a l.length cap ∧ l.length ≤ cap ∧ cap ≤ maxLen ∧ (l ≠ [] → a = some ⟨b, off, none⟩ ∧ b < w.heap.size) ∧
    ∀ i (h : i < l.length), a = some ⟨b, off, none⟩ ∧ w.cell? ⟨b, off + i, none⟩ = some (.string (Str l[i])) := by
  obtain ⟨a, cap, h1, h2, h3, h4⟩ := h
  by_cases hl : l = []
  · subst hl; exact ⟨0, 0, cap, a, h1, h2, h3, fun h => absurd rfl h, fun i hi => absurd hi (by simp)⟩
  · obtain ⟨b, off, e, hlt, hc⟩ := h4 hl
    exact ⟨b, off, cap, a, h1, h2, h3, fun _ => ⟨e, hlt⟩, fun i hi => ⟨e, hc i hi⟩⟩

/-- A slice of pairs. -/
def IsPairs (w : World) (v : Value) (l : List Pr) : Prop :=
  ∃ a cap, v = .slice a l.length cap ∧ l.length ≤ cap ∧ cap ≤ maxLen ∧ (∀ x ∈ l, x.1.length ≤ maxLen ∧ x.2.1.length ≤ maxLen) ∧ (l ≠ [] → ∃ b off, a = some ⟨b, off, none⟩ ∧ b < w.heap.size ∧
    ∀ i (h : i < l.length), w.cell? ⟨b, off + i * 3, none⟩ = some (.string (Str l[i].1)) ∧ w.cell? ⟨b, off + i * 3 + 1, none⟩ = some (.string (Str l[i].2.1)) ∧ w.cell? ⟨b, off + i * 3 + 2, none⟩ = some (.int .i64 l[i].2.2))
theorem IsPairs.below {w w' : World} {v : Value} {l : List Pr} (h : IsPairs w v l) (hb : Below w.heap.size w w') : IsPairs w' v l := by
  obtain ⟨a, cap, h1, h2, h3, h5, h4⟩ := h
  refine ⟨a, cap, h1, h2, h3, h5, fun hl => ?_⟩
  obtain ⟨b, off, e, hlt, hc⟩ := h4 hl
  exact ⟨b, off, e, Nat.lt_of_lt_of_le hlt hb.size, fun i hi => ⟨by rw [hb.cell (by exact hlt)]; exact (hc i hi).1, by rw [hb.cell (by exact hlt)]; exact (hc i hi).2.1, by rw [hb.cell (by exact hlt)]; exact (hc i hi).2.2⟩⟩
theorem IsPairs.form {w : World} {v : Value} {l : List Pr} (h : IsPairs w v l) : ∃ b off cap a, v = .slice a l.length cap ∧ l.length ≤ cap ∧ cap ≤ maxLen ∧ (l ≠ [] → a = some ⟨b, off, none⟩ ∧ b < w.heap.size) ∧
    ∀ i (h : i < l.length), a = some ⟨b, off, none⟩ ∧ w.cell? ⟨b, off + i * 3, none⟩ = some (.string (Str l[i].1)) ∧ w.cell? ⟨b, off + i * 3 + 1, none⟩ = some (.string (Str l[i].2.1)) ∧ w.cell? ⟨b, off + i * 3 + 2, none⟩ = some (.int .i64 l[i].2.2) := by
  obtain ⟨a, cap, h1, h2, h3, h5, h4⟩ := h
  by_cases hl : l = []
  · subst hl; exact ⟨0, 0, cap, a, h1, h2, h3, fun h => absurd rfl h, fun i hi => absurd hi (by simp)⟩
  · obtain ⟨b, off, e, hlt, hc⟩ := h4 hl
    exact ⟨b, off, cap, a, h1, h2, h3, fun _ => ⟨e, hlt⟩, fun i hi => ⟨e, hc i hi⟩⟩
theorem IsPairs.small {w : World} {v : Value} {l : List Pr} (h : IsPairs w v l) : ∀ x ∈ l, x.1.length ≤ maxLen ∧ x.2.1.length ≤ maxLen := by
  obtain ⟨a, cap, h1, h2, h3, h5, h4⟩ := h; exact h5

/-- A pair as cells. -/
def encP (x : Pr) : List Value := [.string (Str x.1), .string (Str x.2.1), .int .i64 x.2.2]
theorem flatP_get (l : List Pr) (i : Nat) (h : i < l.length) : (l.flatMap encP)[i * 3]? = some (.string (Str l[i].1)) ∧ (l.flatMap encP)[i * 3 + 1]? = some (.string (Str l[i].2.1)) ∧ (l.flatMap encP)[i * 3 + 2]? = some (.int .i64 l[i].2.2) := by
  induction l generalizing i with
  | nil => simp at h
  | cons s l ih =>
    have e : (s :: l).flatMap encP = .string (Str s.1) :: .string (Str s.2.1) :: .int .i64 s.2.2 :: l.flatMap encP := rfl
    rw [e]
    cases i with
    | zero => exact ⟨rfl, rfl, rfl⟩
    | succ i =>
      have := ih i (by simpa using h)
      rw [show (i + 1) * 3 = i * 3 + 3 by omega]
      exact this
theorem flatP_len (l : List Pr) : (l.flatMap encP).length = l.length * 3 := by
  induction l with
  | nil => rfl
  | cons s l ih =>
    have e : (s :: l).flatMap encP = .string (Str s.1) :: .string (Str s.2.1) :: .int .i64 s.2.2 :: l.flatMap encP := rfl
    rw [e]; simp [ih]; omega
theorem flatP_one (l : List Pr) : ∀ u ∈ l.flatMap encP, u.oneCell' = true := by
  intro u hu
  obtain ⟨x, _, hx⟩ := List.mem_flatMap.1 hu
  simp [encP] at hx
  rcases hx with rfl | rfl | rfl <;> rfl
/-- What lies behind an address, cell by cell. -/
theorem flatP_of (w : World) (b off : Nat) (l : List Pr) (hc : ∀ i (h : i < l.length), w.cell? ⟨b, off + i * 3, none⟩ = some (.string (Str l[i].1)) ∧ w.cell? ⟨b, off + i * 3 + 1, none⟩ = some (.string (Str l[i].2.1)) ∧ w.cell? ⟨b, off + i * 3 + 2, none⟩ = some (.int .i64 l[i].2.2)) :
    ∀ j u, (l.flatMap encP)[j]? = some u → w.cell? ((⟨b, off, none⟩ : Addr).add j) = some u := by
  intro j u hj
  have hlt : j < l.length * 3 := by
    rw [← flatP_len]
    exact (List.getElem?_eq_some_iff.1 hj).1
  have hadd : (⟨b, off, none⟩ : Addr).add j = ⟨b, off + j, none⟩ := by unfold Addr.add; split <;> simp_all
  rw [hadd]
  have hi : j / 3 < l.length := by omega
  have g := flatP_get l (j / 3) hi
  have c := hc (j / 3) hi
  have hcase : j = j / 3 * 3 ∨ j = j / 3 * 3 + 1 ∨ j = j / 3 * 3 + 2 := by omega
  rcases hcase with h | h | h
  · rw [h] at hj ⊢
    have hd : j / 3 * 3 / 3 = j / 3 := by omega
    rw [g.1] at hj
    rw [← Option.some.inj hj]
    exact c.1
  · rw [h] at hj ⊢
    rw [g.2.1] at hj
    rw [← Option.some.inj hj]
    exact c.2.1
  · rw [h] at hj ⊢
    rw [g.2.2] at hj
    rw [← Option.some.inj hj]
    exact c.2.2

theorem IsPairs.owned {w : World} {base : Nat} {v : Value} {n : Nat} {l : List Pr} (h : w.ownsRow base 48 3 v n (l.flatMap encP)) (hs : ∀ x ∈ l, x.1.length ≤ maxLen ∧ x.2.1.length ≤ maxLen) : IsPairs w v l := by
  have hlen := h.1
  rw [flatP_len] at hlen
  obtain rfl : n = l.length := by omega
  rcases h.2 with ⟨rfl, h0⟩ | ⟨g, cap, cur, rfl, hb, hg, hn, hm, hsz, htk⟩
  · have : l = [] := List.length_eq_zero_iff.1 h0
    subst this
    exact ⟨none, 0, rfl, Nat.le_refl _, by unfold maxLen; omega, hs, fun h => absurd rfl h⟩
  · refine ⟨_, cap, rfl, hn, hm, hs, fun hne => ⟨g, 0, rfl, (Array.getElem?_eq_some_iff.1 hg).1, fun i hi => ?_⟩⟩
    have hc : ∀ j u, (l.flatMap encP)[j]? = some u → w.cell? ⟨g, 0 + j, none⟩ = some u := by
      intro j u hj
      unfold World.cell?
      rw [hg]
      show cur[0 + j]? = _
      have h1 : (cur.toList.take (l.length * 3))[j]? = some u := by rw [htk]; exact hj
      rw [List.getElem?_take] at h1
      split at h1
      · rw [Array.getElem?_toList] at h1; rw [Nat.zero_add]; exact h1
      · cases h1
    have g3 := flatP_get l i hi
    refine ⟨hc _ _ g3.1, ?_, ?_⟩
    · rw [Nat.add_assoc]; exact hc _ _ g3.2.1
    · rw [Nat.add_assoc]; exact hc _ _ g3.2.2

theorem own_empty (W : World) (B : Nat) (hB : B ≤ W.heap.size) : (W.alloc (.cells #[] 48)).ownsRow B 48 3 (.slice (some ⟨W.heap.size, 0, none⟩) 0 0) 0 (([] : List Pr).flatMap encP) :=
  ⟨rfl, .inr ⟨W.heap.size, 0, #[], rfl, hB, Blk.new _ _ _, Nat.le_refl _, by unfold maxLen; omega, rfl, rfl⟩⟩

theorem infoP : (Tryz.prog.info? 48).map (fun i => (i.zero, i.size, i.bytes)) = some (some (.agg #[.string ⟨#[]⟩, .string ⟨#[]⟩, .int .i64 0]), 3, 40) := by kernel_rfl

theorem append_gen {w : World} {ops : Array Oper} {rest : List Oper} {o : Oper} {a : Act} {Q : Exit → Act → World → Prop} (hgd : o.guard = none) (s x : Operand) (t e : TypeId) (i0 : TypeInfo) (z : Value) (size bytes : Nat)
    (ht : Tryz.prog.underlying t = some (.slice e)) (hi : Tryz.prog.info? e = some i0) (hz0 : i0.zero = some z) (hz1 : i0.size = size) (hz2 : i0.bytes = bytes) (hzs : z.cells.size = size) (hsz : 0 < size) (hby : bytes ≤ 1000)
    (ho : o.op = .call { callee := .builtin .append, args := #[s, x], argTypes := #[t, t] }) (base : Nat) (v : Value) (n : Nat) (xs : List Value) (hs : a.eval s = v) (hown : w.ownsRow base e size v n xs)
    (p : Option Addr) (m cap : Nat) (news : List Value) (hx : a.eval x = .slice p m cap) (hnl : news.length = m * size) (hp : m ≠ 0 → ∃ ad, p = some ad ∧ ∀ j u, news[j]? = some u → w.cell? (ad.add j) = some u) (h1 : ∀ u ∈ news, u.oneCell' = true)
    (hl : n + m ≤ 1000000000) (hbase : base ≤ w.heap.size)
    (h : ∀ v' w', w'.ownsRow base e size v' (n + m) (xs ++ news) → Below base w w' → wpList Tryz.prog ops Q rest (a.put o.dst v') w') : wpList Tryz.prog ops Q (o :: rest) a w := by
  have hbytes : (n + m) * bytes ≤ 140737488355328 := Nat.le_trans (Nat.mul_le_mul hl hby) (by decide)
  cases p with
  | none =>
    have hm : m = 0 := by
      rcases Nat.eq_zero_or_pos m with h0 | h0
      · exact h0
      · obtain ⟨ad, h, _⟩ := hp (by omega)
        cases h
    subst hm
    have hn0 : news = [] := List.length_eq_zero_iff.1 (by simpa using hnl)
    subst hn0
    have hh := h v w (by simpa using hown) (Below.refl _ _)
    refine wpList_plain hgd fun K hK => ?_
    have hrun : (Builtin.append_ #[t, t] o.type #[v, .slice none 0 cap]).run Tryz.prog w = .ok v w := by
      rcases hown.2 with ⟨rfl, _⟩ | ⟨g, cap', cur, rfl, _, _, hnc, _⟩
      · simp [Builtin.append_, run_underlying ht, sizeOf, typeInfo, hi, Builtin.lenOf, Builtin.firstCells]
      · simp [Builtin.append_, run_underlying ht, sizeOf, typeInfo, hi, Builtin.lenOf, Builtin.firstCells, hnc, storeCells]
    unfold Oper.wp
    simp [execOp, ho, resolve, invoke, builtin, hs, hx, hrun, Result.andThen]
    exact hK _ _ hh
  | some ad =>
    have hcell : ∀ j u, news[j]? = some u → w.cell? (ad.add j) = some u := by
      by_cases hm : m = 0
      · have hn0 : news = [] := List.length_eq_zero_iff.1 (by rw [hnl, hm]; simp)
        subst hn0
        intro j u hj; simp at hj
      · obtain ⟨ad', e1, hc⟩ := hp hm
        cases e1
        exact hc
    refine wpList_append_own _ hgd s x t ho base e i0 z size bytes ht hi hz0 hz1 hz2 hzs hsz v n xs hs hown ad m cap news hx hnl hcell h1 (by unfold maxLen; omega) hbytes hbase ?_
    intro v' w' h2 h3 _
    exact h v' w' h2 (Below.grown (Below.refl _ _) h3 hbase (fun q hq => (hown.lt q hq).1))

theorem cells_at {w : World} {b off : Nat} {news : List Value} (hc : ∀ j u, news[j]? = some u → w.cell? ⟨b, off + j, none⟩ = some u) : ∀ j u, news[j]? = some u → w.cell? ((⟨b, off, none⟩ : Addr).add j) = some u := by
  intro j u hj
  have hadd : (⟨b, off, none⟩ : Addr).add j = ⟨b, off + j, none⟩ := by unfold Addr.add; split <;> simp_all
  rw [hadd]; exact hc j u hj

theorem append_pairs {w : World} {ops : Array Oper} {rest : List Oper} {o : Oper} {a : Act} {Q : Exit → Act → World → Prop} (hgd : o.guard = none) (s x : Operand)
    (ho : o.op = .call { callee := .builtin .append, args := #[s, x], argTypes := #[28, 28] }) (base : Nat) (v : Value) (l : List Pr) (hs : a.eval s = v) (hown : w.ownsRow base 48 3 v l.length (l.flatMap encP))
    (u : Value) (m : List Pr) (hx : a.eval x = u) (hp : IsPairs w u m) (hl : l.length + m.length ≤ 1000000000) (hbase : base ≤ w.heap.size)
    (h : ∀ v' w', w'.ownsRow base 48 3 v' (l ++ m).length ((l ++ m).flatMap encP) → Below base w w' → wpList Tryz.prog ops Q rest (a.put o.dst v') w') : wpList Tryz.prog ops Q (o :: rest) a w := by
  obtain ⟨i0, hi, hz0, hz1, hz2⟩ := info_parts infoP
  obtain ⟨p, cap, rfl, hlc, hcm, hsm, hpp⟩ := hp
  refine append_gen hgd s x 28 48 i0 (.agg #[.string ⟨#[]⟩, .string ⟨#[]⟩, .int .i64 0]) 3 40 Tryz.underlying28 hi hz0 hz1 hz2 rfl (by decide) (by decide) ho base v l.length _ hs hown p m.length cap (m.flatMap encP) hx (flatP_len m) ?_ (flatP_one m) hl hbase ?_
  · intro hm
    obtain ⟨b, off, rfl, hlt, hc⟩ := hpp (by rintro rfl; simp at hm)
    exact ⟨_, rfl, flatP_of w b off m hc⟩
  · intro v' w' h2 h3
    refine h v' w' ?_ h3
    rw [List.length_append, List.flatMap_append]; exact h2

theorem IsPairs.nil (w : World) : IsPairs w (.slice none 0 0) [] := ⟨none, 0, rfl, Nat.le_refl _, by unfold maxLen; omega, fun x hx => by simp at hx, fun h => absurd rfl h⟩
theorem below_box {w : World} (o : Obj) : Below w.heap.size w (w.alloc o) := (Below.refl _ _).alloc (Nat.le_refl _) _
theorem owns_below {w w' : World} {base : Nat} {e : TypeId} {size : Nat} {v : Value} {n : Nat} {xs : List Value} (h : w.ownsRow base e size v n xs) (hb : Below w.heap.size w w') : w'.ownsRow base e size v n xs := by
  refine ⟨h.1, ?_⟩
  rcases h.2 with hn | ⟨g, cap, cur, rfl, hg, hgg, rest⟩
  · exact .inl hn
  · refine .inr ⟨g, cap, cur, rfl, hg, ?_, rest⟩
    rw [hb.block g (Array.getElem?_eq_some_iff.1 hgg).1]; exact hgg
theorem owns_lower {w : World} {base B : Nat} {e : TypeId} {size : Nat} {v : Value} {n : Nat} {xs : List Value} (h : w.ownsRow base e size v n xs) (hb : B ≤ base) : w.ownsRow B e size v n xs := by
  refine ⟨h.1, ?_⟩
  rcases h.2 with hn | ⟨g, cap, cur, rfl, hg, rest⟩
  · exact .inl hn
  · exact .inr ⟨g, cap, cur, rfl, by omega, rest⟩

end Go.Proofs.YtmbfghbhajmpiaaGreat
namespace Go.Proofs.YtmbfghbhajmpiaaGreat
open Go.RowKit Go.Sort
set_option linter.unusedVariables false

theorem pair_cells {w : World} {v : Value} {l : List Pr} (h : IsPairs w v l) (i : Nat) (hi : i < l.length) : ∃ b off cap, v = .slice (some ⟨b, off, none⟩) l.length cap ∧ b < w.heap.size ∧ (l.length : Int) ≤ 9223372036854775807 ∧
    w.cell? ⟨b, off + i * 3, none⟩ = some (.string (Str l[i].1)) ∧ w.cell? ⟨b, off + i * 3 + 1, none⟩ = some (.string (Str l[i].2.1)) ∧ w.cell? ⟨b, off + i * 3 + 2, none⟩ = some (.int .i64 l[i].2.2) := by
  obtain ⟨b, off, cap, a, rfl, h1, h2, h3, h4⟩ := h.form
  obtain ⟨rfl, c⟩ := h4 i hi
  unfold maxLen at h2
  exact ⟨b, off, cap, rfl, (h3 (by rintro rfl; simp at hi)).2, by omega, c⟩

set_option maxHeartbeats 1000000 in
theorem placeC_w (bt bk : Nat) (v : Value) (l : List Pr) (k : Bs) (i : Nat) (W : World) (hi : i < l.length) (ht : W.cell? ⟨bt, 0, none⟩ = some v) (hk : W.cell? ⟨bk, 0, none⟩ = some (.string (Str k))) (hp : IsPairs W v l) :
    Calls Tryz.prog 305 (#[.int .i64 i] ++ #[.pointer (some ⟨bt, 0, none⟩), .pointer (some ⟨bk, 0, none⟩)]) W fun e w' => e = .returned (.bool (!Op.bytesLess (l[i]?.getD ([], [], 0)).1 k)) ∧ ∃ q, w' = W.drewN q := by
  obtain ⟨b, off, cap, rfl, hb, hl, c0, c1, c2⟩ := pair_cells hp i hi
  rw [List.getElem?_eq_getElem hi, Option.getD_some]
  clear hp
  generalize l[i] = x at *
  have hiz : (i : Int) < (l.length : Int) := by omega
  generalize l.length = n at *
  have mixed := mixedA
  go_enter Tryz.func305, Tryz.ntmps305
  go_wp2
  go_region
  all_goals go_wp2
  all_goals go_ret
  all_goals exact ⟨by first | rfl | simp, 1, rfl⟩

set_option maxHeartbeats 2000000 in
theorem place_w (v : Value) (l : List Pr) (k : Bs) (w : World) (h : IsPairs w v l) (hs : Srt l) (hl : l.length ≤ 1000000000) :
    Calls Tryz.prog 303 #[v, .string (Str k)] w fun e w' => e = .returned (.int .i64 (placeS l k : Nat)) ∧ Grown w w' := by
  have eg : ∀ args w, (callFunc 305 args).run Tryz.prog w = .ok (.enter 305 args) w := enters_of Tryz.func305 (by kernel_rfl) rfl
  obtain ⟨W0, hW0⟩ : ∃ W0, W0 = (w.alloc (.cells #[v] 28)).alloc (.cells #[.string (Str k)] 9) := ⟨_, rfl⟩
  have hg0 : Grown w W0 := by rw [hW0]; exact ((Grown.refl w).alloc _).alloc _
  have b1 : Blk W0 w.heap.size 28 #[v] := by rw [hW0]; exact (Blk.new _ _ _).alloc _
  have b2 : Blk W0 (w.heap.size + 1) 9 #[.string (Str k)] := by rw [hW0]; exact Blk.new' _ _ _ (by simp)
  have hp0 : IsPairs W0 v l := h.below (hg0.below (Nat.le_refl _))
  obtain ⟨b, off, cap, a, hv, hlc, hcm, _, _⟩ := h.form
  unfold maxLen at hcm
  have hcon := Any.sort_Search Tryz.searchL 305 #[.pointer (some ⟨w.heap.size, 0, none⟩), .pointer (some ⟨w.heap.size + 1, 0, none⟩)] l.length (fun i => !Op.bytesLess (l[i]?.getD ([], [], 0)).1 k) W0 eg (by omega)
    (fun m os i hi => (placeC_w w.heap.size (w.heap.size + 1) v l k i _ hi (b1.c 0 _ rfl m os) (b2.c 0 _ rfl m os) (hp0.below (below_grown W0 m os (Nat.le_refl _)))).mono fun e w' ⟨h1, q, h2⟩ => ⟨h1, q, #[], by rw [h2, grow_empty]⟩)
    (fun i j hij hj hi => by
      have hi' : i < l.length := by omega
      simp only [List.getElem?_eq_getElem hi', List.getElem?_eq_getElem hj, Option.getD_some] at hi ⊢
      exact place_test hs k i j hij hj hi)
  change Calls Tryz.prog 112 _ _ _ at hcon
  rw [place_count] at hcon
  have Hg0 := Lib.hid hg0
  have Hc := Lib.hid hcon
  have c1 := b1.c0 0 _ rfl
  have hz := Nat.lt_of_lt_of_le (show w.heap.size < w.heap.size + 1 from Nat.lt_succ_self _) (Nat.le_refl _)
  clear hcon hp0 b2 hs eg h hg0 b1
  subst hv
  generalize placeS l k = r at *
  go_enter Tryz.func303, Tryz.ntmps303
  go_wp2_with fail
  subst hW0
  refine Hc.out.mono ?_
  rintro e w' ⟨rfl, q, os, rfl⟩
  go_wp2
  go_ret
  exact ⟨rfl, Hg0.out.trans ⟨q, os, rfl⟩⟩

end Go.Proofs.YtmbfghbhajmpiaaGreat
namespace Go.Proofs.YtmbfghbhajmpiaaGreat
open Go.RowKit Go.Sort
set_option linter.unusedVariables false

/-- A list of pairs handed back in memory of the call's own. -/
def OwnOut (B : Nat) (w : World) (l : List Pr) (e : Ending) (w' : World) : Prop :=
  ∃ v', e = .returned v' ∧ w'.ownsRow B 48 3 v' l.length (l.flatMap encP) ∧ IsPairs w' v' l ∧ Below B w w'
theorem IsPairs.sliced {w : World} {a : Option Addr} {n cap : Nat} {l : List Pr} (h : IsPairs w (.slice a n cap) l) (lo hi : Nat) (h1 : lo ≤ hi) (h2 : hi ≤ l.length) :
    IsPairs w (sliced a lo hi cap 3) ((l.take hi).drop lo) := by
  obtain ⟨a', cap', e, hlc, hcm, hs, hc⟩ := h
  cases e
  have hll : ((l.take hi).drop lo).length = hi - lo := by rw [List.length_drop, List.length_take]; omega
  refine ⟨_, cap - lo, by rw [hll]; rfl, by omega, by omega, fun x hx => hs x (List.mem_of_mem_take (List.mem_of_mem_drop hx)), fun hne => ?_⟩
  have hlt : lo < hi := by
    rcases Nat.lt_or_ge lo hi with h | h
    · exact h
    · exfalso; apply hne; apply List.length_eq_zero_iff.1; omega
  obtain ⟨b, off, rfl, hb, hcell⟩ := hc (by rintro rfl; simp at h2; omega)
  have hadd : (⟨b, off, none⟩ : Addr).add (lo * 3) = ⟨b, off + lo * 3, none⟩ := by unfold Addr.add; split <;> simp_all
  refine ⟨b, off + lo * 3, by rw [if_neg (by omega)]; simp [hadd], hb, fun i hi' => ?_⟩
  have hc3 := hcell (lo + i) (by rw [hll] at hi'; omega)
  have e3 : off + lo * 3 + i * 3 = off + (lo + i) * 3 := by omega
  rw [e3]
  simpa using hc3
end Go.Proofs.YtmbfghbhajmpiaaGreat
namespace Go.Proofs.YtmbfghbhajmpiaaGreat
open Go.RowKit Go.Sort
set_option linter.unusedVariables false

end Go.Proofs.YtmbfghbhajmpiaaGreat
namespace Go.Proofs.YtmbfghbhajmpiaaGreat
open Go.RowKit Go.Sort
set_option linter.unusedVariables false

theorem OwnOut.lower {B C : Nat} {w w0 : World} {l : List Pr} {e : Ending} {w' : World} (h : OwnOut B w l e w') (hg : Below C w0 w) (hC : C ≤ B) : OwnOut C w0 l e w' := by
  obtain ⟨v', h1, h2, h3, h4⟩ := h
  exact ⟨v', h1, owns_lower h2 hC, h3, hg.trans (h4.mono hC)⟩

end Go.Proofs.YtmbfghbhajmpiaaGreat
namespace Go.Proofs.YtmbfghbhajmpiaaGreat
open Go.RowKit Go.Sort
set_option linter.unusedVariables false

theorem one_pairs {w : World} (x : Pr) (hx : x.1.length ≤ maxLen ∧ x.2.1.length ≤ maxLen) : IsPairs (w.alloc (.cells #[.string (Str x.1), .string (Str x.2.1), .int .i64 x.2.2] 48)) (.slice (some ⟨w.heap.size, 0, none⟩) 1 1) [x] := by
  refine ⟨_, 1, rfl, Nat.le_refl _, by unfold maxLen; omega, fun y hy => by simp at hy; subst hy; exact hx, fun _ => ⟨w.heap.size, 0, rfl, by simp, fun i hi => ?_⟩⟩
  obtain rfl : i = 0 := by simpa using hi
  have hB : Blk (w.alloc (.cells #[.string (Str x.1), .string (Str x.2.1), .int .i64 x.2.2] 48)) w.heap.size 48 #[.string (Str x.1), .string (Str x.2.1), .int .i64 x.2.2] := Blk.new _ _ _
  exact ⟨hB.c0 0 _ rfl, hB.c0 1 _ rfl, hB.c0 2 _ rfl⟩
end Go.Proofs.YtmbfghbhajmpiaaGreat
namespace Go.Proofs.YtmbfghbhajmpiaaGreat
open Go.RowKit Go.Sort
set_option linter.unusedVariables false

end Go.Proofs.YtmbfghbhajmpiaaGreat
