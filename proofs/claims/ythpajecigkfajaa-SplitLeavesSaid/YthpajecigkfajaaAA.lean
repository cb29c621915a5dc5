/-
  Plain: pieces of lists. Rows of any element type in memory.
-/
import Derived.Test.YthpajecigkfajaaYDB
import Derived.Test.YthpajecigkfajaaYAB
namespace Go.Proofs.Ythpajecigkfajaa
open Go.RowKit Go.Sort
set_option linter.unusedVariables false

/-- A quotient, rounded up, as the program reckons it. -/
def upN (n c : Nat) : Nat := (n - 1) / c + 1
def cutS {α : Type} : Nat → List α → List (List α)
  | 0, _ => []
  | c + 1, l => l.take (upN l.length (c + 1)) :: cutS c (l.drop (upN l.length (c + 1)))
/-- The pieces of a list. -/
def cutL {α : Type} (l : List α) (most : Int) : List (List α) := if most < 1 ∨ l = [] then [] else cutS (upN l.length most.toNat) l
theorem up_qr {c q r : Nat} (hq : 1 ≤ q) (hr : r ≤ c) (hc : 0 < c) : upN (q * c + r) c = q + if 0 < r then 1 else 0 := by
  unfold upN
  by_cases h : 0 < r
  · rw [if_pos h]
    have e : q * c + r - 1 = (r - 1) + c * q := by rw [Nat.mul_comm]; omega
    rw [e, Nat.add_mul_div_left _ _ hc, Nat.div_eq_of_lt (by omega)]; omega
  · obtain rfl : r = 0 := by omega
    rw [if_neg h]
    obtain ⟨p, rfl⟩ : ∃ p, q = p + 1 := ⟨q - 1, by omega⟩
    have e : (p + 1) * c + 0 - 1 = (c - 1) + c * p := by rw [Nat.add_mul, Nat.mul_comm p c]; omega
    rw [e, Nat.add_mul_div_left _ _ hc, Nat.div_eq_of_lt (by omega)]; omega
theorem cut_room (c n : Nat) (h : c + 1 ≤ n) : 1 ≤ upN n (c + 1) ∧ upN n (c + 1) ≤ n ∧ c ≤ n - upN n (c + 1) := by
  have hd := Nat.div_add_mod (n) (c + 1)
  have hm := Nat.mod_lt n (Nat.succ_pos c)
  have hq : 1 ≤ n / (c + 1) := Nat.div_pos h (Nat.succ_pos c)
  obtain ⟨q, r, hqr, hr⟩ : ∃ q r, (n = q * (c + 1) + r ∧ 1 ≤ q) ∧ r < c + 1 := ⟨n / (c + 1), n % (c + 1), ⟨by rw [Nat.mul_comm]; omega, hq⟩, hm⟩
  clear hd hm hq
  obtain ⟨rfl, hq2⟩ := hqr
  have hu := up_qr (c := c + 1) (q := q) (r := r) hq2 (by omega) (Nat.succ_pos c)
  rw [hu]
  clear hu
  obtain ⟨p, rfl⟩ : ∃ p, q = p + 1 := ⟨q - 1, by omega⟩
  have e : (p + 1) * (c + 1) = p * c + p + c + 1 := by rw [Nat.add_mul, Nat.mul_add]; omega
  rw [e]
  generalize p * c = pc
  split <;> omega
theorem cutS_len {α : Type} : ∀ (c : Nat) (l : List α), (cutS c l).length = c
  | 0, _ => rfl
  | c + 1, l => by show (cutS c _).length + 1 = c + 1; rw [cutS_len c]
theorem cutS_flat {α : Type} : ∀ (c : Nat) (l : List α), c + 1 ≤ l.length → (cutS (c + 1) l).flatten = l
  | 0, l, h => by
    show (l.take (upN l.length 1) ++ ([] : List α)) = l
    rw [List.append_nil, List.take_of_length_le]
    unfold upN
    rw [Nat.div_one]; omega
  | c + 1, l, h => by
    have hr := cut_room (c + 1) l.length h
    show (l.take (upN l.length (c + 1 + 1)) ++ (cutS (c + 1) _).flatten) = l
    rw [cutS_flat c _ (by rw [List.length_drop]; omega), List.take_append_drop]
theorem cutS_sizes {α : Type} : ∀ (c q r : Nat) (l : List α), l.length = q * c + r → r ≤ c → 1 ≤ q → (cutS c l).map List.length = List.replicate r (q + 1) ++ List.replicate (c - r) q
  | 0, q, r, l, hl, hr, hq => by obtain rfl : r = 0 := by omega
                                 rfl
  | c + 1, q, r, l, hl, hr, hq => by
    have hu := up_qr (c := c + 1) hq hr (Nat.succ_pos c)
    rw [← hl] at hu
    show (l.take (upN l.length (c + 1))).length :: (cutS c (l.drop (upN l.length (c + 1)))).map List.length = _
    have hroom := cut_room c l.length (by rw [hl]; have : 1 * (c + 1) ≤ q * (c + 1) := Nat.mul_le_mul_right _ hq; omega)
    rw [List.length_take, Nat.min_eq_left hroom.2.1]
    by_cases h : 0 < r
    · rw [if_pos h] at hu
      obtain ⟨s, rfl⟩ : ∃ s, r = s + 1 := ⟨r - 1, by omega⟩
      rw [cutS_sizes c q s _ (by rw [List.length_drop, hu, hl, Nat.mul_add]; omega) (by omega) hq, hu, List.replicate_succ, Nat.add_sub_add_right]; rfl
    · obtain rfl : r = 0 := by omega
      rw [if_neg h] at hu
      rw [cutS_sizes c q 0 _ (by rw [List.length_drop, hu, hl, Nat.mul_add]; omega) (by omega) hq, hu]
      show q :: List.replicate c q = List.replicate (c + 1) q
      rw [List.replicate_succ]
/-- How many pieces there are, and of what sizes. -/
theorem cutL_sizes {α : Type} (l : List α) (m : Nat) (hm : 1 ≤ m) (hl : l ≠ []) :
    ∃ c q r, cutL l (m : Int) = cutS c l ∧ 1 ≤ c ∧ c ≤ l.length ∧ (c - 1) * m < l.length ∧ r < c ∧ 1 ≤ q ∧ q + (if 0 < r then 1 else 0) ≤ m ∧ l.length = q * c + r ∧ (cutS c l).map List.length = List.replicate r (q + 1) ++ List.replicate (c - r) q := by
  have hn : 1 ≤ l.length := by rcases l with _ | ⟨x, r⟩; exact absurd rfl hl; simp
  refine ⟨upN l.length m, l.length / upN l.length m, l.length % upN l.length m, ?_⟩
  have hmz : ¬ ((m : Int) < 1 ∨ l = []) := by rintro (h | h); omega; exact hl h
  have hc1 : 1 ≤ upN l.length m := by unfold upN; exact Nat.le_add_left _ _
  have hcn : upN l.length m ≤ l.length := by unfold upN; have := Nat.div_le_self (l.length - 1) m; omega
  have hlow : (upN l.length m - 1) * m < l.length := by
    unfold upN
    rw [Nat.add_sub_cancel]
    have := Nat.div_mul_le_self (l.length - 1) m; omega
  have hhi : l.length ≤ upN l.length m * m := by
    unfold upN
    have h1 := Nat.div_add_mod (l.length - 1) m
    have h2 := Nat.mod_lt (l.length - 1) hm
    rw [Nat.add_mul, Nat.mul_comm _ m]; omega
  generalize hc : upN l.length m = c at *
  have hd := Nat.div_add_mod l.length c
  have hr := Nat.mod_lt l.length hc1
  have hq : 1 ≤ l.length / c := Nat.div_pos hcn hc1
  have e : l.length = l.length / c * c + l.length % c := by rw [Nat.mul_comm]; omega
  refine ⟨by unfold cutL; rw [if_neg hmz, show (m : Int).toNat = m by omega, hc], hc1, hcn, hlow, hr, hq, ?_, e, cutS_sizes c _ _ l e (by omega) hq⟩
  generalize l.length / c = q at *
  generalize l.length % c = r at *
  rw [e] at hhi
  have h3 : q * c + r ≤ m * c := by rw [Nat.mul_comm m c]; exact hhi
  by_cases h : 0 < r
  · rw [if_pos h]
    have : q * c < m * c := by omega
    exact Nat.lt_of_mul_lt_mul_right this
  · rw [if_neg h]
    exact Nat.le_of_mul_le_mul_right (show q * c ≤ m * c by omega) hc1
theorem cutL_flat {α : Type} (l : List α) (m : Nat) (hm : 1 ≤ m) : (cutL l (m : Int)).flatten = l := by
  by_cases hl : l = []
  · subst hl; unfold cutL; rw [if_pos (.inr rfl)]; rfl
  · obtain ⟨c, q, r, e, h1, h2, -⟩ := cutL_sizes l m hm hl
    rw [e]
    obtain ⟨d, rfl⟩ : ∃ d, c = d + 1 := ⟨c - 1, by omega⟩
    exact cutS_flat d l h2
/-- The size of a piece. -/
theorem sizes_at {α : Type} {ps : List (List α)} {c q r : Nat} (h : ps.map List.length = List.replicate r (q + 1) ++ List.replicate (c - r) q) (i : Nat) (hi : i < ps.length) : ps[i].length = q + if i < r then 1 else 0 := by
  have h1 : (ps.map List.length)[i]? = some ps[i].length := by rw [List.getElem?_map, List.getElem?_eq_getElem hi]; rfl
  rw [h] at h1
  by_cases hr : i < r
  · rw [if_pos hr]
    rw [List.getElem?_append_left (by simpa using hr), List.getElem?_replicate, if_pos hr] at h1
    exact (Option.some.inj h1).symm
  · rw [if_neg hr]
    rw [List.getElem?_append_right (by simp; omega), List.getElem?_replicate] at h1
    split at h1
    · exact (Option.some.inj h1).symm
    · cases h1

/-- A row of elements that lie in cells, from block B on. -/
def IsRow {α : Type} (B : Nat) (en : α → List Value) (k : Nat) (w : World) (v : Value) (l : List α) : Prop :=
  ∃ a cap, v = .slice a l.length cap ∧ l.length ≤ cap ∧ cap ≤ maxLen ∧ (l ≠ [] → ∃ b off, a = some ⟨b, off, none⟩ ∧ B ≤ b ∧ b < w.heap.size ∧ ∀ i (h : i < l.length) (j : Nat) (u : Value), (en l[i])[j]? = some u → w.cell? ⟨b, off + i * k + j, none⟩ = some u)
theorem IsRow.nil {α : Type} (B : Nat) (en : α → List Value) (k : Nat) (w : World) : IsRow B en k w (.slice none 0 0) [] := ⟨none, 0, rfl, Nat.le_refl _, by unfold maxLen; omega, fun h => absurd rfl h⟩
theorem IsRow.below {α : Type} {B : Nat} {en : α → List Value} {k : Nat} {w w' : World} {v : Value} {l : List α} (h : IsRow B en k w v l) (hb : Below w.heap.size w w') : IsRow B en k w' v l := by
  obtain ⟨a, cap, h1, h2, h3, h4⟩ := h
  refine ⟨a, cap, h1, h2, h3, fun hl => ?_⟩
  obtain ⟨b, off, e, hB, hlt, hc⟩ := h4 hl
  exact ⟨b, off, e, hB, Nat.lt_of_lt_of_le hlt hb.size, fun i hi j u hu => by rw [hb.cell (by exact hlt)]; exact hc i hi j u hu⟩
theorem IsRow.lower {α : Type} {B B2 : Nat} {en : α → List Value} {k : Nat} {w : World} {v : Value} {l : List α} (h : IsRow B en k w v l) (hb : B2 ≤ B) : IsRow B2 en k w v l := by
  obtain ⟨a, cap, h1, h2, h3, h4⟩ := h
  refine ⟨a, cap, h1, h2, h3, fun hl => ?_⟩
  obtain ⟨b, off, e, hB, hlt, hc⟩ := h4 hl
  exact ⟨b, off, e, Nat.le_trans hb hB, hlt, hc⟩
theorem IsRow.put {α : Type} {B c i : Nat} {en : α → List Value} {k : Nat} {w : World} {v x : Value} {l : List α} (h : IsRow B en k w v l) (hc : c < B) : IsRow B en k (w.setCell ⟨c, i, none⟩ x) v l := by
  obtain ⟨a, cap, h1, h2, h3, h4⟩ := h
  refine ⟨a, cap, h1, h2, h3, fun hl => ?_⟩
  obtain ⟨b, off, e, hB, hlt, hcs⟩ := h4 hl
  refine ⟨b, off, e, hB, by simpa using hlt, fun i hi j u hu => ?_⟩
  have := hcs i hi j u hu
  unfold World.cell? at this ⊢
  rw [Below.heap_setCell _ _ _ _ (show b ≠ c by omega)]; exact this
theorem IsRow.sliced {α : Type} {B : Nat} {en : α → List Value} {k : Nat} {w : World} {a : Option Addr} {n cap : Nat} {l : List α} (h : IsRow B en k w (.slice a n cap) l) (lo hi : Nat) (h1 : lo ≤ hi) (h2 : hi ≤ l.length) :
    IsRow B en k w (sliced a lo hi cap k) ((l.take hi).drop lo) := by
  obtain ⟨a', cap', e, hlc, hcm, hc⟩ := h
  cases e
  have hll : ((l.take hi).drop lo).length = hi - lo := by rw [List.length_drop, List.length_take]; omega
  refine ⟨_, cap - lo, by rw [hll]; rfl, by omega, by omega, fun hne => ?_⟩
  have hlt : lo < hi := by
    rcases Nat.lt_or_ge lo hi with h | h
    · exact h
    · exfalso; apply hne; apply List.length_eq_zero_iff.1; omega
  obtain ⟨b, off, rfl, hB, hb, hcell⟩ := hc (by rintro rfl; simp at h2; omega)
  have hadd : (⟨b, off, none⟩ : Addr).add (lo * k) = ⟨b, off + lo * k, none⟩ := by unfold Addr.add; split <;> simp_all
  refine ⟨b, off + lo * k, by rw [if_neg (by omega)]; simp [hadd], hB, hb, fun i hi' j u hu => ?_⟩
  have hc3 := hcell (lo + i) (by rw [hll] at hi'; omega) j u (by simpa using hu)
  have e3 : off + lo * k + i * k = off + (lo + i) * k := by rw [Nat.add_mul]; omega
  rw [e3]
  exact hc3
theorem IsRow.owned {α : Type} {en : α → List Value} {k : Nat} {w : World} {base : Nat} {e : TypeId} {v : Value} {l : List α} (hen : ∀ x, (en x).length = k) (h : w.ownsRow base e k v l.length (l.flatMap en)) : IsRow base en k w v l := by
  rcases h.2 with ⟨rfl, h0⟩ | ⟨g, cap, cur, rfl, hb, hg, hn, hm, hsz, htk⟩
  · have : l = [] := List.length_eq_zero_iff.1 h0
    subst this
    exact IsRow.nil _ _ _ _
  · refine ⟨_, cap, rfl, hn, hm, fun hne => ⟨g, 0, rfl, hb, (Array.getElem?_eq_some_iff.1 hg).1, fun i hi j u hu => ?_⟩⟩
    have hjk : j < k := by rw [← hen l[i]]; exact (List.getElem?_eq_some_iff.1 hu).1
    have hfl : (l.flatMap en)[i * k + j]? = some u := by
      clear h hg hn htk hne
      induction l generalizing i with
      | nil => simp at hi
      | cons x l ih =>
        rw [List.flatMap_cons]
        cases i with
        | zero =>
          rw [Nat.zero_mul, Nat.zero_add, List.getElem?_append_left (by rw [hen]; exact hjk)]
          exact hu
        | succ i =>
          rw [List.getElem?_append_right (by rw [hen, Nat.succ_mul]; omega), hen, show (i + 1) * k + j - k = i * k + j by rw [Nat.succ_mul]; omega]
          exact ih i (by simpa using hi) (by simpa using hu)
    have hlt : i * k + j < l.length * k := by
      have : (i + 1) * k ≤ l.length * k := Nat.mul_le_mul_right _ hi
      rw [Nat.succ_mul] at this; omega
    unfold World.cell?
    rw [hg]
    show cur[0 + i * k + j]? = _
    have h1 : (cur.toList.take (l.length * k))[i * k + j]? = some u := by rw [htk]; exact hfl
    rw [List.getElem?_take, if_pos hlt, Array.getElem?_toList] at h1
    rw [Nat.zero_add]; exact h1
/-- Pieces: a row of rows. -/
def IsPcs {α : Type} (B : Nat) (en : α → List Value) (k : Nat) (w : World) (v : Value) (ps : List (List α)) : Prop :=
  ∃ a cap, v = .slice a ps.length cap ∧ ps.length ≤ cap ∧ cap ≤ maxLen ∧ (ps ≠ [] → ∃ b off, a = some ⟨b, off, none⟩ ∧ b < w.heap.size ∧ ∀ i (h : i < ps.length), ∃ s, w.cell? ⟨b, off + i, none⟩ = some s ∧ IsRow B en k w s ps[i])
theorem IsPcs.nil {α : Type} (B : Nat) (en : α → List Value) (k : Nat) (w : World) : IsPcs B en k w (.slice none 0 0) [] := ⟨none, 0, rfl, Nat.le_refl _, by unfold maxLen; omega, fun h => absurd rfl h⟩
theorem IsPcs.below {α : Type} {B : Nat} {en : α → List Value} {k : Nat} {w w' : World} {v : Value} {ps : List (List α)} (h : IsPcs B en k w v ps) (hb : Below w.heap.size w w') : IsPcs B en k w' v ps := by
  obtain ⟨a, cap, h1, h2, h3, h4⟩ := h
  refine ⟨a, cap, h1, h2, h3, fun hl => ?_⟩
  obtain ⟨b, off, e, hlt, hc⟩ := h4 hl
  refine ⟨b, off, e, Nat.lt_of_lt_of_le hlt hb.size, fun i hi => ?_⟩
  obtain ⟨s, hs, hr⟩ := hc i hi
  exact ⟨s, by rw [hb.cell (by exact hlt)]; exact hs, hr.below hb⟩
theorem IsPcs.lower {α : Type} {B B2 : Nat} {en : α → List Value} {k : Nat} {w : World} {v : Value} {ps : List (List α)} (h : IsPcs B en k w v ps) (hb : B2 ≤ B) : IsPcs B2 en k w v ps := by
  obtain ⟨a, cap, h1, h2, h3, h4⟩ := h
  refine ⟨a, cap, h1, h2, h3, fun hl => ?_⟩
  obtain ⟨b, off, e, hlt, hc⟩ := h4 hl
  refine ⟨b, off, e, hlt, fun i hi => ?_⟩
  obtain ⟨s, hs, hr⟩ := hc i hi
  exact ⟨s, hs, hr.lower hb⟩
/-- What a row of pieces holds that is filled up to some place. -/
def pcsA (vs : List Value) (c : Nat) : Array Value := (vs ++ List.replicate (c - vs.length) (Value.slice none 0 0)).toArray
theorem pcsA_made (c : Nat) : pcsA [] c = (List.replicate c (Value.slice none 0 0)).toArray := by unfold pcsA; simp
theorem pcsA_set (vs : List Value) (c : Nat) (x : Value) (h : vs.length < c) : (pcsA vs c).setIfInBounds vs.length x = pcsA (vs ++ [x]) c := by
  unfold pcsA
  rw [List.setIfInBounds_toArray, List.set_append_right _ _ (Nat.le_refl _), Nat.sub_self, List.length_append, List.append_assoc]
  obtain ⟨d, hd⟩ : ∃ d, c - vs.length = d + 1 := ⟨c - vs.length - 1, by omega⟩
  rw [hd, List.replicate_succ, List.set_cons_zero, show c - (vs.length + [x].length) = d by simp; omega]; rfl
theorem pcsA_get (vs : List Value) (c i : Nat) (h : i < vs.length) : (pcsA vs c)[i]? = some vs[i] := by
  unfold pcsA
  rw [List.getElem?_toArray, List.getElem?_append_left h, List.getElem?_eq_getElem h]
theorem pcsA_at (vs : List Value) (c i : Nat) (h : i < c) : ∃ u, (pcsA vs c)[i]? = some u := by
  unfold pcsA
  rw [List.getElem?_toArray]
  exact ⟨_, List.getElem?_eq_getElem (by rw [List.length_append, List.length_replicate]; omega)⟩
theorem made_pcs (n : Nat) : (madeCells (Value.slice none 0 0).cells (n * 1)).toList.toArray = pcsA [] n := by
  have : (Value.slice none 0 0).cells = #[Value.slice none 0 0] := rfl
  rw [this, toList_madeCells_one, pcsA_made]
  simp
theorem own_blkP {w : World} {base g n : Nat} {T : TypeId} {xs : List Value} (h : w.ownsRow base T 1 (.slice (some ⟨g, 0, none⟩) n n) n xs) : Blk w g T xs.toArray ∧ base ≤ g := by
  have hl := h.1
  rcases h.2 with ⟨h', _⟩ | ⟨g', cap', cur, h', h5, h6, h7, h8, h9, h10⟩
  · cases h'
  · injection h' with e1 e2 e3
    injection e1 with e1
    injection e1 with e1
    subst e1 e3
    refine ⟨?_, h5⟩
    unfold Blk
    rw [h6]
    have : cur = xs.toArray := by
      rw [← h10, List.take_of_length_le (by rw [Array.length_toList]; omega)]
    rw [this]
/-- A list laid down piece by piece: the rest. -/
theorem cut_step {α : Type} {done : List (List α)} {rem : List α} {c k : Nat} {L : List (List α)} (h : done ++ cutS (c - k) rem = L) (hk : k < c) :
    (done ++ [rem.take (upN rem.length (c - k))]) ++ cutS (c - (k + 1)) (rem.drop (upN rem.length (c - k))) = L := by
  obtain ⟨d, hd⟩ : ∃ d, c - k = d + 1 := ⟨c - k - 1, by omega⟩
  rw [hd] at h ⊢
  rw [show c - (k + 1) = d by omega, ← h, List.append_assoc]; rfl

end Go.Proofs.Ythpajecigkfajaa
