/-
  Plain facts on tables: unions, what is put and found, spans.
-/
import Derived.Test.YtdckiaokldkfmaaGreatTS
namespace Go.Proofs.YtdckiaokldkfmaaGreat
set_option linter.unusedVariables false

theorem srt_nodup {t : List Pr} (h : Srt t) : t.Nodup := by
  unfold List.Nodup
  exact List.Pairwise.imp (fun hab e => less_ne hab (congrArg Prod.fst e)) h
theorem srt_keys {t : List Pr} (h : Srt t) : (t.map (·.1)).Nodup := by
  unfold List.Nodup
  rw [List.pairwise_map]
  exact List.Pairwise.imp (fun hab e => less_ne hab e) h
theorem union_assoc {a b c : List Pr} (ha : Srt a) (hb : Srt b) (hc : Srt c) : unionS (unionS a b) c = unionS a (unionS b c) := by
  have hbc := srt_union hb c
  refine Srt.unique (srt_union (srt_union ha b) c) (srt_union ha _) fun x => ?_
  rw [mem_union _ hc, mem_union _ hb, mem_union _ hbc]
  constructor
  · rintro (h | ⟨h | ⟨h1, h2⟩, h3⟩)
    · exact .inl ((mem_union b hc x).2 (.inl h))
    · exact .inl ((mem_union b hc x).2 (.inr ⟨h, h3⟩))
    · refine .inr ⟨h1, fun y hy => ?_⟩
      rcases (mem_union b hc y).1 hy with h | ⟨h, -⟩
      · exact h3 y h
      · exact h2 y h
  · rintro (h | ⟨h1, h2⟩)
    · rcases (mem_union b hc x).1 h with h | ⟨h, h3⟩
      · exact .inl h
      · exact .inr ⟨.inl h, h3⟩
    · refine .inr ⟨.inr ⟨h1, fun y hy e => ?_⟩, fun y hy => h2 y ((mem_union b hc y).2 (.inl hy))⟩
      by_cases hk : ∃ z ∈ c, z.1 = y.1
      · obtain ⟨z, hz, ez⟩ := hk
        exact h2 z ((mem_union b hc z).2 (.inl hz)) (ez.trans e)
      · exact h2 y ((mem_union b hc y).2 (.inr ⟨hy, fun z hz ez => hk ⟨z, hz, ez⟩⟩)) e
theorem union_self {a : List Pr} (ha : Srt a) : unionS a a = a := by
  refine Srt.unique (srt_union ha a) ha fun x => ?_
  rw [mem_union a ha]
  constructor
  · rintro (h | ⟨h, -⟩) <;> exact h
  · exact .inl
theorem nil_union {a : List Pr} (ha : Srt a) : unionS [] a = a := by
  refine Srt.unique (srt_union srt_nil a) ha fun x => ?_
  rw [mem_union [] ha]
  constructor
  · rintro (h | ⟨h, -⟩)
    · exact h
    · cases h
  · exact .inl
/-- What only the second table has. -/
def restS (a b : List Pr) : List Pr := b.filter fun y => (findS y.1 a).isNone
theorem mem_rest (a b : List Pr) (x : Pr) : x ∈ restS a b ↔ x ∈ b ∧ ∀ y ∈ a, y.1 ≠ x.1 := by
  unfold restS
  rw [List.mem_filter, Option.isNone_iff_eq_none, find_none]
theorem srt_rest (a : List Pr) {b : List Pr} (hb : Srt b) : Srt (restS a b) := srt_filter _ hb
theorem rest_comm {a b : List Pr} (ha : Srt a) (hb : Srt b) : unionS a (restS a b) = unionS (restS a b) a := by
  have hr := srt_rest a hb
  refine Srt.unique (srt_union ha _) (srt_union hr _) fun x => ?_
  rw [mem_union a hr, mem_union _ ha]
  constructor
  · rintro (h | ⟨h1, h2⟩)
    · exact .inr ⟨h, ((mem_rest a b x).1 h).2⟩
    · exact .inl h1
  · rintro (h | ⟨h1, h2⟩)
    · exact .inr ⟨h, fun y hy e => ((mem_rest a b y).1 hy).2 x h e.symm⟩
    · exact .inl h1
theorem union_len {a b : List Pr} (ha : Srt a) (hb : Srt b) : (unionS a b).length = a.length + (restS a b).length := by
  have hr := srt_rest a hb
  have hp : ((unionS a b).map (·.1)).Perm (a.map (·.1) ++ (restS a b).map (·.1)) := by
    refine (List.perm_ext_iff_of_nodup (srt_keys (srt_union ha b)) ?_).2 fun k => ?_
    · rw [List.nodup_append]
      refine ⟨srt_keys ha, srt_keys hr, fun k hk k' hk' e => ?_⟩
      obtain ⟨x, hx, rfl⟩ := List.mem_map.1 hk
      obtain ⟨y, hy, rfl⟩ := List.mem_map.1 hk'
      exact ((mem_rest a b y).1 hy).2 x hx e
    · rw [List.mem_append, List.mem_map, List.mem_map, List.mem_map]
      constructor
      · rintro ⟨x, hx, rfl⟩
        rcases (mem_union a hb x).1 hx with h | ⟨h, -⟩
        · by_cases hk : ∃ y ∈ a, y.1 = x.1
          · exact .inl hk
          · exact .inr ⟨x, (mem_rest a b x).2 ⟨h, fun y hy e => hk ⟨y, hy, e⟩⟩, rfl⟩
        · exact .inl ⟨x, h, rfl⟩
      · rintro (⟨x, hx, rfl⟩ | ⟨x, hx, rfl⟩)
        · by_cases hk : ∃ y ∈ b, y.1 = x.1
          · obtain ⟨y, hy, e⟩ := hk
            exact ⟨y, (mem_union a hb y).2 (.inl hy), e⟩
          · exact ⟨x, (mem_union a hb x).2 (.inr ⟨hx, fun y hy e => hk ⟨y, hy, e⟩⟩), rfl⟩
        · exact ⟨x, (mem_union a hb x).2 (.inl ((mem_rest a b x).1 hx).1), rfl⟩
  have := hp.length_eq
  simpa using this
theorem rest_rest {a b : List Pr} : restS a (restS a b) = restS a b := by
  unfold restS
  rw [List.filter_filter]
  congr 1
  funext y
  simp
theorem rest_len {a b : List Pr} (ha : Srt a) (hb : Srt b) : (unionS a (restS a b)).length = a.length + (restS a b).length := by
  rw [union_len ha (srt_rest a hb), rest_rest]
theorem rest_take (a b : List Pr) (j : Nat) (h : j < b.length) : restS a (b.take (j + 1)) = restS a (b.take j) ++ if (findS b[j].1 a).isNone then [b[j]] else [] := by
  unfold restS
  rw [List.take_add_one, List.getElem?_eq_getElem h, List.filter_append]
  simp only [Option.toList, List.filter_cons, List.filter_nil]

/-- Putting, deleting, finding. -/
theorem put_find (p : Pr) {t : List Pr} (h : Srt t) : findS p.1 (putS p t) = some p := (find_some (srt_put p h) _ _).2 ⟨(mem_put _ _ _).2 (.inl rfl), rfl⟩
theorem del_find (k : Bs) (t : List Pr) : findS k (delS k t) = none := (find_none _ _).2 fun x hx => ((mem_del _ _ _).1 hx).2
theorem find_of {s t : List Pr} (hs : Srt s) (ht : Srt t) (k : Bs) (h : ∀ x : Pr, x.1 = k → (x ∈ s ↔ x ∈ t)) : findS k s = findS k t := by
  cases e : findS k t with
  | none => exact (find_none _ _).2 fun x hx e' => (find_none _ _).1 e x ((h x e').1 hx) e'
  | some y =>
    obtain ⟨h1, h2⟩ := (find_some ht _ _).1 e
    exact (find_some hs _ _).2 ⟨(h y h2).2 h1, h2⟩
theorem put_other (p : Pr) {t : List Pr} (h : Srt t) (k : Bs) (hk : k ≠ p.1) : findS k (putS p t) = findS k t :=
  find_of (srt_put p h) h k fun _ hx => by
    rw [mem_put]
    constructor
    · rintro (rfl | ⟨h1, -⟩)
      · exact absurd hx.symm hk
      · exact h1
    · exact fun h1 => .inr ⟨h1, fun e => hk (hx.symm.trans e)⟩
theorem del_other (d : Bs) {t : List Pr} (h : Srt t) (k : Bs) (hk : k ≠ d) : findS k (delS d t) = findS k t :=
  find_of (srt_del d h) h k fun _ hx => by
    rw [mem_del]
    exact ⟨fun h1 => h1.1, fun h1 => ⟨h1, fun e => hk (hx.symm.trans e)⟩⟩
theorem put_put_same {p q : Pr} {t : List Pr} (h : Srt t) (e : p.1 = q.1) : putS q (putS p t) = putS q t := by
  refine Srt.unique (srt_put q (srt_put p h)) (srt_put q h) fun x => ?_
  rw [mem_put, mem_put, mem_put]
  constructor
  · rintro (h1 | ⟨h1 | ⟨h1, -⟩, h2⟩)
    · exact .inl h1
    · exact absurd (h1 ▸ e) h2
    · exact .inr ⟨h1, h2⟩
  · rintro (h1 | ⟨h1, h2⟩)
    · exact .inl h1
    · exact .inr ⟨.inr ⟨h1, fun e2 => h2 (e2.trans e)⟩, h2⟩
theorem put_comm {p q : Pr} {t : List Pr} (h : Srt t) (e : p.1 ≠ q.1) : putS q (putS p t) = putS p (putS q t) := by
  refine Srt.unique (srt_put q (srt_put p h)) (srt_put p (srt_put q h)) fun x => ?_
  rw [mem_put, mem_put, mem_put, mem_put]
  constructor
  · rintro (rfl | ⟨rfl | ⟨h1, h3⟩, h2⟩)
    · exact .inr ⟨.inl rfl, fun e2 => e e2.symm⟩
    · exact .inl rfl
    · exact .inr ⟨.inr ⟨h1, h2⟩, h3⟩
  · rintro (rfl | ⟨rfl | ⟨h1, h3⟩, h2⟩)
    · exact .inr ⟨.inl rfl, e⟩
    · exact .inl rfl
    · exact .inr ⟨.inr ⟨h1, h2⟩, h3⟩
theorem del_put (p : Pr) {t : List Pr} (h : Srt t) : delS p.1 (putS p t) = delS p.1 t := by
  refine Srt.unique (srt_del _ (srt_put p h)) (srt_del _ h) fun x => ?_
  rw [mem_del, mem_del, mem_put]
  constructor
  · rintro ⟨rfl | ⟨h1, -⟩, h2⟩
    · exact absurd rfl h2
    · exact ⟨h1, h2⟩
  · rintro ⟨h1, h2⟩
    exact ⟨.inr ⟨h1, h2⟩, h2⟩

/-- Spans. -/
theorem range_drop_len (s : Sp) (t : List Pr) : (rangeS s t).length + (dropS s t).length = t.length := by
  unfold rangeS dropS
  induction t with
  | nil => rfl
  | cons x t ih =>
    rw [List.filter_cons, List.filter_cons]
    cases hasB s x.1 <;> simp <;> omega
theorem range_drop_union (s : Sp) {t : List Pr} (h : Srt t) : unionS (rangeS s t) (dropS s t) = t := by
  have hd := srt_drop s h
  refine Srt.unique (srt_union (srt_range s h) _) h fun x => ?_
  rw [mem_union _ hd, mem_drop, mem_range]
  constructor
  · rintro (⟨h1, -⟩ | ⟨⟨h1, -⟩, -⟩) <;> exact h1
  · intro hx
    cases e : hasB s x.1 with
    | false => exact .inl ⟨hx, rfl⟩
    | true =>
      refine .inr ⟨⟨hx, rfl⟩, fun y hy e2 => ?_⟩
      have := ((mem_drop s t y).1 hy).2
      rw [e2, e] at this; cases this
theorem range_of_drop (s : Sp) (t : List Pr) : rangeS s (dropS s t) = [] := by
  unfold rangeS dropS
  rw [List.filter_filter, List.filter_eq_nil_iff]
  intro x _
  simp
theorem range_range (s u : Sp) (t : List Pr) : rangeS u (rangeS s t) = rangeS s (rangeS u t) := by
  unfold rangeS; rw [List.filter_filter, List.filter_filter]; congr 1; funext x; rw [Bool.and_comm]
theorem drop_drop (s u : Sp) (t : List Pr) : dropS u (dropS s t) = dropS s (dropS u t) := by
  unfold dropS; rw [List.filter_filter, List.filter_filter]; congr 1; funext x; rw [Bool.and_comm]

end Go.Proofs.YtdckiaokldkfmaaGreat
