/-
  The walk of the law EntryValues, the whole.
-/
import Derived.Test.YtachicdkgkiiiaaEWV
namespace Go.Proofs.Ytachicdkgkiiiaa
open Go.RowKit Go.Sort
set_option linter.unusedVariables false

theorem decR_of {v : Bs} {k s l i o n : Int} {t : Bs} (h : decE v = (⟨k, s, l, i, o, t⟩, n)) : decR v = .tuple #[.agg #[.int .i64 k, .int .i64 s, .int .i64 l, .int .i64 i, .int .i64 o, .string (Str t)], .int .i64 n] := by
  unfold decR; rw [h]

theorem entryValues_walk (w : World) (v0 : Value) (x : RawE) (h0 : IsRawE w v0 x) (v1 : Value) (y : RawE) (h1 : IsRawE w v1 y) (v2 : Value) (mo : Nat) (h2 : IsU8 w v2 mo) :
    Calls Try.prog 4 #[v0, v1, v2] w fun e w' => e = .returned (.bool true) ∧ Below w.heap.size w w' := by
  obtain ⟨rk, ro, ra, rb, rt⟩ := x
  obtain ⟨sk, so, sa, sb, st⟩ := y
  obtain ⟨rfl, hk, ho, ha, hb, ht⟩ := h0
  obtain ⟨rfl, hk', ho', ha', hb', ht'⟩ := h1
  obtain ⟨rfl, hmo⟩ := h2
  simp only at hk ho ha hb ht hk' ho' ha' hb' ht'
  have hm := fun wx => made_w rk ro ra rb rt wx hk ho ha hb ht
  have hn := fun wx => made_w sk so sa sb st wx hk' ho' ha' hb' ht'
  have hv := madeE_valid rk ro ra rb rt ho ha
  have hv' := madeE_valid sk so sa sb st ho' ha'
  have hl := madeE_len rk ro ra rb rt
  have hl' := madeE_len sk so sa sb st
  generalize madeE rk ro ra rb rt = m at *
  generalize madeE sk so sa sb st = n at *
  obtain ⟨m1, m2, m3, m4, m5, mt⟩ := m
  obtain ⟨n1, n2, n3, n4, n5, nt⟩ := n
  simp only at hm hl hn hl'
  have hmt : mt.length ≤ maxLen := by unfold maxLen; omega
  have hnt : nt.length ≤ maxLen := by unfold maxLen; omega
  obtain ⟨r, hr, hx⟩ := valueE_head hv
  simp only at hr hx
  generalize m1.toNat.toUInt8 = x0 at *
  subst hx
  have hlen := valueE_len hv
  rw [hr] at hlen
  simp only [List.length_cons] at hlen
  have hA := fun wx => encode_w x0.toNat m2 m3 m4 m5 mt wx hmt
  rw [encE_yes hv, hr] at hA
  have hB := fun wx => encode_w n1 n2 n3 n4 n5 nt wx hnt
  rw [encE_yes hv'] at hB
  simp only at hA hB
  have hC := fun wx => decode_w (x0 :: r) wx (by simp only [List.length_cons]; omega)
  have hd0 := decE_valueE hv
  rw [hr] at hd0
  rw [decR_of hd0] at hC
  have hD := fun wx => decode_w (x0 :: (r ++ [UInt8.ofNat mo])) wx (by simp only [List.length_cons, List.length_append, List.length_nil]; omega)
  have hL := fun wx => decode_w ((x0 :: r).take r.length) wx (by simp; omega)
  have hmore := decE_more (UInt8.ofNat mo) hv
  have hless := decE_less hv
  rw [hr] at hmore hless
  simp only [List.cons_append] at hmore
  rw [show (x0 :: r).length - 1 = r.length from by simp] at hless
  simp only at hmore hless
  have hq1 : ((x0 :: r) == valueE ⟨n1, n2, n3, n4, n5, nt⟩) = decide ((⟨x0.toNat, m2, m3, m4, m5, mt⟩ : Ent) = ⟨n1, n2, n3, n4, n5, nt⟩) := by
    rw [Bool.eq_iff_iff, beq_iff_eq, decide_eq_true_eq, ← hr, valueE_inj hv hv']
  have hq2 : entQ x0.toNat m2 m3 m4 m5 mt n1 n2 n3 n4 n5 nt = decide ((⟨x0.toNat, m2, m3, m4, m5, mt⟩ : Ent) = ⟨n1, n2, n3, n4, n5, nt⟩) := by
    unfold entQ; rw [Bool.eq_iff_iff, decide_eq_true_eq, decide_eq_true_eq, Ent.mk.injEq]
  rcases hmore with e1 | ⟨e1, ⟨d1, d2, d3, d4, d5, dt⟩, e1d, e1t, e1l⟩
  · rw [decR_of e1] at hD
    rcases hless with e2 | ⟨e2, e2l⟩
    · rw [decR_of e2] at hL
      exact values00 w x0 r m2 m3 m4 m5 n1 n2 n3 n4 n5 mt nt _ _ rk ro ra rb sk so sa sb rt st mo hmo hmt hnt hm hn hA hB hC hD hL hq1 hq2 (by omega) (by omega)
    · rcases decE_cases ((x0 :: r).take r.length) with e3 | ⟨⟨l1, l2, l3, l4, l5, lt⟩, e3, _, _⟩
      · rw [decR_of e3] at hL
        exact values00 w x0 r m2 m3 m4 m5 n1 n2 n3 n4 n5 mt nt _ _ rk ro ra rb sk so sa sb rt st mo hmo hmt hnt hm hn hA hB hC hD hL hq1 hq2 (by omega) (by omega)
      · rw [decR_of e3] at hL
        exact values01 w x0 r m2 m3 m4 m5 n1 n2 n3 n4 n5 mt nt _ _ rk ro ra rb sk so sa sb rt st mo hmo hmt hnt e2 (by omega) l1 l2 l3 l4 l5 lt hm hn hA hB hC hD hL hq1 hq2 (by omega) (by omega)
  · simp only at e1t e1l
    subst e1t
    rw [decR_of e1d] at hD
    rcases hless with e2 | ⟨e2, e2l⟩
    · rw [decR_of e2] at hL
      exact values10 w x0 r m2 m3 m4 m5 n1 n2 n3 n4 n5 mt nt _ _ rk ro ra rb sk so sa sb rt st mo hmo hmt hnt e1 hl d1 d2 d3 d4 d5 hm hn hA hB hC hD hL hq1 hq2 (by omega) (by omega)
    · rcases decE_cases ((x0 :: r).take r.length) with e3 | ⟨⟨l1, l2, l3, l4, l5, lt⟩, e3, _, _⟩
      · rw [decR_of e3] at hL
        exact values10 w x0 r m2 m3 m4 m5 n1 n2 n3 n4 n5 mt nt _ _ rk ro ra rb sk so sa sb rt st mo hmo hmt hnt e1 hl d1 d2 d3 d4 d5 hm hn hA hB hC hD hL hq1 hq2 (by omega) (by omega)
      · rw [decR_of e3] at hL
        exact values11 w x0 r m2 m3 m4 m5 n1 n2 n3 n4 n5 mt nt _ _ rk ro ra rb sk so sa sb rt st mo hmo hmt hnt e1 hl d1 d2 d3 d4 d5 e2 (by omega) l1 l2 l3 l4 l5 lt hm hn hA hB hC hD hL hq1 hq2 (by omega) (by omega)

end Go.Proofs.Ytachicdkgkiiiaa
